import PyProof.Rows.All
import Wide.All
import OpenK.AllK
import Wide.FinOn
import HandS.ForMost
import HandS.ForExc
import KE.DataEq
import HandS.Lambda
import HandS.Nested
import HandS.TupAny
import HandS.Strs
import HandS.SortInts
import KE.GoesEnum
import HandS.Conv
import HandS.TupSets
import HandS.SetFor
import HandS.Star
import HandS.SortKw
import PyProof.WalkInts
import HandS.ExcInit
import HandS.TupMul
import HandS.Style
import HandS.Zip
import HandS.IsInst
import KE.SortData
import KE.DataMinMax
import KE.DataCmp
import HandS.ExcValue
import HandS.EndTab
import KE.KNestM
import KE.KTupSum
import KE.KDictCopyH
import KE.KTupTabMore
import PySem.Challenge.RW_callsheets_k61_mended_day_books
set_option Elab.async false
set_option linter.all false
set_option maxRecDepth 100000
set_option maxHeartbeats 4000000
/-! D2: a second layer over HandS: data by value (tuples, lists that no one changes), local lists owned by their name, and what a text computes as a plain function. -/
namespace D2
open PySem L2

/-- a lambda's words, and the names that it captures -/
structure Lm where
  qual : Str
  params : Arguments
  body : Expr
  scope : Scope
  fr : List Str
/-- the object at f is the lambda t, its cells cl, its code object c' -/
def LamO (f : Addr) (t : Lm) (cl : List (Str × Addr)) (c' : Addr) : HO := .ext fun h => ∃ pm ctv : Value, h.get? f = some (PySem.W.kla_obj "<lambda>" t.qual t.params t.body t.scope cl pm c' ctv)
/-- the object at c is just o -/
def ObjX (c : Addr) (o : Obj) : HO := .ext fun h => h.get? c = some o
/-- the lambda t stands at f, its cells hold xs -/
def LamR (H : Hp) (t : Lm) (f : Addr) (xs : List V) : Prop := ∃ (c' : Addr) (cl : List (Str × Addr)), H f = some (LamO f t cl c') ∧ H c' = some (LamX.CodeO c' t.qual) ∧
  (∀ p ∈ cl, ∃ (o : Obj) (v : Option Value), H p.2 = some (ObjX p.2 o) ∧ o.data = .cell v) ∧ (∀ x y c, cl.lookup x = some c → cl.lookup y = some c → x = y) ∧ xs.length = t.fr.length ∧
  ∀ (i : Nat) (y : Str), t.fr[i]? = some y → ∃ (c : Addr) (o : Obj) (u : Value) (v : V), cl.lookup y = some c ∧ H c = some (ObjX c o) ∧ o.data = .cell (some u) ∧ xs[i]? = some v ∧ RelV v u

/-- data: what a value stands for; ref n: the n-th object that several may change -/
inductive D where
  | non
  | bl (b : Bool)
  | int (i : Int)
  | str (x : Str)
  | tup (ds : List D)
  | lst (ds : List D)
  | dic (ks : List Key) (ds : List D)
  | rng (lo hi : Int)
  | xd (ns : List Str) (ds : List D)
  | ref (n : Nat)
  | fn (t : Lm) (ds : List D)

/-! Rep: v stands for d in H; as: the objects that several may change; none of its lists lies in B -/
mutual
def Rep (K : PySem.W.Frag) (as : List Addr) (B : Addr → Prop) (H : Hp) : D → V → Prop
  | .non, v => v = .non
  | .bl b, v => v = .bl b
  | .int i, v => v = .int i
  | .str x, v => v = .str x
  | .tup ds, v => ∃ a xs, v = .ref a ∧ SqT K H a xs ∧ RepA K as B H ds xs
  | .lst ds, v => ∃ a xs, v = .ref a ∧ ¬ B a ∧ H a = some (.lst xs) ∧ RepA K as B H ds xs
  | .dic ks ds, v => ∃ a xs, v = .ref a ∧ ¬ B a ∧ Rd H a (.dK (ks.zip xs)) ∧ ks.length = xs.length ∧ RepA K as B H ds xs
  | .rng lo hi, v => ∃ a, v = .ref a ∧ ¬ B a ∧ H a = some (.rng lo hi)
  | .xd ns ds, v => ∃ a xs, v = .ref a ∧ ¬ B a ∧ H a = some (.xd (ns.zip xs)) ∧ ns.length = xs.length ∧ RepA K as B H ds xs
  | .ref n, v => ∃ a, v = .ref a ∧ as[n]? = some a
  | .fn t ds, v => ∃ f xs, v = .ref f ∧ LamR H t f xs ∧ RepA K as B H ds xs
def RepA (K : PySem.W.Frag) (as : List Addr) (B : Addr → Prop) (H : Hp) : List D → List V → Prop
  | [], xs => xs = []
  | d :: ds, xs => ∃ v vs, xs = v :: vs ∧ Rep K as B H d v ∧ RepA K as B H ds vs
end

/-- the tables of code objects that K tells at its end: what their code objects are called -/
def tabsV : List Value → List (Addr × Str)
  | .ref P :: .str q _ :: r => (P, q) :: tabsV r
  | _ => []
def tabsOf (K : PySem.W.Frag) : List (Addr × Str) := match K.getLast? with
  | some (_, ⟨.none, _, .fields vs, _⟩) => tabsV vs.toList
  | _ => []
/-- H' has all of H but what lies in W -/
structure Evo (K : PySem.W.Frag) (W : Addr → Prop) (H H' : Hp) : Prop where
  keep : ∀ a o, H a = some o → ¬ W a → (∀ ps, o ≠ .tbl ps) → H' a = some o
  exts : ∀ a φ, H a = some (.ext φ) → H' a = some (.ext φ)
  tabs : ∀ P q, (P, q) ∈ tabsOf K → LamX.TabS H P q → LamX.TabS H' P q
  tups : ∀ a xs, H a = some (.tup xs) → H' a = some (.tup xs)
  frzs : ∀ a o u, H a = some (.frz o u) → H' a = some (.frz o u)
  dom : ∀ a, H a ≠ none → H' a ≠ none

section
variable {K : PySem.W.Frag} {as : List Addr} {B B' W W' : Addr → Prop} {H H' H1 H2 : Hp}

theorem Evo.refl : Evo K W H H := ⟨fun _ _ h _ _ => h, fun _ _ h => h, fun _ _ _ h => h, fun _ _ h => h, fun _ _ _ h => h, fun _ h => h⟩
theorem Evo.trans (a : Evo K W H H1) (b : Evo K W H1 H2) : Evo K W H H2 :=
  ⟨fun x o h n nt => b.keep x o (a.keep x o h n nt) n nt, fun x φ h => b.exts x φ (a.exts x φ h), fun P q m h => b.tabs P q m (a.tabs P q m h), fun x o h => b.tups x o (a.tups x o h), fun x o u h => b.frzs x o u (a.frzs x o u h), fun x h => b.dom x (a.dom x h)⟩
theorem Evo.weak (e : Evo K W H H1) (h : ∀ a, W a → W' a) : Evo K W' H H1 := ⟨fun x o q n nt => e.keep x o q (fun z => n (h x z)) nt, e.exts, e.tabs, e.tups, e.frzs, e.dom⟩
/-- all else is kept: what is not at p stays -/
theorem Evo.at {p : Addr} (k : ∀ a u, H a = some u → a ≠ p → H' a = some u) (hp : ∀ o, H p = some o → W p ∧ (∀ xs, o ≠ .tup xs) ∧ (∀ ob u, o ≠ .frz ob u) ∧ (∀ φ, o ≠ .ext φ) ∧ (∀ ps, o ≠ .tbl ps)) (hd : H' p ≠ none) : Evo K W H H' := by
  have sm : ∀ a u, H a = some u → (a = p → False) → H' a = some u := fun a u q n => k a u q n
  have ex : ∀ a φ, H a = some (.ext φ) → H' a = some (.ext φ) := fun a φ q => sm a _ q fun z => by subst z; exact (hp _ q).2.2.2.1 φ rfl
  refine ⟨fun a u q n _ => sm a u q fun z => by subst z; exact n (hp _ q).1, ex, fun P q _ ⟨ps, h1, h2, h3⟩ => ⟨ps, sm P _ h1 fun z => by subst z; exact (hp _ h1).2.2.2.2 ps rfl, h2, fun pos cv hc => let ⟨c, e1, e2⟩ := h3 pos cv hc; ⟨c, e1, ex _ _ e2⟩⟩,
    fun a u q => sm a _ q fun z => by subst z; exact (hp _ q).2.1 u rfl, fun a o u q => sm a _ q fun z => by subst z; exact (hp _ q).2.2.1 o u rfl, fun a q => ?_⟩
  by_cases e : a = p
  · subst e; exact hd
  · cases r : H a with
    | none => exact absurd r q
    | some u => rw [k a u r e]; exact fun z => nomatch z
theorem Evo.new {p : Addr} {o : HO} (h : H p = none) : Evo K W H (upd H p o) :=
  Evo.at (p := p) (fun a u q n => by rw [upd_ne n]; exact q) (fun o q => by rw [h] at q; cases q) (by rw [upd_same]; exact fun z => nomatch z)
/-- a list, dict or instance is written -/
theorem Evo.put {p : Addr} {o o' : HO} (hp : H p = some o) (hm : ∀ xs, o ≠ .tup xs) (hf : ∀ ob u, o ≠ .frz ob u) (hw : W p) (he : ∀ φ, o ≠ .ext φ := by intro _ z; cases z) (ht : ∀ ps, o ≠ .tbl ps := by intro _ z; cases z) : Evo K W H (upd H p o') :=
  Evo.at (p := p) (fun a u q n => by rw [upd_ne n]; exact q) (fun o q => by rw [hp] at q; cases q; exact ⟨hw, hm, hf, he, ht⟩) (by rw [upd_same]; exact fun z => nomatch z)
theorem Evo.upd0 {W2 : Addr → Prop} {p : Addr} {o : HO} (e : Evo K W H H1) (n0 : H p = none) (e2 : Evo K W2 H1 (upd H1 p o)) : Evo K W H (upd H1 p o) :=
  ⟨fun b u q n nt => by rw [upd_ne (ne_of_none q n0)]; exact e.keep b u q n nt, fun b φ q => e2.exts _ _ (e.exts _ _ q), fun P q m h => e2.tabs _ _ m (e.tabs _ _ m h), fun b u q => e2.tups _ _ (e.tups _ _ q), fun b u w q => e2.frzs _ _ _ (e.frzs _ _ _ q), fun b q => e2.dom _ (e.dom _ q)⟩
theorem Evo.back (e : Evo K W H H') {p : Addr} (h : H' p = none) : H p = none := by
  cases q : H p with
  | none => rfl
  | some o => exact absurd h (e.dom p (by rw [q]; exact fun z => nomatch z))
theorem Evo.rd (e : Evo K W H H') {a : Addr} {u : HO} (h : Rd H a u) (n : ¬ W a) (nt : ∀ ps, u ≠ .tbl ps := by intro _ z; cases z) : Rd H' a u := by
  rcases h with h | ⟨o, h⟩
  · exact .inl (e.keep _ _ h n nt)
  · exact .inr ⟨o, e.frzs _ _ _ h⟩
theorem Evo.lam (e : Evo K W H H') {t : Lm} {f : Addr} {xs : List V} (h : LamR H t f xs) : LamR H' t f xs := by
  obtain ⟨c', cl, h1, h2, h3, h4, h5, h6⟩ := h
  refine ⟨c', cl, e.exts _ _ h1, e.exts _ _ h2, fun p k => ?_, h4, h5, fun i y k => ?_⟩
  · obtain ⟨o, v, a, b⟩ := h3 p k
    exact ⟨o, v, e.exts _ _ a, b⟩
  · obtain ⟨c, o, u, v, a, b, d⟩ := h6 i y k
    exact ⟨c, o, u, v, a, e.exts _ _ b, d⟩
theorem Evo.sqT (e : Evo K W H H') {a : Addr} {xs : List V} (h : SqT K H a xs) : SqT K H' a xs := by
  rcases h with (h | ⟨o, h⟩) | h
  · exact .inl (.inl (e.tups _ _ h))
  · exact .inl (.inr ⟨o, e.frzs _ _ _ h⟩)
  · exact .inr h

mutual
theorem Rep.imp (e : Evo K W H H') (hW : ∀ a, W a → B a) (hB : ∀ a, B' a → B a) : ∀ (d : D) (v : V), Rep K as B H d v → Rep K as B' H' d v
  | .non, _, h => h
  | .bl _, _, h => h
  | .int _, _, h => h
  | .str _, _, h => h
  | .tup ds, v, h => by
    obtain ⟨a, xs, e1, h1, h2⟩ := h
    exact ⟨a, xs, e1, e.sqT h1, RepA.imp e hW hB ds xs h2⟩
  | .lst ds, v, h => by
    obtain ⟨a, xs, e1, nb, h1, h2⟩ := h
    exact ⟨a, xs, e1, fun z => nb (hB a z), e.keep _ _ h1 (fun z => nb (hW a z)) (fun _ z => nomatch z), RepA.imp e hW hB ds xs h2⟩
  | .dic ks ds, v, h => by
    obtain ⟨a, xs, e1, nb, h1, hl, h2⟩ := h
    exact ⟨a, xs, e1, fun z => nb (hB a z), e.rd h1 fun z => nb (hW a z), hl, RepA.imp e hW hB ds xs h2⟩
  | .rng _ _, v, h => by
    obtain ⟨a, e1, nb, h1⟩ := h
    exact ⟨a, e1, fun z => nb (hB a z), e.keep _ _ h1 (fun z => nb (hW a z)) (fun _ z => nomatch z)⟩
  | .xd ns ds, v, h => by
    obtain ⟨a, xs, e1, nb, h1, hl, h2⟩ := h
    exact ⟨a, xs, e1, fun z => nb (hB a z), e.keep _ _ h1 (fun z => nb (hW a z)) (fun _ z => nomatch z), hl, RepA.imp e hW hB ds xs h2⟩
  | .ref _, _, h => h
  | .fn t ds, v, h => by
    obtain ⟨f, xs, e1, h1, h2⟩ := h
    exact ⟨f, xs, e1, e.lam h1, RepA.imp e hW hB ds xs h2⟩
theorem RepA.imp (e : Evo K W H H') (hW : ∀ a, W a → B a) (hB : ∀ a, B' a → B a) : ∀ (ds : List D) (xs : List V), RepA K as B H ds xs → RepA K as B' H' ds xs
  | [], _, h => h
  | d :: ds, xs, h => by
    obtain ⟨v, vs, e1, h1, h2⟩ := h
    exact ⟨v, vs, e1, Rep.imp e hW hB d v h1, RepA.imp e hW hB ds vs h2⟩
end
mutual
/-- a list that is not tracked yet may become bad -/
theorem Rep.more {p : Addr} (hp : H p = none) (hB : ∀ a, B' a → B a ∨ a = p) : ∀ (d : D) (v : V), Rep K as B H d v → Rep K as B' H d v
  | .non, _, h => h
  | .bl _, _, h => h
  | .int _, _, h => h
  | .str _, _, h => h
  | .tup ds, v, h => by
    obtain ⟨a, xs, e1, h1, h2⟩ := h
    exact ⟨a, xs, e1, h1, RepA.more hp hB ds xs h2⟩
  | .lst ds, v, h => by
    obtain ⟨a, xs, e1, nb, h1, h2⟩ := h
    refine ⟨a, xs, e1, fun z => ?_, h1, RepA.more hp hB ds xs h2⟩
    rcases hB a z with z | z
    · exact nb z
    · subst z
      rw [hp] at h1; cases h1
  | .dic ks ds, v, h => by
    obtain ⟨a, xs, e1, nb, h1, hl, h2⟩ := h
    refine ⟨a, xs, e1, fun z => ?_, h1, hl, RepA.more hp hB ds xs h2⟩
    rcases hB a z with z | z
    · exact nb z
    · subst z
      rcases h1 with q | ⟨o, q⟩ <;> (rw [hp] at q; cases q)
  | .rng _ _, v, h => by
    obtain ⟨a, e1, nb, h1⟩ := h
    refine ⟨a, e1, fun z => ?_, h1⟩
    rcases hB a z with z | z
    · exact nb z
    · subst z
      rw [hp] at h1; cases h1
  | .xd ns ds, v, h => by
    obtain ⟨a, xs, e1, nb, h1, hl, h2⟩ := h
    refine ⟨a, xs, e1, fun z => ?_, h1, hl, RepA.more hp hB ds xs h2⟩
    rcases hB a z with z | z
    · exact nb z
    · subst z
      rw [hp] at h1; cases h1
  | .ref _, _, h => h
  | .fn t ds, v, h => by
    obtain ⟨f, xs, e1, h1, h2⟩ := h
    exact ⟨f, xs, e1, h1, RepA.more hp hB ds xs h2⟩
theorem RepA.more {p : Addr} (hp : H p = none) (hB : ∀ a, B' a → B a ∨ a = p) : ∀ (ds : List D) (xs : List V), RepA K as B H ds xs → RepA K as B' H ds xs
  | [], _, h => h
  | d :: ds, xs, h => by
    obtain ⟨v, vs, e1, h1, h2⟩ := h
    exact ⟨v, vs, e1, Rep.more hp hB d v h1, RepA.more hp hB ds vs h2⟩
end
/-! flat: no list and no dict within -/
mutual
def D.flat : D → Bool
  | .tup ds => D.flatA ds
  | .lst _ => false
  | .dic _ _ => false
  | .rng _ _ => false
  | .xd _ _ => false
  | .fn _ _ => false
  | _ => true
def D.flatA : List D → Bool
  | [] => true
  | d :: ds => d.flat && D.flatA ds
end
mutual
theorem Rep.ofFlat : ∀ (d : D) (v : V), d.flat = true → Rep K as B H d v → Rep K as B' H d v
  | .non, _, _, h => h
  | .bl _, _, _, h => h
  | .int _, _, _, h => h
  | .str _, _, _, h => h
  | .tup ds, v, f, h => by
    obtain ⟨a, xs, e1, h1, h2⟩ := h
    exact ⟨a, xs, e1, h1, RepA.ofFlat ds xs f h2⟩
  | .lst _, _, f, _ => nomatch f
  | .dic _ _, _, f, _ => nomatch f
  | .rng _ _, _, f, _ => nomatch f
  | .xd _ _, _, f, _ => nomatch f
  | .ref _, _, _, h => h
  | .fn _ _, _, f, _ => nomatch f
theorem RepA.ofFlat : ∀ (ds : List D) (xs : List V), D.flatA ds = true → RepA K as B H ds xs → RepA K as B' H ds xs
  | [], _, _, h => h
  | d :: ds, xs, f, h => by
    obtain ⟨v, vs, e1, h1, h2⟩ := h
    have f' : (d.flat && D.flatA ds) = true := f
    rw [Bool.and_eq_true] at f'
    exact ⟨v, vs, e1, Rep.ofFlat d v f'.1 h1, RepA.ofFlat ds vs f'.2 h2⟩
end
theorem RepA.length : ∀ {ds : List D} {xs : List V}, RepA K as B H ds xs → ds.length = xs.length
  | [], xs, h => by
    have e : xs = [] := h
    rw [e] <;> rfl
  | d :: ds, xs, h => by
    obtain ⟨v, vs, e1, _, h2⟩ := h
    rw [e1, List.length_cons, List.length_cons, RepA.length h2]
theorem RepA.get : ∀ {ds : List D} {xs : List V} {i : Nat} {d : D}, RepA K as B H ds xs → ds[i]? = some d → ∃ v, xs[i]? = some v ∧ Rep K as B H d v
  | [], xs, i, d, _, e => by simp at e
  | c :: ds, xs, 0, d, h, e => by
    obtain ⟨v, vs, e1, h1, _⟩ := h
    simp at e
    subst e; subst e1
    exact ⟨v, rfl, h1⟩
  | c :: ds, xs, i + 1, d, h, e => by
    obtain ⟨v, vs, e1, _, h2⟩ := h
    subst e1
    obtain ⟨w, q1, q2⟩ := RepA.get (i := i) h2 (by simpa using e)
    exact ⟨w, by simpa using q1, q2⟩
theorem RepA.getV : ∀ {ds : List D} {xs : List V} {i : Nat} {v : V}, RepA K as B H ds xs → xs[i]? = some v → ∃ d, ds[i]? = some d ∧ Rep K as B H d v
  | [], xs, i, d, h, e => by
    have e' : xs = [] := h
    subst e'
    simp at e
  | c :: ds, xs, 0, w, h, e => by
    obtain ⟨v, vs, e1, h1, _⟩ := h
    subst e1
    simp at e
    subst e
    exact ⟨c, rfl, h1⟩
  | c :: ds, xs, i + 1, w, h, e => by
    obtain ⟨v, vs, e1, _, h2⟩ := h
    subst e1
    obtain ⟨d, q1, q2⟩ := RepA.getV (i := i) h2 (by simpa using e)
    exact ⟨d, by simpa using q1, q2⟩
theorem RepA.append : ∀ {ds es : List D} {xs ys : List V}, RepA K as B H ds xs → RepA K as B H es ys → RepA K as B H (ds ++ es) (xs ++ ys)
  | [], es, xs, ys, h, g => by
    have e : xs = [] := h
    subst e
    exact g
  | d :: ds, es, xs, ys, h, g => by
    obtain ⟨v, vs, e1, h1, h2⟩ := h
    subst e1
    exact ⟨v, vs ++ ys, rfl, h1, RepA.append h2 g⟩
theorem RepA.one {d : D} {v : V} (h : Rep K as B H d v) : RepA K as B H [d] [v] := ⟨v, [], rfl, h, rfl⟩
theorem RepA.set : ∀ {ds : List D} {xs : List V} (i : Nat) {d : D} {v : V}, RepA K as B H ds xs → Rep K as B H d v → RepA K as B H (ds.set i d) (xs.set i v)
  | [], xs, i, d, v, h, _ => by
    have e : xs = [] := h
    subst e
    exact rfl
  | c :: ds, xs, 0, d, v, h, g => by
    obtain ⟨w, vs, e1, h1, h2⟩ := h
    subst e1
    exact ⟨v, vs, rfl, g, h2⟩
  | c :: ds, xs, i + 1, d, v, h, g => by
    obtain ⟨w, vs, e1, h1, h2⟩ := h
    subst e1
    exact ⟨w, vs.set i v, rfl, h1, RepA.set i h2 g⟩
theorem RepA.take : ∀ {ds : List D} {xs : List V} (n : Nat), RepA K as B H ds xs → RepA K as B H (ds.take n) (xs.take n)
  | _, _, 0, _ => by
    rw [List.take_zero, List.take_zero]
    exact rfl
  | [], xs, n + 1, h => by
    have e : xs = [] := h
    subst e
    exact rfl
  | d :: ds, xs, n + 1, h => by
    obtain ⟨v, vs, e1, h1, h2⟩ := h
    subst e1
    exact ⟨v, vs.take n, rfl, h1, RepA.take n h2⟩
theorem RepA.drop : ∀ {ds : List D} {xs : List V} (n : Nat), RepA K as B H ds xs → RepA K as B H (ds.drop n) (xs.drop n)
  | _, _, 0, h => by
    rw [List.drop_zero, List.drop_zero]
    exact h
  | [], xs, n + 1, h => by
    have e : xs = [] := h
    subst e
    exact rfl
  | d :: ds, xs, n + 1, h => by
    obtain ⟨v, vs, e1, h1, h2⟩ := h
    subst e1
    exact RepA.drop n h2
theorem RepA.cons {d : D} {ds : List D} {v : V} {vs : List V} (h : Rep K as B H d v) (g : RepA K as B H ds vs) : RepA K as B H (d :: ds) (v :: vs) := ⟨v, vs, rfl, h, g⟩
theorem RepA.reverse : ∀ {ds : List D} {xs : List V}, RepA K as B H ds xs → RepA K as B H ds.reverse xs.reverse
  | [], xs, h => by
    have e : xs = [] := h
    subst e
    exact rfl
  | d :: ds, xs, h => by
    obtain ⟨v, vs, e1, h1, h2⟩ := h
    subst e1
    rw [List.reverse_cons, List.reverse_cons]
    exact RepA.append (RepA.reverse h2) (RepA.one h1)
theorem RepA.dropLast : ∀ {ds : List D} {xs : List V}, RepA K as B H ds xs → RepA K as B H ds.dropLast xs.dropLast := fun {ds xs} h => by
  rw [List.dropLast_eq_take, List.dropLast_eq_take, ← h.length]
  exact h.take _
theorem RepA.rep : ∀ {ds : List D} {xs : List V} (n : Nat), RepA K as B H ds xs → RepA K as B H (List.replicate n ds).flatten (List.replicate n xs).flatten
  | ds, xs, 0, _ => rfl
  | ds, xs, n + 1, h => by
    rw [List.replicate_succ, List.replicate_succ, List.flatten_cons, List.flatten_cons]
    exact RepA.append h (RepA.rep n h)
end

/-! ### the ints, the texts -/
def D.ints : List D → Option (List Int)
  | [] => some []
  | .int i :: ds => (D.ints ds).map (i :: ·)
  | _ :: _ => none
theorem ints_rep {K : PySem.W.Frag} {as : List Addr} {B : Addr → Prop} {H : Hp} : ∀ {ds : List D} {xs : List V} {ns : List Int}, RepA K as B H ds xs → D.ints ds = some ns → xs = ns.map V.int
  | [], xs, ns, h, e => by
    have e' : xs = [] := h
    subst e'
    cases e
    rfl
  | d :: ds, xs, ns, h, e => by
    obtain ⟨v, vs, e1, h1, h2⟩ := h
    subst e1
    cases d <;> try (cases e; done)
    rename_i i
    simp only [D.ints, Option.map_eq_some_iff] at e
    obtain ⟨ms, e2, e3⟩ := e
    subst e3
    have h1' : v = .int i := h1
    rw [h1', ints_rep h2 e2]
    rfl
theorem rep_ints {K : PySem.W.Frag} {as : List Addr} {B : Addr → Prop} {H : Hp} : ∀ (ns : List Int), RepA K as B H (ns.map D.int) (ns.map V.int)
  | [] => rfl
  | n :: ns => ⟨.int n, ns.map V.int, rfl, rfl, rep_ints ns⟩
theorem ints_map : ∀ ns : List Int, D.ints (ns.map D.int) = some ns
  | [] => rfl
  | n :: ns => by
    show (D.ints (ns.map D.int)).map (n :: ·) = some (n :: ns)
    rw [ints_map ns]
    rfl
def D.bls : List D → Option (List Bool)
  | [] => some []
  | .bl i :: ds => (D.bls ds).map (i :: ·)
  | _ :: _ => none
theorem bls_rep {K : PySem.W.Frag} {as : List Addr} {B : Addr → Prop} {H : Hp} : ∀ {ds : List D} {xs : List V} {ns : List Bool}, RepA K as B H ds xs → D.bls ds = some ns → xs = ns.map V.bl
  | [], xs, ns, h, e => by
    have e' : xs = [] := h
    subst e'
    cases e
    rfl
  | d :: ds, xs, ns, h, e => by
    obtain ⟨v, vs, e1, h1, h2⟩ := h
    subst e1
    cases d <;> try (cases e; done)
    rename_i i
    simp only [D.bls, Option.map_eq_some_iff] at e
    obtain ⟨ms, e2, e3⟩ := e
    subst e3
    have h1' : v = .bl i := h1
    rw [h1', bls_rep h2 e2]
    rfl
theorem bls_map : ∀ ns : List Bool, D.bls (ns.map D.bl) = some ns
  | [] => rfl
  | n :: ns => by
    show (D.bls (ns.map D.bl)).map (n :: ·) = some (n :: ns)
    rw [bls_map ns]
    rfl
def D.strs : List D → Option (List Str)
  | [] => some []
  | .str i :: ds => (D.strs ds).map (i :: ·)
  | _ :: _ => none
theorem strs_rep {K : PySem.W.Frag} {as : List Addr} {B : Addr → Prop} {H : Hp} : ∀ {ds : List D} {xs : List V} {ns : List Str}, RepA K as B H ds xs → D.strs ds = some ns → xs = ns.map V.str
  | [], xs, ns, h, e => by
    have e' : xs = [] := h
    subst e'
    cases e
    rfl
  | d :: ds, xs, ns, h, e => by
    obtain ⟨v, vs, e1, h1, h2⟩ := h
    subst e1
    cases d <;> try (cases e; done)
    rename_i i
    simp only [D.strs, Option.map_eq_some_iff] at e
    obtain ⟨ms, e2, e3⟩ := e
    subst e3
    have h1' : v = .str i := h1
    rw [h1', strs_rep h2 e2]
    rfl
theorem strs_map : ∀ ns : List Str, D.strs (ns.map D.str) = some ns
  | [] => rfl
  | n :: ns => by
    show (D.strs (ns.map D.str)).map (n :: ·) = some (n :: ns)
    rw [strs_map ns]
    rfl
theorem rep_strs {K : PySem.W.Frag} {as : List Addr} {B : Addr → Prop} {H : Hp} : ∀ (ns : List Str), RepA K as B H (ns.map D.str) (ns.map V.str)
  | [] => rfl
  | n :: ns => ⟨.str n, ns.map V.str, rfl, rfl, rep_strs ns⟩

/-! ### data of the library -/
mutual
def D.pd : D → PyData
  | .non => .none
  | .bl b => .bool b
  | .int i => .int i
  | .str x => .str x
  | .tup ds => .tuple (D.pdA ds)
  | .lst ds => .list (D.pdA ds)
  | .dic _ _ => .none
  | .rng _ _ => .none
  | .xd _ _ => .none
  | .ref _ => .none
  | .fn _ _ => .none
def D.pdA : List D → List PyData
  | [] => []
  | d :: ds => d.pd :: D.pdA ds
end
mutual
def D.okq : D → Nat → Bool
  | .tup ds, n => match n with
    | 0 => false
    | n + 1 => D.okqA ds n
  | .lst ds, n => match n with
    | 0 => false
    | n + 1 => D.okqA ds n
  | .dic _ _, _ => false
  | .rng _ _, _ => false
  | .xd _ _, _ => false
  | .ref _, _ => false
  | .fn _ _, _ => false
  | _, _ => true
def D.okqA : List D → Nat → Bool
  | [], _ => true
  | d :: ds, n => d.okq n && D.okqA ds n
end
mutual
theorem okq_dp {K : PySem.W.Frag} {as : List Addr} {B : Addr → Prop} {H : Hp} : ∀ (d : D) (v : V) (n : Nat), Rep K as B H d v → d.okq n = true → Dp K H v d.pd ∧ d.pd.plain = true ∧ d.pd.depth ≤ n + 1
  | .non, v, n, h, _ => by
    have h' : v = .non := h
    subst h'
    exact ⟨.non, rfl, by simp [D.pd, PyData.depth]⟩
  | .bl b, v, n, h, _ => by
    have h' : v = .bl b := h
    subst h'
    exact ⟨.bl b, rfl, by simp [D.pd, PyData.depth]⟩
  | .int b, v, n, h, _ => by
    have h' : v = .int b := h
    subst h'
    exact ⟨.int b, rfl, by simp [D.pd, PyData.depth]⟩
  | .str b, v, n, h, _ => by
    have h' : v = .str b := h
    subst h'
    exact ⟨.str b, rfl, by simp [D.pd, PyData.depth]⟩
  | .tup ds, v, n, h, e => by
    obtain ⟨a, xs, e1, h1, h2⟩ := h
    subst e1
    cases n with
    | zero => cases e
    | succ n =>
      obtain ⟨q1, q2, q3⟩ := okqA_dp ds xs n h2 e
      exact ⟨.tup h1 q1, q2, by simp only [D.pd, PyData.depth]; omega⟩
  | .lst ds, v, n, h, e => by
    obtain ⟨a, xs, e1, nb, h1, h2⟩ := h
    subst e1
    cases n with
    | zero => cases e
    | succ n =>
      obtain ⟨q1, q2, q3⟩ := okqA_dp ds xs n h2 e
      exact ⟨.lst (.inl (.inl h1)) q1, q2, by simp only [D.pd, PyData.depth]; omega⟩
  | .dic _ _, _, _, _, e => by cases e
  | .rng _ _, _, _, _, e => by cases e
  | .xd _ _, _, _, _, e => by cases e
  | .ref _, _, _, _, e => by cases e
  | .fn _ _, _, _, _, e => by cases e
theorem okqA_dp {K : PySem.W.Frag} {as : List Addr} {B : Addr → Prop} {H : Hp} : ∀ (ds : List D) (vs : List V) (n : Nat), RepA K as B H ds vs → D.okqA ds n = true → DpAll K H vs (D.pdA ds) ∧ PyData.plainAll (D.pdA ds) = true ∧ PyData.depthAll (D.pdA ds) ≤ n + 1
  | [], vs, n, h, _ => by
    have h' : vs = [] := h
    subst h'
    exact ⟨.nil, rfl, by simp [D.pdA, PyData.depthAll]⟩
  | d :: ds, vs, n, h, e => by
    obtain ⟨v, ws, e1, h1, h2⟩ := h
    subst e1
    have e' : (d.okq n && D.okqA ds n) = true := e
    rw [Bool.and_eq_true] at e'
    obtain ⟨q1, q2, q3⟩ := okq_dp d v n h1 e'.1
    obtain ⟨r1, r2, r3⟩ := okqA_dp ds ws n h2 e'.2
    refine ⟨.cons q1 r1, ?_, ?_⟩
    · show (d.pd.plain && PyData.plainAll (D.pdA ds)) = true
      rw [q2, r2]; rfl
    · simp only [D.pdA, PyData.depthAll]
      omega
end
def D.eqv (x y : D) : Bool := PyData.eqv x.pd y.pd
end D2

namespace D2
open PySem L2

/-- an object that is owned: by a name, or told by its number -/
inductive O where
  | lst (ds : List D)
  | dic (ks : List Key) (ds : List D)
/-- what a name holds -/
inductive Sl where
  | no
  | val (d : D)
  | own (o : O)
/-- an exception: its class by name, its fields -/
structure Exn where
  cls : Str
  ns : List Str
  ds : List D
/-- what a run gives -/
inductive R (α : Type) where
  | ok (a : α)
  | ex (e : Exn) (sg : List Sl) (S : List O)
  | bad
def R.bind {α β : Type} (r : R α) (f : α → R β) : R β := match r with
  | .ok a => f a
  | .ex e sg S => .ex e sg S
  | .bad => .bad
def R.of {α : Type} : Option α → R α
  | some a => .ok a
  | none => .bad
theorem bind_ok {α β : Type} {a : α} {f : α → R β} : (R.ok a).bind f = f a := rfl
theorem bind_bad {α β : Type} {f : α → R β} : (R.bad : R α).bind f = .bad := rfl
theorem bind_ex {α β : Type} {e : Exn} {sg : List Sl} {S : List O} {f : α → R β} : (R.ex e sg S : R α).bind f = .ex e sg S := rfl
theorem of_some {α : Type} {a : α} : R.of (some a) = .ok a := rfl
theorem of_none {α : Type} : R.of (none : Option α) = .bad := rfl

def ORep (K : PySem.W.Frag) (as : List Addr) (B : Addr → Prop) (H : Hp) : O → Addr → Prop
  | .lst ds, a => ∃ xs, H a = some (.lst xs) ∧ RepA K as B H ds xs
  | .dic ks ds, a => ∃ xs, H a = some (.dK (ks.zip xs)) ∧ ks.length = xs.length ∧ RepA K as B H ds xs
def SlRep (K : PySem.W.Frag) (as : List Addr) (B : Addr → Prop) (H : Hp) : Sl → Option Addr → Option V → Prop
  | .no, w, _ => w = none
  | .val d, w, x => w = none ∧ ∃ v, x = some v ∧ Rep K as B H d v
  | .own o, w, x => ∃ a, w = some a ∧ x = some (.ref a) ∧ ORep K as B H o a
/-- what is bad here: what is bad outside, and what the names own -/
def Bd (B : Addr → Prop) (ow : List (Option Addr)) : Addr → Prop := fun a => B a ∨ some a ∈ ow
structure Sto (K : PySem.W.Frag) (as : List Addr) (B : Addr → Prop) (H : Hp) (S : List O) : Prop where
  len : as.length = S.length
  nd : as.Nodup
  ob : ∀ (n : Nat) (o : O), S[n]? = some o → ∃ a, as[n]? = some a ∧ ORep K as B H o a
  tab : ∀ p ∈ tabsOf K, LamX.TabS H p.1 p.2
/-- the state: B, H0 the entry's; ow what the names own; sg, S stand for the names and the objects -/
structure Rl (K : PySem.W.Frag) (B : Addr → Prop) (H0 : Hp) (as : List Addr) (ks : List (D × V)) (ow : List (Option Addr)) (sg : List Sl) (S : List O) (σ : L2.St) (H : Hp) : Prop where
  lo : sg.length ≤ ow.length
  ls : σ.length = sg.length
  sl : ∀ (i : Nat) (s : Sl), sg[i]? = some s → ∃ w x, ow[i]? = some w ∧ σ[i]? = some x ∧ SlRep K as (Bd B ow) H s w x
  inj : ∀ (i j : Nat) (a : Addr), ow[i]? = some (some a) → ow[j]? = some (some a) → i = j
  new : ∀ a, some a ∈ ow → H0 a = none
  odom : ∀ a, some a ∈ ow → H a ≠ none
  bdom : ∀ a, B a → H0 a ≠ none
  asB : ∀ a, a ∈ as → B a
  evo : Evo K (· ∈ as) H0 H
  sto : Sto K as (Bd B ow) H S
  kp : ∀ p, p ∈ ks → Rep K as (Bd B ow) H p.1 p.2

section
variable {K : PySem.W.Frag} {as : List Addr} {B B' : Addr → Prop} {H H0 H' H1 : Hp} {ks : List (D × V)} {ow : List (Option Addr)} {sg : List Sl} {S S' : List O} {σ : L2.St}
theorem ORep.imp {W : Addr → Prop} (e : Evo K W H H') (hW : ∀ a, W a → B a) (hB : ∀ a, B' a → B a) : ∀ (o : O) (a : Addr), ¬ W a → ORep K as B H o a → ORep K as B' H' o a
  | .lst ds, a, n, ⟨xs, h1, h2⟩ => ⟨xs, e.keep _ _ h1 n (fun _ z => nomatch z), RepA.imp e hW hB _ _ h2⟩
  | .dic ks ds, a, n, ⟨xs, h1, hl, h2⟩ => ⟨xs, e.keep _ _ h1 n (fun _ z => nomatch z), hl, RepA.imp e hW hB _ _ h2⟩
theorem ORep.more {p : Addr} (hp : H p = none) (hB : ∀ a, B' a → B a ∨ a = p) : ∀ (o : O) (a : Addr), ORep K as B H o a → ORep K as B' H o a
  | .lst ds, a, ⟨xs, h1, h2⟩ => ⟨xs, h1, RepA.more hp hB _ _ h2⟩
  | .dic ks ds, a, ⟨xs, h1, hl, h2⟩ => ⟨xs, h1, hl, RepA.more hp hB _ _ h2⟩
theorem ORep.there {o : O} {a : Addr} (h : ORep K as B H o a) : ∃ u, H a = some u ∧ (∀ xs, u ≠ .tup xs) ∧ (∀ ob w, u ≠ .frz ob w) ∧ (∀ φ, u ≠ .ext φ) ∧ ∀ ps, u ≠ .tbl ps := by
  cases o with
  | lst ds => obtain ⟨xs, h1, _⟩ := h; exact ⟨_, h1, (fun _ z => by cases z), (fun _ _ z => by cases z), (fun _ z => by cases z), (fun _ z => by cases z)⟩
  | dic ks ds => obtain ⟨xs, h1, _⟩ := h; exact ⟨_, h1, (fun _ z => by cases z), (fun _ _ z => by cases z), (fun _ z => by cases z), (fun _ z => by cases z)⟩
theorem Rl.ownNo (r : Rl K B H0 as ks ow sg S σ H) {a : Addr} (h : some a ∈ ow) : ¬ B a := fun hb => r.bdom a hb (r.new a h)
theorem Rl.ownAs (r : Rl K B H0 as ks ow sg S σ H) {a : Addr} (h : some a ∈ ow) : a ∉ as := fun hb => r.ownNo h (r.asB a hb)
theorem Rl.asBd (r : Rl K B H0 as ks ow sg S σ H) : ∀ a, a ∈ as → Bd B ow a := fun a h => .inl (r.asB a h)
/-- behind an expression -/
theorem Rl.step (r : Rl K B H0 as ks ow sg S σ H) (e : Evo K (· ∈ as) H H') (s : Sto K as (Bd B ow) H' S') : Rl K B H0 as ks ow sg S' σ H' := by
  refine ⟨r.lo, r.ls, fun i s hs => ?_, r.inj, r.new, fun a ha => e.dom a (r.odom a ha), r.bdom, r.asB, r.evo.trans e, s, fun p hp => Rep.imp e r.asBd (fun _ z => z) _ _ (r.kp p hp)⟩
  obtain ⟨w, x, h1, h2, h3⟩ := r.sl i s hs
  refine ⟨w, x, h1, h2, ?_⟩
  cases s with
  | no => exact h3
  | val d =>
    obtain ⟨q1, v, q2, q3⟩ := h3
    exact ⟨q1, v, q2, Rep.imp e r.asBd (fun _ z => z) d v q3⟩
  | own o =>
    obtain ⟨a, q1, q2, q3⟩ := h3
    subst q1
    exact ⟨a, rfl, q2, ORep.imp e r.asBd (fun _ z => z) o a (r.ownAs (List.mem_of_getElem? h1)) q3⟩
theorem Rl.stoNew (r : Rl K B H0 as ks ow sg S σ H) (e : Evo K (fun _ => False) H H') : Sto K as (Bd B ow) H' S :=
  ⟨r.sto.len, r.sto.nd, fun n o h => let ⟨a, h1, h2⟩ := r.sto.ob n o h; ⟨a, h1, ORep.imp e (fun _ z => z.elim) (fun _ z => z) o a (fun z => z) h2⟩, fun p hp => e.tabs _ _ hp (r.sto.tab p hp)⟩
theorem Sto.evo {W : Addr → Prop} (s : Sto K as B H S) (e : Evo K (fun _ => False) H H') : Sto K as B H' S :=
  ⟨s.len, s.nd, fun n o h => let ⟨a, h1, h2⟩ := s.ob n o h; ⟨a, h1, ORep.imp e (fun _ z => z.elim) (fun _ z => z) o a (fun z => z) h2⟩, fun p hp => e.tabs _ _ hp (s.tab p hp)⟩
theorem Evo.any {W : Addr → Prop} (e : Evo K (fun _ => False) H H') : Evo K W H H' := e.weak fun _ z => z.elim
end

/-! ### what is wanted: of an exception, of a value -/
def XRep (mg : Str → Option Value) (K : PySem.W.Frag) (as : List Addr) (B : Addr → Prop) (H : Hp) (e : Exn) (c : Value) (dx : Option Addr) : Prop :=
  ∃ C a, mg e.cls = some (.ref C) ∧ c = .ref C ∧ dx = some a ∧ Rep K as B H (.xd e.ns e.ds) (.ref a)
abbrev WX2 := Value → Option Addr → L2.St → Hp → Prop
/-- the fixed things of a def's body -/
structure Ct where
  K : PySem.W.Frag
  mg : Str → Option Value
  B : Addr → Prop
  H0 : Hp
  as : List Addr
  ks : List (D × V)
  W : WX2
def ExW (c : Ct) (e : Exn) (sg : List Sl) (S : List O) : Prop := ∀ cl dx ow σ H, Rl c.K c.B c.H0 c.as c.ks ow sg S σ H → XRep c.mg c.K c.as (Bd c.B ow) H e cl dx → c.W cl dx σ H
/-- of a result that stands for a value: Rp tells how -/
def Den (c : Ct) (ow : List (Option Addr)) {α β : Type} (Rp : Hp → α → β → Prop) (r : R (α × List O)) (H : Hp) (Q : β → Hp → Prop) : Prop := match r with
  | .ok (d, S') => ∀ v H', Evo c.K (· ∈ c.as) H H' → Sto c.K c.as (Bd c.B ow) H' S' → Rp H' d v → Q v H'
  | .ex e sg S' => ExW c e sg S'
  | .bad => False
/-- strong: it may be kept; weak: it stands until a name's own object changes -/
def Ct.rp (c : Ct) (ow : List (Option Addr)) (wk : Bool) : Hp → D → V → Prop := fun H d v => Rep c.K c.as (if wk then (· ∈ c.as) else Bd c.B ow) H d v
def Ct.rpa (c : Ct) (ow : List (Option Addr)) (wk : Bool) : Hp → List D → List V → Prop := fun H d v => RepA c.K c.as (if wk then (· ∈ c.as) else Bd c.B ow) H d v
def rpB : Hp → Bool → Bool → Prop := fun _ a b => b = a
abbrev Ct.Rl (c : Ct) (ow : List (Option Addr)) (sg : List Sl) (S : List O) (σ : L2.St) (H : Hp) : Prop := D2.Rl c.K c.B c.H0 c.as c.ks ow sg S σ H

theorem Den.evo {c : Ct} {ow : List (Option Addr)} {α β : Type} {Rp : Hp → α → β → Prop} {r : R (α × List O)} {H H1 : Hp} {Q : β → Hp → Prop} (e : Evo c.K (· ∈ c.as) H H1) (h : Den c ow Rp r H Q) : Den c ow Rp r H1 Q := by
  cases r with
  | ok a => obtain ⟨d, S'⟩ := a; exact fun v H' e' => h v H' (e.trans e')
  | ex e' sg S' => exact h
  | bad => exact h
/-- one part, then the rest -/
theorem Den.bind {c : Ct} {ow : List (Option Addr)} {α β γ δ : Type} {Rp : Hp → α → β → Prop} {Rq : Hp → γ → δ → Prop} {r : R (α × List O)} {f : α × List O → R (γ × List O)} {H : Hp} {Q : δ → Hp → Prop} {Q' : β → Hp → Prop} (h : Den c ow Rq (r.bind f) H Q)
    (k : ∀ d S' v H', r = .ok (d, S') → Evo c.K (· ∈ c.as) H H' → Sto c.K c.as (Bd c.B ow) H' S' → Rp H' d v → Den c ow Rq (f (d, S')) H' Q → Q' v H') : Den c ow Rp r H Q' := by
  cases r with
  | ok a => obtain ⟨d, S'⟩ := a; exact fun v H' e s q => k d S' v H' rfl e s q (Den.evo e h)
  | ex e' sg S' => exact h
  | bad => exact h
theorem Den.mono {c : Ct} {ow : List (Option Addr)} {α β : Type} {Rp : Hp → α → β → Prop} {r : R (α × List O)} {H : Hp} {Q Q' : β → Hp → Prop} (h : Den c ow Rp r H Q) (k : ∀ v H', Q v H' → Q' v H') : Den c ow Rp r H Q' := by
  cases r with
  | ok a => obtain ⟨d, S'⟩ := a; exact fun v H' e s q => k _ _ (h v H' e s q)
  | ex e' sg S' => exact h
  | bad => exact h

/-! ### the judgements -/
abbrev ME := List Sl → List O → R (D × List O)
abbrev MA := List Sl → List O → R (List D × List O)
abbrev MT := List Sl → List O → R (Bool × List O)
inductive Fl where
  | nx | bk | ct | rt (d : D)
abbrev MS := List Sl → List O → R (Fl × List Sl × List O)

def ctOf (X : Cx) (W : WX2) (B : Addr → Prop) (H0 : Hp) (as : List Addr) (ks : List (D × V)) : Ct := ⟨X.K, X.mg, B, H0, as, ks, W⟩
def PE2 (X : Cx) (W : WX2) (wk : Bool) (e : Expr) (m : ME) : Prop := ∃ t : TE, PE X e t ∧ ∀ B H0 as ks ow sg S σ H (Q : VK), Rl X.K B H0 as ks ow sg S σ H →
  Den (ctOf X W B H0 as ks) ow ((ctOf X W B H0 as ks).rp ow wk) (m sg S) H Q → t σ H Q
def PA2 (X : Cx) (W : WX2) (wk : Bool) (es : List Expr) (m : MA) : Prop := ∃ t : TA, PA X es t ∧ ∀ B H0 as ks ow sg S σ H (Q : List V → Hp → Prop), Rl X.K B H0 as ks ow sg S σ H →
  Den (ctOf X W B H0 as ks) ow ((ctOf X W B H0 as ks).rpa ow wk) (m sg S) H Q → t σ H Q
def PT2 (X : Cx) (W : WX2) (e : Expr) (m : MT) : Prop := ∃ t : TT, PT X e t ∧ ∀ B H0 as ks ow sg S σ H (Q : Bool → Hp → Prop), Rl X.K B H0 as ks ow sg S σ H →
  Den (ctOf X W B H0 as ks) ow rpB (m sg S) H Q → t σ H Q
def PW2 (X : Cx) (W : WX2) (e : Expr) (m : MT) : Prop := ∃ t : TT, PW X e t ∧ ∀ B H0 as ks ow sg S σ H (Q : Bool → Hp → Prop), Rl X.K B H0 as ks ow sg S σ H →
  Den (ctOf X W B H0 as ks) ow rpB (m sg S) H Q → t σ H Q
def DenS (c : Ct) (r : R (Fl × List Sl × List O)) (Dd : Ends) : Prop := match r with
  | .ok (.nx, sg, S) => ∀ ow σ H, c.Rl ow sg S σ H → Dd.nx σ H
  | .ok (.bk, sg, S) => ∀ ow σ H, c.Rl ow sg S σ H → Dd.bk σ H
  | .ok (.ct, sg, S) => ∀ ow σ H, c.Rl ow sg S σ H → Dd.ct σ H
  | .ok (.rt d, _, S) => ∀ v H, Evo c.K (· ∈ c.as) c.H0 H → Sto c.K c.as c.B H S → Rep c.K c.as c.B H d v → Dd.rt v H
  | .ex e sg S => ExW c e sg S
  | .bad => False
def PS2 (X : Cx) (W : WX2) (st : Stmt) (m : MS) : Prop := ∃ t : TS, PS X st t ∧ ∀ B H0 as ks ow sg S σ H (Dd : Ends), Rl X.K B H0 as ks ow sg S σ H → DenS (ctOf X W B H0 as ks) (m sg S) Dd → t Dd σ H
def PSs2 (X : Cx) (W : WX2) (st : List Stmt) (m : MS) : Prop := ∃ t : TS, PSs X st t ∧ ∀ B H0 as ks ow sg S σ H (Dd : Ends), Rl X.K B H0 as ks ow sg S σ H → DenS (ctOf X W B H0 as ks) (m sg S) Dd → t Dd σ H

section
variable {X : Cx} {W : WX2} {wk wa wb : Bool} {e a b : Expr} {ma mb : ME} {pos : Pos}

/-! ### names, constants -/
def mC (d : D) : ME := fun _ S => .ok (d, S)
def mVar (i : Nat) : ME := fun sg S => match sg[i]? with
  | some (.val d) => .ok (d, S)
  | _ => .bad
def mVarW (i : Nat) : ME := fun sg S => match sg[i]? with
  | some (.val d) => .ok (d, S)
  | some (.own (.lst ds)) => .ok (.lst ds, S)
  | some (.own (.dic ks ds)) => .ok (.dic ks ds, S)
  | _ => .bad
theorem wkBd {K : PySem.W.Frag} {B : Addr → Prop} {H0 : Hp} {as : List Addr} {ks : List (D × V)} {ow : List (Option Addr)} {sg : List Sl} {S : List O} {σ : L2.St} {H : Hp} (r : Rl K B H0 as ks ow sg S σ H) : ∀ a, (if wk then (· ∈ as) else Bd B ow) a → Bd B ow a := fun a h => by
  cases wk with
  | true => exact r.asBd a h
  | false => exact h
theorem asWk {K : PySem.W.Frag} {B : Addr → Prop} {H0 : Hp} {as : List Addr} {ks : List (D × V)} {ow : List (Option Addr)} {sg : List Sl} {S : List O} {σ : L2.St} {H : Hp} (r : Rl K B H0 as ks ow sg S σ H) : ∀ a, a ∈ as → (if wk then (· ∈ as) else Bd B ow) a := fun a h => by
  cases wk with
  | true => exact h
  | false => exact r.asBd a h
theorem e2_var (i : Nat) {x : Str} (hN : X.N[i]? = some x := by rfl) (hv : Vis X.env.scope x := by first | exact Or.inl rfl | exact Or.inr (Or.inl rfl) | exact Or.inr (Or.inr rfl)) (hd : (x == ("__debug__" : Str)) = false := by decide)
    (hcd : (x == ("__classdict__" : Str)) = false := by decide) : PE2 X W false (.Name x pos) (mVar i) := by
  refine ⟨_, pe_var hN hv hd hcd, fun B H0 as ks ow sg S σ H Q r h => ?_⟩
  cases e : sg[i]? with
  | none => simp only [mVar, e] at h; exact False.elim h
  | some s =>
    cases s with
    | no => simp only [mVar, e] at h; exact False.elim h
    | own o => simp only [mVar, e] at h; exact False.elim h
    | val d =>
      simp only [mVar, e] at h
      obtain ⟨w, x, h1, h2, h3, v, h4, h5⟩ := r.sl i _ e
      subst h4
      exact ⟨v, h2, h v H Evo.refl r.sto h5⟩
theorem e2_varW (i : Nat) {x : Str} (hN : X.N[i]? = some x := by rfl) (hv : Vis X.env.scope x := by first | exact Or.inl rfl | exact Or.inr (Or.inl rfl) | exact Or.inr (Or.inr rfl)) (hd : (x == ("__debug__" : Str)) = false := by decide)
    (hcd : (x == ("__classdict__" : Str)) = false := by decide) : PE2 X W true (.Name x pos) (mVarW i) := by
  refine ⟨_, pe_var hN hv hd hcd, fun B H0 as ks ow sg S σ H Q r h => ?_⟩
  cases e : sg[i]? with
  | none => simp only [mVarW, e] at h; exact False.elim h
  | some s =>
    cases s with
    | no => simp only [mVarW, e] at h; exact False.elim h
    | own o =>
      obtain ⟨w, x, h1, h2, p, h3, h4, h5⟩ := r.sl i _ e
      subst h3
      subst h4
      have np := r.ownAs (List.mem_of_getElem? h1)
      cases o with
      | lst ds =>
        simp only [mVarW, e] at h
        obtain ⟨xs, q1, q2⟩ := h5
        exact ⟨_, h2, h _ H Evo.refl r.sto ⟨p, xs, rfl, np, q1, RepA.imp (W := fun _ => False) Evo.refl (fun _ z => z.elim) r.asBd _ _ q2⟩⟩
      | dic ks ds =>
        simp only [mVarW, e] at h
        obtain ⟨xs, q1, q2, q3⟩ := h5
        exact ⟨_, h2, h _ H Evo.refl r.sto ⟨p, xs, rfl, np, .inl q1, q2, RepA.imp (W := fun _ => False) Evo.refl (fun _ z => z.elim) r.asBd _ _ q3⟩⟩
    | val d =>
      simp only [mVarW, e] at h
      obtain ⟨w, x, h1, h2, h3, v, h4, h5⟩ := r.sl i _ e
      subst h4
      exact ⟨v, h2, h v H Evo.refl r.sto (Rep.imp (W := fun _ => False) Evo.refl (fun _ z => z.elim) r.asBd _ _ h5)⟩
theorem e2_int {i : Int} {j} : PE2 X W false (.Constant (.int i) j pos) (mC (.int i)) := ⟨_, pe_int, fun B H0 as ks ow sg S σ H Q r h => h _ H Evo.refl r.sto rfl⟩
theorem e2_bl {b : Bool} {j} : PE2 X W false (.Constant (.bool b) j pos) (mC (.bl b)) := ⟨_, pe_bl, fun B H0 as ks ow sg S σ H Q r h => h _ H Evo.refl r.sto rfl⟩
theorem e2_non {j} : PE2 X W false (.Constant .none j pos) (mC .non) := ⟨_, pe_non, fun B H0 as ks ow sg S σ H Q r h => h _ H Evo.refl r.sto rfl⟩
theorem e2_str {x : Str} {j} : PE2 X W false (.Constant (.str x) j pos) (mC (.str x)) := ⟨_, pe_str, fun B H0 as ks ow sg S σ H Q r h => h _ H Evo.refl r.sto rfl⟩
/-- a constant of the module -/
theorem e2_glob {x : Str} {v : V} {u : Value} {d : D} (hg : Gl X x) (hm : X.mg x = some u) (r : RelV v u) (hr : ∀ as B H, Rep X.K as B H d v) (hd : (x == ("__debug__" : Str)) = false := by decide) : PE2 X W false (.Name x pos) (mC d) :=
  ⟨_, pe_glob hg hm r hd, fun B H0 as ks ow sg S σ H Q r h => h _ H Evo.refl r.sto (hr _ _ _)⟩
/-- strong is weak -/
theorem e2_weak {m : ME} (h : PE2 X W false e m) : PE2 X W wk e m := by
  cases wk with
  | false => exact h
  | true =>
    obtain ⟨t, h1, h2⟩ := h
    refine ⟨t, h1, fun B H0 as ks ow sg S σ H Q r h => h2 _ _ _ _ _ _ _ _ _ _ r ?_⟩
    revert h
    cases m sg S with
    | ok a => obtain ⟨d, S'⟩ := a; exact fun h v H' e s q => h v H' e s (Rep.imp (W := fun _ => False) Evo.refl (fun _ z => z.elim) r.asBd _ _ q)
    | ex => exact id
    | bad => exact id
/-- weak is strong where there is no list within -/
def mFlat (m : ME) : ME := fun sg S => (m sg S).bind fun r => if r.1.flat = true then .ok r else .bad
theorem e2_flat {m : ME} (h : PE2 X W wk e m) : PE2 X W false e (mFlat m) := by
  obtain ⟨t, h1, h2⟩ := h
  refine ⟨t, h1, fun B H0 as ks ow sg S σ H Q r h => h2 _ _ _ _ _ _ _ _ _ _ r ?_⟩
  refine Den.bind h fun d S' v H' _ e s q h => ?_
  by_cases hf : d.flat = true
  · simp only [hf] at h
    exact h v H' Evo.refl s (Rep.ofFlat d v hf q)
  · simp only [hf] at h
    exact False.elim h

/-! ### two operands -/
def mBin (f : D → D → Option D) (ma mb : ME) : ME := fun sg S => (ma sg S).bind fun x => (mb sg x.2).bind fun y => R.of ((f x.1 y.1).map fun z => (z, y.2))
/-- what an operator's rule must do: from the operands' readings, H' has new things only -/
def BinOk (K : PySem.W.Frag) (wk : Bool) (f : D → D → Option D) (r : R2) : Prop := ∀ (as : List Addr) (Bs Bw : Addr → Prop) (H : Hp) (x y z : D) (v w : V) (Q : VK), (∀ a, Bw a → Bs a) → (∀ a, Bs a → H a ≠ none) →
  Rep K as (if wk then Bw else Bs) H x v → Rep K as (if wk then Bw else Bs) H y w → f x y = some z → (∀ u H', Evo K (fun _ => False) H H' → Rep K as (if wk then Bw else Bs) H' z u → Q u H') → r v w H Q
theorem Rl.bdDom {K : PySem.W.Frag} {B : Addr → Prop} {H0 : Hp} {as : List Addr} {ks : List (D × V)} {ow : List (Option Addr)} {sg : List Sl} {S : List O} {σ : L2.St} {H : Hp} (r : Rl K B H0 as ks ow sg S σ H) : ∀ a, Bd B ow a → H a ≠ none := fun a h => by
  rcases h with h | h
  · exact r.evo.dom a (r.bdom a h)
  · exact r.odom a h
theorem bin_den {r2 : R2} {f : D → D → Option D} {ta tb : TE} (hop : BinOk X.K wk f r2)
    (ha : ∀ B H0 as ks ow sg S σ H (Q : VK), Rl X.K B H0 as ks ow sg S σ H → Den (ctOf X W B H0 as ks) ow ((ctOf X W B H0 as ks).rp ow wk) (ma sg S) H Q → ta σ H Q)
    (hb : ∀ B H0 as ks ow sg S σ H (Q : VK), Rl X.K B H0 as ks ow sg S σ H → Den (ctOf X W B H0 as ks) ow ((ctOf X W B H0 as ks).rp ow wk) (mb sg S) H Q → tb σ H Q)
    {B : Addr → Prop} {H0 : Hp} {as : List Addr} {ks : List (D × V)} {ow : List (Option Addr)} {sg : List Sl} {S : List O} {σ : L2.St} {H : Hp} {Q : VK} (r : Rl X.K B H0 as ks ow sg S σ H) (h : Den (ctOf X W B H0 as ks) ow ((ctOf X W B H0 as ks).rp ow wk) (mBin f ma mb sg S) H Q) : tOp r2 ta tb σ H Q := by
  refine ha _ _ _ _ _ _ _ _ _ _ r (Den.bind h fun x S1 v H1 _ e1 s1 q1 h1 => ?_)
  have r1 := r.step e1 s1
  refine hb _ _ _ _ _ _ _ _ _ _ r1 (Den.bind h1 fun y S2 w H2 _ e2 s2 q2 h2 => ?_)
  have r2 := r1.step e2 s2
  have q1' := Rep.imp (B' := if wk then (· ∈ as) else Bd B ow) e2 (asWk r) (fun _ z => z) x v q1
  cases e : f x y with
  | none =>
    simp only [e] at h2
    exact False.elim h2
  | some z =>
    simp only [e] at h2
    refine hop as (Bd B ow) (· ∈ as) H2 x y z v w Q r.asBd r2.bdDom q1' q2 e fun u H' e3 q3 => ?_
    exact h2 u H' e3.any (r2.stoNew e3) q3
theorem e2_bin {op : Operator} {r2 : R2} {f : D → D → Option D} (ho : OpR X (binaryOp op) r2) (hop : BinOk X.K wk f r2) (ha : PE2 X W wk a ma) (hb : PE2 X W wk b mb) : PE2 X W wk (.BinOp a op b pos) (mBin f ma mb) := by
  obtain ⟨ta, a1, a2⟩ := ha
  obtain ⟨tb, b1, b2⟩ := hb
  exact ⟨_, pe_op ho a1 b1, fun B H0 as ks ow sg S σ H Q r h => bin_den hop a2 b2 r h⟩
/-- a comparison as a value -/
theorem e2_cmp {op : CmpOp} {r2 : R2} {f : D → D → Option D} (ho : OpR X (compareOp op) r2) (hop : BinOk X.K wk f r2) (ha : PE2 X W wk a ma) (hb : PE2 X W wk b mb) (hm : behindInMarks op b = false) : PE2 X W wk (.Compare a [op] [b] pos) (mBin f ma mb) := by
  obtain ⟨ta, a1, a2⟩ := ha
  obtain ⟨tb, b1, b2⟩ := hb
  exact ⟨_, pe_cmpR ho a1 b1 hm, fun B H0 as ks ow sg S σ H Q r h => bin_den hop a2 b2 r h⟩
theorem e2_ix {r2 : R2} {f : D → D → Option D} (ho : IxR X r2) (hop : BinOk X.K wk f r2) (ha : PE2 X W wk a ma) (hb : PE2 X W wk b mb) (hs : PlainIx b) : PE2 X W wk (.Subscript a b pos) (mBin f ma mb) := by
  obtain ⟨ta, a1, a2⟩ := ha
  obtain ⟨tb, b1, b2⟩ := hb
  exact ⟨_, pe_ix ho a1 b1 hs, fun B H0 as ks ow sg S σ H Q r h => bin_den hop a2 b2 r h⟩
/-- a test that is a value -/
def mTst (m : ME) : MT := fun sg S => (m sg S).bind fun x => match x.1 with
  | .bl b => .ok (b, x.2)
  | _ => .bad
theorem t2_val {m : ME} (h : PE2 X W wk e m) (he : ∀ whole, isTrue e X.env whole = (do let v ← whole; standAt e.pos; PySem.holding [v] (truthy v)) := by intro _; rfl) : PT2 X W e (mTst m) := by
  obtain ⟨t, h1, h2⟩ := h
  refine ⟨_, pt_val h1 he, fun B H0 as ks ow sg S σ H Q r h => ?_⟩
  refine h2 _ _ _ _ _ _ _ _ _ _ r (Den.bind h fun d S' v H' e0 e s q h => ?_)
  clear e0
  cases d <;> try exact False.elim h
  rename_i b
  have e : v = .bl b := q
  exact ⟨b, e, h b H' Evo.refl s rfl⟩
theorem t2_cmp {op : CmpOp} {r2 : R2} {f : D → D → Option D} (ho : OpR X (compareOp op) r2) (hop : BinOk X.K wk f r2) (ha : PE2 X W wk a ma) (hb : PE2 X W wk b mb) (hm : behindInMarks op b = false) : PT2 X W (.Compare a [op] [b] pos) (mTst (mBin f ma mb)) := by
  obtain ⟨ta, a1, a2⟩ := ha
  obtain ⟨tb, b1, b2⟩ := hb
  refine ⟨_, pt_cmpR ho a1 b1 hm, fun B H0 as ks ow sg S σ H Q r h => ?_⟩
  refine bin_den (W := W) hop a2 b2 r (Q := fun x H' => ∃ k, x = .bl k ∧ Q k H') (Den.bind h fun d S' v H' e0 e s q h => ?_)
  clear e0
  cases d <;> try exact False.elim h
  rename_i b
  have e : v = .bl b := q
  exact ⟨b, e, h b H' Evo.refl s rfl⟩
end
end D2

namespace D2
open PySem PySem.Spec PyProof.Rows L2

theorem lineN {n : Nat} (h : n ≤ 16777216) : n ≤ sizeLine := by rw [PySem.sizeLine_eq]; omega
theorem lineL {n : Nat} (h : n < 16777216) : n < sizeLine := by rw [PySem.sizeLine_eq]; omega

section
variable {K : PySem.W.Frag} {wk : Bool}
theorem newB {Bs Bw : Addr → Prop} {H : Hp} {p : Addr} (h1 : ∀ a, Bw a → Bs a) (h2 : ∀ a, Bs a → H a ≠ none) (hp : H p = none) : ¬ (if wk then Bw else Bs) p := fun z => by
  cases wk with
  | true => exact h2 p (h1 p z) hp
  | false => exact h2 p z hp
theorem RepA.new {as : List Addr} {B : Addr → Prop} {H : Hp} {p : Addr} {o : HO} {ds : List D} {xs : List V} (hp : H p = none) (h : RepA K as B H ds xs) : RepA K as B (upd H p o) ds xs :=
  RepA.imp (W := fun _ => False) (Evo.new hp) (fun _ z => z.elim) (fun _ z => z) _ _ h
theorem Rep.new {as : List Addr} {B : Addr → Prop} {H : Hp} {p : Addr} {o : HO} {d : D} {v : V} (hp : H p = none) (h : Rep K as B H d v) : Rep K as B (upd H p o) d v :=
  Rep.imp (W := fun _ => False) (Evo.new hp) (fun _ z => z.elim) (fun _ z => z) _ _ h
theorem repNewL {as : List Addr} {Bs Bw : Addr → Prop} {H : Hp} {p : Addr} {ds : List D} {xs : List V} (h1 : ∀ a, Bw a → Bs a) (h2 : ∀ a, Bs a → H a ≠ none) (hp : H p = none) (h : RepA K as (if wk then Bw else Bs) H ds xs) :
    Rep K as (if wk then Bw else Bs) (upd H p (.lst xs)) (.lst ds) (.ref p) := ⟨p, xs, rfl, newB h1 h2 hp, upd_same, h.new hp⟩
theorem repNewT {as : List Addr} {B : Addr → Prop} {H : Hp} {p : Addr} {ds : List D} {xs : List V} (hp : H p = none) (h : RepA K as B H ds xs) : Rep K as B (upd H p (.tup xs)) (.tup ds) (.ref p) := ⟨p, xs, rfl, SqT.of upd_same, h.new hp⟩

/-! ### + -/
def D.add : D → D → Option D
  | .int i, .int j => some (.int (i + j))
  | .str x, .str y => if x.length + y.length ≤ 16777216 then some (.str (x ++ y)) else none
  | .tup xs, .tup ys => if xs.length + ys.length ≤ 16777216 then some (.tup (xs ++ ys)) else none
  | .lst xs, .lst ys => if xs.length + ys.length ≤ 16777216 then some (.lst (xs ++ ys)) else none
  | _, _ => none
def rAddS : R2 := fun x y H Q => ∃ i j, x = .str i ∧ y = .str j ∧ i.length + j.length ≤ sizeLine ∧ Q (.str (i ++ j)) H
def rAdd (K : PySem.W.Frag) : R2 := fun x y H Q => rI0 (fun i j => .int (i + j)) x y H Q ∨ (rAddS x y H Q ∨ (rCatA K x y H Q ∨ rCat x y H Q))
theorem op_addD {X : Cx} : OpR X (binaryOp .Add) (rAdd X.K) := op_add.or (OpR.or op_add_str (op_catA.or op_cat))
theorem ok_add : BinOk K wk D.add (rAdd K) := by
  intro as Bs Bw H x y z v w Q h1 h2 rx ry e q
  cases x <;> try (cases e; done)
  case int i =>
    cases y <;> try (cases e; done)
    case int j =>
      cases e
      exact .inl ⟨i, j, rx, ry, q _ _ Evo.refl rfl⟩
  case str i =>
    cases y <;> try (cases e; done)
    case str j =>
      simp only [D.add] at e
      split at e
      · rename_i hl
        cases e
        exact .inr (.inl ⟨i, j, rx, ry, lineN hl, q _ _ Evo.refl rfl⟩)
      · cases e
  case tup xs =>
    cases y <;> try (cases e; done)
    case tup ys =>
      simp only [D.add] at e
      split at e
      · rename_i hl
        cases e
        obtain ⟨a, vs, e1, a1, a2⟩ := rx
        obtain ⟨b, ws, e2, b1, b2⟩ := ry
        rw [a2.length, b2.length] at hl
        refine .inr (.inr (.inl ⟨a, b, vs, ws, e1, e2, a1, b1, lineN hl, fun c => q _ _ Evo.refl ?_, fun _ c => q _ _ Evo.refl ?_, fun _ _ p hp => q _ _ (Evo.new hp) (repNewT hp (a2.append b2))⟩))
        · subst c
          have : xs = [] := List.eq_nil_of_length_eq_zero (by rw [a2.length]; rfl)
          subst this
          exact ⟨b, ws, rfl, b1, b2⟩
        · subst c
          have : ys = [] := List.eq_nil_of_length_eq_zero (by rw [b2.length]; rfl)
          subst this
          rw [List.append_nil]
          exact ⟨a, vs, rfl, a1, a2⟩
      · cases e
  case lst xs =>
    cases y <;> try (cases e; done)
    case lst ys =>
      simp only [D.add] at e
      split at e
      · rename_i hl
        cases e
        obtain ⟨a, vs, e1, na, a1, a2⟩ := rx
        obtain ⟨b, ws, e2, nb, b1, b2⟩ := ry
        rw [a2.length, b2.length] at hl
        exact .inr (.inr (.inr ⟨a, b, vs, ws, e1, e2, a1, b1, lineN hl, fun p hp => q _ _ (Evo.new hp) (repNewL h1 h2 hp (a2.append b2))⟩))
      · cases e
/-! ### the other operators on ints -/
def D.iop (C : Int → Int → Bool) (g : Int → Int → Int) : D → D → Option D
  | .int i, .int j => if C i j = true then some (.int (g i j)) else none
  | _, _ => none
theorem ok_iop {C : Int → Int → Bool} {g : Int → Int → Int} {C' : Int → Int → Prop} (hC : ∀ i j, C i j = true → C' i j) : BinOk K wk (D.iop C g) (rI C' fun i j => .int (g i j)) := by
  intro as Bs Bw H x y z v w Q h1 h2 rx ry e q
  cases x <;> try (cases e; done)
  case int i =>
    cases y <;> try (cases e; done)
    case int j =>
      simp only [D.iop] at e
      split at e
      · rename_i hc
        cases e
        exact ⟨i, j, rx, ry, hC _ _ hc, q _ _ Evo.refl rfl⟩
      · cases e
def D.iop0 (g : Int → Int → Int) : D → D → Option D
  | .int i, .int j => some (.int (g i j))
  | _, _ => none
theorem ok_iop0 {g : Int → Int → Int} : BinOk K wk (D.iop0 g) (rI0 fun i j => .int (g i j)) := by
  intro as Bs Bw H x y z v w Q h1 h2 rx ry e q
  cases x <;> try (cases e; done)
  case int i =>
    cases y <;> try (cases e; done)
    case int j =>
      cases e
      exact ⟨i, j, rx, ry, q _ _ Evo.refl rfl⟩
abbrev D.sub := D.iop0 fun i j => i - j
abbrev D.fdiv := D.iop (fun i j => decide (0 < j ∧ j < 1073741824)) fun i j => i / j
abbrev D.mod := D.iop (fun i j => decide (0 < j)) fun i j => i % j
abbrev D.powI := D.iop (fun i j => decide (0 ≤ j ∧ j ≤ 1000000 ∧ i.natAbs < 18446744073709551616)) fun i j => i ^ j.toNat
abbrev D.shl := D.iop (fun i j => decide (0 ≤ j ∧ j ≤ 1000000 ∧ i.natAbs < 18446744073709551616)) fun i j => i * 2 ^ j.toNat
abbrev D.shr := D.iop (fun i j => decide (0 ≤ j)) fun i j => i / 2 ^ j.toNat
abbrev D.and := D.iop0 Builtin.bitAnd
abbrev D.or := D.iop0 Builtin.bitOr
abbrev D.xor := D.iop0 Builtin.bitXor
theorem ok_sub : BinOk K wk D.sub (rI0 fun i j => .int (i - j)) := ok_iop0
theorem ok_fdiv : BinOk K wk D.fdiv (rI CDiv fun i j => .int (i / j)) := ok_iop fun i j h => (of_decide_eq_true (p := 0 < j ∧ j < 1073741824) h : 0 < j ∧ j < 1073741824)
theorem ok_mod : BinOk K wk D.mod (rI (fun _ j => 0 < j) fun i j => .int (i % j)) := ok_iop fun i j h => of_decide_eq_true h
theorem ok_pow : BinOk K wk D.powI (rI CPow fun i j => .int (i ^ j.toNat)) := ok_iop fun i j h => by
  have h' := of_decide_eq_true h
  exact ⟨h'.1, h'.2.1, by have := h'.2.2; omega⟩
theorem ok_shl : BinOk K wk D.shl (rI CPow fun i j => .int (i * 2 ^ j.toNat)) := ok_iop fun i j h => by
  have h' := of_decide_eq_true h
  exact ⟨h'.1, h'.2.1, by have := h'.2.2; omega⟩
theorem ok_shr : BinOk K wk D.shr (rI (fun _ j => 0 ≤ j) fun i j => .int (i / 2 ^ j.toNat)) := ok_iop fun i j h => of_decide_eq_true h
theorem ok_and : BinOk K wk D.and (rI0 fun i j => .int (Builtin.bitAnd i j)) := ok_iop0
theorem ok_or : BinOk K wk D.or (rI0 fun i j => .int (Builtin.bitOr i j)) := ok_iop0
theorem ok_xor : BinOk K wk D.xor (rI0 fun i j => .int (Builtin.bitXor i j)) := ok_iop0
/-- a product: ints (one within 2^64), a list times an int -/
def D.mul : D → D → Option D
  | .int i, .int j => if decide ((-18446744073709551616 < i ∧ i < 18446744073709551616) ∨ (-18446744073709551616 < j ∧ j < 18446744073709551616)) = true then some (.int (i * j)) else none
  | .lst xs, .int k => if decide (-4611686018427387904 ≤ k ∧ k < 4611686018427387904 ∧ xs.length * k.toNat ≤ 16777216) = true then some (.lst (List.replicate k.toNat xs).flatten) else none
  | _, _ => none
def rMulD : R2 := fun x y H Q => rI CMul (fun i j => .int (i * j)) x y H Q ∨ rRep x y H Q
theorem op_mulD {X : Cx} : OpR X (binaryOp .Mult) rMulD := op_mul.or op_rep
theorem ok_mul : BinOk K wk D.mul rMulD := by
  intro as Bs Bw H x y z v w Q h1 h2 rx ry e q
  cases x <;> try (cases e; done)
  case int i =>
    cases y <;> try (cases e; done)
    case int j =>
      simp only [D.mul] at e
      split at e
      · rename_i hc
        cases e
        have hc' := of_decide_eq_true hc
        exact .inl ⟨i, j, rx, ry, hc'.imp (fun z => ⟨by have := z.1; omega, by have := z.2; omega⟩) (fun z => ⟨by have := z.1; omega, by have := z.2; omega⟩), q _ _ Evo.refl rfl⟩
      · cases e
  case lst xs =>
    cases y <;> try (cases e; done)
    case int k =>
      simp only [D.mul] at e
      split at e
      · rename_i hc
        cases e
        have hc' := of_decide_eq_true hc
        obtain ⟨a, vs, e1, na, a1, a2⟩ := rx
        rw [a2.length] at hc'
        exact .inr ⟨a, k, vs, e1, ry, a1, by have := hc'.1; omega, by have := hc'.2.1; omega, lineN hc'.2.2, fun p hp => q _ _ (Evo.new hp) (repNewL h1 h2 hp (a2.rep _))⟩
      · cases e

/-! ### comparisons -/
def D.icmp (g : Int → Int → Bool) : D → D → Option D
  | .int i, .int j => some (.bl (g i j))
  | _, _ => none
theorem ok_icmp {g : Int → Int → Bool} : BinOk K wk (D.icmp g) (rI0 fun i j => .bl (g i j)) := by
  intro as Bs Bw H x y z v w Q h1 h2 rx ry e q
  cases x <;> try (cases e; done)
  case int i =>
    cases y <;> try (cases e; done)
    case int j =>
      cases e
      exact ⟨i, j, rx, ry, q _ _ Evo.refl rfl⟩
abbrev D.lt := D.icmp fun i j => decide (i < j)
abbrev D.le := D.icmp fun i j => decide (i ≤ j)
abbrev D.gt := D.icmp fun i j => decide (j < i)
abbrev D.ge := D.icmp fun i j => decide (j ≤ i)
theorem ok_lt : BinOk K wk D.lt (rI0 fun i j => .bl (decide (i < j))) := ok_icmp
theorem ok_le : BinOk K wk D.le (rI0 fun i j => .bl (decide (i ≤ j))) := ok_icmp
theorem ok_gt : BinOk K wk D.gt (rI0 fun i j => .bl (decide (j < i))) := ok_icmp
theorem ok_ge : BinOk K wk D.ge (rI0 fun i j => .bl (decide (j ≤ i))) := ok_icmp
/-- == of data -/
def D.eqo (x y : D) : Option D := if x.okq 50 = true then if y.okq 50 = true then some (.bl (D.eqv x y)) else none else none
def D.neo (x y : D) : Option D := if x.okq 50 = true then if y.okq 50 = true then some (.bl (!D.eqv x y)) else none else none
def rEqP (K : PySem.W.Frag) (neg : Bool) : R2 := fun x y H Q => ∃ d e, Dp K H x d ∧ Dp K H y e ∧ (d.plain = true ∧ d.depth ≤ 60) ∧ (e.plain = true ∧ e.depth ≤ 60) ∧ Q (.bl (if neg then !PyData.eqv d e else PyData.eqv d e)) H
theorem op_eqP {X : Cx} (hu : X.A.units + 64 < cLine) : OpR X (compareOp .Eq) (rEqP X.K false) := by
  intro pins s σ H x y v u Q I rx ry h
  obtain ⟨d, e, hd, he, ⟨sd, dd⟩, ⟨se, de⟩, q⟩ := h
  obtain ⟨as, r1⟩ := Dp.reads I d x v hd rx
  obtain ⟨bs, r2⟩ := Dp.reads I e y u he ry
  exact SeqAt.eq_plain r1 r2 sd se (by omega) ⟨.bl _, H, I, rfl, q⟩
theorem op_neP {X : Cx} (hu : X.A.units + 64 < cLine) : OpR X (compareOp .NotEq) (rEqP X.K true) := by
  intro pins s σ H x y v u Q I rx ry h
  obtain ⟨d, e, hd, he, ⟨sd, dd⟩, ⟨se, de⟩, q⟩ := h
  obtain ⟨as, r1⟩ := Dp.reads I d x v hd rx
  obtain ⟨bs, r2⟩ := Dp.reads I e y u he ry
  exact SeqAt.ne_plain r1 r2 sd se (by omega) ⟨.bl _, H, I, rfl, q⟩
theorem ok_eq : BinOk K wk D.eqo (rEqP K false) := by
  intro as Bs Bw H x y z v w Q h1 h2 rx ry e q
  simp only [D.eqo] at e
  split at e
  · rename_i c1
    split at e
    · rename_i c2
      cases e
      obtain ⟨a1, a2, a3⟩ := okq_dp x v 50 rx c1
      obtain ⟨b1, b2, b3⟩ := okq_dp y w 50 ry c2
      exact ⟨x.pd, y.pd, a1, b1, ⟨a2, by omega⟩, ⟨b2, by omega⟩, q _ _ Evo.refl rfl⟩
    · cases e
  · cases e
theorem ok_ne : BinOk K wk D.neo (rEqP K true) := by
  intro as Bs Bw H x y z v w Q h1 h2 rx ry e q
  simp only [D.neo] at e
  split at e
  · rename_i c1
    split at e
    · rename_i c2
      cases e
      obtain ⟨a1, a2, a3⟩ := okq_dp x v 50 rx c1
      obtain ⟨b1, b2, b3⟩ := okq_dp y w 50 ry c2
      exact ⟨x.pd, y.pd, a1, b1, ⟨a2, by omega⟩, ⟨b2, by omega⟩, q _ _ Evo.refl rfl⟩
    · cases e
  · cases e
/-! ### in: a list, a tuple, a dict -/
def D.key? : D → Option Key
  | .int i => some (.inl i)
  | .str x => some (.inr x)
  | _ => none
def dicGet : List Key → List D → Key → Option D
  | k :: ks, d :: ds, j => if k = j then some d else dicGet ks ds j
  | _, _, _ => none
def D.inB : D → D → Option Bool
  | x, .lst ds => if x.okq 50 = true then if D.okqA ds 50 = true then some (ds.any fun y => D.eqv y x) else none else none
  | x, .tup ds => if x.okq 50 = true then if D.okqA ds 50 = true then some (ds.any fun y => D.eqv y x) else none else none
  | x, .dic ks ds => match x.key? with
    | some k => some (dicGet ks ds k).isSome
    | none => none
  | .str s, .str z => if s.cps.size = 1 then some (decide (s.cps.getD 0 0 ∈ z.cps.toList)) else none
  | _, _ => none
def D.ino (x y : D) : Option D := (D.inB x y).map .bl
def D.nino (x y : D) : Option D := (D.inB x y).map fun b => .bl !b
def rInP (K : PySem.W.Frag) (neg : Bool) : R2 := fun x y H Q => ∃ d es b, Dp K H x d ∧ y = .ref b ∧ (Dp K H y (.list es) ∨ Dp K H y (.tuple es)) ∧ (d.plain = true ∧ d.depth ≤ 60) ∧ PyData.plainAll es = true ∧ Q (.bl (if neg then !(es.any fun z => PyData.eqv z d) else es.any fun z => PyData.eqv z d)) H
theorem op_inP {X : Cx} (hu : X.A.units + 64 < cLine) : OpR X (compareOp .In) (rInP X.K false) := by
  intro pins s σ H x y v u Q I rx ry h
  obtain ⟨d, es, b, hd, eb, he, ⟨sd, dd⟩, se, q⟩ := h
  obtain ⟨as, r1⟩ := Dp.reads I d x v hd rx
  rcases he with he | he
  · obtain ⟨bs, r2⟩ := Dp.reads I _ y u he ry
    exact SeqAt.in_list_data r2 r1 se sd (by omega) ⟨.bl _, H, I, rfl, q⟩
  · obtain ⟨bs, r2⟩ := Dp.reads I _ y u he ry
    exact SeqAt.in_tuple_data r2 r1 se sd (by omega) ⟨.bl _, H, I, rfl, q⟩
theorem op_ninP {X : Cx} (hu : X.A.units + 64 < cLine) : OpR X (compareOp .NotIn) (rInP X.K true) := by
  intro pins s σ H x y v u Q I rx ry h
  obtain ⟨d, es, b, hd, eb, he, ⟨sd, dd⟩, se, q⟩ := h
  obtain ⟨as, r1⟩ := Dp.reads I d x v hd rx
  rcases he with he | he
  · obtain ⟨bs, r2⟩ := Dp.reads I _ y u he ry
    exact SeqAt.notIn_list_data r2 r1 se sd (by omega) ⟨.bl _, H, I, rfl, q⟩
  · obtain ⟨bs, r2⟩ := Dp.reads I _ y u he ry
    exact SeqAt.notIn_tuple_data r2 r1 se sd (by omega) ⟨.bl _, H, I, rfl, q⟩
def rInD (neg : Bool) : R2 := fun y x H Q => ∃ a o, x = .ref a ∧ DGet H a y o ∧ Q (.bl (if neg then !o.isSome else o.isSome)) H
theorem op_inD {X : Cx} (hu : X.A.units + 1 < cLine) : OpR X (compareOp .In) (rInD false) := by
  intro pins s σ H y x u v Q I ry rx h
  obtain ⟨a, o, rfl, g, q⟩ := h
  cases rx
  exact d_in hu I g ry fun s' I' => ⟨.bl _, H, I', rfl, q⟩
theorem op_ninD {X : Cx} (hu : X.A.units + 1 < cLine) : OpR X (compareOp .NotIn) (rInD true) := by
  intro pins s σ H y x u v Q I ry rx h
  obtain ⟨a, o, rfl, g, q⟩ := h
  cases rx
  exact d_notIn hu I g ry fun s' I' => ⟨.bl _, H, I', rfl, q⟩
def rInS (neg : Bool) : R2 := fun x y H Q => ∃ (c : Nat) (z : Str), x = .str ⟨#[c]⟩ ∧ y = .str z ∧ Q (.bl (if neg then !decide (c ∈ z.cps.toList) else decide (c ∈ z.cps.toList))) H
def rIn2 (K : PySem.W.Frag) (neg : Bool) : R2 := fun x y H Q => rInP K neg x y H Q ∨ (rInD neg x y H Q ∨ rInS neg x y H Q)
theorem op_in2 {X : Cx} (hu : X.A.units + 64 < cLine) : OpR X (compareOp .In) (rIn2 X.K false) := (op_inP hu).or ((op_inD (by omega)).or op_in_sign)
theorem op_nin2 {X : Cx} (hu : X.A.units + 64 < cLine) : OpR X (compareOp .NotIn) (rIn2 X.K true) := (op_ninP hu).or ((op_ninD (by omega)).or op_notIn_sign)
theorem dicGet_val {as : List Addr} {B : Addr → Prop} {H : Hp} : ∀ {ks : List Key} {ds : List D} {xs : List V} {j : Key}, ks.length = xs.length → RepA K as B H ds xs →
    (dicGet ks ds j = none → valV (ks.zip xs) j = none) ∧ ∀ d, dicGet ks ds j = some d → ∃ v, valV (ks.zip xs) j = some v ∧ Rep K as B H d v
  | [], ds, xs, j, hl, r => by
    have : xs = [] := List.eq_nil_of_length_eq_zero hl.symm
    subst this
    exact ⟨fun _ => rfl, fun d e => by simp [dicGet] at e⟩
  | k :: ks, [], xs, j, hl, r => by
    have e : xs = [] := r
    subst e
    cases hl
  | k :: ks, d :: ds, xs, j, hl, r => by
    obtain ⟨v, vs, e1, h1, h2⟩ := r
    subst e1
    have ih := dicGet_val (ks := ks) (ds := ds) (xs := vs) (j := j) (by simpa using hl) h2
    have eq1 : valV ((k :: ks).zip (v :: vs)) j = if k = j then some v else valV (ks.zip vs) j := by
      rw [List.zip_cons_cons]
      simp only [valV, List.find?_cons]
      by_cases hk : k = j
      · simp [hk]
      · simp [hk]
    rw [eq1]
    simp only [dicGet]
    by_cases hk : k = j
    · rw [if_pos hk, if_pos hk]
      exact ⟨fun z => (nomatch z), fun d' e' => ⟨v, rfl, by cases e'; exact h1⟩⟩
    · rw [if_neg hk, if_neg hk]
      exact ih
theorem key_rep {as : List Addr} {B : Addr → Prop} {H : Hp} {x : D} {v : V} {k : Key} (h : Rep K as B H x v) (e : x.key? = some k) : v = kV k := by
  cases x <;> try (cases e; done)
  · cases e; exact h
  · cases e; exact h
theorem pdA_any (x : D) : ∀ ds : List D, (D.pdA ds).any (fun z => PyData.eqv z x.pd) = ds.any fun y => D.eqv y x
  | [] => rfl
  | d :: ds => by
    show (PyData.eqv d.pd x.pd || (D.pdA ds).any (fun z => PyData.eqv z x.pd)) = (D.eqv d x || ds.any fun y => D.eqv y x)
    rw [pdA_any x ds]
    rfl
theorem ok_in2 {neg : Bool} : BinOk K wk (fun x y => (D.inB x y).map fun b => .bl (if neg then !b else b)) (rIn2 K neg) := by
  intro as Bs Bw H x y z v w Q h1 h2 rx ry e q
  obtain ⟨b, e1, e2⟩ := Option.map_eq_some_iff.mp e
  subst e2
  cases y with
  | lst ds =>
    simp only [D.inB] at e1
    split at e1
    · rename_i c1
      split at e1
      · rename_i c2
        cases e1
        obtain ⟨a, xs, e1, nb, g1, g2⟩ := ry
        obtain ⟨a1, a2, a3⟩ := okq_dp x v 50 rx c1
        obtain ⟨b1, b2, b3⟩ := okqA_dp ds xs 50 g2 c2
        exact .inl ⟨x.pd, D.pdA ds, a, a1, e1, .inl (by rw [e1]; exact .lst (.inl (.inl g1)) b1), ⟨a2, by omega⟩, b2, by rw [pdA_any]; exact q _ _ Evo.refl rfl⟩
      · cases e1
    · cases e1
  | tup ds =>
    simp only [D.inB] at e1
    split at e1
    · rename_i c1
      split at e1
      · rename_i c2
        cases e1
        obtain ⟨a, xs, e1, g1, g2⟩ := ry
        obtain ⟨a1, a2, a3⟩ := okq_dp x v 50 rx c1
        obtain ⟨b1, b2, b3⟩ := okqA_dp ds xs 50 g2 c2
        exact .inl ⟨x.pd, D.pdA ds, a, a1, e1, .inr (by rw [e1]; exact .tup g1 b1), ⟨a2, by omega⟩, b2, by rw [pdA_any]; exact q _ _ Evo.refl rfl⟩
      · cases e1
    · cases e1
  | dic ks ds =>
    simp only [D.inB] at e1
    split at e1
    · rename_i k c1
      cases e1
      obtain ⟨a, xs, e1, nb, g1, gl, g2⟩ := ry
      have ek := key_rep rx c1
      subst ek
      have gv := dicGet_val (j := k) gl g2
      refine .inr (.inl ⟨a, valV (ks.zip xs) k, e1, .inl ⟨_, k, g1, rfl, rfl⟩, ?_⟩)
      have : (valV (ks.zip xs) k).isSome = (dicGet ks ds k).isSome := by
        cases c : dicGet ks ds k with
        | none => rw [gv.1 c]; rfl
        | some d =>
          obtain ⟨v, q1, _⟩ := gv.2 d c
          rw [q1]; rfl
      rw [this]
      exact q _ _ Evo.refl rfl
    · cases e1
  | str z =>
    cases x <;> try (simp only [D.inB] at e1; cases e1; done)
    rename_i s
    simp only [D.inB] at e1
    split at e1
    · rename_i hs
      cases e1
      obtain ⟨⟨l⟩⟩ := s
      cases l with
      | nil => cases hs
      | cons c r =>
        cases r with
        | nil => exact .inr (.inr ⟨c, z, rx, ry, q _ _ Evo.refl rfl⟩)
        | cons c2 r2 => simp at hs
    · cases e1
  | _ => simp only [D.inB] at e1; cases e1
theorem ok_in : BinOk K wk D.ino (rIn2 K false) := ok_in2 (neg := false)
theorem ok_nin : BinOk K wk D.nino (rIn2 K true) := ok_in2 (neg := true)

/-! ### subscripts -/
def D.ixo : D → D → Option D
  | .lst ds, .int i => atI ds i
  | .tup ds, .int i => atI ds i
  | .str z, .int i => if z.length ≤ 16777216 then (atI z.cps.toList i).map fun c => .str ⟨#[c]⟩ else none
  | .dic ks ds, x => match x.key? with
    | some k => dicGet ks ds k
    | none => none
  | _, _ => none
def rIxD : R2 := fun x y H Q => ∃ a v, x = .ref a ∧ DGet H a y (some v) ∧ Q v H
theorem ix_dict {X : Cx} (hu : X.A.units + 1 < cLine) : IxR X rIxD := by
  intro value slice pins s σ H x y v u Q I rx ry h hs
  obtain ⟨a, z, rfl, g, q⟩ := h
  cases rx
  have ht := dict_typeIs I g
  unfold subscriptTail
  refine wpAny_bind ?_
  rw [getitemInPython_of_ne ht.not_modules]
  refine wpAny_bind (wpAny_specialOf ht PySem.F.slot_dict_getitem.lookup ?_)
  have fin : wpAny (model X.prog X.w) X.A (subscripted slice false (.ref a) u) (fun r s₃ => wpAny (model X.prog X.w) X.A (letTemporaryGo value (.ref a) r >>= fun _ => pure r) (EP X pins σ Q) X.xe s₃) X.xe s := by
    rw [hs]
    exact wpAny_operating (wpAny_mono (d_getItem hu I g ry fun w' s' I' r' => (⟨_, H, I', r', q⟩ : EP X pins σ Q w' s')) (fun r s₃ h₃ => wpAny_bind (wpAny_letTemporaryGo (wpAny_pure h₃))) fun _ _ x => x)
  first
    | exact wpAny_pure (wpAny_bind fin)
    | exact wpAny_bind (wpAny_pure (wpAny_bind fin))
    | exact wpAny_bind fin
def rIx2 (K : PySem.W.Frag) : R2 := fun x y H Q => rIx K x y H Q ∨ rIxD x y H Q
theorem ix_all {X : Cx} (hu : X.A.units + 1 < cLine) : IxR X (rIx2 X.K) := ix_seq.or (ix_dict hu)
theorem atI_rep {as : List Addr} {B : Addr → Prop} {H : Hp} {ds : List D} {xs : List V} {i : Int} {d : D} (r : RepA K as B H ds xs) (h : atI ds i = some d) : ∃ v, atI xs i = some v ∧ Rep K as B H d v := by
  unfold atI at h ⊢
  rw [← r.length]
  cases e : ixN ds.length i with
  | none => rw [e] at h; cases h
  | some j =>
    rw [e] at h
    exact r.get h
theorem ok_ix : BinOk K wk D.ixo (rIx2 K) := by
  intro as Bs Bw H x y z v w Q h1 h2 rx ry e q
  cases x with
  | lst ds =>
    cases y <;> try (simp only [D.ixo] at e; cases e; done)
    rename_i i
    obtain ⟨a, xs, e1, nb, g1, g2⟩ := rx
    obtain ⟨u, q1, q2⟩ := atI_rep g2 e
    exact .inl (.inl ⟨a, xs, i, u, e1, ry, .inl (.inl g1), q1, q _ _ Evo.refl q2⟩)
  | tup ds =>
    cases y <;> try (simp only [D.ixo] at e; cases e; done)
    rename_i i
    obtain ⟨a, xs, e1, g1, g2⟩ := rx
    obtain ⟨u, q1, q2⟩ := atI_rep g2 e
    exact .inl (.inr (.inl ⟨a, xs, i, u, e1, ry, g1, q1, q _ _ Evo.refl q2⟩))
  | str s =>
    cases y <;> try (simp only [D.ixo] at e; cases e; done)
    rename_i i
    simp only [D.ixo] at e
    split at e
    · rename_i hl
      obtain ⟨c, c1, c2⟩ := Option.map_eq_some_iff.mp e
      subst c2
      exact .inl (.inr (.inr ⟨s, i, c, rx, ry, lineN hl, c1, q _ _ Evo.refl rfl⟩))
    · cases e
  | dic ks ds =>
    simp only [D.ixo] at e
    split at e
    · rename_i k c1
      obtain ⟨a, xs, e1, nb, g1, gl, g2⟩ := rx
      have ek := key_rep ry c1
      subst ek
      obtain ⟨u, q1, q2⟩ := (dicGet_val (j := k) gl g2).2 z e
      exact .inr ⟨a, u, e1, .inl ⟨_, k, g1, rfl, q1.symm⟩, q _ _ Evo.refl q2⟩
    · cases e
  | _ => simp only [D.ixo] at e; cases e
end
end D2

namespace D2
open PySem PySem.Spec PyProof.Rows L2

section
variable {X : Cx} {W : WX2} {wk : Bool} {e a b c : Expr} {es : List Expr} {m ma mb mc : ME} {ms : MA} {mt : MT} {pos : Pos}

/-! ### arguments, displays -/
def mNil : MA := fun _ S => .ok ([], S)
def mCons (m : ME) (ms : MA) : MA := fun sg S => (m sg S).bind fun x => (ms sg x.2).bind fun y => .ok (x.1 :: y.1, y.2)
theorem a2_nil : PA2 X W wk [] mNil := ⟨_, pa_nil, fun B H0 as ks ow sg S σ H Q r h => h [] H Evo.refl r.sto rfl⟩
theorem a2_cons (he : PE2 X W wk e m) (hr : PA2 X W wk es ms) (hs : starEach (e :: es) X.env = (false, eval e X.env) :: starEach es X.env := by rfl) : PA2 X W wk (e :: es) (mCons m ms) := by
  obtain ⟨t, h1, h2⟩ := he
  obtain ⟨u, g1, g2⟩ := hr
  refine ⟨_, pa_cons h1 g1 hs, fun B H0 as ks ow sg S σ H Q r h => ?_⟩
  refine h2 _ _ _ _ _ _ _ _ _ _ r (Den.bind h fun x S1 v H1 _ e1 s1 q1 h1 => ?_)
  refine g2 _ _ _ _ _ _ _ _ _ _ (r.step e1 s1) (Den.bind h1 fun y S2 w H2 _ e2 s2 q2 h2 => ?_)
  exact h2 (v :: w) H2 Evo.refl s2 ⟨v, w, rfl, Rep.imp e2 (asWk r) (fun _ z => z) x v q1, q2⟩
def mTup (ms : MA) : ME := fun sg S => (ms sg S).bind fun x => if x.1.length ≤ 16777216 then .ok (.tup x.1, x.2) else .bad
def mLst (ms : MA) : ME := fun sg S => (ms sg S).bind fun x => if x.1.length ≤ 16777216 then .ok (.lst x.1, x.2) else .bad
theorem stoNew {K : PySem.W.Frag} {as : List Addr} {B : Addr → Prop} {H : Hp} {S : List O} {p : Addr} {o : HO} (s : Sto K as B H S) (hp : H p = none) : Sto K as B (upd H p o) S := s.evo (W := fun _ => False) (Evo.new hp)
theorem e2_tup {k} (h : PA2 X W wk es ms) : PE2 X W wk (.Tuple es k pos) (mTup ms) := by
  obtain ⟨t, h1, h2⟩ := h
  refine ⟨_, pe_tup h1, fun B H0 as ks ow sg S σ H Q r h => ?_⟩
  refine h2 _ _ _ _ _ _ _ _ _ _ r (Den.bind h fun x S1 v H1 _ e1 s1 q1 h1 => ?_)
  by_cases hl : x.length ≤ 16777216
  · simp only [if_pos hl] at h1
    refine ⟨lineN (by rw [← q1.length]; exact hl), fun p hp => h1 _ _ (Evo.new hp) (stoNew s1 hp) ?_⟩
    exact repNewT hp q1
  · simp only [if_neg hl] at h1
    exact False.elim h1
theorem e2_lst (h : PA2 X W wk es ms) : PE2 X W wk (.List es pos) (mLst ms) := by
  obtain ⟨t, h1, h2⟩ := h
  refine ⟨_, pe_lst h1, fun B H0 as ks ow sg S σ H Q r h => ?_⟩
  refine h2 _ _ _ _ _ _ _ _ _ _ r (Den.bind h fun x S1 v H1 _ e1 s1 q1 h1 => ?_)
  by_cases hl : x.length ≤ 16777216
  · simp only [if_pos hl] at h1
    refine ⟨lineN (by rw [← q1.length]; exact hl), fun p hp => h1 _ _ (Evo.new hp) (stoNew s1 hp) ?_⟩
    exact repNewL r.asBd (r.step e1 s1).bdDom hp q1
  · simp only [if_neg hl] at h1
    exact False.elim h1

/-! ### one operand -/
def mUn (f : D → Option D) (m : ME) : ME := fun sg S => (m sg S).bind fun x => R.of ((f x.1).map fun z => (z, x.2))
def D.neg : D → Option D
  | .int i => some (.int (-i))
  | _ => none
theorem e2_neg (h : PE2 X W wk a m) : PE2 X W wk (.UnaryOp .USub a pos) (mUn D.neg m) := by
  obtain ⟨t, h1, h2⟩ := h
  refine ⟨_, pe_un un_neg h1, fun B H0 as ks ow sg S σ H Q r h => ?_⟩
  refine h2 _ _ _ _ _ _ _ _ _ _ r (Den.bind h fun d S1 v H1 e0 e1 s1 q1 h1 => ?_)
  clear e0
  cases d <;> try exact False.elim h1
  rename_i i
  exact ⟨i, q1, h1 _ H1 Evo.refl s1 rfl⟩
def D.nob : D → Option D
  | .bl b => some (.bl (!b))
  | _ => none
theorem e2_not (h : PE2 X W wk a m) : PE2 X W wk (.UnaryOp .Not a pos) (mUn D.nob m) := by
  obtain ⟨t, h1, h2⟩ := h
  refine ⟨_, pe_not h1, fun B H0 as ks ow sg S σ H Q r h => ?_⟩
  refine h2 _ _ _ _ _ _ _ _ _ _ r (Den.bind h fun d S1 v H1 e0 e1 s1 q1 h1 => ?_)
  clear e0
  cases d <;> try exact False.elim h1
  rename_i i
  exact ⟨i, q1, h1 _ H1 Evo.refl s1 rfl⟩

/-! ### and, or as values (of truth values) -/
def mAnd (ma mb : ME) : ME := fun sg S => (ma sg S).bind fun x => match x.1 with
  | .bl true => mb sg x.2
  | .bl false => .ok (.bl false, x.2)
  | _ => .bad
def mOr (ma mb : ME) : ME := fun sg S => (ma sg S).bind fun x => match x.1 with
  | .bl true => .ok (.bl true, x.2)
  | .bl false => mb sg x.2
  | _ => .bad
theorem e2_one {op} (h : PE2 X W wk a m) : PE2 X W wk (.BoolOp op [a] pos) m := by
  obtain ⟨t, h1, h2⟩ := h
  exact ⟨t, pe_one h1, h2⟩
theorem e2_and (ha : PE2 X W wk a ma) (hb : PE2 X W wk (.BoolOp .And (b :: es) pos) mb) : PE2 X W wk (.BoolOp .And (a :: b :: es) pos) (mAnd ma mb) := by
  obtain ⟨t, h1, h2⟩ := ha
  obtain ⟨u, g1, g2⟩ := hb
  refine ⟨_, pe_and h1 g1, fun B H0 as ks ow sg S σ H Q r h => ?_⟩
  refine h2 _ _ _ _ _ _ _ _ _ _ r (Den.bind h fun d S1 v H1 e0 e1 s1 q1 h1 => ?_)
  clear e0
  cases d <;> try exact False.elim h1
  rename_i i
  refine ⟨i, q1, ?_⟩
  cases i with
  | true => exact g2 _ _ _ _ _ _ _ _ _ _ (r.step e1 s1) h1
  | false => exact h1 _ H1 Evo.refl s1 rfl
theorem e2_or (ha : PE2 X W wk a ma) (hb : PE2 X W wk (.BoolOp .Or (b :: es) pos) mb) : PE2 X W wk (.BoolOp .Or (a :: b :: es) pos) (mOr ma mb) := by
  obtain ⟨t, h1, h2⟩ := ha
  obtain ⟨u, g1, g2⟩ := hb
  refine ⟨_, pe_or h1 g1, fun B H0 as ks ow sg S σ H Q r h => ?_⟩
  refine h2 _ _ _ _ _ _ _ _ _ _ r (Den.bind h fun d S1 v H1 e0 e1 s1 q1 h1 => ?_)
  clear e0
  cases d <;> try exact False.elim h1
  rename_i i
  refine ⟨i, q1, ?_⟩
  cases i with
  | false => exact g2 _ _ _ _ _ _ _ _ _ _ (r.step e1 s1) h1
  | true => exact h1 _ H1 Evo.refl s1 rfl

/-! ### tests -/
def D.truth : D → Option Bool
  | .non => some false
  | .bl b => some b
  | .int i => some (i != 0)
  | .str y => if y.length ≤ 16777216 then some ((y.length : Int) != 0) else none
  | .tup ds => some (!ds.isEmpty)
  | .lst ds => some (!ds.isEmpty)
  | .dic ks ds => none
  | .rng _ _ => none
  | .xd _ _ => none
  | .ref _ => none
  | .fn _ _ => none
def mTru (m : ME) : MT := fun sg S => (m sg S).bind fun x => R.of (x.1.truth.map fun b => (b, x.2))
theorem isEmpty_rep {K : PySem.W.Frag} {as : List Addr} {B : Addr → Prop} {H : Hp} {ds : List D} {xs : List V} (h : RepA K as B H ds xs) : ds.isEmpty = xs.isEmpty := by
  have := h.length
  cases ds <;> cases xs <;> first | rfl | cases this
theorem t2_tru (h : PE2 X W wk e m) (he : ∀ whole, isTrue e X.env whole = (do let v ← whole; standAt e.pos; PySem.holding [v] (truthy v)) := by intro _; rfl) : PT2 X W e (mTru m) := by
  obtain ⟨t, h1, h2⟩ := h
  refine ⟨_, pt_truth h1 he, fun B H0 as ks ow sg S σ H Q r h => ?_⟩
  refine h2 _ _ _ _ _ _ _ _ _ _ r (Den.bind h fun d S1 v H1 e0 e1 s1 q1 h1 => ?_)
  clear e0
  cases d with
  | non =>
    have q : v = .non := q1
    subst q
    exact ⟨false, rfl, h1 _ H1 Evo.refl s1 rfl⟩
  | bl b =>
    have q : v = .bl b := q1
    subst q
    exact ⟨b, rfl, h1 _ H1 Evo.refl s1 rfl⟩
  | int i =>
    have q : v = .int i := q1
    subst q
    exact ⟨i != 0, rfl, h1 _ H1 Evo.refl s1 rfl⟩
  | str y =>
    have q : v = .str y := q1
    subst q
    simp only [D.truth] at h1
    by_cases hl : y.length ≤ 16777216
    · simp only [if_pos hl] at h1
      exact ⟨(y.length : Int) != 0, ⟨lineN hl, rfl⟩, h1 _ H1 Evo.refl s1 rfl⟩
    · simp only [if_neg hl] at h1
      exact False.elim h1
  | tup ds =>
    obtain ⟨p, xs, q, g1, g2⟩ := q1
    subst q
    exact ⟨!xs.isEmpty, .inr (.inl ⟨xs, g1, rfl⟩), by rw [← isEmpty_rep g2]; exact h1 _ H1 Evo.refl s1 rfl⟩
  | lst ds =>
    obtain ⟨p, xs, q, nb, g1, g2⟩ := q1
    subst q
    exact ⟨!xs.isEmpty, .inl ⟨xs, SqL.of g1, rfl⟩, by rw [← isEmpty_rep g2]; exact h1 _ H1 Evo.refl s1 rfl⟩
  | dic ks ds => exact False.elim h1
  | rng _ _ => exact False.elim h1
  | xd _ _ => exact False.elim h1
  | ref n => exact False.elim h1
  | fn _ _ => exact False.elim h1
def mNotT (m : MT) : MT := fun sg S => (m sg S).bind fun x => .ok (!x.1, x.2)
theorem t2_not (h : PT2 X W a mt) : PT2 X W (.UnaryOp .Not a pos) (mNotT mt) := by
  obtain ⟨t, h1, h2⟩ := h
  refine ⟨_, pt_not h1, fun B H0 as ks ow sg S σ H Q r h => ?_⟩
  refine h2 _ _ _ _ _ _ _ _ _ _ r (Den.bind h fun d S1 v H1 e0 e1 s1 q1 h1 => ?_)
  have q : v = d := q1
  subst q
  exact h1 _ H1 Evo.refl s1 rfl
def mAndT (ma mb : MT) : MT := fun sg S => (ma sg S).bind fun x => if x.1 = true then mb sg x.2 else .ok (false, x.2)
def mOrT (ma mb : MT) : MT := fun sg S => (ma sg S).bind fun x => if x.1 = true then .ok (true, x.2) else mb sg x.2
theorem w2_pt {mt : MT} (h : PW2 X W e mt) : PT2 X W e mt := by
  obtain ⟨t, h1, h2⟩ := h
  exact ⟨t, h1.pt, h2⟩
theorem w2_and1 {mt : MT} (h : PT2 X W a mt) : PW2 X W (.BoolOp .And [a] pos) mt := by
  obtain ⟨t, h1, h2⟩ := h
  exact ⟨t, pw_and1 h1, h2⟩
theorem w2_or1 {mt : MT} (h : PT2 X W a mt) : PW2 X W (.BoolOp .Or [a] pos) mt := by
  obtain ⟨t, h1, h2⟩ := h
  exact ⟨t, pw_or1 h1, h2⟩
theorem w2_and {ma mb : MT} (ha : PT2 X W a ma) (hb : PW2 X W (.BoolOp .And (b :: es) pos) mb) : PW2 X W (.BoolOp .And (a :: b :: es) pos) (mAndT ma mb) := by
  obtain ⟨t, h1, h2⟩ := ha
  obtain ⟨u, g1, g2⟩ := hb
  refine ⟨_, pw_and h1 g1, fun B H0 as ks ow sg S σ H Q r h => ?_⟩
  refine h2 _ _ _ _ _ _ _ _ _ _ r (Den.bind h fun d S1 v H1 e0 e1 s1 q1 h1 => ?_)
  have q : v = d := q1
  subst q
  cases v with
  | true => exact g2 _ _ _ _ _ _ _ _ _ _ (r.step e1 s1) h1
  | false => exact h1 _ H1 Evo.refl s1 rfl
theorem w2_or {ma mb : MT} (ha : PT2 X W a ma) (hb : PW2 X W (.BoolOp .Or (b :: es) pos) mb) : PW2 X W (.BoolOp .Or (a :: b :: es) pos) (mOrT ma mb) := by
  obtain ⟨t, h1, h2⟩ := ha
  obtain ⟨u, g1, g2⟩ := hb
  refine ⟨_, pw_or h1 g1, fun B H0 as ks ow sg S σ H Q r h => ?_⟩
  refine h2 _ _ _ _ _ _ _ _ _ _ r (Den.bind h fun d S1 v H1 e0 e1 s1 q1 h1 => ?_)
  have q : v = d := q1
  subst q
  cases v with
  | false => exact g2 _ _ _ _ _ _ _ _ _ _ (r.step e1 s1) h1
  | true => exact h1 _ H1 Evo.refl s1 rfl
/-- x is None, x is not None -/
def mIsN (neg : Bool) (m : ME) : ME := fun sg S => (m sg S).bind fun x => .ok (.bl (match x.1 with | .non => !neg | _ => neg), x.2)
theorem isN_rep {K : PySem.W.Frag} {as : List Addr} {B : Addr → Prop} {H : Hp} {d : D} {v : V} (h : Rep K as B H d v) : decide (v = V.non) = (match d with | .non => true | _ => false) := by
  cases d with
  | non => have q : v = .non := h; subst q; rfl
  | bl b => have q : v = .bl b := h; subst q; rfl
  | int b => have q : v = .int b := h; subst q; rfl
  | str b => have q : v = .str b := h; subst q; rfl
  | tup ds => obtain ⟨p, xs, q, _⟩ := h; subst q; rfl
  | lst ds => obtain ⟨p, xs, q, _⟩ := h; subst q; rfl
  | dic ks ds => obtain ⟨p, xs, q, _⟩ := h; subst q; rfl
  | rng _ _ => obtain ⟨p, q, _⟩ := h; subst q; rfl
  | xd _ _ => obtain ⟨p, xs, q, _⟩ := h; subst q; rfl
  | ref n => obtain ⟨p, q, _⟩ := h; subst q; rfl
  | fn t ds => obtain ⟨p, xs, q, _⟩ := h; subst q; rfl
theorem e2_isN {j pos'} (h : PE2 X W wk a m) : PE2 X W wk (.Compare a [.Is] [.Constant .none j pos'] pos) (mIsN false m) := by
  obtain ⟨t, h1, h2⟩ := h
  refine ⟨_, pe_cmp (pc_isN h1) rfl, fun B H0 as ks ow sg S σ H Q r h => ?_⟩
  refine h2 _ _ _ _ _ _ _ _ _ _ r (Den.bind h fun d S1 v H1 e0 e1 s1 q1 h1 => ?_)
  show Q (.bl (decide (v = V.non))) H1
  rw [isN_rep q1]
  exact h1 _ H1 Evo.refl s1 (by cases d <;> rfl)
theorem e2_notN {j pos'} (h : PE2 X W wk a m) : PE2 X W wk (.Compare a [.IsNot] [.Constant .none j pos'] pos) (mIsN true m) := by
  obtain ⟨t, h1, h2⟩ := h
  refine ⟨_, pe_cmp (pc_notN h1) rfl, fun B H0 as ks ow sg S σ H Q r h => ?_⟩
  refine h2 _ _ _ _ _ _ _ _ _ _ r (Den.bind h fun d S1 v H1 e0 e1 s1 q1 h1 => ?_)
  show Q (.bl (!decide (v = V.non))) H1
  rw [isN_rep q1]
  exact h1 _ H1 Evo.refl s1 (by cases d <;> rfl)
/-- a if c else b -/
def mIf (mt : MT) (ma mb : ME) : ME := fun sg S => (mt sg S).bind fun x => if x.1 = true then ma sg x.2 else mb sg x.2
theorem e2_if (hc : PT2 X W c mt) (ha : PE2 X W wk a ma) (hb : PE2 X W wk b mb) : PE2 X W wk (.IfExp c a b pos) (mIf mt ma mb) := by
  obtain ⟨t, h1, h2⟩ := hc
  obtain ⟨u, f1, f2⟩ := ha
  obtain ⟨w, g1, g2⟩ := hb
  refine ⟨_, pe_ifExp h1 f1 g1, fun B H0 as ks ow sg S σ H Q r h => ?_⟩
  refine h2 _ _ _ _ _ _ _ _ _ _ r (Den.bind h fun d S1 v H1 e0 e1 s1 q1 h1 => ?_)
  have q : v = d := q1
  subst q
  cases v with
  | true => exact f2 _ _ _ _ _ _ _ _ _ _ (r.step e1 s1) h1
  | false => exact g2 _ _ _ _ _ _ _ _ _ _ (r.step e1 s1) h1
/-- a < b < c -/
def mChain (f g : D → D → Option D) (ma mb mc : ME) : ME := fun sg S => (ma sg S).bind fun x => (mb sg x.2).bind fun y => match f x.1 y.1 with
  | some (.bl true) => (mc sg y.2).bind fun z => R.of ((g y.1 z.1).map fun u => (u, z.2))
  | some (.bl false) => .ok (.bl false, y.2)
  | _ => .bad
theorem chain_den {op op' : CmpOp} {r2 r2' : R2} {f g : D → D → Option D} {ta tb tc : TE} (hop : BinOk X.K wk f r2) (hop' : BinOk X.K wk g r2')
    (ha : ∀ B H0 as ks ow sg S σ H (Q : VK), Rl X.K B H0 as ks ow sg S σ H → Den (ctOf X W B H0 as ks) ow ((ctOf X W B H0 as ks).rp ow wk) (ma sg S) H Q → ta σ H Q)
    (hb : ∀ B H0 as ks ow sg S σ H (Q : VK), Rl X.K B H0 as ks ow sg S σ H → Den (ctOf X W B H0 as ks) ow ((ctOf X W B H0 as ks).rp ow wk) (mb sg S) H Q → tb σ H Q)
    (hc : ∀ B H0 as ks ow sg S σ H (Q : VK), Rl X.K B H0 as ks ow sg S σ H → Den (ctOf X W B H0 as ks) ow ((ctOf X W B H0 as ks).rp ow wk) (mc sg S) H Q → tc σ H Q)
    {B : Addr → Prop} {H0 : Hp} {as : List Addr} {ks : List (D × V)} {ow : List (Option Addr)} {sg : List Sl} {S : List O} {σ : L2.St} {H : Hp} {Q : VK} (r : Rl X.K B H0 as ks ow sg S σ H) (h : Den (ctOf X W B H0 as ks) ow ((ctOf X W B H0 as ks).rp ow wk) (mChain f g ma mb mc sg S) H Q) : tChain r2 r2' ta tb tc σ H Q := by
  refine ha _ _ _ _ _ _ _ _ _ _ r (Den.bind h fun x S1 v H1 _ e1 s1 q1 h1 => ?_)
  have r1 := r.step e1 s1
  refine hb _ _ _ _ _ _ _ _ _ _ r1 (Den.bind h1 fun y S2 w H2 _ e2 s2 q2 h2 => ?_)
  have r2 := r1.step e2 s2
  have q1' := Rep.imp (B' := if wk then (· ∈ as) else Bd B ow) e2 (asWk r) (fun _ z => z) x v q1
  cases e : f x y with
  | none => simp only [e] at h2; exact False.elim h2
  | some z =>
    refine hop as (Bd B ow) (· ∈ as) H2 x y z v w _ r.asBd r2.bdDom q1' q2 e fun u H' e3 q3 => ?_
    have s3 := r2.stoNew e3
    have r3 := r2.step e3.any s3
    cases z <;> try (simp only [e] at h2; exact False.elim h2)
    rename_i k
    refine ⟨k, q3, ?_⟩
    cases k with
    | false =>
      simp only [e] at h2
      exact h2 _ H' e3.any s3 rfl
    | true =>
      simp only [e] at h2
      refine hc _ _ _ _ _ _ _ _ _ _ r3 (Den.bind (Den.evo e3.any h2) fun z S4 w4 H4 _ e4 s4 q4 h4 => ?_)
      have r4 := r3.step e4 s4
      cases e' : g y z with
      | none => simp only [e'] at h4; exact False.elim h4
      | some u2 =>
        simp only [e'] at h4
        have q2' := Rep.imp (B' := if wk then (· ∈ as) else Bd B ow) (e3.any.trans e4) (asWk r) (fun _ z => z) y w q2
        refine hop' as (Bd B ow) (· ∈ as) H4 y z u2 w w4 Q r.asBd r4.bdDom q2' q4 e' fun u5 H5 e5 q5 => ?_
        exact h4 u5 H5 e5.any (r4.stoNew e5) q5
theorem e2_chain {op op' : CmpOp} {r2 r2' : R2} {f g : D → D → Option D} (ho : OpR X (compareOp op) r2) (hop : BinOk X.K wk f r2) (ho' : OpR X (compareOp op') r2') (hop' : BinOk X.K wk g r2')
    (ha : PE2 X W wk a ma) (hb : PE2 X W wk b mb) (hc : PE2 X W wk c mc) (hm : lastMarks [op, op'] [b, c] = false := by with_unfolding_all rfl) : PE2 X W wk (.Compare a [op, op'] [b, c] pos) (mChain f g ma mb mc) := by
  obtain ⟨ta, a1, a2⟩ := ha
  obtain ⟨tb, b1, b2⟩ := hb
  obtain ⟨tc, c1, c2⟩ := hc
  exact ⟨_, pe_chain ho ho' a1 b1 c1 hm, fun B H0 as ks ow sg S σ H Q r h => chain_den (op := op) (op' := op') hop hop' a2 b2 c2 r h⟩
theorem t2_chain {op op' : CmpOp} {r2 r2' : R2} {f g : D → D → Option D} (ho : OpR X (compareOp op) r2) (hop : BinOk X.K wk f r2) (ho' : OpR X (compareOp op') r2') (hop' : BinOk X.K wk g r2')
    (ha : PE2 X W wk a ma) (hb : PE2 X W wk b mb) (hc : PE2 X W wk c mc) (hm : lastMarks [op, op'] [b, c] = false := by with_unfolding_all rfl) : PT2 X W (.Compare a [op, op'] [b, c] pos) (mTst (mChain f g ma mb mc)) := by
  obtain ⟨ta, a1, a2⟩ := ha
  obtain ⟨tb, b1, b2⟩ := hb
  obtain ⟨tc, c1, c2⟩ := hc
  refine ⟨_, pt_chain ho ho' a1 b1 c1 hm, fun B H0 as ks ow sg S σ H Q r h => ?_⟩
  refine chain_den (op := op) (op' := op') (W := W) hop hop' a2 b2 c2 r (Q := fun x H' => ∃ k, x = .bl k ∧ Q k H') (Den.bind h fun d S' v H' e0 e s q h => ?_)
  clear e0
  cases d <;> try exact False.elim h
  rename_i b
  have e : v = .bl b := q
  exact ⟨b, e, h b H' Evo.refl s rfl⟩

/-! ### calls of built-ins -/
def CallOk (K : PySem.W.Frag) (wk : Bool) (f : List D → Option D) (r : List V → Hp → VK → Prop) : Prop := ∀ (as : List Addr) (Bs Bw : Addr → Prop) (H : Hp) (ds : List D) (z : D) (vs : List V) (Q : VK), (∀ a, Bw a → Bs a) → (∀ a, Bs a → H a ≠ none) →
  RepA K as (if wk then Bw else Bs) H ds vs → f ds = some z → (∀ u H', Evo K (fun _ => False) H H' → Rep K as (if wk then Bw else Bs) H' z u → Q u H') → r vs H Q
def mBi (f : List D → Option D) (ms : MA) : ME := fun sg S => (ms sg S).bind fun x => R.of ((f x.1).map fun z => (z, x.2))
theorem bi_den {r2 : List V → Hp → VK → Prop} {f : List D → Option D} {ta : TA} (hop : CallOk X.K wk f r2)
    (ha : ∀ B H0 as ks ow sg S σ H (Q : List V → Hp → Prop), Rl X.K B H0 as ks ow sg S σ H → Den (ctOf X W B H0 as ks) ow ((ctOf X W B H0 as ks).rpa ow wk) (ms sg S) H Q → ta σ H Q)
    {B : Addr → Prop} {H0 : Hp} {as : List Addr} {ks : List (D × V)} {ow : List (Option Addr)} {sg : List Sl} {S : List O} {σ : L2.St} {H : Hp} {Q : VK} (r : Rl X.K B H0 as ks ow sg S σ H) (h : Den (ctOf X W B H0 as ks) ow ((ctOf X W B H0 as ks).rp ow wk) (mBi f ms sg S) H Q) : tCB r2 ta σ H Q := by
  refine ha _ _ _ _ _ _ _ _ _ _ r (Den.bind h fun x S1 v H1 _ e1 s1 q1 h1 => ?_)
  have r1 := r.step e1 s1
  cases e : f x with
  | none => simp only [e] at h1; exact False.elim h1
  | some z =>
    simp only [e] at h1
    exact hop as (Bd B ow) (· ∈ as) H1 x z v Q r.asBd r1.bdDom q1 e fun u H' e3 q3 => h1 u H' e3.any (r1.stoNew e3) q3
theorem e2_callB {id : String} {x : Str} {p : Pos} {r2 : List V → Hp → VK → Prop} {f : List D → Option D} (hc : CallR X (.builtin id) r2) (hop : CallOk X.K wk f r2) (hg : Gl X x) (hm : X.mg x = none) (hv : bootBuiltins x = some (.builtin id)) (ha : PA2 X W wk (e :: es) ms)
    (hn : x ≠ "__name__" := by decide) (hdb : (x == ("__debug__" : Str)) = false := by decide) (he : starEach (e :: es) X.env = (false, eval e X.env) :: starEach es X.env := by rfl) (hpl : (backTo pos (starEach es X.env)).any (·.1) = false := by rfl) :
    PE2 X W wk (.Call (.Name x p) (e :: es) [] pos) (mBi f ms) := by
  obtain ⟨ta, a1, a2⟩ := ha
  exact ⟨_, pe_callB hc hg hm hv a1 hn hdb he hpl, fun B H0 as ks ow sg S σ H Q r h => bi_den hop a2 r h⟩
theorem e2_callTy {T : String} {x : Str} {p : Pos} {r2 : List V → Hp → VK → Prop} {f : List D → Option D} (hc : CallR X (.type T) r2) (hop : CallOk X.K wk f r2) (hg : Gl X x) (hm : X.mg x = none) (hv : bootBuiltins x = some (.type T)) (ha : PA2 X W wk (e :: es) ms)
    (hn : x ≠ "__name__" := by decide) (hdb : (x == ("__debug__" : Str)) = false := by decide) (he : starEach (e :: es) X.env = (false, eval e X.env) :: starEach es X.env := by rfl) (hpl : (backTo pos (starEach es X.env)).any (·.1) = false := by rfl) :
    PE2 X W wk (.Call (.Name x p) (e :: es) [] pos) (mBi f ms) := by
  obtain ⟨ta, a1, a2⟩ := ha
  exact ⟨_, pe_callTy hc hg hm hv a1 hn hdb he hpl, fun B H0 as ks ow sg S σ H Q r h => bi_den hop a2 r h⟩
end
end D2

namespace D2
open PySem PySem.Spec PyProof.Rows L2

/-! ### how the state goes on -/
section
variable {K : PySem.W.Frag} {as : List Addr} {B : Addr → Prop} {H H0 H' : Hp} {ks : List (D × V)} {ow : List (Option Addr)} {sg : List Sl} {S S' : List O} {σ : L2.St}
theorem mem_set_none {i : Nat} {a : Addr} (h : some a ∈ ow.set i none) : some a ∈ ow := by
  rcases List.mem_or_eq_of_mem_set h with h | h
  · exact h
  · cases h
theorem bd_none {i : Nat} : ∀ a, Bd B (ow.set i none) a → Bd B ow a := fun a h => h.imp id mem_set_none
/-- what stands in slots other than i -/
theorem Sto.weak {B' : Addr → Prop} (s : Sto K as B H S) (h : ∀ a, B' a → B a) : Sto K as B' H S :=
  ⟨s.len, s.nd, fun n o e => let ⟨a, h1, h2⟩ := s.ob n o e; ⟨a, h1, ORep.imp (W := fun _ => False) Evo.refl (fun _ z => z.elim) h o a (fun z => z) h2⟩, s.tab⟩
theorem SlRep.weak {B' : Addr → Prop} {s : Sl} {w : Option Addr} {x : Option V} (h : ∀ a, B' a → B a) (q : SlRep K as B H s w x) : SlRep K as B' H s w x := by
  cases s with
  | no => exact q
  | val d =>
    obtain ⟨q1, v, q2, q3⟩ := q
    exact ⟨q1, v, q2, Rep.imp (W := fun _ => False) Evo.refl (fun _ z => z.elim) h d v q3⟩
  | own o =>
    obtain ⟨a, q1, q2, q3⟩ := q
    exact ⟨a, q1, q2, ORep.imp (W := fun _ => False) Evo.refl (fun _ z => z.elim) h o a (fun z => z) q3⟩
theorem Rl.setVal (r : Rl K B H0 as ks ow sg S σ H) (i : Nat) {d : D} {v : V} (h : Rep K as (Bd B ow) H d v) : Rl K B H0 as ks (ow.set i none) (sg.set i (.val d)) S (σ.set i (some v)) H := by
  refine ⟨by simpa only [List.length_set] using r.lo, by simpa using r.ls, fun j s hs => ?_, fun j k a hj hk => ?_, fun a ha => r.new a (mem_set_none ha), fun a ha => r.odom a (mem_set_none ha), r.bdom, r.asB, r.evo, r.sto.weak bd_none, fun p hp => Rep.imp (W := fun _ => False) Evo.refl (fun _ z => z.elim) bd_none _ _ (r.kp p hp)⟩
  · by_cases hij : i = j
    · subst hij
      have hl : i < sg.length := by
        have := (List.getElem?_eq_some_iff.mp hs).1
        simpa using this
      rw [List.getElem?_set_self hl] at hs
      cases hs
      exact ⟨none, some v, List.getElem?_set_self (Nat.lt_of_lt_of_le hl r.lo), List.getElem?_set_self (by rw [r.ls]; exact hl), rfl, v, rfl, Rep.imp (W := fun _ => False) Evo.refl (fun _ z => z.elim) bd_none d v h⟩
    · rw [List.getElem?_set_ne hij] at hs ⊢
      rw [List.getElem?_set_ne hij]
      obtain ⟨w, x, h1, h2, h3⟩ := r.sl j s hs
      exact ⟨w, x, h1, h2, h3.weak bd_none⟩
  · have e : ∀ k, (ow.set i none)[k]? = some (some a) → ow[k]? = some (some a) := fun k e => by
      by_cases hik : i = k
      · subst hik
        have hl : i < ow.length := by
          have := (List.getElem?_eq_some_iff.mp e).1
          simpa using this
        rw [List.getElem?_set_self hl] at e
        cases e
      · rwa [List.getElem?_set_ne hik] at e
    exact r.inj j k a (e j hj) (e k hk)
theorem Rl.setOwn (r : Rl K B H0 as ks ow sg S σ H) (i : Nat) {o : O} {a : Addr} (hi : i < sg.length) (ha : H a = none) (e : Evo K (· ∈ as) H H') (s : Sto K as (fun b => Bd B ow b ∨ b = a) H' S') (h : ORep K as (fun b => Bd B ow b ∨ b = a) H' o a) :
    Rl K B H0 as ks (ow.set i (some a)) (sg.set i (.own o)) S' (σ.set i (some (.ref a))) H' := by
  have h0 : H0 a = none := r.evo.back ha
  have mem : ∀ b, some b ∈ ow.set i (some a) → some b ∈ ow ∨ b = a := fun b hb => by
    rcases List.mem_or_eq_of_mem_set hb with hb | hb
    · exact .inl hb
    · exact .inr (Option.some.inj hb)
  have bd : ∀ b, Bd B (ow.set i (some a)) b → Bd B ow b ∨ b = a := fun b hb => by
    rcases hb with hb | hb
    · exact .inl (.inl hb)
    · rcases mem b hb with hb | hb
      · exact .inl (.inr hb)
      · exact .inr hb
  have notin : some a ∉ ow := fun z => by
    exact r.bdDom a (.inr z) ha
  refine ⟨by simpa only [List.length_set] using r.lo, by simpa using r.ls, fun j t hs => ?_, fun j k b hj hk => ?_, fun b hb => ?_, fun b hb => ?_, r.bdom, r.asB, r.evo.trans e, s.weak bd, fun p hp => Rep.imp e (fun b hb => .inl (r.asB b hb)) (fun _ z => z) _ _ (Rep.more ha bd _ _ (r.kp p hp))⟩
  · by_cases hij : i = j
    · subst hij
      rw [List.getElem?_set_self hi] at hs
      cases hs
      exact ⟨some a, some (.ref a), List.getElem?_set_self (Nat.lt_of_lt_of_le hi r.lo), List.getElem?_set_self (by rw [r.ls]; exact hi), a, rfl, rfl, ORep.imp (W := fun _ => False) Evo.refl (fun _ z => z.elim) bd o a (fun z => z) h⟩
    · rw [List.getElem?_set_ne hij] at hs ⊢
      rw [List.getElem?_set_ne hij]
      obtain ⟨w, x, h1, h2, h3⟩ := r.sl j t hs
      refine ⟨w, x, h1, h2, ?_⟩
      have as' : ∀ b, b ∈ as → Bd B (ow.set i (some a)) b := fun b hb => .inl (r.asB b hb)
      cases t with
      | no => exact h3
      | val d =>
        obtain ⟨q1, v, q2, q3⟩ := h3
        exact ⟨q1, v, q2, Rep.imp e as' (fun _ z => z) d v (Rep.more ha bd d v q3)⟩
      | own o' =>
        obtain ⟨b, q1, q2, q3⟩ := h3
        subst q1
        exact ⟨b, rfl, q2, ORep.imp e as' (fun _ z => z) o' b (r.ownAs (List.mem_of_getElem? h1)) (ORep.more ha bd o' b q3)⟩
  · have up : ∀ k b, (ow.set i (some a))[k]? = some (some b) → (k = i ∧ b = a) ∨ (k ≠ i ∧ ow[k]? = some (some b)) := fun k b e => by
      by_cases hik : i = k
      · subst hik
        rw [List.getElem?_set_self (Nat.lt_of_lt_of_le hi r.lo)] at e
        exact .inl ⟨rfl, (Option.some.inj (Option.some.inj e)).symm⟩
      · rw [List.getElem?_set_ne hik] at e
        exact .inr ⟨fun z => hik z.symm, e⟩
    rcases up j b hj with ⟨e1, e2⟩ | ⟨e1, e2⟩
    · rcases up k b hk with ⟨f1, f2⟩ | ⟨f1, f2⟩
      · rw [e1, f1]
      · exact absurd (List.mem_of_getElem? f2) (by rw [e2]; exact notin)
    · rcases up k b hk with ⟨f1, f2⟩ | ⟨f1, f2⟩
      · exact absurd (List.mem_of_getElem? e2) (by rw [f2]; exact notin)
      · exact r.inj j k b e2 f2
  · rcases mem b hb with hb | hb
    · exact r.new b hb
    · rw [hb]; exact h0
  · rcases mem b hb with hb | hb
    · exact e.dom b (r.odom b hb)
    · obtain ⟨u, hu, _⟩ := h.there
      rw [hb, hu]
      exact fun z => nomatch z
/-- an owned object is changed -/
theorem Rl.putOwn (r : Rl K B H0 as ks ow sg S σ H) {i : Nat} {o o' : O} {a : Addr} {u : HO} (hi : sg[i]? = some (.own o)) (hw : ow[i]? = some (some a)) (hu : ORep K as (Bd B ow) (upd H a u) o' a) :
    Rl K B H0 as ks ow (sg.set i (.own o')) S σ (upd H a u) := by
  obtain ⟨w, x, h1, h2, b, h3, h4, h5⟩ := r.sl i _ hi
  subst h3
  rw [hw] at h1
  cases h1
  obtain ⟨t, ht, n1, n2, n3, n4⟩ := h5.there
  have ha := List.mem_of_getElem? hw
  have e : Evo K (· = a) H (upd H a u) := Evo.put ht n1 n2 rfl n3 n4
  have bda : ∀ b, b = a → Bd B ow b := fun b z => .inr (z ▸ ha)
  have il : i < sg.length := (List.getElem?_eq_some_iff.mp hi).1
  have e0 : Evo K (· ∈ as) H0 (upd H a u) := by
    have n0 := r.new a ha
    exact r.evo.upd0 n0 e
  refine ⟨by simpa only [List.length_set] using r.lo, by simpa using r.ls, fun j s hs => ?_, r.inj, r.new, fun b hb => e.dom b (r.odom b hb), r.bdom, r.asB, e0, ⟨r.sto.len, r.sto.nd, fun n o hn => ?_, fun p hp => e.tabs _ _ hp (r.sto.tab p hp)⟩, fun p hp => Rep.imp e bda (fun _ z => z) _ _ (r.kp p hp)⟩
  · by_cases hij : i = j
    · subst hij
      rw [List.getElem?_set_self il] at hs
      cases hs
      exact ⟨some a, x, hw, h2, a, rfl, h4, hu⟩
    · rw [List.getElem?_set_ne hij] at hs
      obtain ⟨w, y, g1, g2, g3⟩ := r.sl j s hs
      refine ⟨w, y, g1, g2, ?_⟩
      cases s with
      | no => exact g3
      | val d =>
        obtain ⟨q1, v, q2, q3⟩ := g3
        exact ⟨q1, v, q2, Rep.imp e bda (fun _ z => z) d v q3⟩
      | own o2 =>
        obtain ⟨b, q1, q2, q3⟩ := g3
        subst q1
        exact ⟨b, rfl, q2, ORep.imp e bda (fun _ z => z) o2 b (fun z => hij (r.inj i j a hw (z ▸ g1))) q3⟩
  · obtain ⟨b, q1, q2⟩ := r.sto.ob n o hn
    exact ⟨b, q1, ORep.imp e bda (fun _ z => z) o b (fun z => r.ownAs ha (z ▸ List.mem_of_getElem? q1)) q2⟩
/-- an object of the store is changed -/
theorem Rl.putSto (r : Rl K B H0 as ks ow sg S σ H) {n : Nat} {o : O} {a : Addr} {u t : HO} (hn : as[n]? = some a) (ht : H a = some t) (n1 : ∀ xs, t ≠ .tup xs) (n2 : ∀ ob w, t ≠ .frz ob w) (n3 : ∀ φ, t ≠ .ext φ) (n4 : ∀ ps, t ≠ .tbl ps) (hu : ORep K as (Bd B ow) (upd H a u) o a) :
    Rl K B H0 as ks ow sg (S.set n o) σ (upd H a u) ∧ Evo K (· ∈ as) H (upd H a u) := by
  have e : Evo K (· ∈ as) H (upd H a u) := Evo.put ht n1 n2 (List.mem_of_getElem? hn) n3 n4
  have e1 : Evo K (· = a) H (upd H a u) := Evo.put ht n1 n2 rfl n3 n4
  have bda : ∀ b, b = a → Bd B ow b := fun b z => r.asBd b (z ▸ List.mem_of_getElem? hn)
  have s : Sto K as (Bd B ow) (upd H a u) (S.set n o) := by
    refine ⟨by simpa using r.sto.len, r.sto.nd, fun m x hm => ?_, fun p hp => e.tabs _ _ hp (r.sto.tab p hp)⟩
    by_cases hnm : n = m
    · subst hnm
      have hl : n < S.length := by
        have := (List.getElem?_eq_some_iff.mp hm).1
        simpa using this
      rw [List.getElem?_set_self hl] at hm
      cases hm
      exact ⟨a, hn, hu⟩
    · rw [List.getElem?_set_ne hnm] at hm
      obtain ⟨b, q1, q2⟩ := r.sto.ob m x hm
      refine ⟨b, q1, ORep.imp e1 bda (fun _ z => z) x b (fun z => hnm ?_) q2⟩
      exact nd_ix r.sto.nd hn (z ▸ q1)
  exact ⟨r.step e s, e⟩
/-- a list that a name owns is let go: it will not change any more -/
def O.toD : O → D
  | .lst ds => .lst ds
  | .dic ks ds => .dic ks ds
def frz (i : Nat) (sg : List Sl) : List Sl := match sg[i]? with
  | some (.own o) => sg.set i (.val o.toD)
  | _ => sg
theorem ORep.rep {B' : Addr → Prop} {o : O} {a : Addr} (h : ORep K as B H o a) (hB : ∀ b, B' b → B b) (n : ¬ B' a) : Rep K as B' H o.toD (.ref a) := by
  cases o with
  | lst ds =>
    obtain ⟨xs, h1, h2⟩ := h
    exact ⟨a, xs, rfl, n, h1, RepA.imp (W := fun _ => False) Evo.refl (fun _ z => z.elim) hB _ _ h2⟩
  | dic ks ds =>
    obtain ⟨xs, h1, hl, h2⟩ := h
    exact ⟨a, xs, rfl, n, .inl h1, hl, RepA.imp (W := fun _ => False) Evo.refl (fun _ z => z.elim) hB _ _ h2⟩
theorem Rl.frz (r : Rl K B H0 as ks ow sg S σ H) (i : Nat) : ∃ ow', Rl K B H0 as ks ow' (D2.frz i sg) S σ H := by
  unfold D2.frz
  cases e : sg[i]? with
  | none => exact ⟨ow, r⟩
  | some s =>
    cases s with
    | no => exact ⟨ow, r⟩
    | val d => exact ⟨ow, r⟩
    | own o =>
      obtain ⟨w, x, h1, h2, a, h3, h4, h5⟩ := r.sl i _ e
      subst h3
      subst h4
      have il : i < sg.length := (List.getElem?_eq_some_iff.mp e).1
      have na : ¬ Bd B (ow.set i none) a := fun z => by
        rcases z with z | z
        · exact r.ownNo (List.mem_of_getElem? h1) z
        · obtain ⟨j, hj⟩ := List.getElem?_of_mem z
          by_cases hij : i = j
          · subst hij
            rw [List.getElem?_set_self (Nat.lt_of_lt_of_le il r.lo)] at hj
            cases hj
          · rw [List.getElem?_set_ne hij] at hj
            exact hij (r.inj i j a h1 hj)
      have q := h5.rep (B' := Bd B (ow.set i none)) bd_none na
      refine ⟨ow.set i none, ?_⟩
      refine ⟨by simpa only [List.length_set] using r.lo, by simpa using r.ls, fun j s hs => ?_, fun j k b hj hk => ?_, fun b hb => r.new b (mem_set_none hb), fun b hb => r.odom b (mem_set_none hb), r.bdom, r.asB, r.evo, r.sto.weak bd_none, fun p hp => Rep.imp (W := fun _ => False) Evo.refl (fun _ z => z.elim) bd_none _ _ (r.kp p hp)⟩
      · by_cases hij : i = j
        · subst hij
          rw [List.getElem?_set_self il] at hs
          cases hs
          exact ⟨none, some (.ref a), List.getElem?_set_self (Nat.lt_of_lt_of_le il r.lo), h2, rfl, _, rfl, q⟩
        · rw [List.getElem?_set_ne hij] at hs ⊢
          obtain ⟨w, x, g1, g2, g3⟩ := r.sl j s hs
          exact ⟨w, x, g1, g2, g3.weak bd_none⟩
      · have e : ∀ k, (ow.set i none)[k]? = some (some b) → ow[k]? = some (some b) := fun k e => by
          by_cases hik : i = k
          · subst hik
            rw [List.getElem?_set_self (Nat.lt_of_lt_of_le il r.lo)] at e
            cases e
          · rwa [List.getElem?_set_ne hik] at e
        exact r.inj j k b (e j hj) (e k hk)
end

/-! ### statements -/
section
variable {X : Cx} {W : WX2} {wk : Bool} {e a b c : Expr} {es : List Expr} {m ma mb mc : ME} {ms : MA} {mt : MT} {m1 m2 : MS} {pos : Pos} {st : Stmt} {rest ss ts : List Stmt}
def mSeq (m1 m2 : MS) : MS := fun sg S => (m1 sg S).bind fun x => match x.1 with
  | .nx => m2 x.2.1 x.2.2
  | f => .ok (f, x.2)
def mNx : MS := fun sg S => .ok (.nx, sg, S)
theorem ss_nil : PSs2 X W [] mNx := ⟨_, pss_nil, fun B H0 as ks ow sg S σ H Dd r h => h ow σ H r⟩
theorem ss_cons (h1 : PS2 X W st m1) (h2 : PSs2 X W rest m2) : PSs2 X W (st :: rest) (mSeq m1 m2) := by
  obtain ⟨t, g1, g2⟩ := h1
  obtain ⟨u, f1, f2⟩ := h2
  refine ⟨_, pss_cons g1 f1, fun B H0 as ks ow sg S σ H Dd r h => ?_⟩
  refine g2 _ _ _ _ _ _ _ _ _ _ r ?_
  unfold mSeq at h
  revert h
  cases m1 sg S with
  | ok x =>
    obtain ⟨fl, sg', S'⟩ := x
    cases fl with
    | nx => exact fun h ow' σ' H' r' => f2 _ _ _ _ _ _ _ _ _ _ r' h
    | bk => exact fun h => h
    | ct => exact fun h => h
    | rt d => exact fun h => h
  | ex x sg' S' => exact fun h => h
  | bad => exact fun h => h
theorem ss_one (h1 : PS2 X W st m1) : PSs2 X W [st] m1 := by
  obtain ⟨t, g1, g2⟩ := h1
  exact ⟨_, pss_one g1, g2⟩
/-- an expression within a statement -/
theorem DenS.bindE {c : Ct} {ow : List (Option Addr)} {β γ : Type} {Rp : Hp → γ → β → Prop} {r : R (γ × List O)} {f : γ × List O → R (Fl × List Sl × List O)} {H : Hp} {Dd : Ends} {Q' : β → Hp → Prop} (h : DenS c (r.bind f) Dd)
    (k : ∀ d S' v H', r = .ok (d, S') → Evo c.K (· ∈ c.as) H H' → Sto c.K c.as (Bd c.B ow) H' S' → Rp H' d v → DenS c (f (d, S')) Dd → Q' v H') : Den c ow Rp r H Q' := by
  cases r with
  | ok a => obtain ⟨d, S'⟩ := a; exact fun v H' e s q => k d S' v H' rfl e s q h
  | ex e' sg S' => exact h
  | bad => exact h
theorem s2_pass : PS2 X W (.Pass pos) mNx := ⟨_, ps_pass, fun B H0 as ks ow sg S σ H Dd r h => h ow σ H r⟩
theorem s2_doc {x : Str} {j p'} : PS2 X W (.Expr (.Constant (.str x) j pos) p') mNx := ⟨_, ps_doc, fun B H0 as ks ow sg S σ H Dd r h => h ow σ H r⟩
def mBk : MS := fun sg S => .ok (.bk, sg, S)
def mCt : MS := fun sg S => .ok (.ct, sg, S)
theorem s2_break : PS2 X W (.Break pos) mBk := ⟨_, ps_break, fun B H0 as ks ow sg S σ H Dd r h => h ow σ H r⟩
theorem s2_cont : PS2 X W (.Continue pos) mCt := ⟨_, ps_continue, fun B H0 as ks ow sg S σ H Dd r h => h ow σ H r⟩
def mDrop (m : ME) : MS := fun sg S => (m sg S).bind fun x => .ok (.nx, sg, x.2)
theorem s2_expr (h : PE2 X W wk e m) (hs : swapsWith e none pos.line X.env = pure false := by rfl) : PS2 X W (.Expr e pos) (mDrop m) := by
  obtain ⟨t, h1, h2⟩ := h
  refine ⟨_, ps_expr h1 hs, fun B H0 as ks ow sg S σ H Dd r h => ?_⟩
  refine h2 _ _ _ _ _ _ _ _ _ _ r (DenS.bindE h fun d S1 v H1 _ e1 s1 q1 h1 => ?_)
  exact h1 ow σ H1 (r.step e1 s1)
theorem bdB {B : Addr → Prop} {ow : List (Option Addr)} : ∀ a, B a → Bd B ow a := fun _ h => .inl h
def mRet (m : ME) : MS := fun sg S => (m sg S).bind fun x => .ok (.rt x.1, sg, x.2)
theorem s2_ret (h : PE2 X W false e m) : PS2 X W (.Return (some e) pos) (mRet m) := by
  obtain ⟨t, h1, h2⟩ := h
  refine ⟨_, ps_ret h1, fun B H0 as ks ow sg S σ H Dd r h => ?_⟩
  refine h2 _ _ _ _ _ _ _ _ _ _ r (DenS.bindE h fun d S1 v H1 _ e1 s1 q1 h1 => ?_)
  exact h1 v H1 (r.evo.trans e1) (s1.weak bdB) (Rep.imp (W := fun _ => False) Evo.refl (fun _ z => z.elim) bdB d v q1)
def mRetN : MS := fun sg S => .ok (.rt .non, sg, S)
theorem s2_retN : PS2 X W (.Return none pos) mRetN := ⟨_, ps_retN, fun B H0 as ks ow sg S σ H Dd r h => h .non H r.evo (r.sto.weak bdB) rfl⟩
def mIfS (mt : MT) (m1 m2 : MS) : MS := fun sg S => (mt sg S).bind fun x => if x.1 = true then m1 sg x.2 else m2 sg x.2
theorem s2_if (hc : PT2 X W c mt) (ha : PSs2 X W ss m1) (hb : PSs2 X W ts m2) : PS2 X W (.If c ss ts pos) (mIfS mt m1 m2) := by
  obtain ⟨t, h1, h2⟩ := hc
  obtain ⟨u, f1, f2⟩ := ha
  obtain ⟨w, g1, g2⟩ := hb
  refine ⟨_, ps_if h1 f1 g1, fun B H0 as ks ow sg S σ H Dd r h => ?_⟩
  refine h2 _ _ _ _ _ _ _ _ _ _ r (DenS.bindE h fun d S1 v H1 e0 e1 s1 q1 h1 => ?_)
  have q : v = d := q1
  subst q
  cases v with
  | true => exact f2 _ _ _ _ _ _ _ _ _ _ (r.step e1 s1) h1
  | false => exact g2 _ _ _ _ _ _ _ _ _ _ (r.step e1 s1) h1
/-- before a statement a name's own list may be let go -/
def mFrz (i : Nat) (m : MS) : MS := fun sg S => m (frz i sg) S
theorem s2_frz (i : Nat) (h : PS2 X W st m1) : PS2 X W st (mFrz i m1) := by
  obtain ⟨t, h1, h2⟩ := h
  refine ⟨t, h1, fun B H0 as ks ow sg S σ H Dd r h => ?_⟩
  obtain ⟨ow', r'⟩ := r.frz i
  exact h2 _ _ _ _ _ _ _ _ _ _ r' h
/-- x = e -/
def mSet (i : Nat) (m : ME) : MS := fun sg S => (m sg S).bind fun x => .ok (.nx, sg.set i (.val x.1), x.2)
theorem s2_set (i : Nat) {x : Str} {px : Pos} (hN : X.N.Nodup) (h : PE2 X W false e m) (hi : X.N[i]? = some x := by rfl) (hx : Loc X.env.scope x := by first | exact Or.inl rfl | exact Or.inr rfl) (hf : X.fn x = true ∨ X.env.scope.names.lookup x = some .local := by first | exact .inl rfl | exact .inr rfl)
    (hs : swapsWithSole [.Name x px] e pos.line X.env = pure false := by rfl) (hw : swappedStores [.Name x px] e X.env = pure none := by rfl) (h1 : (assignEach [.Name x px] X.env).map (·.2) = [assign (.Name x px) X.env] := by rfl) : PS2 X W (.Assign [.Name x px] e pos) (mSet i m) := by
  obtain ⟨t, h1', h2⟩ := h
  refine ⟨_, ps_asg h1' (pg_name hN hi hx hf) hs hw h1, fun B H0 as ks ow sg S σ H Dd r h => ?_⟩
  refine h2 _ _ _ _ _ _ _ _ _ _ r (DenS.bindE h fun d S1 v H1 _ e1 s1 q1 h1 => ?_)
  exact h1 _ _ H1 ((r.step e1 s1).setVal i q1)

/-! ### an expression that makes a new list or dict -/
abbrev MO := List Sl → List O → R (O × List O)
def DenO (c : Ct) (ow : List (Option Addr)) (r : R (O × List O)) (H : Hp) (Q : VK) : Prop := match r with
  | .ok (o, S') => ∀ a H', H a = none → Evo c.K (· ∈ c.as) H H' → Sto c.K c.as (fun b => Bd c.B ow b ∨ b = a) H' S' → ORep c.K c.as (fun b => Bd c.B ow b ∨ b = a) H' o a → Q (.ref a) H'
  | .ex e sg S' => ExW c e sg S'
  | .bad => False
def PF2 (X : Cx) (W : WX2) (e : Expr) (m : MO) : Prop := ∃ t : TE, PE X e t ∧ ∀ B H0 as ks ow sg S σ H (Q : VK), Rl X.K B H0 as ks ow sg S σ H → DenO (ctOf X W B H0 as ks) ow (m sg S) H Q → t σ H Q
theorem DenO.bind {c : Ct} {ow : List (Option Addr)} {α β : Type} {Rp : Hp → α → β → Prop} {r : R (α × List O)} {f : α × List O → R (O × List O)} {H : Hp} {Q : VK} {Q' : β → Hp → Prop} (h : DenO c ow (r.bind f) H Q)
    (k : ∀ d S' v H', r = .ok (d, S') → Evo c.K (· ∈ c.as) H H' → Sto c.K c.as (Bd c.B ow) H' S' → Rp H' d v → DenO c ow (f (d, S')) H' Q → Q' v H') : Den c ow Rp r H Q' := by
  cases r with
  | ok a =>
    obtain ⟨d, S'⟩ := a
    refine fun v H' e s q => k d S' v H' rfl e s q ?_
    revert h
    show DenO c ow (f (d, S')) H Q → _
    cases f (d, S') with
    | ok b => obtain ⟨o, S2⟩ := b; exact fun h a H2 ha e2 => h a H2 (e.back ha) (e.trans e2)
    | ex e' sg S' => exact fun h => h
    | bad => exact fun h => h
  | ex e' sg S' => exact h
  | bad => exact h
def mOfO (m : MO) : ME := fun sg S => (m sg S).bind fun x => .ok (x.1.toD, x.2)
theorem e2_ofO {mo : MO} (h : PF2 X W e mo) : PE2 X W wk e (mOfO mo) := by
  refine e2_weak ?_
  obtain ⟨t, h1, h2⟩ := h
  refine ⟨t, h1, fun B H0 as ks ow sg S σ H Q r h => h2 _ _ _ _ _ _ _ _ _ _ r ?_⟩
  unfold mOfO at h
  revert h
  cases mo sg S with
  | ok x =>
    obtain ⟨o, S'⟩ := x
    intro h a H' ha e s q
    exact h _ H' e (s.weak fun _ z => .inl z) (q.rep (fun _ z => .inl z) fun z => r.bdDom a z ha)
  | ex e' sg S' => exact fun h => h
  | bad => exact fun h => h
/-- x = a new list -/
def mSetO (i : Nat) (m : MO) : MS := fun sg S => (m sg S).bind fun x => if i < sg.length then .ok (.nx, sg.set i (.own x.1), x.2) else .bad
theorem s2_own (i : Nat) {mo : MO} {x : Str} {px : Pos} (hN : X.N.Nodup) (h : PF2 X W e mo) (hi : X.N[i]? = some x := by rfl) (hx : Loc X.env.scope x := by first | exact Or.inl rfl | exact Or.inr rfl) (hf : X.fn x = true ∨ X.env.scope.names.lookup x = some .local := by first | exact .inl rfl | exact .inr rfl)
    (hs : swapsWithSole [.Name x px] e pos.line X.env = pure false := by rfl) (hw : swappedStores [.Name x px] e X.env = pure none := by rfl) (h1 : (assignEach [.Name x px] X.env).map (·.2) = [assign (.Name x px) X.env] := by rfl) : PS2 X W (.Assign [.Name x px] e pos) (mSetO i mo) := by
  obtain ⟨t, h1', h2⟩ := h
  refine ⟨_, ps_asg h1' (pg_name hN hi hx hf) hs hw h1, fun B H0 as ks ow sg S σ H Dd r h => ?_⟩
  refine h2 _ _ _ _ _ _ _ _ _ _ r ?_
  unfold mSetO at h
  revert h
  cases mo sg S with
  | ok x =>
    obtain ⟨o, S'⟩ := x
    intro h a H' ha e s q
    by_cases il : i < sg.length
    · simp only [R.bind, if_pos il] at h
      exact h _ _ H' (r.setOwn i il ha e s q)
    · simp only [R.bind, if_neg il] at h
      exact False.elim h
  | ex e' sg S' => exact fun h => h
  | bad => exact fun h => h
theorem boxNew {K : PySem.W.Frag} {as : List Addr} {Bs : Addr → Prop} {H : Hp} {S : List O} {p : Addr} {o : HO} (hp : H p = none) (s : Sto K as Bs H S) : Sto K as (fun b => Bs b ∨ b = p) (upd H p o) S :=
  ⟨s.len, s.nd, fun n x e => let ⟨a, h1, h2⟩ := s.ob n x e; ⟨a, h1, ORep.imp (W := fun _ => False) (Evo.new hp) (fun _ z => z.elim) (fun _ z => z) x a (fun z => z) (ORep.more hp (fun _ z => z) x a h2)⟩, fun q hq => (Evo.new (W := fun _ => False) hp).tabs _ _ hq (s.tab q hq)⟩
theorem boxNewA {K : PySem.W.Frag} {as : List Addr} {Bs : Addr → Prop} {H : Hp} {p : Addr} {o : HO} {ds : List D} {xs : List V} (hp : H p = none) (h : RepA K as Bs H ds xs) : RepA K as (fun b => Bs b ∨ b = p) (upd H p o) ds xs :=
  RepA.imp (W := fun _ => False) (Evo.new hp) (fun _ z => z.elim) (fun _ z => z) _ _ (RepA.more hp (fun _ z => z) _ _ h)
def oLst (ms : MA) : MO := fun sg S => (ms sg S).bind fun x => if x.1.length ≤ 16777216 then .ok (.lst x.1, x.2) else .bad
theorem f2_lst (h : PA2 X W false es ms) : PF2 X W (.List es pos) (oLst ms) := by
  obtain ⟨t, h1, h2⟩ := h
  refine ⟨_, pe_lst h1, fun B H0 as ks ow sg S σ H Q r h => ?_⟩
  refine h2 _ _ _ _ _ _ _ _ _ _ r (DenO.bind h fun x S1 v H1 _ e1 s1 q1 h1 => ?_)
  by_cases hl : x.length ≤ 16777216
  · simp only [if_pos hl] at h1
    refine ⟨lineN (by rw [← q1.length]; exact hl), fun p hp => h1 p _ hp (Evo.new hp) (boxNew hp s1) ⟨v, upd_same, boxNewA hp q1⟩⟩
  · simp only [if_neg hl] at h1
    exact False.elim h1
/-- [..] * n -/
def oRep (m : ME) (mb : ME) : MO := fun sg S => (m sg S).bind fun x => (mb sg x.2).bind fun y => match x.1, y.1 with
  | .lst xs, .int k => if decide (-4611686018427387904 ≤ k ∧ k < 4611686018427387904 ∧ xs.length * k.toNat ≤ 16777216) = true then .ok (.lst (List.replicate k.toNat xs).flatten, y.2) else .bad
  | _, _ => .bad
theorem f2_rep (ha : PE2 X W false a ma) (hb : PE2 X W false b mb) : PF2 X W (.BinOp a .Mult b pos) (oRep ma mb) := by
  obtain ⟨t, h1, h2⟩ := ha
  obtain ⟨u, g1, g2⟩ := hb
  refine ⟨_, pe_op op_rep h1 g1, fun B H0 as ks ow sg S σ H Q r h => ?_⟩
  refine h2 _ _ _ _ _ _ _ _ _ _ r (DenO.bind h fun x S1 v H1 c1 e1 s1 q1 h1 => ?_)
  refine g2 _ _ _ _ _ _ _ _ _ _ (r.step e1 s1) (DenO.bind h1 fun y S2 w H2 c2 e2 s2 q2 h2 => ?_)
  clear c1 c2
  cases x <;> try exact False.elim h2
  rename_i xs
  cases y <;> try exact False.elim h2
  rename_i k
  have q1' := Rep.imp (B' := Bd B ow) e2 r.asBd (fun _ z => z) _ v q1
  obtain ⟨p, vs, ep, np, k1, k2⟩ := q1'
  by_cases hc : decide (-4611686018427387904 ≤ k ∧ k < 4611686018427387904 ∧ xs.length * k.toNat ≤ 16777216) = true
  · simp only [if_pos hc] at h2
    have hc' := of_decide_eq_true hc
    rw [k2.length] at hc'
    exact ⟨p, k, vs, ep, q2, k1, by have := hc'.1; omega, by have := hc'.2.1; omega, lineN hc'.2.2, fun l hl => h2 l _ hl (Evo.new hl) (boxNew hl s2) ⟨_, upd_same, boxNewA hl (k2.rep _)⟩⟩
  · simp only [if_neg hc] at h2
    exact False.elim h2
/-- {} -/
def oDic : MO := fun _ S => .ok (.dic [] [], S)
theorem f2_dic : PF2 X W (.Dict [] [] pos) oDic :=
  ⟨_, pe_dnewK, fun B H0 as ks ow sg S σ H Q r h p hp => h p _ hp (Evo.new hp) (boxNew hp r.sto) ⟨[], upd_same, rfl, rfl⟩⟩
end
end D2

namespace D2
open PySem PySem.Spec PyProof.Rows L2

/-! ### targets -/
def isOwn : Option Sl → Bool
  | some (.own _) => true
  | _ => false
/-- only the names at tch are stored -/
def OnlyAt (tch : List Nat) (σ σ' : L2.St) : Prop := σ'.length = σ.length ∧ ∀ j : Nat, j ∉ tch → σ'[j]? = σ[j]?
def PG2 (X : Cx) (tg : Expr) (tch : List Nat) (g : D → List Sl → Option (List Sl)) : Prop := ∃ t : TG, PG X tg t ∧ ∀ B H0 as ks ow sg S σ H d v sg1 (Q : L2.St → Hp → Prop), Rl X.K B H0 as ks ow sg S σ H → Rep X.K as (Bd B ow) H d v → g d sg = some sg1 →
  (∀ σ', Rl X.K B H0 as ks ow sg1 S σ' H → OnlyAt tch σ σ' → Q σ' H) → t v σ H Q
def PGs2 (X : Cx) (tgs : List Expr) (tch : List Nat) (g : List D → List Sl → Option (List Sl)) : Prop := ∃ t : TGs, PGs X tgs t ∧ ∀ B H0 as ks ow sg S σ H ds vs sg1 (Q : L2.St → Hp → Prop), Rl X.K B H0 as ks ow sg S σ H → RepA X.K as (Bd B ow) H ds vs → g ds sg = some sg1 →
  (∀ σ', Rl X.K B H0 as ks ow sg1 S σ' H → OnlyAt tch σ σ' → Q σ' H) → t vs σ H Q
section
variable {K : PySem.W.Frag} {as : List Addr} {B : Addr → Prop} {H H0 H' : Hp} {ks : List (D × V)} {ow : List (Option Addr)} {sg : List Sl} {S S' : List O} {σ : L2.St}
theorem set_none_same {l : List (Option Addr)} {i : Nat} (h : l[i]? = some none ∨ l.length ≤ i) : l.set i none = l := by
  refine List.ext_getElem? fun j => ?_
  by_cases hij : i = j
  · subst hij
    rcases h with h | h
    · rw [List.getElem?_set_self (List.getElem?_eq_some_iff.mp h).1, h]
    · rw [List.getElem?_eq_none (by simpa using h), List.getElem?_eq_none h]
  · rw [List.getElem?_set_ne hij]
theorem Rl.owNone (r : Rl K B H0 as ks ow sg S σ H) {i : Nat} (hl : i < sg.length) (h : isOwn sg[i]? = false) : ow[i]? = some none := by
  have e : sg[i]? = some sg[i] := List.getElem?_eq_getElem hl
  obtain ⟨w, x, h1, h2, h3⟩ := r.sl i _ e
  rw [e] at h
  revert h h3
  cases sg[i] with
  | no => intro _ h3; rw [h1, show w = none from h3]
  | val d => intro _ h3; rw [h1, h3.1]
  | own o => intro h _; cases h
theorem Rl.setVal' (r : Rl K B H0 as ks ow sg S σ H) (i : Nat) {d : D} {v : V} (hn : isOwn sg[i]? = false) (h : Rep K as (Bd B ow) H d v) : Rl K B H0 as ks ow (sg.set i (.val d)) S (σ.set i (some v)) H := by
  by_cases hl : i < sg.length
  · have q := r.setVal i h
    rwa [set_none_same (.inl (r.owNone hl hn))] at q
  · rw [List.set_eq_of_length_le (by omega), List.set_eq_of_length_le (by rw [r.ls]; omega)]
    exact r
theorem Rl.unkp {p : D × V} (r : Rl K B H0 as (p :: ks) ow sg S σ H) : Rl K B H0 as ks ow sg S σ H :=
  ⟨r.lo, r.ls, r.sl, r.inj, r.new, r.odom, r.bdom, r.asB, r.evo, r.sto, fun q hq => r.kp q (List.mem_cons_of_mem _ hq)⟩
theorem Rl.addkp {d : D} {v : V} (r : Rl K B H0 as ks ow sg S σ H) (h : Rep K as (Bd B ow) H d v) : Rl K B H0 as ((d, v) :: ks) ow sg S σ H :=
  ⟨r.lo, r.ls, r.sl, r.inj, r.new, r.odom, r.bdom, r.asB, r.evo, r.sto, fun q hq => by
    rcases List.mem_cons.mp hq with e | hq
    · subst e; exact h
    · exact r.kp q hq⟩
end
section
variable {X : Cx} {W : WX2} {wk : Bool} {pos : Pos}
def gNm (i : Nat) : D → List Sl → Option (List Sl) := fun d sg => if isOwn sg[i]? = true then none else some (sg.set i (.val d))
theorem g2_name (i : Nat) {x : Str} (hN : X.N.Nodup) (hi : X.N[i]? = some x := by rfl) (hx : Loc X.env.scope x := by first | exact Or.inl rfl | exact Or.inr rfl) (hf : X.fn x = true ∨ X.env.scope.names.lookup x = some .local := by first | exact .inl rfl | exact .inr rfl) : PG2 X (.Name x pos) [i] (gNm i) := by
  refine ⟨_, pg_name hN hi hx hf, fun B H0 as ks ow sg S σ H d v sg1 Q r h e q => ?_⟩
  simp only [gNm] at e
  split at e
  · cases e
  · rename_i hn
    cases e
    refine q _ (r.setVal' i (by simpa using hn) h) ⟨List.length_set, fun j hj => ?_⟩
    rw [List.getElem?_set_ne (fun z => hj (by simp [z]))]
def gsNil : List D → List Sl → Option (List Sl) := fun ds sg => match ds with
  | [] => some sg
  | _ => none
def gsCons (g : D → List Sl → Option (List Sl)) (gs : List D → List Sl → Option (List Sl)) : List D → List Sl → Option (List Sl) := fun ds sg => match ds with
  | [] => none
  | d :: ds => (g d sg).bind fun sg1 => gs ds sg1
theorem gs2_nil : PGs2 X [] [] gsNil := by
  refine ⟨_, pgs_nil, fun B H0 as ks ow sg S σ H ds vs sg1 Q r h e q => ?_⟩
  cases ds with
  | nil =>
    cases e
    exact ⟨h, q σ r ⟨rfl, fun _ _ => rfl⟩⟩
  | cons _ _ => cases e
theorem gs2_cons {tg : Expr} {tgs : List Expr} {t1 t2 : List Nat} {g : D → List Sl → Option (List Sl)} {gs : List D → List Sl → Option (List Sl)} (h1 : PG2 X tg t1 g) (h2 : PGs2 X tgs t2 gs)
    (hs : (assignEach (tg :: tgs) X.env).map (·.2) = assign tg X.env :: (assignEach tgs X.env).map (·.2) := by rfl) : PGs2 X (tg :: tgs) (t1 ++ t2) (gsCons g gs) := by
  obtain ⟨t, a1, a2⟩ := h1
  obtain ⟨u, b1, b2⟩ := h2
  refine ⟨_, pgs_cons a1 b1 hs, fun B H0 as ks ow sg S σ H ds vs sg1 Q r h e q => ?_⟩
  cases ds with
  | nil => cases e
  | cons d ds =>
    obtain ⟨v, ws, ev, h1, h2⟩ := h
    obtain ⟨sg2, e1, e2⟩ := Option.bind_eq_some_iff.mp e
    refine ⟨v, ws, ev, a2 _ _ _ _ _ _ _ _ _ _ _ _ _ r h1 e1 fun σ1 r1 k1 => ?_⟩
    refine b2 _ _ _ _ _ _ _ _ _ _ _ _ _ r1 h2 e2 fun σ2 r2 k2 => ?_
    refine q σ2 r2 ⟨k2.1.trans k1.1, fun j hj => ?_⟩
    rw [k2.2 j (fun z => hj (List.mem_append_right _ z)), k1.2 j (fun z => hj (List.mem_append_left _ z))]
def gTu (n : Nat) (gs : List D → List Sl → Option (List Sl)) : D → List Sl → Option (List Sl) := fun d sg => match d with
  | .tup ds => if ds.length = n then gs ds sg else none
  | _ => none
theorem g2_tup {tgs : List Expr} {k : Nat} {tch : List Nat} {n : Nat} {gs : List D → List Sl → Option (List Sl)} (hc : X.calm = true) (h : PGs2 X tgs tch gs) (hn : (assignEach tgs X.env).length = n := by rfl) (hst : (assignEach tgs X.env).findIdx? (·.1) = none := by rfl) : PG2 X (.Tuple tgs k pos) tch (gTu n gs) := by
  obtain ⟨t, a1, a2⟩ := h
  refine ⟨_, pg_tup hc a1 hn hst, fun B H0 as ks ow sg S σ H d v sg1 Q r h e q => ?_⟩
  cases d <;> try (cases e; done)
  rename_i ds
  obtain ⟨a, xs, ev, h1, h2⟩ := h
  simp only [gTu] at e
  split at e
  · rename_i hl
    exact ⟨a, xs, ev, h1, by rw [← h2.length]; exact hl, a2 _ _ _ _ _ _ _ _ _ _ _ _ _ r h2 e q⟩
  · cases e
/-- tuple = value, as a statement -/
def mAsg (m : ME) (g : D → List Sl → Option (List Sl)) : MS := fun sg S => (m sg S).bind fun x => match g x.1 sg with
  | some sg1 => .ok (.nx, sg1, x.2)
  | none => .bad
theorem s2_asg {tg e : Expr} {m : ME} {tch : List Nat} {g : D → List Sl → Option (List Sl)} (h : PE2 X W false e m) (hg : PG2 X tg tch g) (hs : swapsWithSole [tg] e pos.line X.env = pure false := by rfl) (hw : swappedStores [tg] e X.env = pure none := by rfl)
    (h1 : (assignEach [tg] X.env).map (·.2) = [assign tg X.env] := by rfl) : PS2 X W (.Assign [tg] e pos) (mAsg m g) := by
  obtain ⟨t, a1, a2⟩ := h
  obtain ⟨u, b1, b2⟩ := hg
  refine ⟨_, ps_asg a1 b1 hs hw h1, fun B H0 as ks ow sg S σ H Dd r h => ?_⟩
  refine a2 _ _ _ _ _ _ _ _ _ _ r (DenS.bindE h fun d S1 v H1 _ e1 s1 q1 h1 => ?_)
  cases e : g d sg with
  | none => simp only [e] at h1; exact False.elim h1
  | some sg1 =>
    simp only [e] at h1
    exact b2 _ _ _ _ _ _ _ _ _ _ _ _ _ (r.step e1 s1) q1 e fun σ' r' _ => h1 _ _ _ r'

/-! ### what is walked -/
def rpI (c : Ct) (Bs : Addr → Prop) : Hp → List D → It → Prop := fun H ds J => ∃ kps : List (D × V), (∀ q ∈ kps, Rep c.K c.as Bs H q.1 q.2) ∧ ∀ (B2 : Addr → Prop) H2, (∀ q ∈ kps, Rep c.K c.as B2 H2 q.1 q.2) → ∀ i : Nat, (ds.length ≤ i → J.stop i H2) ∧
  ∀ d, ds[i]? = some d → J.go i H2 ∧ ∀ x H3, J.yld i H2 x H3 → Evo c.K (fun _ => False) H2 H3 ∧ Rep c.K c.as B2 H3 d x
theorem rpI1 {c : Ct} {Bs : Addr → Prop} {H : Hp} {ds : List D} {J : It} {dk : D} {vk : V} (h : Rep c.K c.as Bs H dk vk)
    (g : ∀ (B2 : Addr → Prop) H2, Rep c.K c.as B2 H2 dk vk → ∀ i : Nat, (ds.length ≤ i → J.stop i H2) ∧
  ∀ d, ds[i]? = some d → J.go i H2 ∧ ∀ x H3, J.yld i H2 x H3 → Evo c.K (fun _ => False) H2 H3 ∧ Rep c.K c.as B2 H3 d x) : rpI c Bs H ds J :=
  ⟨[(dk, vk)], fun q hq => by rw [List.mem_singleton.mp hq]; exact h, fun B2 H2 k => g B2 H2 (k (dk, vk) (List.mem_singleton_self _))⟩
def PI2 (X : Cx) (W : WX2) (wk : Bool) (tg iter : Expr) (mi : MA) : Prop := ∃ wi : TI, PI X tg iter wi ∧ ∀ B H0 as ks ow sg S σ H (R : It → Hp → Prop), Rl X.K B H0 as ks ow sg S σ H →
  Den (ctOf X W B H0 as ks) ow (rpI (ctOf X W B H0 as ks) (if wk then (· ∈ as) else Bd B ow)) (mi sg S) H R → wi σ H R
def mIl (m : ME) : MA := fun sg S => (m sg S).bind fun x => match x.1 with
  | .lst ds => .ok (ds, x.2)
  | _ => .bad
def mIt (m : ME) : MA := fun sg S => (m sg S).bind fun x => match x.1 with
  | .tup ds => .ok (ds, x.2)
  | _ => .bad
theorem i2_lst {tg e : Expr} {m : ME} (h : PE2 X W wk e m) : PI2 X W wk tg e (mIl m) := by
  obtain ⟨t, a1, a2⟩ := h
  refine ⟨_, pi_list a1, fun B H0 as ks ow sg S σ H R r h => ?_⟩
  refine a2 _ _ _ _ _ _ _ _ _ _ r (Den.bind h fun d S1 v H1 e0 e1 s1 q1 h1 => ?_)
  clear e0
  cases d <;> try exact False.elim h1
  rename_i ds
  obtain ⟨a, xs, ev, nb, g1, g2⟩ := id q1
  refine ⟨a, ev, ⟨xs, SqL.of g1⟩, h1 _ H1 Evo.refl s1 (rpI1 (dk := .lst ds) (vk := v) q1 fun B2 H2 rp i => ?_)⟩
  obtain ⟨a', ys, ev', nb', k1, k2⟩ := rp
  rw [ev] at ev'
  cases ev'
  refine ⟨fun hi => ⟨ys, SqL.of k1, by rw [← k2.length]; exact hi⟩, fun d hd => ?_⟩
  obtain ⟨w, w1, w2⟩ := k2.get hd
  refine ⟨⟨ys, w, SqL.of k1, w1⟩, fun x H3 ⟨e3, hx⟩ => ?_⟩
  subst e3
  have := hx ys (SqL.of k1)
  rw [w1] at this
  cases this
  exact ⟨Evo.refl, w2⟩
theorem i2_tup {tg e : Expr} {m : ME} (h : PE2 X W wk e m) : PI2 X W wk tg e (mIt m) := by
  obtain ⟨t, a1, a2⟩ := h
  refine ⟨_, pi_tup a1, fun B H0 as ks ow sg S σ H R r h => ?_⟩
  refine a2 _ _ _ _ _ _ _ _ _ _ r (Den.bind h fun d S1 v H1 e0 e1 s1 q1 h1 => ?_)
  clear e0
  cases d <;> try exact False.elim h1
  rename_i ds
  obtain ⟨a, xs, ev, g1, g2⟩ := id q1
  refine ⟨a, ev, ⟨xs, g1⟩, h1 _ H1 Evo.refl s1 (rpI1 (dk := .tup ds) (vk := v) q1 fun B2 H2 rp i => ?_)⟩
  obtain ⟨a', ys, ev', k1, k2⟩ := rp
  rw [ev] at ev'
  cases ev'
  refine ⟨fun hi => ⟨ys, k1, by rw [← k2.length]; exact hi⟩, fun d hd => ?_⟩
  obtain ⟨w, w1, w2⟩ := k2.get hd
  refine ⟨⟨ys, w, k1, w1⟩, fun x H3 ⟨e3, hx⟩ => ?_⟩
  subst e3
  have := hx ys k1
  rw [w1] at this
  cases this
  exact ⟨Evo.refl, w2⟩
def rngD (lo : Int) (n : Nat) : List D := (List.range n).map fun (k : Nat) => D.int (lo + (k : Int))
theorem rngD_len (lo : Int) (n : Nat) : (rngD lo n).length = n := by simp [rngD]
theorem rngD_get {lo : Int} {n i : Nat} {d : D} (h : (rngD lo n)[i]? = some d) : i < n ∧ d = .int (lo + i) := by
  unfold rngD at h
  rw [List.getElem?_map] at h
  by_cases hi : i < n
  · rw [List.getElem?_range hi] at h
    exact ⟨hi, (Option.some.inj h).symm⟩
  · rw [List.getElem?_eq_none (by simpa using hi)] at h
    cases h
def one1 : List D → Option Int
  | [.int j] => some j
  | _ => none
def two2 : List D → Option (Int × Int)
  | [.int i, .int j] => some (i, j)
  | _ => none
theorem one1_rep {K : PySem.W.Frag} {as : List Addr} {B : Addr → Prop} {H : Hp} {ds : List D} {vs : List V} {j : Int} (h : RepA K as B H ds vs) (e : one1 ds = some j) : vs = [.int j] := by
  match ds, e, h with
  | [.int j], rfl, h =>
    obtain ⟨x, xs, ev, k1, k2⟩ := h
    have k2' : xs = [] := k2
    have k1' : x = .int j := k1
    rw [ev, k1', k2']
theorem two2_rep {K : PySem.W.Frag} {as : List Addr} {B : Addr → Prop} {H : Hp} {ds : List D} {vs : List V} {i j : Int} (h : RepA K as B H ds vs) (e : two2 ds = some (i, j)) : vs = [.int i, .int j] := by
  match ds, e, h with
  | [.int i, .int j], rfl, h =>
    obtain ⟨x, xs, ev, k1, y, ys, ev2, k2, k3⟩ := h
    have k3' : ys = [] := k3
    have k1' : x = .int i := k1
    have k2' : y = .int j := k2
    rw [ev, ev2, k1', k2', k3']
def lim62 (j : Int) : Bool := decide (-4611686018427387904 ≤ j ∧ j < 4611686018427387904)
theorem lim62_of {j : Int} (h : lim62 j = true) : -(2 ^ 62) ≤ j ∧ j < 2 ^ 62 := by
  have h' : -4611686018427387904 ≤ j ∧ j < 4611686018427387904 := of_decide_eq_true h
  have e : (2 : Int) ^ 62 = 4611686018427387904 := by decide
  rw [e]
  exact h'
def mIr1 (ms : MA) : MA := fun sg S => (ms sg S).bind fun x => match one1 x.1 with
  | some j => if lim62 j = true then .ok (rngD 0 j.toNat, x.2) else .bad
  | none => .bad
theorem i2_rng1 {tg a : Expr} {ms : MA} {p : Pos} (hg : Gl X "range") (hm : X.mg "range" = none) (ha : PA2 X W wk [a] ms) (hs : starEach [a] X.env = [(false, eval a X.env)] := by rfl) : PI2 X W wk tg (.Call (.Name "range" p) [a] [] pos) (mIr1 ms) := by
  obtain ⟨t, a1, a2⟩ := ha
  refine ⟨_, pi_range1 hg hm a1 hs, fun B H0 as ks ow sg S σ H R r h => ?_⟩
  refine a2 _ _ _ _ _ _ _ _ _ _ r (Den.bind h fun d S1 v H1 e0 e1 s1 q1 h1 => ?_)
  clear e0
  cases ej : one1 d with
  | none => simp only [ej] at h1; exact False.elim h1
  | some j =>
    simp only [ej] at h1
    have ev := one1_rep q1 ej
    by_cases hc : lim62 j = true
    · simp only [if_pos hc] at h1
      have hc' := lim62_of hc
      refine ⟨j, ev, hc'.1, hc'.2, h1 _ H1 Evo.refl s1 (rpI1 (dk := .non) (vk := .non) rfl fun B2 H2 _ i => ⟨fun hi => by rw [rngD_len] at hi; exact hi, fun d hd => ?_⟩)⟩
      obtain ⟨hi, ed⟩ := rngD_get hd
      refine ⟨hi, fun x H3 ⟨e3, ex⟩ => ?_⟩
      subst e3 ex ed
      exact ⟨Evo.refl, rfl⟩
    · simp only [if_neg hc] at h1
      exact False.elim h1
def mIr2 (ms : MA) : MA := fun sg S => (ms sg S).bind fun x => match two2 x.1 with
  | some (i, j) => if (lim62 i && lim62 j) = true then .ok (rngD i (j - i).toNat, x.2) else .bad
  | none => .bad
theorem i2_rng2 {tg a b : Expr} {ms : MA} {p : Pos} (hg : Gl X "range") (hm : X.mg "range" = none) (ha : PA2 X W wk [a, b] ms) (hs : starEach [a, b] X.env = [(false, eval a X.env), (false, eval b X.env)] := by rfl) (hs2 : starEach [b] X.env = [(false, eval b X.env)] := by rfl) :
    PI2 X W wk tg (.Call (.Name "range" p) [a, b] [] pos) (mIr2 ms) := by
  obtain ⟨t, a1, a2⟩ := ha
  refine ⟨_, pi_range2 hg hm a1 hs hs2, fun B H0 as ks ow sg S σ H R r h => ?_⟩
  refine a2 _ _ _ _ _ _ _ _ _ _ r (Den.bind h fun d S1 v H1 e0 e1 s1 q1 h1 => ?_)
  clear e0
  cases ej : two2 d with
  | none => simp only [ej] at h1; exact False.elim h1
  | some p =>
    obtain ⟨i, j⟩ := p
    simp only [ej] at h1
    have ev := two2_rep q1 ej
    by_cases hc : (lim62 i && lim62 j) = true
    · simp only [if_pos hc] at h1
      rw [Bool.and_eq_true] at hc
      have c1 := lim62_of hc.1
      have c2 := lim62_of hc.2
      refine ⟨i, j, ev, ⟨c1.1, c1.2, c2.1, c2.2⟩, h1 _ H1 Evo.refl s1 (rpI1 (dk := .non) (vk := .non) rfl fun B2 H2 _ k => ⟨fun hi => by rw [rngD_len] at hi; exact hi, fun d hd => ?_⟩)⟩
      obtain ⟨hi, ed⟩ := rngD_get hd
      refine ⟨hi, fun x H3 ⟨e3, ex⟩ => ?_⟩
      subst e3 ex ed
      exact ⟨Evo.refl, rfl⟩
    · simp only [if_neg hc] at h1
      exact False.elim h1
def enumD : Nat → List D → List D
  | _, [] => []
  | n, d :: ds => .tup [.int (n : Int), d] :: enumD (n + 1) ds
theorem enumD_len : ∀ (n : Nat) (ds : List D), (enumD n ds).length = ds.length
  | _, [] => rfl
  | n, d :: ds => by rw [enumD, List.length_cons, enumD_len, List.length_cons]
theorem enumD_get : ∀ {n : Nat} {ds : List D} {i : Nat} {d : D}, (enumD n ds)[i]? = some d → ∃ x, ds[i]? = some x ∧ d = .tup [.int ((n + i : Nat) : Int), x]
  | n, [], i, d, h => by simp [enumD] at h
  | n, x :: ds, 0, d, h => by
    simp [enumD] at h
    exact ⟨x, rfl, h.symm⟩
  | n, x :: ds, i + 1, d, h => by
    simp only [enumD, List.getElem?_cons_succ] at h
    obtain ⟨y, h1, h2⟩ := enumD_get h
    refine ⟨y, by simpa using h1, ?_⟩
    rw [h2]
    have : n + 1 + i = n + (i + 1) := by omega
    rw [this]
def oneL : List D → Option (List D)
  | [.lst ds] => some ds
  | _ => none
theorem oneL_eq {ds es : List D} (h : oneL ds = some es) : ds = [.lst es] := by
  match ds, h with
  | [.lst _], rfl => rfl
def mIe (ms : MA) : MA := fun sg S => (ms sg S).bind fun x => match oneL x.1 with
  | some ds => .ok (enumD 0 ds, x.2)
  | none => .bad
theorem i2_enum {e : Expr} {ms : MA} {p tpos : Pos} {elts : List Expr} {kk : Nat} (hg : Gl X "enumerate") (hm : X.mg "enumerate" = none) (ha : PA2 X W wk [e] ms) (hs : starEach [e] X.env = [(false, eval e X.env)] := by rfl) :
    PI2 X W wk (.Tuple elts kk tpos) (.Call (.Name "enumerate" p) [e] [] pos) (mIe ms) := by
  obtain ⟨t, a1, a2⟩ := ha
  refine ⟨_, pi_enum hg hm a1 hs, fun B H0 as ks ow sg S σ H R r h => ?_⟩
  refine a2 _ _ _ _ _ _ _ _ _ _ r (Den.bind h fun d S1 v H1 e0 e1 s1 q1 h1 => ?_)
  clear e0
  cases ej : oneL d with
  | none => simp only [ej] at h1; exact False.elim h1
  | some ds =>
    simp only [ej] at h1
    rw [oneL_eq ej] at q1
    obtain ⟨x, xs, ev, k1, k2⟩ := q1
    have k2' : xs = [] := k2
    subst k2'
    obtain ⟨a, ys, ex, nb, g1, g2⟩ := id k1
    subst ex
    refine ⟨a, ys, ev, SqL.of g1, h1 _ H1 Evo.refl s1 (rpI1 (dk := .lst ds) (vk := .ref a) k1 fun B2 H2 rp i => ?_)⟩
    obtain ⟨a', zs, ev', nb', l1, l2⟩ := rp
    cases ev'
    refine ⟨fun hi => ⟨zs, SqL.of l1, by rw [enumD_len] at hi; rw [← l2.length]; exact hi⟩, fun d hd => ?_⟩
    obtain ⟨x, hx, ed⟩ := enumD_get hd
    obtain ⟨w, w1, w2⟩ := l2.get hx
    refine ⟨⟨zs, w, SqL.of l1, w1⟩, fun y H3 ⟨T, z, ey, hT, e3, hz⟩ => ?_⟩
    have := hz zs (SqL.of l1)
    rw [w1] at this
    cases this
    subst ey e3 ed
    refine ⟨Evo.new hT, repNewT hT (RepA.cons ?_ (RepA.one w2))⟩
    have e0 : 0 + i = i := Nat.zero_add i
    rw [e0]
    exact rfl
/-! ### for -/
def loopM (g : D → List Sl → Option (List Sl)) (body : MS) : List D → MS
  | [], sg, S => .ok (.nx, sg, S)
  | d :: ds, sg, S => match g d sg with
    | none => .bad
    | some sg1 => (body sg1 S).bind fun x => match x.1 with
      | .nx => loopM g body ds x.2.1 x.2.2
      | .ct => loopM g body ds x.2.1 x.2.2
      | .bk => .ok (.nx, x.2)
      | .rt v => .ok (.rt v, x.2)
def mFor (mi : MA) (g : D → List Sl → Option (List Sl)) (body : MS) : MS := fun sg S => (mi sg S).bind fun x => loopM g body x.1 sg x.2
theorem ExW.kp {X : Cx} {B : Addr → Prop} {H0 : Hp} {as : List Addr} {ks : List (D × V)} {p : D × V} {e : Exn} {sg : List Sl} {S : List O} (h : ExW (ctOf X W B H0 as ks) e sg S) : ExW (ctOf X W B H0 as (p :: ks)) e sg S :=
  fun cl dx ow σ H r q => h cl dx ow σ H r.unkp q
theorem ExW.kps {X : Cx} {W : WX2} {B : Addr → Prop} {H0 : Hp} {as : List Addr} {ks : List (D × V)} {e : Exn} {sg : List Sl} {S : List O} : ∀ {kps : List (D × V)}, ExW (ctOf X W B H0 as ks) e sg S → ExW (ctOf X W B H0 as (kps ++ ks)) e sg S
  | [], h => h
  | _ :: _, h => ExW.kp (ExW.kps h)
theorem Rl.addkps {K : PySem.W.Frag} {B : Addr → Prop} {H0 : Hp} {as : List Addr} {ks : List (D × V)} {ow : List (Option Addr)} {sg : List Sl} {S : List O} {σ : L2.St} {H : Hp} (r : Rl K B H0 as ks ow sg S σ H) : ∀ {kps : List (D × V)}, (∀ q ∈ kps, Rep K as (Bd B ow) H q.1 q.2) → Rl K B H0 as (kps ++ ks) ow sg S σ H
  | [], _ => r
  | (d, v) :: kps, h => (Rl.addkps r fun q hq => h q (List.mem_cons_of_mem _ hq)).addkp (h (d, v) List.mem_cons_self)
theorem Rl.unkps {K : PySem.W.Frag} {B : Addr → Prop} {H0 : Hp} {as : List Addr} {ks : List (D × V)} {ow : List (Option Addr)} {sg : List Sl} {S : List O} {σ : L2.St} {H : Hp} : ∀ {kps : List (D × V)}, Rl K B H0 as (kps ++ ks) ow sg S σ H → Rl K B H0 as ks ow sg S σ H
  | [], r => r
  | _ :: _, r => Rl.unkps (Rl.unkp r)
theorem s2_for {tg iter : Expr} {body : List Stmt} {mi : MA} {tch : List Nat} {g : D → List Sl → Option (List Sl)} {mb : MS} (hp : PassesOwn (model X.prog X.w) X.A X.env X.xe) (hc : X.calm = true) (hi : PI2 X W false tg iter mi) (hg : PG2 X tg tch g) (hb : PSs2 X W body mb)
    (hs : ∀ x, foldedSetIterable iter X.env x = pure x := by intro _; rfl) : PS2 X W (.For tg iter body [] pos) (mFor mi g mb) := by
  obtain ⟨wi, a1, a2⟩ := hi
  obtain ⟨tt, b1, b2⟩ := hg
  obtain ⟨tb, c1, c2⟩ := hb
  refine ⟨_, ps_for hp hc a1 b1 c1 hs, fun B H0 as ks ow sg S σ H Dd r h => ?_⟩
  refine a2 _ _ _ _ _ _ _ _ _ _ r (DenS.bindE h fun ds S1 J H1 _ e1 s1 q1 h1 => ?_)
  obtain ⟨kps, rk, wk⟩ := q1
  have r1 := (r.step e1 s1).addkps rk
  refine ⟨fun i m σ' H' => m = ds.length - i ∧ i ≤ ds.length ∧ ∃ ow' sg' S', Rl X.K B H0 as (kps ++ ks) ow' sg' S' σ' H' ∧ DenS (ctOf X W B H0 as ks) (loopM g mb (ds.drop i) sg' S') Dd, ⟨_, rfl, Nat.zero_le _, ow, sg, S1, r1, h1⟩, ?_⟩
  rintro i m σ2 H2 ⟨em, hi, ow2, sg2, S2, r2, h2⟩
  have wi := wk _ H2 (fun q hq => r2.kp q (List.mem_append_left _ hq)) i
  by_cases hlt : i < ds.length
  · right
    have ed : ds[i]? = some ds[i] := List.getElem?_eq_getElem hlt
    obtain ⟨go, yl⟩ := wi.2 _ ed
    refine ⟨go, fun σ' H' => i + 1 ≤ ds.length ∧ ∃ ow' sg' S', Rl X.K B H0 as (kps ++ ks) ow' sg' S' σ' H' ∧ DenS (ctOf X W B H0 as ks) (loopM g mb (ds.drop (i + 1)) sg' S') Dd, fun σ' H' ⟨l, q⟩ => ⟨ds.length - (i + 1), by omega, rfl, l, q⟩, fun x H3 y => ?_⟩
    obtain ⟨e3, rx⟩ := yl x H3 y
    have r3 := r2.step e3.any (r2.stoNew e3)
    rw [List.drop_eq_getElem_cons hlt] at h2
    simp only [loopM] at h2
    cases eg : g ds[i] sg2 with
    | none => simp only [eg] at h2; exact False.elim h2
    | some sg3 =>
      simp only [eg] at h2
      refine b2 _ _ _ _ _ _ _ _ _ _ _ _ _ r3 rx eg fun σ4 r4 _ => ?_
      refine c2 _ _ _ _ _ _ _ _ _ _ r4 ?_
      revert h2
      cases mb sg3 S2 with
      | ok z =>
        obtain ⟨fl, sg5, S5⟩ := z
        cases fl with
        | nx => exact fun h2 ow6 σ6 H6 r6 => ⟨hlt, ow6, sg5, S5, r6, h2⟩
        | ct => exact fun h2 ow6 σ6 H6 r6 => ⟨hlt, ow6, sg5, S5, r6, h2⟩
        | bk => exact fun h2 ow6 σ6 H6 r6 => h2 ow6 σ6 H6 r6.unkps
        | rt d => exact fun h2 => h2
      | ex e sg5 S5 => exact fun h2 => ExW.kps h2
      | bad => exact fun h2 => h2
  · left
    have ei : i = ds.length := by omega
    subst ei
    refine ⟨wi.1 (Nat.le_refl _), ?_⟩
    rw [List.drop_length] at h2
    exact h2 _ _ _ r2.unkps
/-! ### while: n the turns that are let -/
def whileM (t : MT) (body : MS) : Nat → MS
  | 0, _, _ => .bad
  | n + 1, sg, S => (t sg S).bind fun x => if x.1 = true then (body sg x.2).bind fun y => match y.1 with
      | .nx => whileM t body n y.2.1 y.2.2
      | .ct => whileM t body n y.2.1 y.2.2
      | .bk => .ok (.nx, y.2)
      | .rt v => .ok (.rt v, y.2)
    else .ok (.nx, sg, x.2)
def mWhile (n : Nat) (t : MT) (body : MS) : MS := whileM t body n
theorem s2_while (n : Nat) {c : Expr} {body : List Stmt} {t : MT} {mb : MS} (hp : PassesOwn (model X.prog X.w) X.A X.env X.xe) (hc : PT2 X W c t) (hb : PSs2 X W body mb) : PS2 X W (.While c body [] pos) (mWhile n t mb) := by
  obtain ⟨tc, a1, a2⟩ := hc
  obtain ⟨tb, b1, b2⟩ := hb
  refine ⟨_, ps_while hp a1 b1, fun B H0 as ks ow sg S σ H Dd r h => ?_⟩
  refine ⟨fun m σ' H' => ∃ ow' sg' S', Rl X.K B H0 as ks ow' sg' S' σ' H' ∧ DenS (ctOf X W B H0 as ks) (whileM t mb m sg' S') Dd, ⟨n, ow, sg, S, r, h⟩, ?_⟩
  rintro m σ1 H1 ⟨ow1, sg1, S1, r1, h1⟩
  cases m with
  | zero => exact False.elim h1
  | succ m =>
    simp only [whileM] at h1
    refine a2 _ _ _ _ _ _ _ _ _ _ r1 (DenS.bindE h1 fun d S2 v H2 e0 e2 s2 q2 h2 => ?_)
    have q : v = d := q2
    subst q
    have r2 := r1.step e2 s2
    cases v with
    | false => exact h2 _ _ _ r2
    | true =>
      refine ⟨fun σ' H' => ∃ ow' sg' S', Rl X.K B H0 as ks ow' sg' S' σ' H' ∧ DenS (ctOf X W B H0 as ks) (whileM t mb m sg' S') Dd, fun σ' H' q => ⟨m, Nat.lt_succ_self m, q⟩, ?_⟩
      refine b2 _ _ _ _ _ _ _ _ _ _ r2 ?_
      simp only [if_pos] at h2
      revert h2
      cases mb sg1 S2 with
      | ok z =>
        obtain ⟨fl, sg5, S5⟩ := z
        cases fl with
        | nx => exact fun h2 ow6 σ6 H6 r6 => ⟨ow6, sg5, S5, r6, h2⟩
        | ct => exact fun h2 ow6 σ6 H6 r6 => ⟨ow6, sg5, S5, r6, h2⟩
        | bk => exact fun h2 => h2
        | rt d => exact fun h2 => h2
      | ex e sg5 S5 => exact fun h2 => h2
      | bad => exact fun h2 => h2
end
end D2

namespace D2
open PySem PySem.Spec PyProof.Rows L2

/-! ### a new object that is not any name's yet -/
section
variable {K : PySem.W.Frag} {as : List Addr} {B : Addr → Prop} {H H0 H' : Hp} {ks : List (D × V)} {ow : List (Option Addr)} {sg : List Sl} {S S' : List O} {σ : L2.St} {p : Addr} {o : HO}
theorem bd_ghost : ∀ b, Bd B (ow ++ [some p]) b → Bd B ow b ∨ b = p := fun b h => by
  rcases h with h | h
  · exact .inl (.inl h)
  · rcases List.mem_append.mp h with h | h
    · exact .inl (.inr h)
    · have e : some b = some p := by simpa using h
      exact .inr (Option.some.inj e)
theorem bd_ghost' : ∀ b, Bd B ow b ∨ b = p → Bd B (ow ++ [some p]) b := fun b h => by
  rcases h with (h | h) | h
  · exact .inl h
  · exact .inr (List.mem_append_left _ h)
  · subst h; exact .inr (List.mem_append_right _ List.mem_cons_self)
theorem bd_un : ∀ b, Bd B ow b → Bd B (ow ++ [some p]) b := fun b h => bd_ghost' b (.inl h)
theorem get_ghost {i : Nat} {x : Option Addr} (hl : i < ow.length) : (ow ++ [some p])[i]? = ow[i]? := List.getElem?_append_left hl
theorem Rl.slw (r : Rl K B H0 as ks ow sg S σ H) {B' : Addr → Prop} {H1 : Hp} {ow1 : List (Option Addr)} (h1 : ∀ (i : Nat) w, i < sg.length → ow[i]? = some w → ow1[i]? = some w) (h2 : ∀ s w x, SlRep K as (Bd B ow) H s w x → (∀ a, w = some a → some a ∈ ow) → SlRep K as B' H1 s w x) :
    ∀ (i : Nat) (s : Sl), sg[i]? = some s → ∃ w x, ow1[i]? = some w ∧ σ[i]? = some x ∧ SlRep K as B' H1 s w x := fun i s hs => by
  obtain ⟨w, x, g1, g2, g3⟩ := r.sl i s hs
  exact ⟨w, x, h1 i w (List.getElem?_eq_some_iff.mp hs).1 g1, g2, h2 s w x g3 fun a e => List.mem_of_getElem? (e ▸ g1)⟩
theorem inj_ghost (r : Rl K B H0 as ks ow sg S σ H) (hp : some p ∉ ow) : ∀ (i j : Nat) (a : Addr), (ow ++ [some p])[i]? = some (some a) → (ow ++ [some p])[j]? = some (some a) → i = j := fun i j a hi hj => by
  have up : ∀ k, (ow ++ [some p])[k]? = some (some a) → (ow[k]? = some (some a)) ∨ (k = ow.length ∧ a = p) := fun k e => by
    by_cases hk : k < ow.length
    · rw [List.getElem?_append_left hk] at e; exact .inl e
    · rw [List.getElem?_append_right (by omega)] at e
      have := (List.getElem?_eq_some_iff.mp e).1
      have e0 : k - ow.length = 0 := by simpa using this
      rw [e0] at e
      have e' : some p = some a := by simpa using e
      exact .inr ⟨by omega, (Option.some.inj e').symm⟩
  rcases up i hi with h1 | ⟨h1, e1⟩
  · rcases up j hj with h2 | ⟨h2, e2⟩
    · exact r.inj i j a h1 h2
    · exact absurd (List.mem_of_getElem? h1) (by rw [e2]; exact hp)
  · rcases up j hj with h2 | ⟨h2, e2⟩
    · exact absurd (List.mem_of_getElem? h2) (by rw [e1]; exact hp)
    · rw [h1, h2]
/-- a new object at p -/
theorem Rl.ghost (r : Rl K B H0 as ks ow sg S σ H) (hp : H p = none) : Rl K B H0 as ks (ow ++ [some p]) sg S σ (upd H p o) := by
  have np : some p ∉ ow := fun z => r.odom p z hp
  have e : Evo K (fun _ => False) H (upd H p o) := Evo.new hp
  have mem : ∀ b, some b ∈ ow ++ [some p] → some b ∈ ow ∨ b = p := fun b hb => by
    rcases List.mem_append.mp hb with hb | hb
    · exact .inl hb
    · have : some b = some p := by simpa using hb
      exact .inr (Option.some.inj this)
  refine ⟨by simp only [List.length_append]; exact Nat.le_trans r.lo (Nat.le_add_right _ _), r.ls, r.slw (fun i w _ h => ?_) (fun s w x h _ => ?_), inj_ghost r np, fun a ha => ?_, fun a ha => ?_, r.bdom, r.asB, r.evo.trans (Evo.new hp), ?_, fun q hq => ?_⟩
  · rw [List.getElem?_append_left (List.getElem?_eq_some_iff.mp h).1]; exact h
  · cases s with
    | no => exact h
    | val d =>
      obtain ⟨q1, v, q2, q3⟩ := h
      exact ⟨q1, v, q2, Rep.new hp (Rep.more hp bd_ghost d v q3)⟩
    | own ob =>
      obtain ⟨a, q1, q2, q3⟩ := h
      exact ⟨a, q1, q2, ORep.imp e (fun _ z => z.elim) (fun _ z => z) ob a (fun z => z) (ORep.more hp bd_ghost ob a q3)⟩
  · rcases mem a ha with z | z
    · exact r.new a z
    · rw [z]; exact r.evo.back hp
  · rcases mem a ha with z | z
    · exact e.dom a (r.odom a z)
    · rw [z, upd_same]; exact fun z => nomatch z
  · exact ⟨r.sto.len, r.sto.nd, fun n x hx => let ⟨a, h1, h2⟩ := r.sto.ob n x hx; ⟨a, h1, ORep.imp e (fun _ z => z.elim) (fun _ z => z) x a (fun z => z) (ORep.more hp bd_ghost x a h2)⟩, fun q hq => e.tabs _ _ hq (r.sto.tab q hq)⟩
  · exact Rep.new hp (Rep.more hp bd_ghost _ _ (r.kp q hq))
/-- it is written -/
theorem Rl.putGhost {t : HO} (r : Rl K B H0 as ks (ow ++ [some p]) sg S σ H) (hl : sg.length ≤ ow.length) (ht : H p = some t) (n1 : ∀ xs, t ≠ .tup xs) (n2 : ∀ ob w, t ≠ .frz ob w) (n3 : ∀ φ, t ≠ .ext φ := by intro _ z; cases z) (n4 : ∀ ps, t ≠ .tbl ps := by intro _ z; cases z) : Rl K B H0 as ks (ow ++ [some p]) sg S σ (upd H p o) ∧ Evo K (· = p) H (upd H p o) := by
  have hm : some p ∈ ow ++ [some p] := List.mem_append_right _ List.mem_cons_self
  have e : Evo K (· = p) H (upd H p o) := Evo.put ht n1 n2 rfl n3 n4
  have bda : ∀ b, b = p → Bd B (ow ++ [some p]) b := fun b z => .inr (z ▸ hm)
  have gl : (ow ++ [some p])[ow.length]? = some (some p) := by rw [List.getElem?_append_right (Nat.le_refl _)]; simp
  have e0 : Evo K (· ∈ as) H0 (upd H p o) := by
    have n0 := r.new p hm
    exact r.evo.upd0 n0 e
  refine ⟨⟨r.lo, r.ls, fun i s hs => ?_, r.inj, r.new, fun a ha => e.dom a (r.odom a ha), r.bdom, r.asB, e0, ⟨r.sto.len, r.sto.nd, fun n x hx => ?_, fun q hq => e.tabs _ _ hq (r.sto.tab q hq)⟩, fun q hq => Rep.imp e bda (fun _ z => z) _ _ (r.kp q hq)⟩, e⟩
  · obtain ⟨w, x, g1, g2, g3⟩ := r.sl i s hs
    refine ⟨w, x, g1, g2, ?_⟩
    cases s with
    | no => exact g3
    | val d =>
      obtain ⟨q1, v, q2, q3⟩ := g3
      exact ⟨q1, v, q2, Rep.imp e bda (fun _ z => z) d v q3⟩
    | own ob =>
      obtain ⟨a, q1, q2, q3⟩ := g3
      subst q1
      refine ⟨a, rfl, q2, ORep.imp e bda (fun _ z => z) ob a (fun z => ?_) q3⟩
      have := r.inj i ow.length p (z ▸ g1) gl
      have := (List.getElem?_eq_some_iff.mp hs).1
      omega
  · obtain ⟨b, q1, q2⟩ := r.sto.ob n x hx
    exact ⟨b, q1, ORep.imp e bda (fun _ z => z) x b (fun z => r.ownAs hm (z ▸ List.mem_of_getElem? q1)) q2⟩
/-- names forgotten -/
def wipeS (sg : List Sl) : List Nat → List Sl
  | [] => sg
  | v :: vs => (wipeS sg vs).set v .no
theorem wipeS_length (sg : List Sl) : ∀ vs : List Nat, (wipeS sg vs).length = sg.length
  | [] => rfl
  | v :: vs => by unfold wipeS; rw [List.length_set, wipeS_length sg vs]
theorem Rl.setNo (r : Rl K B H0 as ks ow sg S σ H) (i : Nat) (hn : isOwn sg[i]? = false) (x : Option V) : Rl K B H0 as ks ow (sg.set i .no) S (σ.set i x) H := by
  refine ⟨by simpa only [List.length_set] using r.lo, by simpa using r.ls, fun j s hs => ?_, r.inj, r.new, r.odom, r.bdom, r.asB, r.evo, r.sto, r.kp⟩
  by_cases hij : i = j
  · subst hij
    have hl : i < sg.length := by
      have := (List.getElem?_eq_some_iff.mp hs).1
      simpa using this
    rw [List.getElem?_set_self hl] at hs
    cases hs
    exact ⟨none, x, r.owNone hl hn, List.getElem?_set_self (by rw [r.ls]; exact hl), rfl⟩
  · rw [List.getElem?_set_ne hij] at hs ⊢
    exact r.sl j s hs
theorem isOwn_wipeS {sg : List Sl} {i : Nat} (h : isOwn sg[i]? = false) : ∀ vs : List Nat, isOwn (wipeS sg vs)[i]? = false
  | [] => h
  | v :: vs => by
    have ih := isOwn_wipeS h vs
    unfold wipeS
    by_cases hv : v = i
    · subst hv
      by_cases hl : v < (wipeS sg vs).length
      · rw [List.getElem?_set_self hl]; rfl
      · rw [List.getElem?_eq_none (by simpa using hl)]; rfl
    · rw [List.getElem?_set_ne hv]; exact ih
theorem Rl.wipe (r : Rl K B H0 as ks ow sg S σ H) : ∀ vs : List Nat, (∀ v ∈ vs, isOwn sg[v]? = false) → Rl K B H0 as ks ow (wipeS sg vs) S (L2.wipe σ vs) H
  | [], _ => r
  | v :: vs, h => by
    have ih := Rl.wipe r vs fun u hu => h u (List.mem_cons_of_mem _ hu)
    unfold wipeS L2.wipe
    exact ih.setNo v (isOwn_wipeS (h v List.mem_cons_self) vs) none
theorem wipe_get {σ : L2.St} {i : Nat} : ∀ {vs : List Nat}, (L2.wipe σ vs)[i]? = if i ∈ vs ∧ i < σ.length then some none else σ[i]?
  | [] => by rw [if_neg (by simp)]; rfl
  | v :: vs => by
    unfold L2.wipe
    have ih := wipe_get (σ := σ) (i := i) (vs := vs)
    by_cases hv : v = i
    · subst hv
      by_cases hl : v < σ.length
      · rw [List.getElem?_set_self (by rw [wipe_length]; exact hl), if_pos ⟨List.mem_cons_self, hl⟩]
      · rw [List.getElem?_eq_none (by rw [List.length_set, wipe_length]; omega), if_neg (fun z => hl z.2), List.getElem?_eq_none (by omega)]
    · rw [List.getElem?_set_ne hv, ih]
      have : (i ∈ v :: vs) ↔ i ∈ vs := by simp [Ne.symm hv]
      by_cases h : i ∈ vs ∧ i < σ.length
      · rw [if_pos h, if_pos ⟨this.mpr h.1, h.2⟩]
      · rw [if_neg h, if_neg (fun z => h ⟨this.mp z.1, z.2⟩)]
theorem wipe_back {σ τ : L2.St} {vs : List Nat} (hl : τ.length = σ.length) (h : ∀ j : Nat, j ∉ vs → τ[j]? = (L2.wipe σ vs)[j]?) : L2.wipe τ vs = L2.wipe σ vs := by
  refine List.ext_getElem? fun j => ?_
  rw [wipe_get]
  by_cases hj : j ∈ vs
  · rw [wipe_get, hl]
    by_cases hlt : j < σ.length
    · rw [if_pos ⟨hj, hlt⟩, if_pos ⟨hj, hlt⟩]
    · rw [if_neg (fun z => hlt z.2), if_neg (fun z => hlt z.2), List.getElem?_eq_none (by omega), List.getElem?_eq_none (by omega)]
  · rw [if_neg (fun z => hj z.1), h j hj]
end

/-! ### one reading for all contexts with the same K, mg -/
def canE (K : PySem.W.Frag) (mg : Str → Option Value) (W : WX2) (wk : Bool) (m : ME) : TE := fun σ H Q => ∃ B H0 as ks ow sg S, Rl K B H0 as ks ow sg S σ H ∧ Den ⟨K, mg, B, H0, as, ks, W⟩ ow ((⟨K, mg, B, H0, as, ks, W⟩ : Ct).rp ow wk) (m sg S) H Q
theorem PE2.can {X : Cx} {W : WX2} {wk : Bool} {e : Expr} {m : ME} (h : PE2 X W wk e m) : PE X e (canE X.K X.mg W wk m) := by
  obtain ⟨t, h1, h2⟩ := h
  exact ⟨fun pins s σ H Q I ⟨B, H0, as, ks, ow, sg, S, r, q⟩ => h1.run pins s σ H Q I (h2 _ _ _ _ _ _ _ _ _ _ r q)⟩
def canT (K : PySem.W.Frag) (mg : Str → Option Value) (W : WX2) (m : MT) : TT := fun σ H Q => ∃ B H0 as ks ow sg S, Rl K B H0 as ks ow sg S σ H ∧ Den ⟨K, mg, B, H0, as, ks, W⟩ ow rpB (m sg S) H Q
theorem PT2.can {X : Cx} {W : WX2} {e : Expr} {m : MT} (h : PT2 X W e m) : PT X e (canT X.K X.mg W m) := by
  obtain ⟨t, h1, h2⟩ := h
  exact ⟨fun pins s σ H Q I ⟨B, H0, as, ks, ow, sg, S, r, q⟩ => h1.run pins s σ H Q I (h2 _ _ _ _ _ _ _ _ _ _ r q)⟩
def canG (K : PySem.W.Frag) (tch : List Nat) (g : D → List Sl → Option (List Sl)) : TG := fun v σ H Q => ∃ B H0 as ks ow sg S d sg1, Rl K B H0 as ks ow sg S σ H ∧ Rep K as (Bd B ow) H d v ∧ g d sg = some sg1 ∧
  (∀ σ', Rl K B H0 as ks ow sg1 S σ' H → OnlyAt tch σ σ' → Q σ' H)
theorem PG2.can {X : Cx} {tg : Expr} {tch : List Nat} {g : D → List Sl → Option (List Sl)} (h : PG2 X tg tch g) : PG X tg (canG X.K tch g) := by
  obtain ⟨t, h1, h2⟩ := h
  exact ⟨fun pins s σ H v u Q I rv ⟨B, H0, as, ks, ow, sg, S, d, sg1, r, q1, q2, q3⟩ => h1.run pins s σ H v u Q I rv (h2 _ _ _ _ _ _ _ _ _ _ _ _ _ r q1 q2 q3)⟩
/-! ### tests of a comprehension -/
def PTs2 (X : Cx) (W : WX2) (ifs : List Expr) (m : MT) : Prop := PTs X ifs (canT X.K X.mg W m)
def mYes : MT := fun _ S => .ok (true, S)
section
variable {X : Cx} {W : WX2} {wk : Bool} {pos : Pos}
theorem ts2_nil : PTs2 X W [] mYes := ⟨fun pins s σ H Q I ⟨B, H0, as, ks, ow, sg, S, r, q⟩ => pts_nil.run pins s σ H Q I (q true H Evo.refl r.sto rfl)⟩
theorem ts2_one {c : Expr} {m : MT} (h : PT2 X W c m) : PTs2 X W [c] m := pts_one h.can
end
def W0 : WX2 := fun _ _ _ _ => False

/-! ### comprehensions -/
def lcR (g : D → List Sl → Option (List Sl)) (mt : MT) (me : ME) (sg : List Sl) : List D → List O → R (List D × List O)
  | [], S => .ok ([], S)
  | d :: ds, S => match g d sg with
    | none => .bad
    | some sg1 => match mt sg1 S with
      | .ok (true, S1) => match me sg1 S1 with
        | .ok (x, S2) => (lcR g mt me sg ds S2).bind fun y => .ok (x :: y.1, y.2)
        | _ => .bad
      | .ok (false, S1) => lcR g mt me sg ds S1
      | _ => .bad
def oLc (wk : Bool) (mi : MA) (g : D → List Sl → Option (List Sl)) (mt : MT) (me : ME) (vs : List Nat) : MO := fun sg S => (mi sg S).bind fun x =>
  if (decide (x.1.length ≤ 16777216) && (!wk || D.flatA x.1) && vs.all fun v => !isOwn sg[v]?) = true then (lcR g mt me (wipeS sg vs) x.1 x.2).bind fun y => .ok (.lst y.1, y.2) else .bad
section
variable {X : Cx} {W : WX2} {wk wi' : Bool} {pos : Pos}
theorem lc_den {tg iter elt : Expr} {ifs : List Expr} {vs tch : List Nat} {mi : MA} {g : D → List Sl → Option (List Sl)} {mt : MT} {me : ME} {wi : TI} (htch : ∀ j ∈ tch, j ∈ vs)
    (hi : ∀ B H0 as ks ow sg S σ H (R : It → Hp → Prop), Rl X.K B H0 as ks ow sg S σ H → Den (ctOf X W B H0 as ks) ow (rpI (ctOf X W B H0 as ks) (if wk then (· ∈ as) else Bd B ow)) (mi sg S) H R → wi σ H R)
    {B : Addr → Prop} {H0 : Hp} {as : List Addr} {ks : List (D × V)} {ow : List (Option Addr)} {sg : List Sl} {S : List O} {σ : L2.St} {H : Hp} {Q : VK} (r : Rl X.K B H0 as ks ow sg S σ H)
    (h : DenO (ctOf X W B H0 as ks) ow (oLc wk mi g mt me vs sg S) H Q) : tLc wi (canG X.K tch g) (canT X.K X.mg W0 mt) (canE X.K X.mg W0 false me) vs σ H Q := by
  refine hi _ _ _ _ _ _ _ _ _ _ r (DenO.bind h fun ds S1 J H1 e0 e1 s1 q1 h1 => ?_)
  clear e0
  by_cases hc : (decide (ds.length ≤ 16777216) && (!wk || D.flatA ds) && vs.all fun v => !isOwn sg[v]?) = true
  · simp only [if_pos hc] at h1
    rw [Bool.and_eq_true, Bool.and_eq_true] at hc
    have hlen : ds.length ≤ 16777216 := of_decide_eq_true hc.1.1
    have hfl : wk = true → D.flatA ds = true := fun z => by
      have := hc.1.2
      rw [z] at this
      exact this
    have hno : ∀ v ∈ vs, isOwn sg[v]? = false := fun v hv => by
      have := List.all_eq_true.mp hc.2 v hv
      simpa using this
    obtain ⟨kps, rk, wk2⟩ := q1
    have r1 := r.step e1 s1
    intro p hp
    have r2 : Rl X.K B H0 as ks (ow ++ [some p]) sg S1 σ (upd H1 p (.lst [])) := r1.ghost hp
    have hlo : (wipeS sg vs).length ≤ ow.length := by rw [wipeS_length]; exact r.lo
    have pas : p ∉ as := fun z => r1.bdDom p (r1.asBd p z) hp
    have evH : Evo X.K (· ∈ as) H1 (upd H1 p (.lst [])) := Evo.new hp
    -- what the walked thing needs
    have rk' : ∀ q ∈ kps, Rep X.K as (if wk then (· ∈ as) else Bd B (ow ++ [some p])) (upd H1 p (.lst [])) q.1 q.2 := fun q hq => by
      cases wk with
      | true => exact Rep.new hp (rk q hq)
      | false => exact Rep.new hp (Rep.more hp bd_ghost _ _ (rk q hq))
    have asW : ∀ a, a ∈ as → (if wk then (· ∈ as) else Bd B (ow ++ [some p])) a := fun a h => asWk r2 a h
    refine ⟨fun i m H' => m = ds.length - i ∧ i ≤ ds.length ∧ ∃ acc vacc S', Rl X.K B H0 as ks (ow ++ [some p]) (wipeS sg vs) S' (L2.wipe σ vs) H' ∧ (∀ a o, H1 a = some o → a ∉ as → (∀ ps, o ≠ .tbl ps) → H' a = some o) ∧ Evo X.K (fun a => a ∈ as) H1 H' ∧ (∀ q ∈ kps, Rep X.K as (if wk then (· ∈ as) else Bd B (ow ++ [some p])) H' q.1 q.2) ∧
      H' p = some (.lst vacc) ∧ RepA X.K as (Bd B (ow ++ [some p])) H' acc vacc ∧ acc.length ≤ i ∧ DenO (ctOf X W B H0 as ks) ow (((lcR g mt me (wipeS sg vs) (ds.drop i) S').bind fun y => .ok (acc ++ y.1, y.2)).bind fun y => .ok (.lst y.1, y.2)) H1 Q,
      ⟨_, rfl, Nat.zero_le _, [], [], S1, r2.wipe vs hno, evH.keep, evH, rk', upd_same, rfl, Nat.le_refl _, ?_⟩, ?_⟩
    · revert h1
      rw [List.drop_zero]
      show DenO _ _ ((lcR g mt me (wipeS sg vs) ds S1).bind _) H1 Q → _
      cases lcR g mt me (wipeS sg vs) ds S1 with
      | ok a => exact fun h => h
      | ex => exact fun h => h
      | bad => exact fun h => h
    rintro i m H2 ⟨em, hi2, acc, vacc, S2, r2, kp2, ev2, rk2, hp2, ra2, la2, h2⟩
    have wi2 := wk2 _ H2 rk2 i
    by_cases hlt : i < ds.length
    · right
      have ed : ds[i]? = some ds[i] := List.getElem?_eq_getElem hlt
      obtain ⟨go, yl⟩ := wi2.2 _ ed
      refine ⟨go, fun H' => i + 1 ≤ ds.length ∧ ∃ acc vacc S', Rl X.K B H0 as ks (ow ++ [some p]) (wipeS sg vs) S' (L2.wipe σ vs) H' ∧ (∀ a o, H1 a = some o → a ∉ as → (∀ ps, o ≠ .tbl ps) → H' a = some o) ∧ Evo X.K (fun a => a ∈ as) H1 H' ∧ (∀ q ∈ kps, Rep X.K as (if wk then (· ∈ as) else Bd B (ow ++ [some p])) H' q.1 q.2) ∧
        H' p = some (.lst vacc) ∧ RepA X.K as (Bd B (ow ++ [some p])) H' acc vacc ∧ acc.length ≤ i + 1 ∧ DenO (ctOf X W B H0 as ks) ow (((lcR g mt me (wipeS sg vs) (ds.drop (i + 1)) S').bind fun y => .ok (acc ++ y.1, y.2)).bind fun y => .ok (.lst y.1, y.2)) H1 Q,
        fun H' q => ⟨ds.length - (i + 1), by omega, rfl, q.1, q.2⟩, fun x H3 y => ?_⟩
      obtain ⟨e3, rx⟩ := yl x H3 y
      have r3 := r2.step e3.any (r2.stoNew e3)
      have rx' : Rep X.K as (Bd B (ow ++ [some p])) H3 ds[i] x := by
        cases wk with
        | false => exact rx
        | true =>
          have fl : ∀ (l : List D) (k : Nat) (d : D), D.flatA l = true → l[k]? = some d → d.flat = true := by
            intro l
            induction l with
            | nil => intro k d _ h; simp at h
            | cons c l ih =>
              intro k d hf h
              have hf' : (c.flat && D.flatA l) = true := hf
              rw [Bool.and_eq_true] at hf'
              cases k with
              | zero => simp at h; subst h; exact hf'.1
              | succ k => exact ih k d hf'.2 (by simpa using h)
          exact Rep.ofFlat _ _ (fl ds i _ (hfl rfl) ed) rx
      rw [List.drop_eq_getElem_cons hlt] at h2
      simp only [lcR] at h2
      cases eg : g ds[i] (wipeS sg vs) with
      | none => simp only [eg] at h2; exact False.elim h2
      | some sg1 =>
        simp only [eg] at h2
        refine ⟨B, H0, as, ks, ow ++ [some p], wipeS sg vs, S2, ds[i], sg1, r3, rx', eg, fun σ4 r4 k4 => ⟨wipe_back (k4.1.trans (wipe_length σ vs)) fun j hj => k4.2 j fun z => hj (htch j z), ?_⟩⟩
        -- the test, then the element
        have ev3 : Evo X.K (· ∈ as) H1 H3 := ev2.trans e3.any
        have hp3 : H3 p = some (.lst vacc) := e3.keep _ _ hp2 (fun z => z) (fun _ z => nomatch z)
        have ra3 := RepA.imp (B' := Bd B (ow ++ [some p])) e3 (fun _ z => z.elim) (fun _ z => z) _ _ ra2
        have rk3 := fun q hq => Rep.imp (B' := if wk then (· ∈ as) else Bd B (ow ++ [some p])) e3 (fun _ z => z.elim) (fun _ z => z) _ _ (rk2 q hq)
        cases et : mt sg1 S2 with
        | ex e sg5 S5 => simp only [et] at h2; exact False.elim h2
        | bad => simp only [et] at h2; exact False.elim h2
        | ok z =>
          obtain ⟨b, S3⟩ := z
          refine ⟨B, H0, as, ks, ow ++ [some p], sg1, S2, r4, ?_⟩
          rw [et]
          rintro b' H4 e4 s4 rfl
          have r5 := r4.step e4 s4
          have ev4 : Evo X.K (· ∈ as) H1 H4 := ev3.trans e4
          have hp4 : H4 p = some (.lst vacc) := e4.keep _ _ hp3 pas (fun _ z => nomatch z)
          have ra4 := RepA.imp (B' := Bd B (ow ++ [some p])) e4 r4.asBd (fun _ z => z) _ _ ra3
          have rk4 := fun q hq => Rep.imp (B' := if wk then (· ∈ as) else Bd B (ow ++ [some p])) e4 asW (fun _ z => z) _ _ (rk3 q hq)
          cases b' with
          | false =>
            simp only [et] at h2
            exact ⟨hlt, acc, vacc, S3, (r3.step e4 s4), fun a o q n nt => ev4.keep a o q n nt, ev4, rk4, hp4, ra4, by omega, h2⟩
          | true =>
            simp only [et] at h2
            cases em2 : me sg1 S3 with
            | ex e sg5 S5 => simp only [em2] at h2; exact False.elim h2
            | bad => simp only [em2] at h2; exact False.elim h2
            | ok z =>
              obtain ⟨d, S4⟩ := z
              simp only [em2] at h2
              refine ⟨B, H0, as, ks, ow ++ [some p], sg1, S3, r5, ?_⟩
              rw [em2]
              intro v H5 e5 s5 rv
              have r6 := (r3.step e4 s4).step e5 s5
              have ev5 : Evo X.K (· ∈ as) H1 H5 := ev4.trans e5
              have hp5 : H5 p = some (.lst vacc) := e5.keep _ _ hp4 pas (fun _ z => nomatch z)
              have ra5 := RepA.imp (B' := Bd B (ow ++ [some p])) e5 r4.asBd (fun _ z => z) _ _ ra4
              have rk5 := fun q hq => Rep.imp (B' := if wk then (· ∈ as) else Bd B (ow ++ [some p])) e5 asW (fun _ z => z) _ _ (rk4 q hq)
              have lv : vacc.length < 16777216 := by rw [← ra5.length]; omega
              refine ⟨vacc, hp5, lineL lv, ?_⟩
              obtain ⟨r7, e7⟩ := r6.putGhost (o := .lst (vacc ++ [v])) hlo hp5 (fun _ z => by cases z) (fun _ _ z => by cases z)
              have bp : ∀ b, b = p → Bd B (ow ++ [some p]) b := fun b z => .inr (z ▸ List.mem_append_right _ List.mem_cons_self)
              have ev7 : Evo X.K (· ∈ as) H1 (upd H5 p (.lst (vacc ++ [v]))) := by
                exact ev5.upd0 hp e7
              have rk7 : ∀ q ∈ kps, Rep X.K as (if wk then (· ∈ as) else Bd B (ow ++ [some p])) (upd H5 p (.lst (vacc ++ [v]))) q.1 q.2 := fun q hq => by
                cases wk with
                | false => exact Rep.imp e7 bp (fun _ z => z) _ _ (rk5 q hq)
                | true =>
                  -- what is walked was there ahead of the new list
                  exact Rep.imp ev7 (fun _ z => z) (fun _ z => z) _ _ (rk q hq)
              refine ⟨hlt, acc ++ [d], vacc ++ [v], S4, r7, ev7.keep, ev7, rk7, upd_same, ?_, by rw [List.length_append]; show _ + 1 ≤ _; omega, ?_⟩
              · exact RepA.imp e7 bp (fun _ z => z) _ _ (ra5.append (RepA.one rv))
              · revert h2
                cases lcR g mt me (wipeS sg vs) (ds.drop (i + 1)) S4 with
                | ok y =>
                  intro h2
                  simp only [R.bind, List.append_assoc, List.singleton_append] at h2 ⊢
                  exact h2
                | ex => exact fun h => h
                | bad => exact fun h => h
    · left
      have ei : i = ds.length := by omega
      subst ei
      refine ⟨wi2.1 (Nat.le_refl _), ?_⟩
      rw [List.drop_length] at h2
      simp only [lcR, R.bind, List.append_nil] at h2
      exact h2 p H2 hp ev2 (r2.sto.weak bd_ghost') ⟨vacc, hp2, RepA.imp (W := fun _ => False) Evo.refl (fun _ z => z.elim) bd_ghost' _ _ ra2⟩
  · simp only [if_neg hc] at h1
    exact False.elim h1
end
end D2

namespace D2
open PySem PySem.Spec PyProof.Rows L2

section
variable {X : Cx} {W : WX2} {wk : Bool} {pos spos : Pos}
abbrev blkW (X : Cx) (P : Cx → Prop) (scope : Scope) : Prop := ∀ (s : Shared) (H : Hp) (C : Addr) (cl : List (Str × Addr)) (fp : List Addr), P (X.blk s H scope (compEnvC scope cl C X.env) fp)
/-- [elt for tg in iter if ..] -/
theorem f2_lc {elt tg iter : Expr} {ifs : List Expr} {scope : Scope} (own : List (Str × Nat)) {mi : MA} {g : D → List Sl → Option (List Sl)} {mt : MT} {me : ME} {tch : List Nat} (hc : X.calm = true) (hN : X.N.Nodup) (hi : PI2 X W wk tg iter mi) (ok : BlkOk X.N X.env.scope scope own)
    (hg : ∀ (s : Shared) (H : Hp) (C : Addr) (cl : List (Str × Addr)) (fp : List Addr), PG2 (X.blk s H scope (compEnvC scope cl C X.env) fp) tg tch g) (ht : ∀ (s : Shared) (H : Hp) (C : Addr) (cl : List (Str × Addr)) (fp : List Addr), PTs2 (X.blk s H scope (compEnvC scope cl C X.env) fp) W0 ifs mt)
    (he : ∀ (s : Shared) (H : Hp) (C : Addr) (cl : List (Str × Addr)) (fp : List Addr), PE2 (X.blk s H scope (compEnvC scope cl C X.env) fp) W0 false elt me) (htch : ∀ j ∈ tch, j ∈ own.map (·.2) := by decide) (hs : ∀ x, foldedSetIterable iter X.env x = pure x := by intro _; rfl) :
    PF2 X W (.ListComp elt [⟨tg, iter, ifs, 0⟩] scope pos) (oLc wk mi g mt me (own.map (·.2))) := by
  obtain ⟨wi, a1, a2⟩ := hi
  refine ⟨_, pe_lc (te := canE X.K X.mg W0 false me) (tt := canT X.K X.mg W0 mt) (g := canG X.K tch g) hc hN a1 ok (fun s H C cl fp => (hg s H C cl fp).can) (fun s H C cl fp => ht s H C cl fp) (fun s H C cl fp => (he s H C cl fp).can) hs, fun B H0 as ks ow sg S σ H Q r h => ?_⟩
  exact lc_den (tg := tg) (iter := iter) (elt := elt) (ifs := ifs) htch a2 r h
/-- name = [..] on one line -/
theorem lc_own {wi : TI} {tch vs : List Nat} {g : D → List Sl → Option (List Sl)} {mt : MT} {me : ME} {mi : MA} (i : Nat) {B : Addr → Prop} {H0 : Hp} {as : List Addr} {ks : List (D × V)} {ow : List (Option Addr)} {sg : List Sl} {S : List O} {σ : L2.St} {H : Hp} {Dd : Ends} (r : Rl X.K B H0 as ks ow sg S σ H)
    (k : ∀ Q : VK, DenO (ctOf X W B H0 as ks) ow (oLc wk mi g mt me vs sg S) H Q → tLc wi (canG X.K tch g) (canT X.K X.mg W0 mt) (canE X.K X.mg W0 false me) vs σ H Q)
    (h : DenS (ctOf X W B H0 as ks) (mSetO i (oLc wk mi g mt me vs) sg S) Dd) : tAsg (tLc wi (canG X.K tch g) (canT X.K X.mg W0 mt) (canE X.K X.mg W0 false me) vs) (gName i) Dd σ H := by
  refine k _ ?_
  unfold mSetO at h
  revert h
  cases oLc wk mi g mt me vs sg S with
  | ok x =>
    obtain ⟨o, S'⟩ := x
    intro h a H' ha e s q
    by_cases il : i < sg.length
    · simp only [R.bind, if_pos il] at h
      exact h _ _ H' (r.setOwn i il ha e s q)
    · simp only [R.bind, if_neg il] at h
      exact False.elim h
  | ex e' sg S' => exact fun h => h
  | bad => exact fun h => h
theorem s2_ownLc (i : Nat) {y : Str} {py : Pos} {elt tg iter : Expr} {ifs : List Expr} {scope : Scope} (own : List (Str × Nat)) {mi : MA} {g : D → List Sl → Option (List Sl)} {mt : MT} {me : ME} {tch : List Nat} (hc : X.calm = true) (hN : X.N.Nodup) (hy : X.N[i]? = some y) (hyl : X.env.scope.names.lookup y = some .local)
    (hsw : swapsWith (.ListComp elt [⟨tg, iter, ifs, 0⟩] scope pos) (some (.Name y py)) spos.line X.env = pure true) (hi : PI2 X W wk tg iter mi) (ok : BlkOk X.N X.env.scope scope own)
    (hg : ∀ (s : Shared) (H : Hp) (C : Addr) (cl : List (Str × Addr)) (fp : List Addr), PG2 (X.blk s H scope (compEnvC scope cl C X.env) fp) tg tch g) (ht : ∀ (s : Shared) (H : Hp) (C : Addr) (cl : List (Str × Addr)) (fp : List Addr), PTs2 (X.blk s H scope (compEnvC scope cl C X.env) fp) W0 ifs mt)
    (he : ∀ (s : Shared) (H : Hp) (C : Addr) (cl : List (Str × Addr)) (fp : List Addr), PE2 (X.blk s H scope (compEnvC scope cl C X.env) fp) W0 false elt me) (htch : ∀ j ∈ tch, j ∈ own.map (·.2) := by decide) (hs : ∀ x, foldedSetIterable iter X.env x = pure x := by intro _; rfl) :
    PS2 X W (.Assign [.Name y py] (.ListComp elt [⟨tg, iter, ifs, 0⟩] scope pos) spos) (mSetO i (oLc wk mi g mt me (own.map (·.2)))) := by
  obtain ⟨wi, a1, a2⟩ := hi
  refine ⟨_, ps_setLc (te := canE X.K X.mg W0 false me) (tt := canT X.K X.mg W0 mt) (g := canG X.K tch g) hc hN hy hyl hsw a1 ok (fun s H C cl fp => (hg s H C cl fp).can) (fun s H C cl fp => ht s H C cl fp) (fun s H C cl fp => (he s H C cl fp).can) hs, fun B H0 as ks ow sg S σ H Dd r h => ?_⟩
  exact lc_own i r (fun Q q => lc_den (tg := tg) (iter := iter) (elt := elt) (ifs := ifs) htch a2 r q) h
/-- a name's own new list is let go at once -/
def mAft (i : Nat) (m : MS) : MS := fun sg S => (m sg S).bind fun x => .ok (x.1, frz i x.2.1, x.2.2)
abbrev mSetF (i : Nat) (m : MO) : MS := mAft i (mSetO i m)
theorem s2_after (i : Nat) {st : Stmt} {m : MS} (h : PS2 X W st m) : PS2 X W st (mAft i m) := by
  obtain ⟨t, h1, h2⟩ := h
  refine ⟨t, h1, fun B H0 as ks ow sg S σ H Dd r h => h2 _ _ _ _ _ _ _ _ _ _ r ?_⟩
  unfold mAft at h
  revert h
  cases m sg S with
  | ok x =>
    obtain ⟨fl, sg', S'⟩ := x
    cases fl with
    | nx => exact fun h ow' σ' H' r' => let ⟨ow2, r2⟩ := r'.frz i; h ow2 σ' H' r2
    | bk => exact fun h ow' σ' H' r' => let ⟨ow2, r2⟩ := r'.frz i; h ow2 σ' H' r2
    | ct => exact fun h ow' σ' H' r' => let ⟨ow2, r2⟩ := r'.frz i; h ow2 σ' H' r2
    | rt d => exact fun h => h
  | ex => exact fun h => h
  | bad => exact fun h => h
theorem s2_letGo (i : Nat) {st : Stmt} {mo : MO} (h : PS2 X W st (mSetO i mo)) : PS2 X W st (mSetF i mo) := s2_after i h
end

/-! ### the defs -/
/-- what a def computes -/
abbrev FD := List D → List O → R (D × List O)
def Fn2 (K : PySem.W.Frag) (n : Nat) (F : FD) : Sp := fun vs H Q _ => vs.length = n ∧ ∃ (B : Addr → Prop) (as : List Addr) (S : List O) (ds : List D), (∀ a, B a → H a ≠ none) ∧ (∀ a, a ∈ as → B a) ∧ Sto K as B H S ∧ RepA K as B H ds vs ∧
  match F ds S with
  | .ok (d, S') => ∀ v H', Evo K (· ∈ as) H H' → Sto K as B H' S' → Rep K as B H' d v → Q v H'
  | _ => False
def startS (N : List Str) (ds : List D) : List Sl := ds.map Sl.val ++ List.replicate (N.length - ds.length) Sl.no
def fnR : R (Fl × List Sl × List O) → R (D × List O)
  | .ok (.nx, _, S) => .ok (.non, S)
  | .ok (.rt d, _, S) => .ok (d, S)
  | .ok _ => .bad
  | .ex e sg S => .ex e sg S
  | .bad => .bad
def fnF (N : List Str) (m : MS) : FD := fun ds S => fnR (m (startS N ds) S)
theorem rl_start {K : PySem.W.Frag} {B : Addr → Prop} {H : Hp} {as : List Addr} {S : List O} {N : List Str} {ds : List D} {vs : List V} (hB : ∀ a, B a → H a ≠ none) (hA : ∀ a, a ∈ as → B a) (hS : Sto K as B H S) (hR : RepA K as B H ds vs) :
    Rl K B H as [] (List.replicate (startS N ds).length none) (startS N ds) S (L2.start N vs) H := by
  have nomem : ∀ a (n : Nat), some a ∉ (List.replicate n none : List (Option Addr)) := fun a n z => by
    have := List.eq_of_mem_replicate z
    cases this
  have bd : ∀ a, Bd B (List.replicate (startS N ds).length none) a → B a := fun a h => h.elim id fun z => absurd z (nomem a _)
  refine ⟨by simp, by simp [startS, L2.start, hR.length], fun i s hs => ?_, fun i j a h _ => absurd (List.mem_of_getElem? h) (nomem a _), fun a h => absurd h (nomem a _), fun a h => absurd h (nomem a _), hB, hA, Evo.refl, hS.weak bd, fun p hp => by cases hp⟩
  have hl : i < (startS N ds).length := (List.getElem?_eq_some_iff.mp hs).1
  refine ⟨none, (L2.start N vs).getD i none, by rw [List.getElem?_replicate, if_pos hl], ?_, ?_⟩
  · rw [List.getD_eq_getElem?_getD]
    have : i < (L2.start N vs).length := by simp [startS, L2.start, hR.length] at hl ⊢; omega
    rw [List.getElem?_eq_getElem this]; rfl
  · unfold startS at hs
    by_cases hi : i < ds.length
    · rw [List.getElem?_append_left (by simpa using hi), List.getElem?_map] at hs
      cases e : ds[i]? with
      | none => rw [e] at hs; cases hs
      | some d =>
        rw [e] at hs
        cases hs
        obtain ⟨v, hv, rv⟩ := hR.get e
        refine ⟨rfl, v, ?_, Rep.imp (W := fun _ => False) Evo.refl (fun _ z => z.elim) bd d v rv⟩
        have hi' : i < vs.length := by rw [← hR.length]; exact hi
        rw [List.getD_eq_getElem?_getD]
        unfold L2.start
        rw [List.getElem?_append_left (by simpa using hi'), List.getElem?_map, hv]; rfl
    · rw [List.getElem?_append_right (by simpa using hi), List.getElem?_replicate] at hs
      split at hs
      · cases hs; rfl
      · cases hs
section
variable {P : Program} {w : World} {K : PySem.W.Frag} {mg : Str → Option Value} {base : Heap}
/-- THE RULE for a def: its body -/
theorem fn2_ok {x qual : Str} {st : Stmt} {f : Addr} {fd : FuncData} {N ps : List Str} {k : Nat} {m : MS} (F : Fun K x qual st f fd) (Sc : FnScope N ps (defScope st))
    (body : ∀ (cdv : Value) (A : Around) (outer : List Env) (s : Shared) (H : Hp) (E : XK), Room k (A.deeper (envOfC qual (defScope st) s.heap.objs.size f cdv)) → PSs2 (cxOf CX0 P w K mg base N qual (defScope st) f cdv A outer s H E).nox W0 (defBody st) m) :
    FnOk P w K mg base CX0 (k + 1) f fd ps (Fn2 K ps.length (fnF N m)) := by
  refine F.ok Sc (fun vs H Q E h => h.1) (fun cdv A outer s H vs Q E hr h => ?_)
  obtain ⟨hl, B, as, S, ds, hB, hA, hS, hR, hF⟩ := h
  obtain ⟨t, p, sim⟩ := body cdv A outer s H E hr
  refine ⟨t, p, sim B H as [] _ (startS N ds) S (L2.start N vs) H _ (rl_start hB hA hS hR) ?_⟩
  unfold fnF at hF
  revert hF
  cases m (startS N ds) S with
  | ok z =>
    obtain ⟨fl, sg', S'⟩ := z
    cases fl with
    | nx => exact fun hF ow' σ' H' r' => hF .non H' r'.evo (r'.sto.weak bdB) rfl
    | bk => exact fun hF => False.elim hF
    | ct => exact fun hF => False.elim hF
    | rt d => exact fun hF v H' e s q => hF v H' e s q
  | ex e sg S' => exact fun hF => False.elim hF
  | bad => exact fun hF => False.elim hF
theorem FnOk.none {f : Addr} {fd : FuncData} {ps : List Str} {n : Nat} : FnOk P w K mg base CX0 0 f fd ps (Fn2 K n fun _ _ => .bad) := by
  have no : ∀ vs H Q E, ¬ Fn2 K n (fun _ _ => .bad) vs H Q E := fun vs H Q E h => by
    obtain ⟨_, _, _, _, _, _, _, _, _, z⟩ := h
    exact z
  exact ⟨fun vs H Q E h => absurd h (no vs H Q E), fun A outer s H args us vs Q E _ _ _ _ h => absurd h (no vs H Q E)⟩
end
section
variable {X : Cx} {W : WX2} {wk : Bool} {pos : Pos}
def mCall (F : FD) (ms : MA) : ME := fun sg S => (ms sg S).bind fun x => match F x.1 x.2 with
  | .ok y => .ok y
  | _ => .bad
theorem e2_call {F : FD} {ms : MA} {k : Nat} {f : Addr} {fd : FuncData} {ps : List Str} {x : Str} {p : Pos} {e : Expr} {es : List Expr} {n : Nat} (G : FnOk X.prog X.w X.K X.mg X.base CX0 k f fd ps (Fn2 X.K n F)) (hr : Room k X.A) (hg : Gl X x) (hm : X.mg x = some (.ref f)) (hk : PySem.W.keepIn X.K (.ref f) = true) (hb : Binds X.K fd ps [])
    (ha : PA2 X W false (e :: es) ms) (hn : ∀ sg S ds S', ms sg S = .ok (ds, S') → ds.length = n) (hdb : (x == ("__debug__" : Str)) = false := by decide) (he : starEach (e :: es) X.env = (false, eval e X.env) :: starEach es X.env := by rfl) (hpl : (backTo pos (starEach es X.env)).any (·.1) = false := by rfl) :
    PE2 X W false (.Call (.Name x p) (e :: es) [] pos) (mCall F ms) := by
  obtain ⟨t, a1, a2⟩ := ha
  refine ⟨_, pe_call G hr hg hm hk hb .nil pass0 a1 hdb he hpl, fun B H0 as ks ow sg S σ H Q r h => ?_⟩
  refine a2 _ _ _ _ _ _ _ _ _ _ r (Den.bind h fun ds S1 vs H1 e0 e1 s1 q1 h1 => ?_)
  have r1 := r.step e1 s1
  rw [List.append_nil]
  refine ⟨by rw [← q1.length]; exact hn _ _ _ _ e0, Bd B ow, as, S1, ds, r1.bdDom, r1.asBd, r1.sto, q1, ?_⟩
  cases eF : F ds S1 with
  | ok z =>
    obtain ⟨d, S'⟩ := z
    simp only [eF] at h1
    exact fun v H' e s q => h1 v H' e s q
  | ex => simp only [eF] at h1; exact False.elim h1
  | bad => simp only [eF] at h1; exact False.elim h1
theorem nil_len {n : Nat} : ∀ sg S ds S', mNil sg S = .ok (ds, S') → ds.length = 0 := fun sg S ds S' h => by
  cases h
  rfl
theorem cons_len {m : ME} {ms : MA} {n : Nat} (h : ∀ sg S ds S', ms sg S = .ok (ds, S') → ds.length = n) : ∀ sg S ds S', mCons m ms sg S = .ok (ds, S') → ds.length = n + 1 := fun sg S ds S' e => by
  unfold mCons at e
  cases e1 : m sg S with
  | ok x =>
    rw [e1] at e
    simp only [R.bind] at e
    cases e2 : ms sg x.2 with
    | ok y =>
      rw [e2] at e
      cases e
      rw [List.length_cons, h _ _ y.1 y.2 e2]
    | ex => rw [e2] at e; cases e
    | bad => rw [e2] at e; cases e
  | ex => rw [e1] at e; cases e
  | bad => rw [e1] at e; cases e
/-! a call of a def that touches no object: its arguments may be weak -/
mutual
def D.noref : D → Bool
  | .tup ds => D.norefA ds
  | .lst ds => D.norefA ds
  | .xd _ ds => D.norefA ds
  | .dic _ ds => D.norefA ds
  | .ref _ => false
  | .fn _ ds => D.norefA ds
  | _ => true
def D.norefA : List D → Bool
  | [] => true
  | d :: ds => d.noref && D.norefA ds
end
mutual
theorem Rep.noref {K : PySem.W.Frag} {as bs : List Addr} {B : Addr → Prop} {H : Hp} : ∀ (d : D) (v : V), d.noref = true → Rep K as B H d v → Rep K bs B H d v
  | .non, _, _, h => h
  | .bl _, _, _, h => h
  | .int _, _, _, h => h
  | .str _, _, _, h => h
  | .tup ds, v, f, h => by
    obtain ⟨a, xs, e1, h1, h2⟩ := h
    exact ⟨a, xs, e1, h1, RepA.noref ds xs f h2⟩
  | .lst ds, v, f, h => by
    obtain ⟨a, xs, e1, nb, h1, h2⟩ := h
    exact ⟨a, xs, e1, nb, h1, RepA.noref ds xs f h2⟩
  | .dic ks ds, v, f, h => by
    obtain ⟨a, xs, e1, nb, h1, hl, h2⟩ := h
    exact ⟨a, xs, e1, nb, h1, hl, RepA.noref ds xs f h2⟩
  | .rng _ _, _, _, h => h
  | .xd ns ds, v, f, h => by
    obtain ⟨a, xs, e1, nb, h1, hl, h2⟩ := h
    exact ⟨a, xs, e1, nb, h1, hl, RepA.noref ds xs f h2⟩
  | .ref _, _, f, _ => nomatch f
  | .fn t ds, v, f, h => by
    obtain ⟨a, xs, e1, h1, h2⟩ := h
    exact ⟨a, xs, e1, h1, RepA.noref ds xs f h2⟩
theorem RepA.noref {K : PySem.W.Frag} {as bs : List Addr} {B : Addr → Prop} {H : Hp} : ∀ (ds : List D) (xs : List V), D.norefA ds = true → RepA K as B H ds xs → RepA K bs B H ds xs
  | [], _, _, h => h
  | d :: ds, xs, f, h => by
    obtain ⟨v, vs, e1, h1, h2⟩ := h
    have f' : (d.noref && D.norefA ds) = true := f
    rw [Bool.and_eq_true] at f'
    exact ⟨v, vs, e1, Rep.noref d v f'.1 h1, RepA.noref ds vs f'.2 h2⟩
end
mutual
theorem Rep.ofNil {K : PySem.W.Frag} {bs : List Addr} {B : Addr → Prop} {H : Hp} : ∀ (d : D) (v : V), Rep K [] B H d v → Rep K bs B H d v
  | .non, _, h => h
  | .bl _, _, h => h
  | .int _, _, h => h
  | .str _, _, h => h
  | .tup ds, v, h => by
    obtain ⟨a, xs, e1, h1, h2⟩ := h
    exact ⟨a, xs, e1, h1, RepA.ofNil ds xs h2⟩
  | .lst ds, v, h => by
    obtain ⟨a, xs, e1, nb, h1, h2⟩ := h
    exact ⟨a, xs, e1, nb, h1, RepA.ofNil ds xs h2⟩
  | .dic ks ds, v, h => by
    obtain ⟨a, xs, e1, nb, h1, hl, h2⟩ := h
    exact ⟨a, xs, e1, nb, h1, hl, RepA.ofNil ds xs h2⟩
  | .rng _ _, _, h => h
  | .xd ns ds, v, h => by
    obtain ⟨a, xs, e1, nb, h1, hl, h2⟩ := h
    exact ⟨a, xs, e1, nb, h1, hl, RepA.ofNil ds xs h2⟩
  | .ref _, v, h => by
    obtain ⟨a, _, h2⟩ := h
    simp at h2
  | .fn t ds, v, h => by
    obtain ⟨a, xs, e1, h1, h2⟩ := h
    exact ⟨a, xs, e1, h1, RepA.ofNil ds xs h2⟩
theorem RepA.ofNil {K : PySem.W.Frag} {bs : List Addr} {B : Addr → Prop} {H : Hp} : ∀ (ds : List D) (xs : List V), RepA K [] B H ds xs → RepA K bs B H ds xs
  | [], _, h => h
  | d :: ds, xs, h => by
    obtain ⟨v, vs, e1, h1, h2⟩ := h
    exact ⟨v, vs, e1, Rep.ofNil d v h1, RepA.ofNil ds vs h2⟩
end
def mCallP (F : FD) (ms : MA) : ME := fun sg S => (ms sg S).bind fun x => if D.norefA x.1 = true then match F x.1 [] with
  | .ok (d, []) => .ok (d, x.2)
  | _ => .bad
  else .bad
theorem e2_callP {F : FD} {ms : MA} {k : Nat} {f : Addr} {fd : FuncData} {ps : List Str} {x : Str} {p : Pos} {e : Expr} {es : List Expr} {n : Nat} (G : FnOk X.prog X.w X.K X.mg X.base CX0 k f fd ps (Fn2 X.K n F)) (hr : Room k X.A) (hg : Gl X x) (hm : X.mg x = some (.ref f)) (hk : PySem.W.keepIn X.K (.ref f) = true) (hb : Binds X.K fd ps [])
    (ha : PA2 X W wk (e :: es) ms) (hn : ∀ sg S ds S', ms sg S = .ok (ds, S') → ds.length = n) (hdb : (x == ("__debug__" : Str)) = false := by decide) (he : starEach (e :: es) X.env = (false, eval e X.env) :: starEach es X.env := by rfl) (hpl : (backTo pos (starEach es X.env)).any (·.1) = false := by rfl) :
    PE2 X W wk (.Call (.Name x p) (e :: es) [] pos) (mCallP F ms) := by
  obtain ⟨t, a1, a2⟩ := ha
  refine ⟨_, pe_call G hr hg hm hk hb .nil pass0 a1 hdb he hpl, fun B H0 as ks ow sg S σ H Q r h => ?_⟩
  refine a2 _ _ _ _ _ _ _ _ _ _ r (Den.bind h fun ds S1 vs H1 e0 e1 s1 q1 h1 => ?_)
  have r1 := r.step e1 s1
  rw [List.append_nil]
  by_cases hf : D.norefA ds = true
  · simp only [if_pos hf] at h1
    refine ⟨by rw [← q1.length]; exact hn _ _ _ _ e0, (if wk then (· ∈ as) else Bd B ow), [], [], ds, fun a ha => r1.bdDom a (wkBd r1 a ha), (fun a ha => absurd ha List.not_mem_nil), ⟨rfl, List.nodup_nil, (fun n o z => by simp at z), s1.tab⟩, RepA.noref ds vs hf q1, ?_⟩
    cases eF : F ds [] with
    | ok z =>
      obtain ⟨d, S'⟩ := z
      cases S' with
      | nil =>
        simp only [eF] at h1
        intro v H' e s q
        have e' : Evo X.K (fun _ => False) H1 H' := e.weak fun a z => by cases z
        exact h1 v H' e'.any (r1.stoNew e') (Rep.ofNil d v q)
      | cons o S' => simp only [eF] at h1; exact False.elim h1
    | ex => simp only [eF] at h1; exact False.elim h1
    | bad => simp only [eF] at h1; exact False.elim h1
  · simp only [if_neg hf] at h1
    exact False.elim h1

/-! ### a method that changes a name's own object -/
def O.isL : O → Bool
  | .lst _ => true
  | _ => false
def O.isD : O → Bool
  | .dic _ _ => true
  | _ => false
def OwnOk (K : PySem.W.Frag) (T : String) (c : O → Bool) (f : O → List D → Option (O × D)) (r : V → List V → Hp → VK → Prop) : Prop := ∀ (as : List Addr) (Bs : Addr → Prop) (H : Hp) (o : O) (a : Addr), ORep K as Bs H o a → Bs a → c o = true →
  tyV K T (.ref a) H ∧ ∀ H2 ds vs o' z (Q : VK), ORep K as Bs H2 o a → RepA K as Bs H2 ds vs → f o ds = some (o', z) → (∀ u ho, ORep K as Bs (upd H2 a ho) o' a → Rep K as Bs (upd H2 a ho) z u → Q u (upd H2 a ho)) → r (.ref a) vs H2 Q
def mOwn (i : Nat) (c : O → Bool) (f : O → List D → Option (O × D)) (ms : MA) : List Sl → List O → R (D × List Sl × List O) := fun sg S => match sg[i]? with
  | some (.own o) => if c o = true then (ms sg S).bind fun x => match f o x.1 with
      | some (o', z) => .ok (z, sg.set i (.own o'), x.2)
      | none => .bad
    else .bad
  | _ => .bad
def mOwnE (i : Nat) (c : O → Bool) (f : O → List D → Option (O × D)) (ms : MA) : MS := fun sg S => (mOwn i c f ms sg S).bind fun x => .ok (.nx, x.2)
def mOwnS (i j : Nat) (c : O → Bool) (f : O → List D → Option (O × D)) (ms : MA) : MS := fun sg S => (mOwn i c f ms sg S).bind fun x => .ok (.nx, x.2.1.set j (.val x.1), x.2.2)
theorem own_den {T : String} {c : O → Bool} {f : O → List D → Option (O × D)} {r2 : V → List V → Hp → VK → Prop} {i : Nat} {ms : MA} {t : TA} (hop : OwnOk X.K T c f r2)
    (a2 : ∀ B H0 as ks ow sg S σ H (Q : List V → Hp → Prop), Rl X.K B H0 as ks ow sg S σ H → Den (ctOf X W B H0 as ks) ow ((ctOf X W B H0 as ks).rpa ow false) (ms sg S) H Q → t σ H Q)
    {B : Addr → Prop} {H0 : Hp} {as : List Addr} {ks : List (D × V)} {ow : List (Option Addr)} {sg : List Sl} {S : List O} {σ : L2.St} {H : Hp} {Dd : Ends} {k : D × List Sl × List O → R (Fl × List Sl × List O)} (r : Rl X.K B H0 as ks ow sg S σ H)
    (h : DenS (ctOf X W B H0 as ks) ((mOwn i c f ms sg S).bind k) Dd) (Q : VK)
    (hQ : ∀ u z sg' S' H', Rl X.K B H0 as ks ow sg' S' σ H' → Rep X.K as (Bd B ow) H' z u → DenS (ctOf X W B H0 as ks) (k (z, sg', S')) Dd → Q u H') :
    tVar i σ H fun x H1 => tyV X.K T x H1 ∧ t σ H1 fun xs H2 => r2 x xs H2 Q := by
  cases e : sg[i]? with
  | none => simp only [mOwn, e] at h; exact False.elim h
  | some s =>
    cases s with
    | no => simp only [mOwn, e] at h; exact False.elim h
    | val d => simp only [mOwn, e] at h; exact False.elim h
    | own o =>
      obtain ⟨w, x, h1, h2, a, h3, h4, h5⟩ := r.sl i _ e
      subst h3
      subst h4
      have ha := List.mem_of_getElem? h1
      by_cases hc : c o = true
      · simp only [mOwn, e, if_pos hc] at h
        obtain ⟨ty, go⟩ := hop as (Bd B ow) H o a h5 (.inr ha) hc
        refine ⟨_, h2, ty, a2 _ _ _ _ _ _ _ _ _ _ r ?_⟩
        revert h
        cases ms sg S with
        | ok y =>
          obtain ⟨ds, S1⟩ := y
          intro h vs H2 e2 s2 q2
          have r2 := r.step e2 s2
          have o2 : ORep X.K as (Bd B ow) H2 o a := ORep.imp e2 r.asBd (fun _ z => z) o a (r.ownAs ha) h5
          cases ef : f o ds with
          | none => simp only [R.bind, ef] at h; exact False.elim h
          | some p =>
            obtain ⟨o', z⟩ := p
            simp only [R.bind, ef] at h
            exact go H2 ds vs o' z Q o2 q2 ef fun u ho k1 k2 => hQ u z _ S1 _ (r2.putOwn e h1 k1) k2 h
        | ex => exact fun h => h
        | bad => exact fun h => h
      · simp only [mOwn, e, if_neg hc] at h; exact False.elim h
section
variable {x y meth : Str} {px py apos cpos : Pos} {e : Expr} {es : List Expr} {T id : String} {c : O → Bool} {f : O → List D → Option (O × D)} {r2 : V → List V → Hp → VK → Prop} {ms : MA}
/-- x.meth(e, ..) -/
theorem s2_ownE (i : Nat) (pa : PlainAttrs T) (slot : Slot T meth id) (hty : typeOf (.builtin id) = pure (.type "method_descriptor")) (hm : MtR X id r2) (hop : OwnOk X.K T c f r2) (ha : PA2 X W false (e :: es) ms)
    (hN : X.N[i]? = some x := by rfl) (hv : Vis X.env.scope x := by first | exact Or.inl rfl | exact Or.inr (Or.inl rfl) | exact Or.inr (Or.inr rfl)) (hd : (x == ("__debug__" : Str)) = false := by decide) (hcd : (x == ("__classdict__" : Str)) = false := by decide)
    (hbase : attributeBase (.Name x px) meth X.env (eval (.Name x px) X.env) = eval (.Name x px) X.env := by rfl)
    (hfew : ((backTo cpos (starEach (e :: es) X.env)).all (fun x => !x.1) && (backToKw cpos (keywordEach [] X.env)).all (fun x => x.1.isSome)
      && decide ((e :: es).length + ([] : List Keyword).length + (if ([] : List Keyword).isEmpty then 0 else 1) < 30)) = true := by rfl)
    (hline : (apos.endLine == cpos.line) = true := by rfl) (hs : starEach (e :: es) X.env = (false, eval e X.env) :: starEach es X.env := by rfl) (hplain : (backTo cpos (starEach es X.env)).any (·.1) = false := by rfl)
    (hsw : swapsWith (.Call (.Attribute (.Name x px) meth apos) (e :: es) [] cpos) none pos.line X.env = pure false := by rfl) :
    PS2 X W (.Expr (.Call (.Attribute (.Name x px) meth apos) (e :: es) [] cpos) pos) (mOwnE i c f ms) := by
  obtain ⟨t, a1, a2⟩ := ha
  refine ⟨_, ps_expr (pe_bm pa slot hty hm (pe_var hN hv hd hcd) a1 hbase hfew hline hs hplain) hsw, fun B H0 as ks ow sg S σ H Dd r h => ?_⟩
  exact own_den hop a2 r h _ fun u z sg' S' H' r' q' h' => h' _ _ _ r'
theorem s2_ownE0 (i : Nat) (pa : PlainAttrs T) (slot : Slot T meth id) (hty : typeOf (.builtin id) = pure (.type "method_descriptor")) (hm : MtR X id r2) (hop : OwnOk X.K T c f r2)
    (hN : X.N[i]? = some x := by rfl) (hv : Vis X.env.scope x := by first | exact Or.inl rfl | exact Or.inr (Or.inl rfl) | exact Or.inr (Or.inr rfl)) (hd : (x == ("__debug__" : Str)) = false := by decide) (hcd : (x == ("__classdict__" : Str)) = false := by decide)
    (hbase : attributeBase (.Name x px) meth X.env (eval (.Name x px) X.env) = eval (.Name x px) X.env := by rfl) (hline : (apos.endLine == cpos.line) = true := by rfl)
    (hsw : swapsWith (.Call (.Attribute (.Name x px) meth apos) [] [] cpos) none pos.line X.env = pure false := by rfl) :
    PS2 X W (.Expr (.Call (.Attribute (.Name x px) meth apos) [] [] cpos) pos) (mOwnE i c f mNil) := by
  refine ⟨_, ps_expr (pe_bm0 pa slot hty hm (pe_var hN hv hd hcd) hbase hline) hsw, fun B H0 as ks ow sg S σ H Dd r h => ?_⟩
  exact own_den (W := W) (ms := mNil) (t := tNil) hop (fun B H0 as ks ow sg S σ H Q r h => h [] H Evo.refl r.sto rfl) r h _ fun u z sg' S' H' r' q' h' => h' _ _ _ r'
/-- y = x.meth() -/
theorem s2_ownS0 (i j : Nat) (pa : PlainAttrs T) (slot : Slot T meth id) (hty : typeOf (.builtin id) = pure (.type "method_descriptor")) (hm : MtR X id r2) (hop : OwnOk X.K T c f r2) (hND : X.N.Nodup)
    (hN : X.N[i]? = some x := by rfl) (hv : Vis X.env.scope x := by first | exact Or.inl rfl | exact Or.inr (Or.inl rfl) | exact Or.inr (Or.inr rfl)) (hd : (x == ("__debug__" : Str)) = false := by decide) (hcd : (x == ("__classdict__" : Str)) = false := by decide)
    (hbase : attributeBase (.Name x px) meth X.env (eval (.Name x px) X.env) = eval (.Name x px) X.env := by rfl) (hline : (apos.endLine == cpos.line) = true := by rfl)
    (hj : X.N[j]? = some y := by rfl) (hy : Loc X.env.scope y := by first | exact Or.inl rfl | exact Or.inr rfl) (hf : X.fn y = true ∨ X.env.scope.names.lookup y = some .local := by first | exact .inl rfl | exact .inr rfl)
    (hsw : swapsWithSole [.Name y py] (.Call (.Attribute (.Name x px) meth apos) [] [] cpos) pos.line X.env = pure false := by rfl) (hw : swappedStores [.Name y py] (.Call (.Attribute (.Name x px) meth apos) [] [] cpos) X.env = pure none := by rfl) (h1 : (assignEach [.Name y py] X.env).map (·.2) = [assign (.Name y py) X.env] := by rfl) :
    PS2 X W (.Assign [.Name y py] (.Call (.Attribute (.Name x px) meth apos) [] [] cpos) pos) (mOwnS i j c f mNil) := by
  refine ⟨_, ps_asg (pe_bm0 pa slot hty hm (pe_var hN hv hd hcd) hbase hline) (pg_name hND hj hy hf) hsw hw h1, fun B H0 as ks ow sg S σ H Dd r h => ?_⟩
  exact own_den (W := W) (ms := mNil) (t := tNil) hop (fun B H0 as ks ow sg S σ H Q r h => h [] H Evo.refl r.sto rfl) r h _ fun u z sg' S' H' r' q' h' => h' _ _ _ (r'.setVal j q')
end
/-! the methods -/
theorem tyL {K : PySem.W.Frag} {H : Hp} {a : Addr} {xs : List V} (h : H a = some (.lst xs)) : tyV K "list" (.ref a) H := .inl ⟨rfl, xs, SqL.of h⟩
theorem put_rep {K : PySem.W.Frag} {as : List Addr} {Bs : Addr → Prop} {H : Hp} {a : Addr} {t u : HO} {ds : List D} {xs : List V} (ht : H a = some t) (n1 : ∀ xs, t ≠ .tup xs) (n2 : ∀ ob w, t ≠ .frz ob w) (hb : Bs a) (h : RepA K as Bs H ds xs) (n3 : ∀ φ, t ≠ .ext φ := by intro _ z; cases z) (n4 : ∀ ps, t ≠ .tbl ps := by intro _ z; cases z) : RepA K as Bs (upd H a u) ds xs :=
  RepA.imp (W := (· = a)) (Evo.put ht n1 n2 rfl n3 n4) (fun b z => z ▸ hb) (fun _ z => z) _ _ h
def O.append : O → List D → Option (O × D)
  | .lst ds, [d] => if ds.length < 16777216 then some (.lst (ds ++ [d]), .non) else none
  | _, _ => none
theorem own_append {K : PySem.W.Frag} : OwnOk K "list" O.isL O.append rAppend := by
  intro as Bs H o a ho hb hc
  cases o <;> try (cases hc; done)
  rename_i xs
  obtain ⟨vs, g1, g2⟩ := ho
  refine ⟨tyL g1, fun H2 ds ws o' z Q h2 hd e q => ?_⟩
  obtain ⟨vs, g1, g2⟩ := h2
  match ds, e with
  | [d], e =>
    simp only [O.append] at e
    split at e
    · rename_i hl
      cases e
      obtain ⟨w, r, ew, k1, k2⟩ := hd
      have k2' : r = [] := k2
      subst k2'
      refine ⟨a, vs, w, rfl, ew, g1, lineL (by rw [← g2.length]; exact hl), q .non _ ⟨vs ++ [w], upd_same, ?_⟩ rfl⟩
      exact put_rep g1 (fun _ z => by cases z) (fun _ _ z => by cases z) hb (g2.append (RepA.one k1))
    · cases e
def O.extend : O → List D → Option (O × D)
  | .lst ds, [.lst es] => if ds.length + es.length ≤ 16777216 then some (.lst (ds ++ es), .non) else none
  | _, _ => none
theorem own_extend {K : PySem.W.Frag} : OwnOk K "list" O.isL O.extend rExtend := by
  intro as Bs H o a ho hb hc
  cases o <;> try (cases hc; done)
  rename_i xs
  obtain ⟨vs, g1, g2⟩ := ho
  refine ⟨tyL g1, fun H2 ds ws o' z Q h2 hd e q => ?_⟩
  obtain ⟨vs, g1, g2⟩ := h2
  match ds, e with
  | [.lst es], e =>
    simp only [O.extend] at e
    split at e
    · rename_i hl
      cases e
      obtain ⟨w, r, ew, k1, k2⟩ := hd
      have k2' : r = [] := k2
      subst k2'
      obtain ⟨b, us, eb, nb, k3, k4⟩ := k1
      subst eb
      refine ⟨a, b, vs, us, rfl, ew, g1, k3, lineN (by rw [← g2.length, ← k4.length]; exact hl), q .non _ ⟨vs ++ us, upd_same, ?_⟩ rfl⟩
      exact put_rep g1 (fun _ z => by cases z) (fun _ _ z => by cases z) hb (g2.append k4)
    · cases e
def O.pop : O → List D → Option (O × D)
  | .lst ds, [] => match ds[ds.length - 1]? with
    | some d => some (.lst ds.dropLast, d)
    | none => none
  | _, _ => none
theorem own_pop {K : PySem.W.Frag} : OwnOk K "list" O.isL O.pop rPop := by
  intro as Bs H o a ho hb hc
  cases o <;> try (cases hc; done)
  rename_i xs
  obtain ⟨vs, g1, g2⟩ := ho
  refine ⟨tyL g1, fun H2 ds ws o' z Q h2 hd e q => ?_⟩
  obtain ⟨vs, g1, g2⟩ := h2
  cases ds with
  | cons _ _ => cases e
  | nil =>
    have hd' : ws = [] := hd
    subst hd'
    simp only [O.pop] at e
    split at e
    · rename_i d hl
      cases e
      obtain ⟨v, k1, k2⟩ := g2.get hl
      rw [g2.length] at k1
      refine ⟨a, vs, v, rfl, rfl, g1, k1, q v _ ⟨vs.dropLast, upd_same, ?_⟩ ?_⟩
      · exact put_rep g1 (fun _ z => by cases z) (fun _ _ z => by cases z) hb g2.dropLast
      · exact Rep.imp (W := (· = a)) (Evo.put g1 (fun _ z => by cases z) (fun _ _ z => by cases z) rfl) (fun b z => z ▸ hb) (fun _ z => z) _ _ k2
    · cases e
end
end D2

namespace D2
open PySem PySem.Spec PyProof.Rows L2

/-! ### a dict as two lists -/
def dicPut (ks : List Key) (ds : List D) (k : Key) (d : D) : List Key × List D :=
  if (ks.any fun j => decide (j = k)) = true then (ks, List.zipWith (fun j e => if j = k then d else e) ks ds) else (ks ++ [k], ds ++ [d])
section
variable {K : PySem.W.Frag} {as : List Addr} {B : Addr → Prop} {H : Hp}
theorem zip_any (k : Key) : ∀ {ks : List Key} {xs : List V}, ks.length = xs.length → ((ks.zip xs).any fun kv => decide (kv.1 = k)) = ks.any fun j => decide (j = k)
  | [], xs, _ => by simp
  | j :: ks, [], h => by cases h
  | j :: ks, x :: xs, h => by
    rw [List.zip_cons_cons, List.any_cons, List.any_cons, zip_any k (by simpa using h)]
theorem zip_put (k : Key) (v : V) : ∀ {ks : List Key} {xs : List V}, ks.length = xs.length → (ks.zip xs).map (fun kv => if kv.1 = k then (kv.1, v) else kv) = ks.zip (List.zipWith (fun j e => if j = k then v else e) ks xs)
  | [], xs, _ => by simp
  | j :: ks, [], h => by cases h
  | j :: ks, x :: xs, h => by
    rw [List.zip_cons_cons, List.map_cons, List.zipWith_cons_cons, List.zip_cons_cons, zip_put k v (by simpa using h)]
    by_cases e : j = k
    · simp [e]
    · simp [e]
theorem rep_zipPut (k : Key) {d : D} {v : V} (hd : Rep K as B H d v) : ∀ {ks : List Key} {ds : List D} {xs : List V}, RepA K as B H ds xs → RepA K as B H (List.zipWith (fun j e => if j = k then d else e) ks ds) (List.zipWith (fun j e => if j = k then v else e) ks xs)
  | [], ds, xs, _ => by
    simp only [List.zipWith_nil_left]
    exact rfl
  | j :: ks, [], xs, h => by
    have e : xs = [] := h
    subst e
    exact rfl
  | j :: ks, c :: ds, xs, h => by
    obtain ⟨w, ws, e1, h1, h2⟩ := h
    subst e1
    rw [List.zipWith_cons_cons, List.zipWith_cons_cons]
    refine RepA.cons ?_ (rep_zipPut k hd h2)
    by_cases e : j = k
    · rw [if_pos e, if_pos e]; exact hd
    · rw [if_neg e, if_neg e]; exact h1
theorem dicPut_rep {ks : List Key} {ds : List D} {xs : List V} (k : Key) {d : D} {v : V} (hl : ks.length = xs.length) (h : RepA K as B H ds xs) (hd : Rep K as B H d v) :
    ∃ ys, putK (ks.zip xs) k v = (dicPut ks ds k d).1.zip ys ∧ (dicPut ks ds k d).1.length = ys.length ∧ RepA K as B H (dicPut ks ds k d).2 ys := by
  unfold putK dicPut
  rw [zip_any k hl]
  by_cases c : (ks.any fun j => decide (j = k)) = true
  · rw [if_pos c, if_pos c]
    refine ⟨_, zip_put k v hl, ?_, rep_zipPut k hd h⟩
    show ks.length = (List.zipWith _ ks xs).length
    rw [List.length_zipWith, ← hl]
    exact (Nat.min_self _).symm
  · rw [if_neg c, if_neg c]
    refine ⟨xs ++ [v], ?_, ?_, h.append (RepA.one hd)⟩
    · rw [List.zip_append hl]; rfl
    · simp [hl]
end

/-! ### x[k] = e -/
def O.put : O → D → D → Option O
  | .lst ds, .int j, d => match ixN ds.length j with
    | some p => some (.lst (ds.set p d))
    | none => none
  | .dic ks ds, k, d => match k.key? with
    | some k => if ks.length < 16777216 then some (.dic (dicPut ks ds k d).1 (dicPut ks ds k d).2) else none
    | none => none
  | _, _, _ => none
def rPut : TSet := fun o i v H Q => rSetL o i v H Q ∨ ∃ a H', o = .ref a ∧ DPut H a i v H' ∧ Q H'
theorem set_any {X : Cx} (hu : X.A.units + 1 < cLine) : PSet X rPut := by
  intro pins s σ H o i v ov iv u Q I ro ri rv h
  rcases h with h | ⟨a, H', rfl, g, q⟩
  · exact set_list pins s σ H o i v ov iv u Q I ro ri rv h
  · cases ro
    exact d_setItem hu I g ri rv fun s' I' => ⟨H', I', q⟩
theorem put_ok {K : PySem.W.Frag} {as : List Addr} {Bs : Addr → Prop} {H : Hp} {o o' : O} {a : Addr} {i d : D} {iv v : V} {Q : Hp → Prop} (ho : ORep K as Bs H o a) (hb : Bs a) (hi : Rep K as Bs H i iv) (hd : Rep K as Bs H d v) (e : o.put i d = some o')
    (q : ∀ u, ORep K as Bs (upd H a u) o' a → Q (upd H a u)) : rPut (.ref a) iv v H Q := by
  cases o with
  | lst ds =>
    cases i <;> try (cases e; done)
    rename_i j
    obtain ⟨xs, g1, g2⟩ := ho
    simp only [O.put] at e
    cases c : ixN ds.length j with
    | none => rw [c] at e; cases e
    | some p =>
      rw [c] at e
      cases e
      refine .inl ⟨a, xs, j, p, rfl, hi, g1, by rw [← g2.length]; exact c, q _ ⟨xs.set p v, upd_same, ?_⟩⟩
      exact put_rep g1 (fun _ z => by cases z) (fun _ _ z => by cases z) hb (g2.set p hd)
  | dic ks ds =>
    obtain ⟨xs, g1, gl, g2⟩ := ho
    simp only [O.put] at e
    cases c : i.key? with
    | none => rw [c] at e; cases e
    | some k =>
      rw [c] at e
      simp only at e
      split at e
      · rename_i hl
        cases e
        have ek := key_rep hi c
        subst ek
        obtain ⟨ys, y1, y2, y3⟩ := dicPut_rep k gl g2 hd
        refine .inr ⟨a, _, rfl, DPut.k (k := k) g1 (by rw [List.length_zip]; exact lineL (by omega)), q _ ⟨ys, by rw [upd_same, y1], y2, ?_⟩⟩
        exact put_rep g1 (fun _ z => by cases z) (fun _ _ z => by cases z) hb y3
      · cases e
section
variable {X : Cx} {W : WX2} {wk : Bool} {pos : Pos}
def mPut (i : Nat) (me mk : ME) : MS := fun sg S => (me sg S).bind fun x => match sg[i]? with
  | some (.own o) => (mk sg x.2).bind fun k => match o.put k.1 x.1 with
    | some o' => .ok (.nx, sg.set i (.own o'), k.2)
    | none => .bad
  | some (.val (.ref n)) => (mk sg x.2).bind fun k => match k.2[n]? with
    | some o => match o.put k.1 x.1 with
      | some o' => .ok (.nx, sg, k.2.set n o')
      | none => .bad
    | none => .bad
  | _ => .bad
theorem s2_put (i : Nat) {x : Str} {px p2 : Pos} {k e : Expr} {me mk : ME} (hu : X.A.units + 1 < cLine) (he : PE2 X W false e me) (hk : PE2 X W false k mk)
    (hN : X.N[i]? = some x := by rfl) (hv : Vis X.env.scope x := by first | exact Or.inl rfl | exact Or.inr (Or.inl rfl) | exact Or.inr (Or.inr rfl)) (hd : (x == ("__debug__" : Str)) = false := by decide) (hcd : (x == ("__classdict__" : Str)) = false := by decide)
    (ha : ∀ v, assign (.Subscript (.Name x px) k p2) X.env v = (do
      let ov ← PySem.holding [v] (eval (.Name x px) X.env)
      let iv ← PySem.holding [v, ov] (eval k X.env)
      standAt p2
      PySem.holding [v, ov, iv] (setItem ov iv v)
      release [v, ov, iv] []) := by intro _; rfl)
    (hs : swapsWithSole [.Subscript (.Name x px) k p2] e pos.line X.env = pure false := by rfl) (hw : swappedStores [.Subscript (.Name x px) k p2] e X.env = pure none := by rfl)
    (h1 : (assignEach [.Subscript (.Name x px) k p2] X.env).map (·.2) = [assign (.Subscript (.Name x px) k p2) X.env] := by rfl) : PS2 X W (.Assign [.Subscript (.Name x px) k p2] e pos) (mPut i me mk) := by
  obtain ⟨t, a1, a2⟩ := he
  obtain ⟨u, b1, b2⟩ := hk
  refine ⟨_, ps_asg a1 (pg_sub (pe_var hN hv hd hcd) b1 (set_any hu) ha) hs hw h1, fun B H0 as ks ow sg S σ H Dd r h => ?_⟩
  refine a2 _ _ _ _ _ _ _ _ _ _ r (DenS.bindE h fun d S1 v H1 e0 e1 s1 q1 h1 => ?_)
  have r1 := r.step e1 s1
  cases e : sg[i]? with
  | none => simp only [e] at h1; exact False.elim h1
  | some s =>
    cases s with
    | no => simp only [e] at h1; exact False.elim h1
    | own o =>
      simp only [e] at h1
      obtain ⟨w, xx, g1, g2, a, g3, g4, g5⟩ := r1.sl i _ e
      subst g3
      subst g4
      have hm := List.mem_of_getElem? g1
      refine ⟨.ref a, g2, ?_⟩
      refine b2 _ _ _ _ _ _ _ _ _ _ r1 (DenS.bindE h1 fun kd S2 kv H2 c0 e2 s2 q2 h2 => ?_)
      have r2 := r1.step e2 s2
      cases ep : o.put kd d with
      | none => simp only [ep] at h2; exact False.elim h2
      | some o' =>
        simp only [ep] at h2
        have g6 : ORep X.K as (Bd B ow) H2 o a := ORep.imp e2 r.asBd (fun _ z => z) o a (r1.ownAs hm) g5
        have q1' := Rep.imp (B' := Bd B ow) e2 r.asBd (fun _ z => z) d v q1
        exact put_ok g6 (.inr hm) q2 q1' ep fun u k1 => h2 _ _ _ (r2.putOwn e g1 k1)
    | val vd =>
      cases vd <;> try (simp only [e] at h1; exact False.elim h1)
      rename_i n
      simp only [e] at h1
      obtain ⟨w, xx, g1, g2, g3, vv, g4, g5⟩ := r1.sl i _ e
      subst g4
      obtain ⟨a, ea, hn⟩ := g5
      subst ea
      refine ⟨.ref a, g2, ?_⟩
      refine b2 _ _ _ _ _ _ _ _ _ _ r1 (DenS.bindE h1 fun kd S2 kv H2 c0 e2 s2 q2 h2 => ?_)
      have r2 := r1.step e2 s2
      cases eo : S2[n]? with
      | none => simp only [eo] at h2; exact False.elim h2
      | some o =>
        simp only [eo] at h2
        cases ep : o.put kd d with
        | none => simp only [ep] at h2; exact False.elim h2
        | some o' =>
          simp only [ep] at h2
          obtain ⟨a', ha', g6⟩ := r2.sto.ob n o eo
          rw [hn] at ha'
          cases ha'
          have q1' := Rep.imp (B' := Bd B ow) e2 r.asBd (fun _ z => z) d v q1
          obtain ⟨t, ht, n1, n2, n3, n4⟩ := g6.there
          exact put_ok g6 (r.asBd a (List.mem_of_getElem? hn)) q2 q1' ep fun u k1 => h2 _ _ _ (r2.putSto hn ht n1 n2 n3 n4 k1).1
/-! ### x[k]: also of an object that several may change -/
def ixS (S : List O) : D → D → Option D
  | .ref n, y => match S[n]? with
    | some o => D.ixo o.toD y
    | none => none
  | x, y => D.ixo x y
def mIx (ma mb : ME) : ME := fun sg S => (ma sg S).bind fun x => (mb sg x.2).bind fun y => R.of ((ixS y.2 x.1 y.1).map fun z => (z, y.2))
theorem e2_sub {a b : Expr} {ma mb : ME} (hu : X.A.units + 1 < cLine) (ha : PE2 X W wk a ma) (hb : PE2 X W wk b mb) (hs : PlainIx b) : PE2 X W wk (.Subscript a b pos) (mIx ma mb) := by
  obtain ⟨ta, a1, a2⟩ := ha
  obtain ⟨tb, b1, b2⟩ := hb
  refine ⟨_, pe_ix (ix_all hu) a1 b1 hs, fun B H0 as ks ow sg S σ H Q r h => ?_⟩
  refine a2 _ _ _ _ _ _ _ _ _ _ r (Den.bind h fun x S1 v H1 c1 e1 s1 q1 h1 => ?_)
  have r1 := r.step e1 s1
  refine b2 _ _ _ _ _ _ _ _ _ _ r1 (Den.bind h1 fun y S2 w H2 c2 e2 s2 q2 h2 => ?_)
  clear c1 c2 h1
  have r2 := r1.step e2 s2
  have q1' := Rep.imp (B' := if wk then (· ∈ as) else Bd B ow) e2 (asWk r) (fun _ z => z) x v q1
  cases e : ixS S2 x y with
  | none =>
    simp only [e] at h2
    exact False.elim h2
  | some z =>
    simp only [e] at h2
    have fin : ∀ u H', Evo X.K (fun _ => False) H2 H' → Rep X.K as (if wk then (· ∈ as) else Bd B ow) H' z u → Q u H' := fun u H' e3 q3 => h2 u H' e3.any (r2.stoNew e3) q3
    have dflt : D.ixo x y = some z → rIx2 X.K v w H2 Q := fun e => ok_ix as (Bd B ow) (· ∈ as) H2 x y z v w Q r.asBd r2.bdDom q1' q2 e fin
    cases x with
    | ref n =>
      simp only [ixS] at e
      cases eo : S2[n]? with
      | none => rw [eo] at e; cases e
      | some o =>
        rw [eo] at e
        simp only at e
        obtain ⟨a, ea, hn0⟩ := q1'
        have hn : as[n]? = some a := hn0
        subst ea
        obtain ⟨a', ha', g6⟩ := r2.sto.ob n o eo
        rw [hn] at ha'
        cases ha'
        -- the object is read as a list that no one changes just now
        have g7 : Rep X.K as (fun _ => False) H2 o.toD (.ref a) := g6.rep (fun _ z => z.elim) fun z => z
        cases o with
        | lst ds =>
          obtain ⟨xs, g1, g2⟩ := g6
          cases y <;> try (simp only [O.toD, D.ixo] at e; cases e; done)
          rename_i i
          obtain ⟨u, k1, k2⟩ := atI_rep g2 e
          exact .inl (.inl ⟨a, xs, i, u, rfl, q2, SqL.of g1, k1, fin _ _ Evo.refl (Rep.imp (W := fun _ => False) Evo.refl (fun _ z => z.elim) (wkBd r) _ _ k2)⟩)
        | dic ks2 ds =>
          obtain ⟨xs, g1, gl, g2⟩ := g6
          simp only [O.toD, D.ixo] at e
          split at e
          · rename_i k c1
            have ek := key_rep q2 c1
            subst ek
            obtain ⟨u, k1, k2⟩ := (dicGet_val (j := k) gl g2).2 z e
            exact .inr ⟨a, u, rfl, .inl ⟨_, k, .inl g1, rfl, k1.symm⟩, fin _ _ Evo.refl (Rep.imp (W := fun _ => False) Evo.refl (fun _ z => z.elim) (wkBd r) _ _ k2)⟩
          · cases e
    | _ => exact dflt e

/-! ### {k: v, ..} -/
abbrev MP := List Sl → List O → R (List (D × D) × List O)
def mPn : MP := fun _ S => .ok ([], S)
def mPc (mk mv : ME) (mp : MP) : MP := fun sg S => (mk sg S).bind fun k => (mv sg k.2).bind fun v => (mp sg v.2).bind fun p => .ok ((k.1, v.1) :: p.1, p.2)
def rpP (c : Ct) (ow : List (Option Addr)) : Hp → List (D × D) → List (V × V) → Prop := fun H ds vs => RepA c.K c.as (Bd c.B ow) H (ds.map (·.1)) (vs.map (·.1)) ∧ RepA c.K c.as (Bd c.B ow) H (ds.map (·.2)) (vs.map (·.2)) ∧ ds.length = vs.length
def PP2 (X : Cx) (W : WX2) (pos : Pos) (keys : List (Option Expr)) (values : List Expr) (m : MP) : Prop := ∃ trs, PPs X pos keys values trs ∧ ∀ B H0 as ks ow sg S σ H (Q : List (V × V) → Hp → Prop), Rl X.K B H0 as ks ow sg S σ H →
  Den (ctOf X W B H0 as ks) ow (rpP (ctOf X W B H0 as ks) ow) (m sg S) H Q → tPairs trs σ H Q
theorem p2_nil : PP2 X W pos [] [] mPn := ⟨_, pps_nil, fun B H0 as ks ow sg S σ H Q r h => h [] H Evo.refl r.sto ⟨rfl, rfl, rfl⟩⟩
theorem p2_cons {k v : Expr} {keys : List (Option Expr)} {values : List Expr} {mk mv : ME} {mp : MP} (hk : PE2 X W false k mk) (hv : PE2 X W false v mv) (hr : PP2 X W pos keys values mp) : PP2 X W pos (some k :: keys) (v :: values) (mPc mk mv mp) := by
  obtain ⟨tk, a1, a2⟩ := hk
  obtain ⟨tv, b1, b2⟩ := hv
  obtain ⟨tr, c1, c2⟩ := hr
  refine ⟨_, pps_cons a1 b1 c1, fun B H0 as ks ow sg S σ H Q r h => ?_⟩
  refine a2 _ _ _ _ _ _ _ _ _ _ r (Den.bind h fun x S1 u H1 _ e1 s1 q1 h1 => ?_)
  have r1 := r.step e1 s1
  refine b2 _ _ _ _ _ _ _ _ _ _ r1 (Den.bind h1 fun y S2 w H2 _ e2 s2 q2 h2 => ?_)
  have r2 := r1.step e2 s2
  refine c2 _ _ _ _ _ _ _ _ _ _ r2 (Den.bind h2 fun p S3 vs H3 _ e3 s3 q3 h3 => ?_)
  obtain ⟨k1, k2, k3⟩ := q3
  refine h3 ((u, w) :: vs) H3 Evo.refl s3 ⟨RepA.cons ?_ k1, RepA.cons ?_ k2, by simp [k3]⟩
  · exact Rep.imp (B' := Bd B ow) (e2.trans e3) r.asBd (fun _ z => z) _ _ q1
  · exact Rep.imp (B' := Bd B ow) e3 r.asBd (fun _ z => z) _ _ q2
def dicMerge : List (Key × D) → List Key → List D → List Key × List D
  | [], ks, ds => (ks, ds)
  | (k, d) :: r, ks, ds => dicMerge r (dicPut ks ds k d).1 (dicPut ks ds k d).2
def keyed : List (D × D) → Option (List (Key × D))
  | [] => some []
  | (k, d) :: r => match k.key?, keyed r with
    | some k, some r => some ((k, d) :: r)
    | _, _ => none
def oDisp (mp : MP) : MO := fun sg S => (mp sg S).bind fun x => match keyed x.1 with
  | some ps => if ps.length ≤ 15 then .ok (.dic (dicMerge ps [] []).1 (dicMerge ps [] []).2, x.2) else .bad
  | none => .bad
theorem merge_rep {K : PySem.W.Frag} {as : List Addr} {Bs : Addr → Prop} {H : Hp} : ∀ {ps : List (Key × D)} {kvs : List (Key × V)} {ks : List Key} {ds : List D} {xs : List V}, ps.map (·.1) = kvs.map (·.1) → RepA K as Bs H (ps.map (·.2)) (kvs.map (·.2)) → ks.length = xs.length → RepA K as Bs H ds xs →
    ∃ ys, mergeK (ks.zip xs) kvs = (dicMerge ps ks ds).1.zip ys ∧ (dicMerge ps ks ds).1.length = ys.length ∧ RepA K as Bs H (dicMerge ps ks ds).2 ys
  | [], [], ks, ds, xs, _, _, hl, h => ⟨xs, rfl, hl, h⟩
  | [], _ :: _, _, _, _, e, _, _, _ => by cases e
  | _ :: _, [], _, _, _, e, _, _, _ => by cases e
  | (k, d) :: ps, (k', v) :: kvs, ks, ds, xs, e, r, hl, h => by
    rw [List.map_cons, List.map_cons] at e
    have e1 : k = k' := (List.cons.inj e).1
    have e2 := (List.cons.inj e).2
    subst e1
    obtain ⟨w, ws, ew, r1, r2⟩ := r
    have ew1 := (List.cons.inj ew).1
    have ew2 := (List.cons.inj ew).2
    simp only at ew1
    subst ew1
    rw [← ew2] at r2
    obtain ⟨ys, y1, y2, y3⟩ := dicPut_rep k hl h r1
    obtain ⟨zs, z1, z2, z3⟩ := merge_rep (ps := ps) (kvs := kvs) (ks := (dicPut ks ds k d).1) (ds := (dicPut ks ds k d).2) (xs := ys) e2 r2 y2 y3
    refine ⟨zs, ?_, z2, z3⟩
    show mergeK (putK (ks.zip xs) k v) kvs = _
    rw [y1]
    exact z1
theorem keyed_rep {K : PySem.W.Frag} {as : List Addr} {Bs : Addr → Prop} {H : Hp} : ∀ {ds : List (D × D)} {vs : List (V × V)} {ps : List (Key × D)}, RepA K as Bs H (ds.map (·.1)) (vs.map (·.1)) → RepA K as Bs H (ds.map (·.2)) (vs.map (·.2)) → ds.length = vs.length → keyed ds = some ps →
    ∃ kvs : List (Key × V), vs = kvs.map (fun kv => (kV kv.1, kv.2)) ∧ ps.map (·.1) = kvs.map (·.1) ∧ RepA K as Bs H (ps.map (·.2)) (kvs.map (·.2)) ∧ ps.length = kvs.length
  | [], [], ps, _, _, _, e => by
    cases e
    exact ⟨[], rfl, rfl, rfl, rfl⟩
  | [], _ :: _, _, _, _, e, _ => by cases e
  | _ :: _, [], _, _, _, e, _ => by cases e
  | (k, d) :: ds, (u, v) :: vs, ps, r1, r2, hl, e => by
    simp only [keyed] at e
    cases ek : k.key? with
    | none => rw [ek] at e; cases e
    | some k' =>
      cases er : keyed ds with
      | none => rw [ek, er] at e; cases e
      | some r =>
        rw [ek, er] at e
        cases e
        obtain ⟨w, ws, ew, a1, a2⟩ := r1
        obtain ⟨w', ws', ew', b1, b2⟩ := r2
        have f1 := (List.cons.inj ew).1
        have f2 := (List.cons.inj ew).2
        have f3 := (List.cons.inj ew').1
        have f4 := (List.cons.inj ew').2
        simp only at f1 f3
        subst f1 f3
        rw [← f2] at a2
        rw [← f4] at b2
        obtain ⟨kvs, k1, k2, k3, k4⟩ := keyed_rep (ds := ds) (vs := vs) a2 b2 (by simpa using hl) er
        have ev := key_rep a1 ek
        refine ⟨(k', v) :: kvs, by rw [List.map_cons, ← k1, ev], by rw [List.map_cons, List.map_cons, k2], RepA.cons b1 k3, by simp [k4]⟩
theorem f2_disp {keys : List (Option Expr)} {values : List Expr} {mp : MP} (h : PP2 X W pos keys values mp) (hall : keys.all (·.isSome) = true) (hl : keys.length = values.length) (h0 : keys ≠ []) (h15 : keys.length ≤ 15) : PF2 X W (.Dict keys values pos) (oDisp mp) := by
  obtain ⟨trs, a1, a2⟩ := h
  refine ⟨_, pe_disp a1 hall hl h0 h15, fun B H0 as ks ow sg S σ H Q r h p hp => ?_⟩
  have r1 : Rl X.K B H0 as ks (ow ++ [some p]) sg S σ (upd H p (.dK [])) := r.ghost hp
  have pas : p ∉ as := fun z => r.bdDom p (r.asBd p z) hp
  have evH : Evo X.K (· ∈ as) H (upd H p (.dK [])) := Evo.new hp
  refine a2 _ _ _ _ _ _ _ _ _ _ r1 ?_
  revert h
  unfold oDisp
  cases mp sg S with
  | ok y =>
    obtain ⟨ds, S1⟩ := y
    intro h vs H2 e2 s2 q2
    obtain ⟨k1, k2, k3⟩ := q2
    have hp2 : H2 p = some (.dK []) := e2.keep _ _ upd_same pas (fun _ z => nomatch z)
    refine ⟨hp2, ?_⟩
    simp only [R.bind] at h
    cases ek : keyed ds with
    | none => simp only [ek] at h; exact False.elim h
    | some ps =>
      simp only [ek] at h
      by_cases h15 : ps.length ≤ 15
      · simp only [if_pos h15] at h
        obtain ⟨kvs, l1, l2, l3, l4⟩ := keyed_rep k1 k2 k3 ek
        refine ⟨kvs, l1, by rw [← l4]; exact h15, ?_⟩
        have r2 := r1.step e2 s2
        have bp : ∀ b, b = p → Bd B (ow ++ [some p]) b := fun b z => .inr (z ▸ List.mem_append_right _ List.mem_cons_self)
        have ep : Evo X.K (· = p) H2 (upd H2 p (.dK (mergeK [] kvs))) := Evo.put hp2 (fun _ z => by cases z) (fun _ _ z => by cases z) rfl
        obtain ⟨ys, y1, y2, y3⟩ := merge_rep (ks := []) (ds := []) (xs := []) l2 l3 rfl rfl
        have ev : Evo X.K (· ∈ as) H (upd H2 p (.dK (mergeK [] kvs))) := by
          have e02 := evH.trans e2
          exact e02.upd0 hp ep
        refine h p _ hp ev ?_ ⟨ys, ?_, y2, ?_⟩
        · exact ((r2.putGhost r.lo hp2 (fun _ z => by cases z) (fun _ _ z => by cases z)).1.sto).weak bd_ghost'
        · rw [upd_same]
          exact congrArg (fun z => some (HO.dK z)) y1
        · exact RepA.imp (W := fun _ => False) Evo.refl (fun _ z => z.elim) bd_ghost' _ _ (RepA.imp ep bp (fun _ z => z) _ _ y3)
      · simp only [if_neg h15] at h; exact False.elim h
  | ex => exact fun h => h
  | bad => exact fun h => h
/-- d.get(k, x) -/
def dGet2 : D → D → D → Option D
  | .dic ks ds, k, x => match k.key? with
    | some k => some ((dicGet ks ds k).getD x)
    | none => none
  | _, _, _ => none
def mGet2 (md mk mx : ME) : ME := fun sg S => (md sg S).bind fun d => match d.1 with
  | .dic ks ds => (mk sg d.2).bind fun k => (mx sg k.2).bind fun x => R.of ((dGet2 (.dic ks ds) k.1 x.1).map fun z => (z, x.2))
  | _ => .bad
theorem e2_get2 {o e f : Expr} {md mk mx : ME} {apos : Pos} (hu : X.A.units + 1 < cLine) (ho : PE2 X W wk o md) (he : PE2 X W wk e mk) (hf : PE2 X W wk f mx) (m : M2 X o "get" apos e f pos) : PE2 X W wk (.Call (.Attribute o "get" apos) [e, f] [] pos) (mGet2 md mk mx) := by
  obtain ⟨t, a1, a2⟩ := ho
  obtain ⟨u, b1, b2⟩ := he
  obtain ⟨w, c1, c2⟩ := hf
  refine ⟨_, pe_dget2 hu a1 b1 c1 m, fun B H0 as ks ow sg S σ H Q r h => ?_⟩
  refine a2 _ _ _ _ _ _ _ _ _ _ r (Den.bind h fun d S1 v H1 c0 e1 s1 q1 h1 => ?_)
  clear c0
  cases d <;> try exact False.elim h1
  rename_i dk dd
  simp only at h1
  have r1 := r.step e1 s1
  obtain ⟨a, xs, ea, nb, g1, gl, g2⟩ := id q1
  subst ea
  refine ⟨a, rfl, .inl ⟨_, g1⟩, ?_⟩
  refine b2 _ _ _ _ _ _ _ _ _ _ r1 (Den.bind h1 fun k S2 kv H2 _ e2 s2 q2 h2 => ?_)
  have r2 := r1.step e2 s2
  refine c2 _ _ _ _ _ _ _ _ _ _ r2 (Den.bind h2 fun x S3 xv H3 _ e3 s3 q3 h3 => ?_)
  have r3 := r2.step e3 s3
  have q1' := Rep.imp (B' := if wk then (· ∈ as) else Bd B ow) (e2.trans e3) (asWk r) (fun _ z => z) _ _ q1
  have q2' := Rep.imp (B' := if wk then (· ∈ as) else Bd B ow) e3 (asWk r) (fun _ z => z) _ _ q2
  obtain ⟨a', ys, ea, nb', k1, kl, k2⟩ := q1'
  cases ea
  cases ek : k.key? with
  | none => simp only [dGet2, ek] at h3; exact False.elim h3
  | some kk =>
    simp only [dGet2, ek] at h3
    have ev := key_rep q2' ek
    subst ev
    refine ⟨valV (dk.zip ys) kk, .inl ⟨_, kk, k1, rfl, rfl⟩, ?_⟩
    have gv := dicGet_val (j := kk) kl k2
    cases c : dicGet dk dd kk with
    | none =>
      rw [gv.1 c]
      rw [c] at h3
      exact h3 xv H3 Evo.refl s3 q3
    | some z =>
      obtain ⟨zv, z1, z2⟩ := gv.2 z c
      rw [z1]
      rw [c] at h3
      exact h3 zv H3 Evo.refl s3 z2
end
end D2

namespace D2
open PySem PySem.Spec PyProof.Rows L2

section
variable {K : PySem.W.Frag} {wk : Bool}
def on1 (g : D → Option D) : List D → Option D
  | [d] => g d
  | _ => none
def on2 (g : D → D → Option D) : List D → Option D
  | [d, e] => g d e
  | _ => none
theorem ok_on1 {g : D → Option D} {r : List V → Hp → VK → Prop} (h : ∀ (as : List Addr) (Bs Bw : Addr → Prop) (H : Hp) (d z : D) (v : V) (Q : VK), (∀ a, Bw a → Bs a) → (∀ a, Bs a → H a ≠ none) →
    Rep K as (if wk then Bw else Bs) H d v → g d = some z → (∀ u H', Evo K (fun _ => False) H H' → Rep K as (if wk then Bw else Bs) H' z u → Q u H') → r [v] H Q) : CallOk K wk (on1 g) r := by
  intro as Bs Bw H ds z vs Q h1 h2 hr e q
  match ds, e with
  | [d], e =>
    obtain ⟨v, ws, ev, k1, k2⟩ := hr
    have k2' : ws = [] := k2
    subst k2'
    subst ev
    exact h as Bs Bw H d z v Q h1 h2 k1 e q
theorem ok_on2 {g : D → D → Option D} {r : List V → Hp → VK → Prop} (h : ∀ (as : List Addr) (Bs Bw : Addr → Prop) (H : Hp) (c d z : D) (u v : V) (Q : VK), (∀ a, Bw a → Bs a) → (∀ a, Bs a → H a ≠ none) →
    Rep K as (if wk then Bw else Bs) H c u → Rep K as (if wk then Bw else Bs) H d v → g c d = some z → (∀ u H', Evo K (fun _ => False) H H' → Rep K as (if wk then Bw else Bs) H' z u → Q u H') → r [u, v] H Q) : CallOk K wk (on2 g) r := by
  intro as Bs Bw H ds z vs Q h1 h2 hr e q
  match ds, e with
  | [c, d], e =>
    obtain ⟨u, ws, ev, k1, v, ws2, ev2, k2, k3⟩ := hr
    have k3' : ws2 = [] := k3
    subst k3'
    subst ev2
    subst ev
    exact h as Bs Bw H c d z u v Q h1 h2 k1 k2 e q
def D.len : D → Option D
  | .tup ds => some (.int (ds.length : Int))
  | .lst ds => some (.int (ds.length : Int))
  | .str x => if x.length ≤ 16777216 then some (.int (x.length : Int)) else none
  | .dic ks _ => some (.int (ks.length : Int))
  | _ => none
def rLenD : List V → Hp → VK → Prop := fun xs H Q => ∃ p kvs, xs = [.ref p] ∧ Rd H p (.dK kvs) ∧ Q (.int kvs.length) H
theorem call_lenRd {X : Cx} : CallR X (.builtin "len") rLenD := by
  intro pins s σ H vs us Q I r h
  obtain ⟨p, kvs, rfl, hd, q⟩ := h
  rw [Vals.ref1 r]
  exact d_len I hd fun t s' I' => ⟨.int kvs.length, H, I', ⟨_, rfl⟩, q⟩
def rLen2 (K : PySem.W.Frag) : List V → Hp → VK → Prop := fun xs H Q => (∃ p ys, xs = [.ref p] ∧ (SqL K H p ys ∨ SqT K H p ys) ∧ Q (.int ys.length) H) ∨ ((∃ z, xs = [.str z] ∧ z.length ≤ sizeLine ∧ Q (.int z.length) H) ∨ rLenD xs H Q)
theorem call_len2 {X : Cx} : CallR X (.builtin "len") (rLen2 X.K) := call_len_seq.or (call_len_str.or call_lenRd)
theorem ok_len : CallOk K wk (on1 D.len) (rLen2 K) := by
  refine ok_on1 fun as Bs Bw H d z v Q h1 h2 hr e q => ?_
  cases d with
  | tup ds =>
    cases e
    obtain ⟨a, xs, ev, g1, g2⟩ := hr
    subst ev
    exact .inl ⟨a, xs, rfl, .inr g1, by rw [← g2.length]; exact q _ _ Evo.refl rfl⟩
  | lst ds =>
    cases e
    obtain ⟨a, xs, ev, nb, g1, g2⟩ := hr
    subst ev
    exact .inl ⟨a, xs, rfl, .inl (SqL.of g1), by rw [← g2.length]; exact q _ _ Evo.refl rfl⟩
  | str x =>
    simp only [D.len] at e
    split at e
    · rename_i hl
      cases e
      have ev : v = .str x := hr
      subst ev
      exact .inr (.inl ⟨x, rfl, lineN hl, q _ _ Evo.refl rfl⟩)
    · cases e
  | dic ks ds =>
    cases e
    obtain ⟨a, xs, ev, nb, g1, gl, g2⟩ := hr
    subst ev
    refine .inr (.inr ⟨a, _, rfl, g1, ?_⟩)
    rw [List.length_zip, ← gl, Nat.min_self]
    exact q _ _ Evo.refl rfl
  | _ => cases e
/-- int(n), int(flag), int(text) -/
def D.toInt : D → Option D
  | .int i => some (.int i)
  | .bl k => some (.int (if k then 1 else 0))
  | .str a => if a.length ≤ 640 then (PySem.intText? a).map D.int else none
  | _ => none
def rInt2 : List V → Hp → VK → Prop := fun xs H Q => ((∃ i, xs = [.int i] ∧ Q (.int i) H) ∨ ∃ k, xs = [.bl k] ∧ Q (.int (if k then 1 else 0)) H) ∨ (∃ a n, xs = [.str a] ∧ PySem.intText? a = some n ∧ a.length ≤ 640 ∧ Q (.int n) H)
theorem call_int2 {X : Cx} : CallR X (.type "int") rInt2 := call_int1.or call_int_str
theorem ok_int : CallOk K wk (on1 D.toInt) rInt2 := by
  refine ok_on1 fun as Bs Bw H d z v Q h1 h2 hr e q => ?_
  cases d with
  | int i => cases e; exact .inl (.inl ⟨i, congrArg (fun x => [x]) hr, q _ _ Evo.refl rfl⟩)
  | bl k => cases e; exact .inl (.inr ⟨k, congrArg (fun x => [x]) hr, q _ _ Evo.refl rfl⟩)
  | str a =>
    simp only [D.toInt] at e
    split at e
    · rename_i hl
      obtain ⟨n, e1, e2⟩ := Option.map_eq_some_iff.mp e
      subst e2
      exact .inr ⟨a, n, congrArg (fun x => [x]) hr, e1, hl, q _ _ Evo.refl rfl⟩
    · cases e
  | _ => cases e
def D.abs : D → Option D
  | .int i => some (.int (if i < 0 then -i else i))
  | _ => none
theorem ok_abs : CallOk K wk (on1 D.abs) (fun xs H Q => ∃ i, xs = [.int i] ∧ Q (.int (if i < 0 then -i else i)) H) := by
  refine ok_on1 fun as Bs Bw H d z v Q h1 h2 hr e q => ?_
  cases d <;> try (cases e; done)
  rename_i i
  cases e
  exact ⟨i, congrArg (fun x => [x]) hr, q _ _ Evo.refl rfl⟩
/-- str(n) -/
def D.toStr : D → Option D
  | .int i => if i.natAbs.log2 < 1920 then some (.str (Str.ofString (toString i))) else none
  | .str x => some (.str x)
  | _ => none
def rStr1 : List V → Hp → VK → Prop := fun xs H Q => ∃ i, xs = [.int i] ∧ i.natAbs.log2 < 1920 ∧ Q (.str (toString i)) H
def D.toStrI : D → Option D
  | .int i => if i.natAbs.log2 < 1920 then some (.str (Str.ofString (toString i))) else none
  | _ => none
theorem ok_strI : CallOk K wk (on1 D.toStrI) rStr1 := by
  refine ok_on1 fun as Bs Bw H d z v Q h1 h2 hr e q => ?_
  cases d <;> try (cases e; done)
  rename_i i
  simp only [D.toStrI] at e
  split at e
  · rename_i hl
    cases e
    exact ⟨i, congrArg (fun x => [x]) hr, hl, q _ _ Evo.refl rfl⟩
  · cases e
/-- max, min of two ints -/
def D.max2 : D → D → Option D
  | .int i, .int j => some (.int (if j > i then j else i))
  | _, _ => none
def D.min2 : D → D → Option D
  | .int i, .int j => some (.int (if j < i then j else i))
  | _, _ => none
theorem ok_max2 : CallOk K wk (on2 D.max2) (fun xs H Q => ∃ i j, xs = [.int i, .int j] ∧ Q (.int (if j > i then j else i)) H) := by
  refine ok_on2 fun as Bs Bw H c d z u v Q h1 h2 hr hs e q => ?_
  cases c <;> try (cases e; done)
  cases d <;> try (cases e; done)
  rename_i i j
  cases e
  have eu : u = .int i := hr
  have ev : v = .int j := hs
  subst eu ev
  exact ⟨i, j, rfl, q _ _ Evo.refl rfl⟩
theorem ok_min2 : CallOk K wk (on2 D.min2) (fun xs H Q => ∃ i j, xs = [.int i, .int j] ∧ Q (.int (if j < i then j else i)) H) := by
  refine ok_on2 fun as Bs Bw H c d z u v Q h1 h2 hr hs e q => ?_
  cases c <;> try (cases e; done)
  cases d <;> try (cases e; done)
  rename_i i j
  cases e
  have eu : u = .int i := hr
  have ev : v = .int j := hs
  subst eu ev
  exact ⟨i, j, rfl, q _ _ Evo.refl rfl⟩
/-- of a list of ints -/
def D.intsL (f : List Int → Option D) : D → Option D
  | .lst ds => match D.ints ds with
    | some ns => f ns
    | none => none
  | _ => none
theorem intsL_rep {as : List Addr} {B : Addr → Prop} {H : Hp} {d z : D} {v : V} {f : List Int → Option D} (hr : Rep K as B H d v) (e : D.intsL f d = some z) : ∃ a ns, v = .ref a ∧ H a = some (.lst (ns.map V.int)) ∧ f ns = some z := by
  cases d <;> try (cases e; done)
  rename_i ds
  simp only [D.intsL] at e
  split at e
  · rename_i ns hn
    obtain ⟨a, xs, ev, nb, g1, g2⟩ := hr
    exact ⟨a, ns, ev, by rw [← ints_rep g2 hn]; exact g1, e⟩
  · cases e
theorem ok_sum : CallOk K wk (on1 (D.intsL fun ns => some (.int ns.sum))) (rSum K) := by
  refine ok_on1 fun as Bs Bw H d z v Q h1 h2 hr e q => ?_
  obtain ⟨a, ns, ev, g, e2⟩ := intsL_rep hr e
  cases e2
  exact ⟨a, ns, by rw [ev], SqL.of g, q _ _ Evo.refl rfl⟩
def maxI : List Int → Option Int
  | [] => none
  | n :: ns => some (ns.foldl max n)
def minI : List Int → Option Int
  | [] => none
  | n :: ns => some (ns.foldl min n)
theorem foldl_max : ∀ (ns : List Int) (n m : Int), m ∈ n :: ns → (∀ y ∈ n :: ns, y ≤ m) → ns.foldl max n = m
  | [], n, m, h1, h2 => by
    have : m = n := by simpa using h1
    simp [this]
  | k :: ns, n, m, h1, h2 => by
    refine foldl_max ns (max n k) m ?_ ?_
    · have hn := h2 n List.mem_cons_self
      have hk := h2 k (List.mem_cons_of_mem _ List.mem_cons_self)
      rcases List.mem_cons.mp h1 with e | h1
      · subst e
        have : max m k = m := by omega
        rw [this]; exact List.mem_cons_self
      · rcases List.mem_cons.mp h1 with e | h1
        · subst e
          have : max n m = m := by omega
          rw [this]; exact List.mem_cons_self
        · exact List.mem_cons_of_mem _ h1
    · intro y hy
      rcases List.mem_cons.mp hy with e | hy
      · have hn := h2 n List.mem_cons_self
        have hk := h2 k (List.mem_cons_of_mem _ List.mem_cons_self)
        omega
      · exact h2 y (List.mem_cons_of_mem _ (List.mem_cons_of_mem _ hy))
theorem foldl_min : ∀ (ns : List Int) (n m : Int), m ∈ n :: ns → (∀ y ∈ n :: ns, m ≤ y) → ns.foldl min n = m
  | [], n, m, h1, h2 => by
    have : m = n := by simpa using h1
    simp [this]
  | k :: ns, n, m, h1, h2 => by
    refine foldl_min ns (min n k) m ?_ ?_
    · have hn := h2 n List.mem_cons_self
      have hk := h2 k (List.mem_cons_of_mem _ List.mem_cons_self)
      rcases List.mem_cons.mp h1 with e | h1
      · subst e
        have : min m k = m := by omega
        rw [this]; exact List.mem_cons_self
      · rcases List.mem_cons.mp h1 with e | h1
        · subst e
          have : min n m = m := by omega
          rw [this]; exact List.mem_cons_self
        · exact List.mem_cons_of_mem _ h1
    · intro y hy
      rcases List.mem_cons.mp hy with e | hy
      · have hn := h2 n List.mem_cons_self
        have hk := h2 k (List.mem_cons_of_mem _ List.mem_cons_self)
        omega
      · exact h2 y (List.mem_cons_of_mem _ (List.mem_cons_of_mem _ hy))
theorem ok_maxL : CallOk K wk (on1 (D.intsL fun ns => (maxI ns).map D.int)) (rMax K) := by
  refine ok_on1 fun as Bs Bw H d z v Q h1 h2 hr e q => ?_
  obtain ⟨a, ns, ev, g, e2⟩ := intsL_rep hr e
  cases ns with
  | nil => cases e2
  | cons n ns =>
    cases e2
    refine ⟨a, n :: ns, by rw [ev], SqL.of g, Nat.zero_lt_succ _, fun m hm hle => ?_⟩
    have := foldl_max ns n m hm hle
    rw [this] at q
    exact q _ _ Evo.refl rfl
theorem ok_minL : CallOk K wk (on1 (D.intsL fun ns => (minI ns).map D.int)) (rMin K) := by
  refine ok_on1 fun as Bs Bw H d z v Q h1 h2 hr e q => ?_
  obtain ⟨a, ns, ev, g, e2⟩ := intsL_rep hr e
  cases ns with
  | nil => cases e2
  | cons n ns =>
    cases e2
    refine ⟨a, n :: ns, by rw [ev], SqL.of g, Nat.zero_lt_succ _, fun m hm hle => ?_⟩
    have := foldl_min ns n m hm hle
    rw [this] at q
    exact q _ _ Evo.refl rfl
/-- sorted of ints -/
def insI (n : Int) : List Int → List Int
  | [] => [n]
  | m :: ms => if n ≤ m then n :: m :: ms else m :: insI n ms
def sortI : List Int → List Int
  | [] => []
  | n :: ns => insI n (sortI ns)
theorem insI_perm (n : Int) : ∀ l : List Int, (insI n l).Perm (n :: l)
  | [] => List.Perm.refl _
  | m :: ms => by
    unfold insI
    split
    · exact List.Perm.refl _
    · exact ((insI_perm n ms).cons m).trans (List.Perm.swap n m ms)
theorem sortI_perm : ∀ l : List Int, (sortI l).Perm l
  | [] => List.Perm.refl _
  | n :: ns => (insI_perm n (sortI ns)).trans ((sortI_perm ns).cons n)
theorem insI_sorted (n : Int) : ∀ l : List Int, l.Pairwise (· ≤ ·) → (insI n l).Pairwise (· ≤ ·)
  | [], _ => List.pairwise_singleton _ _
  | m :: ms, h => by
    have h' := List.pairwise_cons.mp h
    unfold insI
    split
    · rename_i hnm
      refine List.pairwise_cons.mpr ⟨fun y hy => ?_, h⟩
      rcases List.mem_cons.mp hy with e | hy
      · rw [e]; exact hnm
      · exact Int.le_trans hnm (h'.1 y hy)
    · rename_i hnm
      refine List.pairwise_cons.mpr ⟨fun y hy => ?_, insI_sorted n ms h'.2⟩
      have := (insI_perm n ms).mem_iff.mp hy
      rcases List.mem_cons.mp this with e | hy
      · rw [e]; omega
      · exact h'.1 y hy
theorem sortI_sorted : ∀ l : List Int, (sortI l).Pairwise (· ≤ ·)
  | [] => List.Pairwise.nil
  | n :: ns => insI_sorted n _ (sortI_sorted ns)
theorem sorted_one {l m : List Int} (h : l.Perm m) (h1 : l.Pairwise (· ≤ ·)) (h2 : m.Pairwise (· ≤ ·)) : l = m :=
  h.eq_of_pairwise (fun a b _ _ hab hba => Int.le_antisymm hab hba) h1 h2
theorem ok_sortI : CallOk K wk (on1 (D.intsL fun ns => some (.lst ((sortI ns).map D.int)))) (rSortedI K) := by
  refine ok_on1 fun as Bs Bw H d z v Q h1 h2 hr e q => ?_
  obtain ⟨a, ns, ev, g, e2⟩ := intsL_rep hr e
  cases e2
  refine ⟨a, ns, by rw [ev], SqL.of g, fun ns' p perm hs hp => ?_⟩
  have := sorted_one (perm.trans (sortI_perm ns).symm) hs (sortI_sorted ns)
  subst this
  exact q _ _ (Evo.new hp) (repNewL h1 h2 hp (rep_ints _))
/-- any, all of a list of truth values -/
def D.blsL (f : List Bool → Option D) : D → Option D
  | .lst ds => match D.bls ds with
    | some ns => f ns
    | none => none
  | _ => none
theorem blsL_rep {as : List Addr} {B : Addr → Prop} {H : Hp} {d z : D} {v : V} {f : List Bool → Option D} (hr : Rep K as B H d v) (e : D.blsL f d = some z) : ∃ a ns, v = .ref a ∧ H a = some (.lst (ns.map V.bl)) ∧ f ns = some z := by
  cases d <;> try (cases e; done)
  rename_i ds
  simp only [D.blsL] at e
  split at e
  · rename_i ns hn
    obtain ⟨a, xs, ev, nb, g1, g2⟩ := hr
    exact ⟨a, ns, ev, by rw [← bls_rep g2 hn]; exact g1, e⟩
  · cases e
theorem ok_any : CallOk K wk (on1 (D.blsL fun ns => some (.bl (ns.any id)))) (rAny K) := by
  refine ok_on1 fun as Bs Bw H d z v Q h1 h2 hr e q => ?_
  obtain ⟨a, ns, ev, g, e2⟩ := blsL_rep hr e
  cases e2
  exact ⟨a, ns, by rw [ev], SqL.of g, q _ _ Evo.refl rfl⟩
theorem ok_all : CallOk K wk (on1 (D.blsL fun ns => some (.bl (ns.all id)))) (rAll K) := by
  refine ok_on1 fun as Bs Bw H d z v Q h1 h2 hr e q => ?_
  obtain ⟨a, ns, ev, g, e2⟩ := blsL_rep hr e
  cases e2
  exact ⟨a, ns, by rw [ev], SqL.of g, q _ _ Evo.refl rfl⟩
/-- tuple(x), list(x) -/
def D.toTup : D → Option D
  | .lst ds => some (.tup ds)
  | .tup ds => some (.tup ds)
  | _ => none
theorem ok_tup : CallOk K wk (on1 D.toTup) (fun xs H Q => ∃ p ys, xs = [.ref p] ∧ ((SqL K H p ys ∧ ∀ l, H l = none → Q (.ref l) (upd H l (.tup ys))) ∨ (SqT K H p ys ∧ Q (.ref p) H))) := by
  refine ok_on1 fun as Bs Bw H d z v Q h1 h2 hr e q => ?_
  cases d <;> try (cases e; done)
  · rename_i ds
    cases e
    obtain ⟨a, xs, ev, g1, g2⟩ := hr
    subst ev
    exact ⟨a, xs, rfl, .inr ⟨g1, q _ _ Evo.refl ⟨a, xs, rfl, g1, g2⟩⟩⟩
  · rename_i ds
    cases e
    obtain ⟨a, xs, ev, nb, g1, g2⟩ := hr
    subst ev
    exact ⟨a, xs, rfl, .inl ⟨SqL.of g1, fun l hl => q _ _ (Evo.new hl) (repNewT hl g2)⟩⟩
def D.toLst : D → Option D
  | .lst ds => some (.lst ds)
  | .tup ds => some (.lst ds)
  | _ => none
theorem ok_lst : CallOk K wk (on1 D.toLst) (fun xs H Q => ∃ p ys, xs = [.ref p] ∧ (SqL K H p ys ∨ SqT K H p ys) ∧ ∀ l, H l = none → Q (.ref l) (upd H l (.lst ys))) := by
  refine ok_on1 fun as Bs Bw H d z v Q h1 h2 hr e q => ?_
  cases d <;> try (cases e; done)
  · rename_i ds
    cases e
    obtain ⟨a, xs, ev, g1, g2⟩ := hr
    subst ev
    exact ⟨a, xs, rfl, .inr g1, fun l hl => q _ _ (Evo.new hl) (repNewL h1 h2 hl g2)⟩
  · rename_i ds
    cases e
    obtain ⟨a, xs, ev, nb, g1, g2⟩ := hr
    subst ev
    exact ⟨a, xs, rfl, .inl (SqL.of g1), fun l hl => q _ _ (Evo.new hl) (repNewL h1 h2 hl g2)⟩
end

/-! ### methods of values -/
section
variable {X : Cx} {W : WX2} {wk : Bool} {pos : Pos}
def MethOk (K : PySem.W.Frag) (wk : Bool) (T : String) (c : D → Bool) (f : D → List D → Option D) (r : V → List V → Hp → VK → Prop) : Prop := ∀ (as : List Addr) (Bs Bw : Addr → Prop) (H : Hp) (x : D) (v : V), (∀ a, Bw a → Bs a) → (∀ a, Bs a → H a ≠ none) → Rep K as (if wk then Bw else Bs) H x v → c x = true →
  tyV K T v H ∧ ∀ H2 ds vs z (Q : VK), (∀ a, Bs a → H2 a ≠ none) → Rep K as (if wk then Bw else Bs) H2 x v → RepA K as (if wk then Bw else Bs) H2 ds vs → f x ds = some z → (∀ u H', Evo K (fun _ => False) H2 H' → Rep K as (if wk then Bw else Bs) H' z u → Q u H') → r v vs H2 Q
def mMeth (c : D → Bool) (f : D → List D → Option D) (mo : ME) (ms : MA) : ME := fun sg S => (mo sg S).bind fun x => if c x.1 = true then (ms sg x.2).bind fun y => R.of ((f x.1 y.1).map fun z => (z, y.2)) else .bad
theorem meth_den {T : String} {c : D → Bool} {f : D → List D → Option D} {r2 : V → List V → Hp → VK → Prop} {to : TE} {ta : TA} {mo : ME} {ms : MA} (hop : MethOk X.K wk T c f r2)
    (a2 : ∀ B H0 as ks ow sg S σ H (Q : VK), Rl X.K B H0 as ks ow sg S σ H → Den (ctOf X W B H0 as ks) ow ((ctOf X W B H0 as ks).rp ow wk) (mo sg S) H Q → to σ H Q)
    (b2 : ∀ B H0 as ks ow sg S σ H (Q : List V → Hp → Prop), Rl X.K B H0 as ks ow sg S σ H → Den (ctOf X W B H0 as ks) ow ((ctOf X W B H0 as ks).rpa ow wk) (ms sg S) H Q → ta σ H Q)
    {B : Addr → Prop} {H0 : Hp} {as : List Addr} {ks : List (D × V)} {ow : List (Option Addr)} {sg : List Sl} {S : List O} {σ : L2.St} {H : Hp} {Q : VK} (r : Rl X.K B H0 as ks ow sg S σ H)
    (h : Den (ctOf X W B H0 as ks) ow ((ctOf X W B H0 as ks).rp ow wk) (mMeth c f mo ms sg S) H Q) : to σ H fun x H1 => tyV X.K T x H1 ∧ ta σ H1 fun xs H2 => r2 x xs H2 Q := by
  refine a2 _ _ _ _ _ _ _ _ _ _ r (Den.bind h fun x S1 v H1 _ e1 s1 q1 h1 => ?_)
  have r1 := r.step e1 s1
  by_cases hc : c x = true
  · simp only [if_pos hc] at h1
    obtain ⟨ty, go⟩ := hop as (Bd B ow) (· ∈ as) H1 x v r.asBd r1.bdDom q1 hc
    refine ⟨ty, b2 _ _ _ _ _ _ _ _ _ _ r1 (Den.bind h1 fun y S2 ws H2 _ e2 s2 q2 h2 => ?_)⟩
    have r2 := r1.step e2 s2
    have q1' := Rep.imp (B' := if wk then (· ∈ as) else Bd B ow) e2 (asWk r) (fun _ z => z) x v q1
    cases e : f x y with
    | none => simp only [e] at h2; exact False.elim h2
    | some z =>
      simp only [e] at h2
      exact go H2 y ws z Q r2.bdDom q1' q2 e fun u H' e3 q3 => h2 u H' e3.any (r2.stoNew e3) q3
  · simp only [if_neg hc] at h1; exact False.elim h1
theorem e2_meth {o e : Expr} {es : List Expr} {meth : Str} {apos : Pos} {T id : String} {c : D → Bool} {f : D → List D → Option D} {r2 : V → List V → Hp → VK → Prop} {mo : ME} {ms : MA} (pa : PlainAttrs T) (slot : Slot T meth id) (hty : typeOf (.builtin id) = pure (.type "method_descriptor")) (hm : MtR X id r2) (hop : MethOk X.K wk T c f r2)
    (ho : PE2 X W wk o mo) (ha : PA2 X W wk (e :: es) ms) (hbase : attributeBase o meth X.env (eval o X.env) = eval o X.env := by rfl)
    (hfew : ((backTo pos (starEach (e :: es) X.env)).all (fun x => !x.1) && (backToKw pos (keywordEach [] X.env)).all (fun x => x.1.isSome)
      && decide ((e :: es).length + ([] : List Keyword).length + (if ([] : List Keyword).isEmpty then 0 else 1) < 30)) = true := by rfl)
    (hline : (apos.endLine == pos.line) = true := by rfl) (hs : starEach (e :: es) X.env = (false, eval e X.env) :: starEach es X.env := by rfl) (hplain : (backTo pos (starEach es X.env)).any (·.1) = false := by rfl) :
    PE2 X W wk (.Call (.Attribute o meth apos) (e :: es) [] pos) (mMeth c f mo ms) := by
  obtain ⟨t, a1, a2⟩ := ho
  obtain ⟨u, b1, b2⟩ := ha
  exact ⟨_, pe_bm pa slot hty hm a1 b1 hbase hfew hline hs hplain, fun B H0 as ks ow sg S σ H Q r h => meth_den hop a2 b2 r h⟩
theorem e2_meth0 {o : Expr} {meth : Str} {apos : Pos} {T id : String} {c : D → Bool} {f : D → List D → Option D} {r2 : V → List V → Hp → VK → Prop} {mo : ME} (pa : PlainAttrs T) (slot : Slot T meth id) (hty : typeOf (.builtin id) = pure (.type "method_descriptor")) (hm : MtR X id r2) (hop : MethOk X.K wk T c f r2)
    (ho : PE2 X W wk o mo) (hbase : attributeBase o meth X.env (eval o X.env) = eval o X.env := by rfl) (hline : (apos.endLine == pos.line) = true := by rfl) : PE2 X W wk (.Call (.Attribute o meth apos) [] [] pos) (mMeth c f mo mNil) := by
  obtain ⟨t, a1, a2⟩ := ho
  refine ⟨_, pe_bm0 pa slot hty hm a1 hbase hline, fun B H0 as ks ow sg S σ H Q r h => ?_⟩
  exact meth_den (W := W) (ta := tNil) (ms := mNil) hop a2 (fun B H0 as ks ow sg S σ H Q r h => h [] H Evo.refl r.sto rfl) r h
/-- xs.index(y), flat things: the first place -/
def flatD : D → Bool
  | .int _ => true
  | .str _ => true
  | .non => true
  | _ => false
def idxD (y : D) : List D → Option Nat
  | [] => none
  | d :: ds => if D.eqv d y = true then some 0 else (idxD y ds).map (· + 1)
def D.index : D → List D → Option D
  | .lst ds, [y] => if (flatD y && ds.all flatD) = true then (idxD y ds).map fun (j : Nat) => D.int (j : Int) else none
  | _, _ => none
theorem flatD_rep {K : PySem.W.Frag} {as : List Addr} {B : Addr → Prop} {H : Hp} {d : D} {v : V} (h : Rep K as B H d v) (f : flatD d = true) : flatV v = true := by
  cases d <;> try (cases f; done)
  · have e : v = .non := h; subst e; rfl
  · rename_i i; have e : v = .int i := h; subst e; rfl
  · rename_i i; have e : v = .str i := h; subst e; rfl
theorem flatD_eqv {K : PySem.W.Frag} {as : List Addr} {B : Addr → Prop} {H : Hp} {d c : D} {v u : V} (h : Rep K as B H d v) (g : Rep K as B H c u) (f1 : flatD d = true) (f2 : flatD c = true) : eqV v u = D.eqv d c := by
  cases d <;> try (cases f1; done)
  all_goals
    cases c <;> try (cases f2; done)
    all_goals
      simp only [Rep] at h g
      subst h g
      simp [eqV, D.eqv, D.pd, PyData.eqv]
end
end D2

namespace PySem
set_option maxHeartbeats 1000000 in
theorem meets_enumerate_newT (t : Addr) (items : Array Value) :
    Meets (Builtin.«enumerate.__new__» ⟨[.type "enumerate", .ref t], []⟩) (fun _ R s => s.heap.IsTuple t items ∧
      R (.ok (.ret (.ref (s.heap.push { cls := .type "tuple_iterator", data := .fields #[.ref t, .int 0 0] }).objs.size)))
        { s with heap := (s.heap.push { cls := .type "tuple_iterator", data := .fields #[.ref t, .int 0 0] }).push { cls := .type "enumerate", data := .fields #[.none, .bool false, .ref s.heap.objs.size, rawInt 0, .none, .none] } }) :=
  .of_wp fun prog w A R s h => by
    obtain ⟨hT, h⟩ := h
    obtain ⟨hp, g, d, tk, os⟩ := s
    have hsub := sub_enumerate
    wp_walk
    refine wpAny_stack_any fun st => wpAny_pure ?_
    split
    · rename_i c _ _ _ _ _
      cases (c == Value.type "enumerate")
      · wp_walk using wpAny_pyIter_tuple hT
        exact ⟨_, rfl, h⟩
      · wp_walk using wpAny_pyIter_tuple hT
        exact ⟨_, rfl, h⟩
    · wp_walk using wpAny_pyIter_tuple hT
      exact ⟨_, rfl, h⟩
section
variable {prog : Program} {w : World} {A : Around} {E : Value → Shared → Prop} {s : Shared}
theorem call_enumerate_tuple {t : Addr} {items : Array Value} {Q : Value → Shared → Prop} (hT : s.heap.IsTuple t items)
    (h : ∀ h', IsEnum h' (s.heap.objs.size + 1) s.heap.objs.size 0 .none → h'.IsTupleIter s.heap.objs.size t 0 → h'.objs.size = s.heap.objs.size + 2 →
      (∀ b o, s.heap.get? b = some o → h'.get? b = some o) → Q (.ref (s.heap.objs.size + 1)) { s with heap := h' }) :
    wpAny (model prog w) A (call (.type "enumerate") [.ref t]) Q E s := by
  refine callType_new F.called_enumerate (by decide) (F.typeCall_enumerate_1 _) (F.newCall_enumerate_1 _) (fun obj => F.args_object_init_2 obj _) F.entry_enumerate_new
    (meets_enumerate_newT t items) ⟨hT, ?_⟩
  have hz : (s.heap.push { cls := .type "tuple_iterator", data := .fields #[.ref t, .int 0 0] }).objs.size = s.heap.objs.size + 1 := Heap.size_push ..
  show _ ∧ _
  rw [hz]
  have he : IsEnum ((s.heap.push { cls := .type "tuple_iterator", data := .fields #[.ref t, .int 0 0] }).push
      { cls := .type "enumerate", data := .fields #[.none, .bool false, .ref s.heap.objs.size, rawInt 0, .none, .none] }) (s.heap.objs.size + 1) s.heap.objs.size 0 .none := by
    have := Heap.get?_push_size (s.heap.push { cls := .type "tuple_iterator", data := .fields #[.ref t, .int 0 0] })
      (o := { cls := .type "enumerate", data := .fields #[.none, .bool false, .ref s.heap.objs.size, rawInt 0, .none, .none] }) rfl
    rw [hz] at this; exact this
  refine ⟨⟨_, he, rfl⟩, h _ he ⟨_, Heap.get?_push_of_some _ (Heap.get?_push_size _ rfl), rfl, rfl⟩ (by rw [Heap.size_push, hz]) fun b o x => Heap.get?_push_of_some _ (Heap.get?_push_of_some _ x)⟩
end
end PySem
namespace D2
open PySem PySem.Spec PyProof.Rows L2

/-! ### enumerate(a tuple) -/
def Iet (K : PySem.W.Frag) (a : Addr) : It :=
  ⟨fun i H => ∃ (xs : List V) (x : V), SqT K H a xs ∧ xs[i]? = some x, fun i H v H' => ∃ T x, v = .ref T ∧ H T = none ∧ H' = upd H T (.tup [.int (i : Nat), x]) ∧ ∀ xs, SqT K H a xs → xs[i]? = some x, fun i H => ∃ xs : List V, SqT K H a xs ∧ xs.length ≤ i⟩
theorem turn_enumT {P : Program} {w : World} {K : PySem.W.Frag} {elts : List Expr} {kk : Nat} {tpos : Pos} (a e it : Addr) :
    Turn P w K (.Tuple elts kk tpos) (Iet K a) [e, it] e (fun i h => (∃ old, IsEnum h e it ((i : Nat) : Int) old) ∧ h.IsTupleIter it a i ∧ e ≠ it) where
  mem := by simp
  obj := fun i h st b hb => by
    obtain ⟨⟨old, he⟩, ⟨o, ho, hc, hd⟩, _⟩ := st
    have e' : b = e ∨ b = it := by simpa using hb
    rcases e' with z | z
    · rw [z]; exact ⟨_, he, fun v q => nomatch q⟩
    · rw [z]; exact ⟨o, ho, fun v q => by rw [hd] at q; cases q⟩
  keep := fun i h h' st k => let ⟨⟨old, he⟩, hi, hne⟩ := st; ⟨⟨old, k e (by simp) _ he⟩, hi.at fun o q => k it (by simp) o q, hne⟩
  item := by
    intro X hP hw hK hc i pins s σ H E I hf st hg
    subst hP hw hK
    obtain ⟨⟨old, he⟩, hit, hne⟩ := st
    obtain ⟨xs, x, hq, hx⟩ := hg
    obtain ⟨its, rv, p, hz⟩ := I.tuple hq
    obtain ⟨u, hu, ru⟩ := rv.get hx
    have hel : e < s.heap.objs.size := Heap.lt_size he
    have hil : it < s.heap.objs.size := by obtain ⟨_, q, _⟩ := hit; exact Heap.lt_size q
    have hT : s.heap.IsTuple a its.toArray := p
    have hat : a ≠ it := fun z => by
      obtain ⟨o, ho, hc, hd⟩ := hit
      obtain ⟨o', ho', hc', hd'⟩ := hT
      rw [z, ho] at ho'; cases ho'
      obtain ⟨_, hd'⟩ := hd'
      rw [hd] at hd'; cases hd'
    have hae : e ≠ a := fun z => by
      obtain ⟨o', ho', hc', _, hd'⟩ := hT
      have he' : s.heap.get? a = _ := z ▸ he
      rw [he'] at ho'; cases ho'
      cases hd'
    have hh : X.A.in1.handled = none := I.ok.hd hc
    have D := Draws.tuple (prog := X.prog) (w := X.w) (A := X.A.in1) hh it a hat its.toArray
    have hlt : i < its.toArray.size := by
      have := (List.getElem?_eq_some_iff.mp hu).1
      simpa using this
    refine wpAny_pyNext_enum_itemD D he ⟨hit, hT⟩ hlt hne (by simp only [List.mem_cons, List.not_mem_nil, or_false, not_or]; exact ⟨hne, hae⟩) fun y h' tk hy ho hst hT3 hsz hk => ?_
    have hy' : its[i]? = some y := by simpa using hy
    rw [hu] at hy'
    cases hy'
    refine ⟨_, rfl, wpAny_letOwnedTupleGo_enum (s := { s with heap := h', toks := tk + 1 }) ho fun h'' he' sb => ?_⟩
    have hT2 : h''.get? s.heap.objs.size = some { cls := .type "tuple", data := .seq #[.int i tk, u] } := (sb.2 _ (Nat.ne_of_gt hel)).trans hT3
    have new : ObjOk X.prog X.w (upd H s.heap.objs.size (.tup [.int (i : Nat), x])) h'' s.heap.objs.size (.tup [.int (i : Nat), x]) :=
      ⟨by show 2 ≤ sizeLine; decide, [.int i tk, u], .cons ⟨_, rfl⟩ (.cons ru .nil), ⟨_, hT2, rfl, _, rfl⟩⟩
    have I1 : Inv X pins σ (upd H s.heap.objs.size (.tup [.int (i : Nat), x])) { s with heap := h'', toks := tk + 1 } :=
      I.turnedNew (ch := [e, it]) (fun b ob hb q => (sb.2 b (fun z => hb (by simp [z]))).trans (hk b ob (fun z => hb (by simp [z])) (fun z => hb (by simp [z])) q)) hf (Nat.le_refl _) new
    refine ⟨.ref s.heap.objs.size, _, I1, rfl, ⟨_, x, rfl, I.hok.fresh (Nat.le_refl _), rfl, fun ys hy => by rw [I.tuple_inj hy hq]; exact hx⟩, ⟨⟨u, ?_⟩, hst.1.at fun o q => (sb.2 it (Ne.symm hne)).trans q, hne⟩, fun b hb => ?_⟩
    · have e1 : ((i + 1 : Nat) : Int) = (i : Int) + 1 := by omega
      rw [e1]; exact he'
    · have hb' : b < s.heap.objs.size := by
        have e' : b = e ∨ b = it := by simpa using hb
        rcases e' with z | z
        · rw [z]; exact hel
        · rw [z]; exact hil
      rw [upd_ne (Nat.ne_of_lt hb')]
      exact (hf b hb).1
  done := by
    intro X hP hw hK hc i pins s σ H E I hf st hg
    subst hP hw hK
    obtain ⟨⟨old, he⟩, hit, hne⟩ := st
    obtain ⟨xs, hq, hx⟩ := hg
    obtain ⟨its, rv, p, hz⟩ := I.tuple hq
    obtain ⟨f0, f1, f2, f3, f4, f5⟩ := hf it (by simp)
    have hl := rv.length
    have hT : s.heap.IsTuple a its.toArray := p
    have hT' := hT
    have hh : X.A.in1.handled = none := I.ok.hd hc
    have hsz : its.toArray.size ≤ i := by simp; omega
    unfold pyNext
    refine wpAny_bind (wpAny_attempt (wpAny_callSpecial?_slot (name := Str.ofString "__next__") ⟨_, he, rfl⟩ PySem.F.slot_enumerate_next
      (wpAny_call_entry PySem.F.slot_enumerate_next ⟨_, he, rfl⟩ PySem.F.entry_enumerate_next ?_ (PySem.F.args_enumerate_next_1 _))))
    show wpAny _ _ (field (.ref e) 2 >>= _) _ _ _
    refine wpAny_bind (wpAny_field he rfl (x := .ref it) rfl ?_)
    refine wpAny_bind (wpAny_nextOf_tuple_end hh hit hT (by simp; omega) fun h' x he' hx' => ?_)
    obtain ⟨o, ho, hc⟩ := hx'
    refine wpAny_bind (wpAny_isInstance (T := "StopIteration") (b := true) ⟨o, ho, hc⟩ isSubtype_stop ?_)
    exact wpAny_pure ⟨rfl, I.turned (t' := s.toks) (fun b o hb q => he' b o hb q) f0 f1 f3 f4 f5⟩
  self := fun A i s Q E st h => let ⟨⟨_, he⟩, _⟩ := st; wpAny_pyIter_enum he h
def iEnumT (K : PySem.W.Frag) (ta : TA) : TI := fun σ H R => ta σ H fun vs H1 => ∃ a xs, vs = [.ref a] ∧ SqT K H1 a xs ∧ R (Iet K a) H1
theorem pi_enumT {X : Cx} {e : Expr} {ta : TA} {p pos tpos : Pos} {elts : List Expr} {kk : Nat} (hg : Gl X "enumerate") (hm : X.mg "enumerate" = none) (ha : PA X [e] ta) (hs : starEach [e] X.env = [(false, eval e X.env)] := by rfl) :
    PI X (.Tuple elts kk tpos) (.Call (.Name "enumerate" p) [e] [] pos) (iEnumT X.K ta) := by
  refine ⟨fun pins s σ H R I h => ?_⟩
  refine Call_ (ld_blt I hg hm boot_enumerate (PyProof.Rows.callWith_type1 (thn (ha.run pos pins s σ H _ I h) fun us s1 ⟨vs, H1, I1, r1, q1⟩ => ?_) hs rfl))
  obtain ⟨a, xs, ex, hq, q⟩ := q1
  subst ex
  cases r1 with
  | cons r rr =>
    cases rr
    cases r
    obtain ⟨its, rv, p', hz⟩ := I1.tuple hq
    refine call_enumerate_tuple (show s1.heap.IsTuple a its.toArray from p') fun h' he hit hsz hk => wpAny_pyIter_enum he ?_
    have I2 : Inv X pins σ H1 { s1 with heap := h' } := I1.kept (t' := s1.toks) hk
    refine ⟨s1.heap.objs.size + 1, [s1.heap.objs.size + 1, s1.heap.objs.size], _, _, H1, rfl, I2, turn_enumT a (s1.heap.objs.size + 1) s1.heap.objs.size, ⟨⟨.none, he⟩, hit, Nat.succ_ne_self _⟩, fun b hb => ?_, q⟩
    have e' : b = s1.heap.objs.size + 1 ∨ b = s1.heap.objs.size := by simpa using hb
    have hle : s1.heap.objs.size ≤ b := by
      rcases e' with z | z
      · rw [z]; exact Nat.le_add_right _ _
      · rw [z]; exact Nat.le_refl _
    exact I1.fpOk hle (I1.hok.fresh hle)
section
variable {X : Cx} {W : WX2} {wk : Bool} {pos : Pos}
def oneT : List D → Option (List D)
  | [.tup ds] => some ds
  | _ => none
theorem oneT_eq {ds es : List D} (h : oneT ds = some es) : ds = [.tup es] := by
  match ds, h with
  | [.tup _], rfl => rfl
def mIeT (ms : MA) : MA := fun sg S => (ms sg S).bind fun x => match oneT x.1 with
  | some ds => .ok (enumD 0 ds, x.2)
  | none => .bad
theorem i2_enumT {e : Expr} {ms : MA} {p tpos : Pos} {elts : List Expr} {kk : Nat} (hg : Gl X "enumerate") (hm : X.mg "enumerate" = none) (ha : PA2 X W wk [e] ms) (hs : starEach [e] X.env = [(false, eval e X.env)] := by rfl) :
    PI2 X W wk (.Tuple elts kk tpos) (.Call (.Name "enumerate" p) [e] [] pos) (mIeT ms) := by
  obtain ⟨t, a1, a2⟩ := ha
  refine ⟨_, pi_enumT hg hm a1 hs, fun B H0 as ks ow sg S σ H R r h => ?_⟩
  refine a2 _ _ _ _ _ _ _ _ _ _ r (Den.bind h fun d S1 v H1 e0 e1 s1 q1 h1 => ?_)
  clear e0
  cases ej : oneT d with
  | none => simp only [ej] at h1; exact False.elim h1
  | some ds =>
    simp only [ej] at h1
    rw [oneT_eq ej] at q1
    obtain ⟨x, xs, ev, k1, k2⟩ := q1
    have k2' : xs = [] := k2
    subst k2'
    obtain ⟨a, ys, ex, g1, g2⟩ := id k1
    subst ex
    refine ⟨a, ys, ev, g1, h1 _ H1 Evo.refl s1 (rpI1 (dk := .tup ds) (vk := .ref a) k1 fun B2 H2 rp i => ?_)⟩
    obtain ⟨a', zs, ev', l1, l2⟩ := rp
    cases ev'
    refine ⟨fun hi => ⟨zs, l1, by rw [enumD_len] at hi; rw [← l2.length]; exact hi⟩, fun d hd => ?_⟩
    obtain ⟨x, hx, ed⟩ := enumD_get hd
    obtain ⟨w, w1, w2⟩ := l2.get hx
    refine ⟨⟨zs, w, l1, w1⟩, fun y H3 ⟨T, z, ey, hT, e3, hz⟩ => ?_⟩
    have := hz zs l1
    rw [w1] at this
    cases this
    subst ey e3 ed
    refine ⟨Evo.new hT, repNewT hT (RepA.cons ?_ (RepA.one w2))⟩
    have e0 : 0 + i = i := Nat.zero_add i
    rw [e0]
    exact rfl
/-! ### index -/
theorem idxD_rep {K : PySem.W.Frag} {as : List Addr} {B : Addr → Prop} {H : Hp} {y : D} {w : V} (hy : Rep K as B H y w) (fy : flatD y = true) : ∀ {ds : List D} {vs : List V} {j : Nat}, RepA K as B H ds vs → ds.all flatD = true → idxD y ds = some j →
    ∃ z, vs[j]? = some z ∧ eqV z w = true ∧ ∀ (m : Nat) (z' : V), m < j → vs[m]? = some z' → eqV z' w = false
  | [], vs, j, h, _, e => by cases e
  | d :: ds, vs, j, h, f, e => by
    obtain ⟨v, ws, ev, h1, h2⟩ := h
    subst ev
    rw [List.all_cons, Bool.and_eq_true] at f
    have q := flatD_eqv h1 hy f.1 fy
    simp only [idxD] at e
    split at e
    · rename_i c
      cases e
      exact ⟨v, rfl, by rw [q]; exact c, fun m z' hm => by cases hm⟩
    · rename_i c
      obtain ⟨k, e1, e2⟩ := Option.map_eq_some_iff.mp e
      subst e2
      obtain ⟨z, z1, z2, z3⟩ := idxD_rep hy fy h2 f.2 e1
      refine ⟨z, by simpa using z1, z2, fun m z' hm hz => ?_⟩
      cases m with
      | zero =>
        simp at hz
        subst hz
        rw [q]
        simpa using c
      | succ m => exact z3 m z' (by omega) (by simpa using hz)
def D.isL : D → Bool
  | .lst _ => true
  | _ => false
def D.isS : D → Bool
  | .str _ => true
  | _ => false
theorem flatA_rep {K : PySem.W.Frag} {as : List Addr} {B : Addr → Prop} {H : Hp} : ∀ {ds : List D} {vs : List V}, RepA K as B H ds vs → ds.all flatD = true → vs.all flatV = true
  | [], vs, h, _ => by
    have e : vs = [] := h
    subst e
    rfl
  | d :: ds, vs, h, f => by
    obtain ⟨v, ws, ev, h1, h2⟩ := h
    subst ev
    rw [List.all_cons, Bool.and_eq_true] at f
    rw [List.all_cons, flatD_rep h1 f.1, flatA_rep h2 f.2]
    rfl
theorem meth_index {K : PySem.W.Frag} : MethOk K wk "list" D.isL D.index (rIndex K) := by
  intro as Bs Bw H x v h1 h2 hr hc
  cases x <;> try (cases hc; done)
  rename_i ds
  obtain ⟨a, xs, ev, nb, g1, g2⟩ := hr
  subst ev
  refine ⟨.inl ⟨rfl, xs, SqL.of g1⟩, fun H2 es vs z Q h3 hr ha e q => ?_⟩
  obtain ⟨a', ys, ev, nb, g1, g2⟩ := hr
  cases ev
  match es, e with
  | [y], e =>
    simp only [D.index] at e
    split at e
    · rename_i c
      rw [Bool.and_eq_true] at c
      obtain ⟨j, e1, e2⟩ := Option.map_eq_some_iff.mp e
      subst e2
      obtain ⟨w, ws, ew, k1, k2⟩ := ha
      have k2' : ws = [] := k2
      subst k2'
      obtain ⟨z, z1, z2, z3⟩ := idxD_rep k1 c.1 g2 c.2 e1
      exact ⟨a, ys, w, j, z, rfl, ew, SqL.of g1, flatD_rep k1 c.1, flatA_rep g2 c.2, z1, z2, z3, q _ _ Evo.refl rfl⟩
    · cases e
/-- index in a tuple of texts that the module holds -/
def idxS (z : Str) : List Str → Option Nat
  | [] => none
  | y :: ys => if y = z then some 0 else (idxS z ys).map (· + 1)
theorem idxS_spec (z : Str) : ∀ (ys : List Str) (j : Nat), idxS z ys = some j → ys[j]? = some z ∧ ∀ m, m < j → ys[m]? ≠ some z
  | [], j, e => by cases e
  | y :: ys, j, e => by
    simp only [idxS] at e
    split at e
    · rename_i c
      cases e
      exact ⟨by simp [c], fun m hm => by cases hm⟩
    · rename_i c
      obtain ⟨k, e1, e2⟩ := Option.map_eq_some_iff.mp e
      subst e2
      obtain ⟨h1, h2⟩ := idxS_spec z ys k e1
      refine ⟨by simpa using h1, fun m hm => ?_⟩
      cases m with
      | zero => simpa using c
      | succ m => simpa using h2 m (by omega)
def D.idxIn (l : List Str) : D → Option D
  | .str z => (idxS z l).map fun (j : Nat) => D.int (j : Int)
  | _ => none
theorem e2_gIdx {x : Str} {px apos : Pos} {a : Addr} {l : List Str} {e : Expr} {m : ME} (hg : Gl X x) (hm : X.mg x = some (.ref a)) (ho : ∃ o, X.K.lookup a = some o ∧ o.cls = .type "tuple" ∧ o.dict = none) (hS : ∀ H, SqT X.K H a (l.map V.str)) (he : PE2 X W wk e m) (hd : (x == ("__debug__" : Str)) = false := by decide)
    (hbase : attributeBase (.Name x px) "index" X.env (eval (.Name x px) X.env) = eval (.Name x px) X.env := by rfl)
    (hfew : ((backTo pos (starEach [e] X.env)).all (fun x => !x.1) && (backToKw pos (keywordEach [] X.env)).all (fun x => x.1.isSome)
      && decide (([e] : List Expr).length + ([] : List Keyword).length + (if ([] : List Keyword).isEmpty then 0 else 1) < 30)) = true := by rfl)
    (hline : (apos.endLine == pos.line) = true := by rfl) (hs : starEach [e] X.env = (false, eval e X.env) :: starEach [] X.env := by rfl) (hplain : (backTo pos (starEach [] X.env)).any (·.1) = false := by rfl) :
    PE2 X W wk (.Call (.Attribute (.Name x px) "index" apos) [e] [] pos) (mUn (D.idxIn l) m) := by
  obtain ⟨t, a1, a2⟩ := he
  refine ⟨_, pe_bm PySem.F.plainAttrs_tuple PySem.F.slot_tuple_index PySem.F.type_tuple_index mt_tup_index (pe_glob (v := V.ref a) hg hm rfl hd) (pa_cons a1 pa_nil hs) hbase hfew hline hs hplain, fun B H0 as ks ow sg S σ H Q r h => ?_⟩
  refine ⟨.inr (.inl ⟨rfl, ho⟩), a2 _ _ _ _ _ _ _ _ _ _ r (Den.bind h fun d S1 v H1 e0 e1 s1 q1 h1 => ?_)⟩
  clear e0
  cases d <;> try exact False.elim h1
  rename_i z
  simp only [D.idxIn] at h1
  cases ei : idxS z l with
  | none => rw [ei] at h1; exact False.elim h1
  | some j =>
    rw [ei] at h1
    have ev : v = .str z := q1
    subst ev
    obtain ⟨h3, h4⟩ := idxS_spec z l j ei
    exact ⟨a, l, z, j, rfl, rfl, hS H1, h3, h4, h1 _ H1 Evo.refl s1 rfl⟩
/-! ### slices -/
abbrev MOp := List Sl → List O → R (Option Int × List O)
def PO2 (X : Cx) (W : WX2) (e : Option Expr) (m : MOp) : Prop := ∃ t : TO, PO X e t ∧ ∀ B H0 as ks ow sg S σ H (Q : Option Int → Hp → Prop), Rl X.K B H0 as ks ow sg S σ H →
  Den (ctOf X W B H0 as ks) ow (fun _ a b => b = a) (m sg S) H Q → t σ H Q
def mNoP : MOp := fun _ S => .ok (none, S)
def mPart (m : ME) : MOp := fun sg S => (m sg S).bind fun x => match x.1 with
  | .int i => .ok (some i, x.2)
  | _ => .bad
theorem o2_none : PO2 X W none mNoP := ⟨_, po_none, fun B H0 as ks ow sg S σ H Q r h => h none H Evo.refl r.sto rfl⟩
theorem o2_some {e : Expr} {m : ME} (h : PE2 X W wk e m) : PO2 X W (some e) (mPart m) := by
  obtain ⟨t, a1, a2⟩ := h
  refine ⟨_, po_some a1, fun B H0 as ks ow sg S σ H Q r h => ?_⟩
  refine a2 _ _ _ _ _ _ _ _ _ _ r (Den.bind h fun d S1 v H1 e0 e1 s1 q1 h1 => ?_)
  clear e0
  cases d <;> try exact False.elim h1
  rename_i i
  exact ⟨i, q1, h1 _ H1 Evo.refl s1 rfl⟩
def cutD (xs : List D) (lo hi : Option Int) : List D := (xs.drop (HT.sIx xs.length 0 lo)).take (HT.sIx xs.length xs.length hi - HT.sIx xs.length 0 lo)
def D.slo (lo hi : Option Int) : D → Option D
  | .lst ds => some (.lst (cutD ds lo hi))
  | .tup ds => some (.tup (cutD ds lo hi))
  | .str z => if z.length ≤ 16777216 then some (.str (cutS z lo hi)) else none
  | _ => none
theorem cut_rep {K : PySem.W.Frag} {as : List Addr} {B : Addr → Prop} {H : Hp} {ds : List D} {xs : List V} (h : RepA K as B H ds xs) (lo hi : Option Int) : RepA K as B H (cutD ds lo hi) (cutV xs lo hi) := by
  unfold cutD cutV
  rw [h.length]
  exact (h.drop _).take _
def rSl2 (K : PySem.W.Frag) : V → Option Int → Option Int → Hp → VK → Prop := fun x lo hi H Q => rSlL K x lo hi H Q ∨ (rSlA K x lo hi H Q ∨ rSlS x lo hi H Q)
theorem sl_all : SlR X (rSl2 X.K) := sl_list.or (sl_tupA.or sl_str)
def mSl (m : ME) (ml mh : MOp) : ME := fun sg S => (m sg S).bind fun x => (ml sg x.2).bind fun l => (mh sg l.2).bind fun u => R.of ((D.slo l.1 u.1 x.1).map fun z => (z, u.2))
theorem e2_slice {e : Expr} {lo hi : Option Expr} {m : ME} {ml mh : MOp} {p2 : Pos} (he : PE2 X W wk e m) (hl : PO2 X W lo ml) (hh : PO2 X W hi mh) : PE2 X W wk (.Subscript e (.Slice lo hi none p2) pos) (mSl m ml mh) := by
  obtain ⟨t, a1, a2⟩ := he
  obtain ⟨u, b1, b2⟩ := hl
  obtain ⟨w, c1, c2⟩ := hh
  refine ⟨_, pe_slice sl_all a1 b1 c1, fun B H0 as ks ow sg S σ H Q r h => ?_⟩
  refine a2 _ _ _ _ _ _ _ _ _ _ r (Den.bind h fun d S1 v H1 _ e1 s1 q1 h1 => ?_)
  have r1 := r.step e1 s1
  refine b2 _ _ _ _ _ _ _ _ _ _ r1 (Den.bind h1 fun l S2 l' H2 _ e2 s2 q2 h2 => ?_)
  have r2 := r1.step e2 s2
  refine c2 _ _ _ _ _ _ _ _ _ _ r2 (Den.bind h2 fun k S3 k' H3 _ e3 s3 q3 h3 => ?_)
  have r3 := r2.step e3 s3
  have q2' : l' = l := q2
  have q3' : k' = k := q3
  subst q2' q3'
  have q1' := Rep.imp (B' := if wk then (· ∈ as) else Bd B ow) (e2.trans e3) (asWk r) (fun _ z => z) _ _ q1
  cases d with
  | lst ds =>
    obtain ⟨a, xs, ev, nb, g1, g2⟩ := q1'
    exact .inl ⟨a, xs, ev, SqL.of g1, fun p hp => h3 _ _ (Evo.new hp) (r3.stoNew (Evo.new hp)) (repNewL r.asBd r3.bdDom hp (cut_rep g2 _ _))⟩
  | tup ds =>
    obtain ⟨a, xs, ev, g1, g2⟩ := q1'
    refine .inr (.inl ⟨a, xs, ev, g1, fun hw => h3 _ _ Evo.refl s3 ⟨a, xs, rfl, g1, ?_⟩, fun _ p hp => h3 _ _ (Evo.new hp) (r3.stoNew (Evo.new hp)) (repNewT hp (cut_rep g2 _ _))⟩)
    have := cut_rep g2 l' k'
    unfold cutV at this
    rw [hw.1, hw.2, List.drop_zero, Nat.sub_zero, List.take_length] at this
    exact this
  | str z =>
    simp only [D.slo] at h3
    split at h3
    · rename_i hz
      exact .inr (.inr ⟨z, q1', lineN hz, h3 _ _ Evo.refl s3 rfl⟩)
    · exact False.elim h3
  | _ => exact False.elim h3
end
end D2

namespace D2
open PySem PySem.Spec PyProof.Rows L2

/-! ### the law's own drawer of numbers: a list that all defs share -/
def spBegin (K : PySem.W.Frag) : Sp := fun vs H Q _ => ∃ (a : Addr) (ns : List Int), vs = [.ref a] ∧ SqL K H a (ns.map V.int) ∧ ns.length ≤ 63 ∧
  ∀ (p q : Addr) (seed : Int) (H' : Hp), 0 ≤ seed → seed < 2147483647 → p ≠ q → Evo K (fun _ => False) H H' → H' p = some (.lst [.ref q, .int 0, .int 0, .int seed]) → H' q = some (.lst (ns.map V.int)) → Q (.ref p) H'
def spLaw (K : PySem.W.Frag) : Sp := fun vs H Q _ => ∃ (a : Addr) (ns : List Int), vs = [.ref a] ∧ SqL K H a (ns.map V.int) ∧ ns.length ≤ 63 ∧ (∀ p ∈ tabsOf K, LamX.TabS H p.1 p.2) ∧ ∀ H', Q (.bl true) H'
def drawer (ns : List Int) (seed : Int) : O := .lst [.lst (ns.map D.int), .int 0, .int 0, .int seed]
def lawS (n : Nat) : List Sl := .no :: .val (.ref 0) :: List.replicate n .no
theorem rl_law {K : PySem.W.Frag} {p q : Addr} {ns : List Int} {seed : Int} {H : Hp} {σ : L2.St} {n : Nat} (hσ : σ.length = n + 2) (h1 : σ[1]? = some (some (.ref p))) (npq : p ≠ q) (hp : H p = some (.lst [.ref q, .int 0, .int 0, .int seed])) (hq : H q = some (.lst (ns.map V.int))) (htb : ∀ p ∈ tabsOf K, LamX.TabS H p.1 p.2) :
    Rl K (· = p) H [p] [] (List.replicate (n + 2) none) (lawS n) [drawer ns seed] σ H := by
  have nomem : ∀ a (n : Nat), some a ∉ (List.replicate n none : List (Option Addr)) := fun a n z => by
    have := List.eq_of_mem_replicate z
    cases this
  have bd : ∀ a, Bd (· = p) (List.replicate (n + 2) none) a → a = p := fun a h => h.elim id fun z => absurd z (nomem a _)
  refine ⟨by simp [lawS], by simp [lawS, hσ], fun i s hs => ?_, fun i j a h _ => absurd (List.mem_of_getElem? h) (nomem a _), fun a h => absurd h (nomem a _), fun a h => absurd h (nomem a _), fun a h => ?_, fun a h => List.mem_singleton.mp h, Evo.refl, ⟨rfl, List.pairwise_singleton _ _, fun m o hm => ?_, htb⟩, fun p hp => by cases hp⟩
  · have hl : i < (lawS n).length := (List.getElem?_eq_some_iff.mp hs).1
    have hl' : i < n + 2 := by simpa [lawS] using hl
    have hx : i < σ.length := by omega
    refine ⟨none, σ[i], by rw [List.getElem?_replicate, if_pos hl'], List.getElem?_eq_getElem hx, ?_⟩
    match i, hs, hx with
    | 0, hs, hx => cases hs; rfl
    | 1, hs, hx =>
      cases hs
      refine ⟨rfl, .ref p, ?_, p, rfl, rfl⟩
      rw [List.getElem?_eq_getElem hx] at h1
      exact Option.some.inj h1
    | i + 2, hs, hx =>
      have hs' : (List.replicate n Sl.no)[i]? = some s := hs
      rw [List.getElem?_replicate] at hs'
      split at hs'
      · cases hs'; rfl
      · cases hs'
  · rw [h, hp]
    exact fun z => nomatch z
  · match m, hm with
    | 0, hm =>
      cases hm
      refine ⟨p, rfl, [.ref q, .int 0, .int 0, .int seed], hp, .ref q, _, rfl, ⟨q, _, rfl, fun z => npq (bd q z).symm, hq, rep_ints ns⟩, .int 0, _, rfl, rfl, .int 0, _, rfl, rfl, .int seed, _, rfl, rfl, rfl⟩
    | m + 1, hm => cases hm
theorem sqL_ints {K : PySem.W.Frag} {H : Hp} {a : Addr} {ns : List Int} (h : SqL K H a (ns.map V.int)) {i : Nat} {x : V} (e : (ns.map V.int)[i]? = some x) : ∃ z, x = V.int z := by
  rw [List.getElem?_map] at e
  cases q : ns[i]? with
  | none => rw [q] at e; cases e
  | some z => rw [q] at e; exact ⟨z, (Option.some.inj e).symm⟩
theorem units64 {A : Around} {k : Nat} (hr : Room k A) : A.units + 64 < cLine := Nat.lt_of_le_of_lt (by omega) hr.un
/-! constants of the module: tuples of texts -/
def strsOf : List Value → Option (List Str)
  | [] => some []
  | .str x _ :: vs => (strsOf vs).map (x :: ·)
  | _ :: _ => none
theorem vals_strs : ∀ {vs : List Value} {l : List Str}, strsOf vs = some l → Vals (l.map V.str) vs
  | [], l, h => by cases h; exact .nil
  | v :: vs, l, h => by
    cases v <;> try (cases h; done)
    rename_i x t
    simp only [strsOf, Option.map_eq_some_iff] at h
    obtain ⟨ms, h1, h2⟩ := h
    subst h2
    exact .cons ⟨_, rfl⟩ (vals_strs h1)
theorem sqT_const {K : PySem.W.Frag} {H : Hp} {a : Addr} {od : Option Addr} {osl : Array (Option Value)} {its : Array Value} {n : Nat} {l : List Str} (h : K.lookup a = some ⟨.type "tuple", od, .seq its n, osl⟩) (hv : strsOf its.toList = some l) (hl : l.length ≤ sizeLine) : SqT K H a (l.map V.str) := by
  have q := vals_strs hv
  refine .inr ⟨_, its, n, h, rfl, rfl, ?_, q⟩
  have := q.length
  rw [List.length_map] at this
  simp at this
  omega
theorem rep_const {K : PySem.W.Frag} {as : List Addr} {B : Addr → Prop} {H : Hp} {a : Addr} {od : Option Addr} {osl : Array (Option Value)} {its : Array Value} {n : Nat} {l : List Str} (h : K.lookup a = some ⟨.type "tuple", od, .seq its n, osl⟩) (hv : strsOf its.toList = some l) (hl : l.length ≤ sizeLine) : Rep K as B H (.tup (l.map D.str)) (.ref a) :=
  ⟨a, _, rfl, sqT_const h hv hl, rep_strs l⟩
/-- walking the top: as in the guides, for spLaw -/
theorem walkL {l : PySem.W.OpenLaw} {q : Program} {loose : List Str} {XP : (Str → Option Value) → Heap → Prop} {YP : World → Heap → Prop} {d : DefRec} {K : Params → PySem.W.Frag} {k : Nat} (hK : ∀ w : World, tabsOf (K w.params) = []) (hn : l.most = some 63) (hdf : d.params.defaults = []) (hr : Room k callerA)
    (hY : ∀ (w : World) (h : Heap), YP w h → (K w.params).In h)
    (F : ∀ (w : World) (mg : Str → Option Value) (fa : Addr) (h : Heap), (K w.params).In h → h.Ns mainGlobals mg → mg d.name = some (.ref fa) →
      ∃ fd : FuncData, (∀ (s : Shared) (u : Value), BindsTo s fd ⟨[u], []⟩ [("script", u)]) ∧ ∀ base : Heap, (K w.params).In base → base.Ns mainGlobals mg → FnOk l.prog w (K w.params) mg base CX0 k fa fd ["script"] (spLaw (K w.params))) :
    PySem.W.WalkO q loose XP YP l.row.toRowW d [] (fun f vs => PySem.call f vs) :=
  L2.walk_of (n := 63) (k := k) (x := "script") (CX := fun _ => CX0) (sp := fun w => spLaw (K w.params)) hn (by decide) hdf hr hY F (fun w _ a ns hl _ hS => ⟨a, ns, rfl, hS, hl, (fun p hp => by rw [hK w] at hp; cases hp), fun _ => rfl⟩) fun _ _ _ _ _ z => z
end D2

namespace D2
open PySem PySem.Spec PyProof.Rows L2

section
variable {X : Cx} {W : WX2} {wk wk' : Bool} {pos : Pos}
/-! ### ranges whose bounds read a name's own object; ranges with a step -/
theorem i2_rng1x {tg a : Expr} {ms : MA} {p : Pos} (hg : Gl X "range") (hm : X.mg "range" = none) (ha : PA2 X W wk [a] ms) (hs : starEach [a] X.env = [(false, eval a X.env)] := by rfl) : PI2 X W wk' tg (.Call (.Name "range" p) [a] [] pos) (mIr1 ms) := by
  obtain ⟨t, a1, a2⟩ := ha
  refine ⟨_, pi_range1 hg hm a1 hs, fun B H0 as ks ow sg S σ H R r h => ?_⟩
  refine a2 _ _ _ _ _ _ _ _ _ _ r (Den.bind h fun d S1 v H1 e0 e1 s1 q1 h1 => ?_)
  clear e0
  cases ej : one1 d with
  | none => simp only [ej] at h1; exact False.elim h1
  | some j =>
    simp only [ej] at h1
    have ev := one1_rep q1 ej
    by_cases hc : lim62 j = true
    · simp only [if_pos hc] at h1
      have hc' := lim62_of hc
      refine ⟨j, ev, hc'.1, hc'.2, h1 _ H1 Evo.refl s1 (rpI1 (dk := .non) (vk := .non) rfl fun B2 H2 _ i => ⟨fun hi => by rw [rngD_len] at hi; exact hi, fun d hd => ?_⟩)⟩
      obtain ⟨hi, ed⟩ := rngD_get hd
      refine ⟨hi, fun x H3 ⟨e3, ex⟩ => ?_⟩
      subst e3 ex ed
      exact ⟨Evo.refl, rfl⟩
    · simp only [if_neg hc] at h1
      exact False.elim h1
theorem i2_rng2x {tg a b : Expr} {ms : MA} {p : Pos} (hg : Gl X "range") (hm : X.mg "range" = none) (ha : PA2 X W wk [a, b] ms) (hs : starEach [a, b] X.env = [(false, eval a X.env), (false, eval b X.env)] := by rfl) (hs2 : starEach [b] X.env = [(false, eval b X.env)] := by rfl) :
    PI2 X W wk' tg (.Call (.Name "range" p) [a, b] [] pos) (mIr2 ms) := by
  obtain ⟨t, a1, a2⟩ := ha
  refine ⟨_, pi_range2 hg hm a1 hs hs2, fun B H0 as ks ow sg S σ H R r h => ?_⟩
  refine a2 _ _ _ _ _ _ _ _ _ _ r (Den.bind h fun d S1 v H1 e0 e1 s1 q1 h1 => ?_)
  clear e0
  cases ej : two2 d with
  | none => simp only [ej] at h1; exact False.elim h1
  | some p =>
    obtain ⟨i, j⟩ := p
    simp only [ej] at h1
    have ev := two2_rep q1 ej
    by_cases hc : (lim62 i && lim62 j) = true
    · simp only [if_pos hc] at h1
      rw [Bool.and_eq_true] at hc
      have c1 := lim62_of hc.1
      have c2 := lim62_of hc.2
      refine ⟨i, j, ev, ⟨c1.1, c1.2, c2.1, c2.2⟩, h1 _ H1 Evo.refl s1 (rpI1 (dk := .non) (vk := .non) rfl fun B2 H2 _ k => ⟨fun hi => by rw [rngD_len] at hi; exact hi, fun d hd => ?_⟩)⟩
      obtain ⟨hi, ed⟩ := rngD_get hd
      refine ⟨hi, fun x H3 ⟨e3, ex⟩ => ?_⟩
      subst e3 ex ed
      exact ⟨Evo.refl, rfl⟩
    · simp only [if_neg hc] at h1
      exact False.elim h1
def rngC (lo c : Int) (n : Nat) : List D := (List.range n).map fun (k : Nat) => D.int (lo + (k : Int) * c)
theorem rngC_len (lo c : Int) (n : Nat) : (rngC lo c n).length = n := by simp [rngC]
theorem rngC_get {lo c : Int} {n i : Nat} {d : D} (h : (rngC lo c n)[i]? = some d) : i < n ∧ d = .int (lo + (i : Int) * c) := by
  unfold rngC at h
  rw [List.getElem?_map] at h
  by_cases hi : i < n
  · rw [List.getElem?_range hi] at h
    exact ⟨hi, (Option.some.inj h).symm⟩
  · rw [List.getElem?_eq_none (by simpa using hi)] at h
    cases h
def thr3 : List D → Option (Int × Int × Int)
  | [.int i, .int j, .int k] => some (i, j, k)
  | _ => none
theorem thr3_rep {K : PySem.W.Frag} {as : List Addr} {B : Addr → Prop} {H : Hp} {ds : List D} {vs : List V} {i j k : Int} (h : RepA K as B H ds vs) (e : thr3 ds = some (i, j, k)) : vs = [.int i, .int j, .int k] := by
  match ds, e, h with
  | [.int i, .int j, .int k], rfl, h =>
    obtain ⟨x, xs, ev, k1, y, ys, ev2, k2, z, zs, ev3, k4, k5⟩ := h
    have k5' : zs = [] := k5
    have k1' : x = .int i := k1
    have k2' : y = .int j := k2
    have k4' : z = .int k := k4
    rw [ev, ev2, ev3, k1', k2', k4', k5']
def rgOk (i j c : Int) : Bool := decide (0 < c ∧ c < 1073741824) && Builtin.Range.small i j c
def mIr3 (ms : MA) : MA := fun sg S => (ms sg S).bind fun x => match thr3 x.1 with
  | some (i, j, c) => if rgOk i j c = true then .ok (rngC i c (Builtin.Range.rangeSize i j c).toNat, x.2) else .bad
  | none => .bad
theorem rgOk_of {i j c : Int} (h : rgOk i j c = true) : RgC i j c (Builtin.Range.rangeSize i j c).toNat := by
  unfold rgOk at h
  rw [Bool.and_eq_true] at h
  have h1 : 0 < c ∧ c < 1073741824 := of_decide_eq_true h.1
  refine ⟨by omega, by omega, h.2, ?_⟩
  have h0 : 0 ≤ Builtin.Range.rangeSize i j c := by
    unfold Builtin.Range.rangeSize
    split
    · split
      · rename_i h2 h3
        have := Int.ediv_nonneg (a := j - i - 1) (b := c) (by omega) (by omega)
        first | omega | (show (0 : Int) ≤ _; omega)
      · omega
    · first | omega | (split <;> omega)
  omega
theorem i2_rng3x {tg a b c : Expr} {ms : MA} {p : Pos} (hg : Gl X "range") (hm : X.mg "range" = none) (ha : PA2 X W wk [a, b, c] ms) (hs : starEach [a, b, c] X.env = (false, eval a X.env) :: starEach [b, c] X.env := by rfl) (hpl : (backTo pos (starEach [b, c] X.env)).any (·.1) = false := by rfl) :
    PI2 X W wk' tg (.Call (.Name "range" p) [a, b, c] [] pos) (mIr3 ms) := by
  obtain ⟨t, a1, a2⟩ := ha
  refine ⟨_, pi_range3 hg hm a1 hs hpl, fun B H0 as ks ow sg S σ H R r h => ?_⟩
  refine a2 _ _ _ _ _ _ _ _ _ _ r (Den.bind h fun d S1 v H1 e0 e1 s1 q1 h1 => ?_)
  clear e0
  cases ej : thr3 d with
  | none => simp only [ej] at h1; exact False.elim h1
  | some p =>
    obtain ⟨i, j, c⟩ := p
    simp only [ej] at h1
    have ev := thr3_rep q1 ej
    by_cases hc : rgOk i j c = true
    · simp only [if_pos hc] at h1
      refine ⟨i, j, c, _, ev, rgOk_of hc, h1 _ H1 Evo.refl s1 (rpI1 (dk := .non) (vk := .non) rfl fun B2 H2 _ k => ⟨fun hi => by rw [rngC_len] at hi; exact hi, fun d hd => ?_⟩)⟩
      obtain ⟨hi, ed⟩ := rngC_get hd
      refine ⟨hi, fun x H3 ⟨e3, ex⟩ => ?_⟩
      subst e3 ex ed
      exact ⟨Evo.refl, rfl⟩
    · simp only [if_neg hc] at h1
      exact False.elim h1
/-! ### list(range(n)) -/
def oLrg (m : ME) : MO := fun sg S => (m sg S).bind fun x => match x.1 with
  | .int n => if decide (0 ≤ n ∧ n ≤ 16777216) = true then .ok (.lst (rngD 0 n.toNat), x.2) else .bad
  | _ => .bad
theorem repA_map {K : PySem.W.Frag} {as : List Addr} {B : Addr → Prop} {H : Hp} {α : Type} {f : α → D} {g : α → V} : ∀ {l : List α}, (∀ x ∈ l, Rep K as B H (f x) (g x)) → RepA K as B H (l.map f) (l.map g)
  | [], _ => rfl
  | x :: l, h => RepA.cons (h x List.mem_cons_self) (repA_map fun y hy => h y (List.mem_cons_of_mem _ hy))
theorem f2_lrng {e : Expr} {m : ME} {p p2 q : Pos} (hc : X.calm = true) (hg : Gl X "list") (hm : X.mg "list" = none) (hg2 : Gl X "range") (hm2 : X.mg "range" = none) (he : PE2 X W wk e m)
    (n1 : starEach [e] X.env = (false, eval e X.env) :: starEach [] X.env := by rfl) (n2 : starEach [.Call (.Name "range" p2) [e] [] q] X.env = (false, eval (.Call (.Name "range" p2) [e] [] q) X.env) :: starEach [] X.env := by rfl) :
    PF2 X W (.Call (.Name "list" p) [.Call (.Name "range" p2) [e] [] q] [] pos) (oLrg m) := by
  obtain ⟨t, a1, a2⟩ := he
  refine ⟨_, pe_listRg hc hg hm (prg_1 hg2 hm2 a1 n1) n2, fun B H0 as ks ow sg S σ H Q r h => ?_⟩
  refine a2 _ _ _ _ _ _ _ _ _ _ r (DenO.bind h fun x S1 v H1 c1 e1 s1 q1 h1 => ?_)
  clear c1
  cases x <;> try exact False.elim h1
  rename_i n
  by_cases hl : 0 ≤ n ∧ n ≤ 16777216
  · simp only [decide_eq_true hl, if_true] at h1
    refine ⟨n, q1, RgOk.of_le (Int.le_refl _) hl.2 (by decide) hl.1, fun p hp => h1 p _ hp (Evo.new hp) (boxNew hp s1) ⟨rgV 0 n, upd_same, boxNewA hp ?_⟩⟩
    unfold rgV rngD
    rw [Int.sub_zero]
    exact repA_map fun k _ => rfl
  · simp only [decide_eq_false hl] at h1
    exact False.elim h1
/-! ### tests x is None -/
theorem t2_isN {a : Expr} {m : ME} {j pos'} (h : PE2 X W wk a m) : PT2 X W (.Compare a [.Is] [.Constant .none j pos'] pos) (mTst (mIsN false m)) := by
  obtain ⟨t, h1, h2⟩ := h
  refine ⟨_, pt_cmp (pc_isN h1) rfl, fun B H0 as ks ow sg S σ H Q r h => ?_⟩
  rw [show mTst (mIsN false m) sg S = (m sg S).bind (fun x => .ok ((match x.1 with | .non => true | _ => false), x.2)) from by
    unfold mTst mIsN
    cases m sg S with
    | ok x => rfl
    | ex => rfl
    | bad => rfl] at h
  refine h2 _ _ _ _ _ _ _ _ _ _ r (Den.bind h fun d S1 v H1 e0 e1 s1 q1 h1 => ?_)
  refine ⟨decide (v = V.non), rfl, ?_⟩
  rw [isN_rep q1]
  exact h1 _ H1 Evo.refl s1 (by cases d <;> rfl)
theorem t2_notN {a : Expr} {m : ME} {j pos'} (h : PE2 X W wk a m) : PT2 X W (.Compare a [.IsNot] [.Constant .none j pos'] pos) (mTst (mIsN true m)) := by
  obtain ⟨t, h1, h2⟩ := h
  refine ⟨_, pt_cmp (pc_notN h1) rfl, fun B H0 as ks ow sg S σ H Q r h => ?_⟩
  rw [show mTst (mIsN true m) sg S = (m sg S).bind (fun x => .ok ((match x.1 with | .non => false | _ => true), x.2)) from by
    unfold mTst mIsN
    cases m sg S with
    | ok x => rfl
    | ex => rfl
    | bad => rfl] at h
  refine h2 _ _ _ _ _ _ _ _ _ _ r (Den.bind h fun d S1 v H1 e0 e1 s1 q1 h1 => ?_)
  refine ⟨!decide (v = V.non), rfl, ?_⟩
  rw [isN_rep q1]
  exact h1 _ H1 Evo.refl s1 (by cases d <;> rfl)
/-! ### x.append(y.pop(e)) -/
def popAt (ys : List D) (k : Int) : Option (List D × D) := if decide (0 ≤ k ∧ k < (ys.length : Int) ∧ k < 4611686018427387904) = true then match ys[k.toNat]? with
    | some d => some (ys.eraseIdx k.toNat, d)
    | none => none
  else none
def mAppPop (i j : Nat) (m : ME) : MS := fun sg S => match sg[i]?, sg[j]? with
  | some (.own (.lst xs)), some (.own (.lst ys)) => (m sg S).bind fun z => match z.1 with
    | .int k => match popAt ys k with
      | some (ys', d) => if xs.length < 16777216 then .ok (.nx, (sg.set j (.own (.lst ys'))).set i (.own (.lst (xs ++ [d]))), z.2) else .bad
      | none => .bad
    | _ => .bad
  | _, _ => .bad
theorem RepA.eraseIdx {K : PySem.W.Frag} {as : List Addr} {B : Addr → Prop} {H : Hp} : ∀ {ds : List D} {xs : List V} (n : Nat), RepA K as B H ds xs → RepA K as B H (ds.eraseIdx n) (xs.eraseIdx n)
  | [], xs, n, h => by
    have e : xs = [] := h
    subst e
    exact rfl
  | d :: ds, xs, 0, h => by
    obtain ⟨v, vs, e1, h1, h2⟩ := h
    subst e1
    exact h2
  | d :: ds, xs, n + 1, h => by
    obtain ⟨v, vs, e1, h1, h2⟩ := h
    subst e1
    exact RepA.cons h1 (RepA.eraseIdx n h2)
theorem s2_appPop (i j : Nat) {x y : Str} {px py apos cpos apos2 cpos2 : Pos} {e : Expr} {me : ME} (hij : i ≠ j)
    (pa : PlainAttrs "list") (slot : Slot "list" "append" "list.append") (hty : typeOf (.builtin "list.append") = pure (.type "method_descriptor")) (slot2 : Slot "list" "pop" "list.pop") (hty2 : typeOf (.builtin "list.pop") = pure (.type "method_descriptor")) (he : PE2 X W wk e me)
    (hN : X.N[i]? = some x := by rfl) (hv : Vis X.env.scope x := by first | exact Or.inl rfl | exact Or.inr (Or.inl rfl) | exact Or.inr (Or.inr rfl)) (hd : (x == ("__debug__" : Str)) = false := by decide) (hcd : (x == ("__classdict__" : Str)) = false := by decide)
    (hN2 : X.N[j]? = some y := by rfl) (hv2 : Vis X.env.scope y := by first | exact Or.inl rfl | exact Or.inr (Or.inl rfl) | exact Or.inr (Or.inr rfl)) (hd2 : (y == ("__debug__" : Str)) = false := by decide) (hcd2 : (y == ("__classdict__" : Str)) = false := by decide)
    (b2 : attributeBase (.Name y py) "pop" X.env (eval (.Name y py) X.env) = eval (.Name y py) X.env := by rfl)
    (f2 : ((backTo cpos2 (starEach [e] X.env)).all (fun x => !x.1) && (backToKw cpos2 (keywordEach [] X.env)).all (fun x => x.1.isSome)
      && decide (([e] : List Expr).length + ([] : List Keyword).length + (if ([] : List Keyword).isEmpty then 0 else 1) < 30)) = true := by rfl)
    (l2 : (apos2.endLine == cpos2.line) = true := by rfl) (s2 : starEach [e] X.env = (false, eval e X.env) :: starEach [] X.env := by rfl) (p2 : (backTo cpos2 (starEach [] X.env)).any (·.1) = false := by rfl)
    (b1 : attributeBase (.Name x px) "append" X.env (eval (.Name x px) X.env) = eval (.Name x px) X.env := by rfl)
    (f1 : ((backTo cpos (starEach [.Call (.Attribute (.Name y py) "pop" apos2) [e] [] cpos2] X.env)).all (fun x => !x.1) && (backToKw cpos (keywordEach [] X.env)).all (fun x => x.1.isSome)
      && decide (([.Call (.Attribute (.Name y py) "pop" apos2) [e] [] cpos2] : List Expr).length + ([] : List Keyword).length + (if ([] : List Keyword).isEmpty then 0 else 1) < 30)) = true := by rfl)
    (l1 : (apos.endLine == cpos.line) = true := by rfl) (s1 : starEach [.Call (.Attribute (.Name y py) "pop" apos2) [e] [] cpos2] X.env = (false, eval (.Call (.Attribute (.Name y py) "pop" apos2) [e] [] cpos2) X.env) :: starEach [] X.env := by rfl) (p1 : (backTo cpos (starEach [] X.env)).any (·.1) = false := by rfl)
    (hsw : swapsWith (.Call (.Attribute (.Name x px) "append" apos) [.Call (.Attribute (.Name y py) "pop" apos2) [e] [] cpos2] [] cpos) none pos.line X.env = pure false := by rfl) :
    PS2 X W (.Expr (.Call (.Attribute (.Name x px) "append" apos) [.Call (.Attribute (.Name y py) "pop" apos2) [e] [] cpos2] [] cpos) pos) (mAppPop i j me) := by
  obtain ⟨t, a1, a2⟩ := he
  refine ⟨_, ps_expr (pe_bm pa slot hty mt_append (pe_var hN hv hd hcd) (pa_cons (pe_bm pa slot2 hty2 mt_popAt (pe_var hN2 hv2 hd2 hcd2) (pa_cons a1 pa_nil s2) b2 f2 l2 s2 p2) pa_nil s1) b1 f1 l1 s1 p1) hsw, fun B H0 as ks ow sg S σ H Dd r h => ?_⟩
  unfold mAppPop at h
  cases ei : sg[i]? with
  | none => simp only [ei] at h; exact False.elim h
  | some si =>
    cases si with
    | no => simp only [ei] at h; exact False.elim h
    | val d => simp only [ei] at h; exact False.elim h
    | own oi =>
      cases oi with
      | dic _ _ => simp only [ei] at h; exact False.elim h
      | lst xs =>
        cases ej : sg[j]? with
        | none => simp only [ei, ej] at h; exact False.elim h
        | some sj =>
          cases sj with
          | no => simp only [ei, ej] at h; exact False.elim h
          | val d => simp only [ei, ej] at h; exact False.elim h
          | own oj =>
            cases oj with
            | dic _ _ => simp only [ei, ej] at h; exact False.elim h
            | lst ys =>
              simp only [ei, ej] at h
              obtain ⟨wi, xi, i1, i2, a, i3, i4, i5⟩ := r.sl i _ ei
              subst i3 i4
              obtain ⟨wj, xj, j1, j2, b, j3, j4, j5⟩ := r.sl j _ ej
              subst j3 j4
              obtain ⟨vs, v1, v2⟩ := i5
              obtain ⟨us, u1, u2⟩ := j5
              refine ⟨_, i2, tyL v1, ⟨_, j2, tyL u1, a2 _ _ _ _ _ _ _ _ _ _ r (DenS.bindE h fun d S1 v H1 c1 e1 s1 q1 h1 => ?_)⟩⟩
              clear c1
              cases d <;> try exact False.elim h1
              rename_i k
              have ev : v = .int k := q1
              subst ev
              have r1 := r.step e1 s1
              simp only [popAt] at h1
              by_cases hk : 0 ≤ k ∧ k < (ys.length : Int) ∧ k < 4611686018427387904
              · simp only [decide_eq_true hk, if_true] at h1
                have hb : k.toNat < ys.length := by omega
                rw [List.getElem?_eq_getElem hb] at h1
                simp only [] at h1
                by_cases hl : xs.length < 16777216
                · rw [if_pos hl] at h1
                  obtain ⟨us', w1, w2⟩ : ORep X.K as (Bd B ow) H1 (.lst ys) b := ORep.imp e1 r.asBd (fun _ z => z) _ b (r.ownAs (List.mem_of_getElem? j1)) ⟨us, u1, u2⟩
                  obtain ⟨z, z1, z2⟩ := w2.get (List.getElem?_eq_getElem hb)
                  refine ⟨b, us', k, k.toNat, z, rfl, rfl, w1, by omega, by omega, ?_, z1, ?_⟩
                  · unfold seqIndex?
                    rw [← w2.length]
                    have e0 : ¬ k < 0 := by omega
                    simp only [if_neg e0]
                    rw [if_pos (by simp; omega)]
                  · have mj := List.mem_of_getElem? j1
                    have mi := List.mem_of_getElem? i1
                    have r2 := r1.putOwn (o' := .lst (ys.eraseIdx k.toNat)) (u := .lst (us'.eraseIdx k.toNat)) ej j1 ⟨us'.eraseIdx k.toNat, upd_same, put_rep w1 (fun _ z => by cases z) (fun _ _ z => by cases z) (.inr mj) (w2.eraseIdx _)⟩
                    have z2' := Rep.imp (W := (· = b)) (B' := Bd B ow) (Evo.put (o' := .lst (us'.eraseIdx k.toNat)) w1 (fun _ z => by cases z) (fun _ _ z => by cases z) rfl) (fun c z => z ▸ .inr mj) (fun _ z => z) _ _ z2
                    have ei2 : (sg.set j (.own (.lst (ys.eraseIdx k.toNat))))[i]? = some (.own (.lst xs)) := by rw [List.getElem?_set_ne (Ne.symm hij)]; exact ei
                    obtain ⟨wi2, xi2, k1, k2, a', k3, k4, k5⟩ := r2.sl i _ ei2
                    rw [i1] at k1
                    cases k1
                    cases k3
                    obtain ⟨vs', g1, g2⟩ := k5
                    refine ⟨a, vs', z, rfl, rfl, g1, lineL (by rw [← g2.length]; exact hl), ?_⟩
                    exact h1 _ _ _ (r2.putOwn ei2 i1 ⟨vs' ++ [z], upd_same, put_rep g1 (fun _ z => by cases z) (fun _ _ z => by cases z) (.inr mi) (g2.append (RepA.one z2'))⟩)
                · rw [if_neg hl] at h1
                  exact False.elim h1
              · simp only [decide_eq_false hk] at h1
                exact False.elim h1
end

/-! ### sorted(set(x)), x a list of tuples of ints: those that differ, ascending -/
def insU (n : List Int) : List (List Int) → List (List Int)
  | [] => [n]
  | m :: ms => if n = m then m :: ms else if TS.code 1000000 n < TS.code 1000000 m then n :: m :: ms else m :: insU n ms
def sortU : List (List Int) → List (List Int)
  | [] => []
  | n :: ns => insU n (sortU ns)
theorem mem_insU {n x : List Int} : ∀ {l : List (List Int)}, x ∈ insU n l ↔ x = n ∨ x ∈ l
  | [] => by simp [insU]
  | m :: ms => by
    unfold insU
    split
    · rename_i h
      subst h
      simp
    · split
      · simp
      · rw [List.mem_cons, mem_insU (l := ms), List.mem_cons]
        constructor
        · rintro (h | h | h)
          · exact .inr (.inl h)
          · exact .inl h
          · exact .inr (.inr h)
        · rintro (h | h | h)
          · exact .inr (.inl h)
          · exact .inl h
          · exact .inr (.inr h)
theorem mem_sortU {x : List Int} : ∀ {l : List (List Int)}, x ∈ sortU l ↔ x ∈ l
  | [] => by simp [sortU]
  | n :: ns => by rw [sortU, mem_insU, mem_sortU, List.mem_cons]
theorem code_inj {B : Int} : ∀ {r q : List Int}, r.length = q.length → TS.Bd B r → TS.Bd B q → TS.code B r = TS.code B q → r = q
  | [], [], _, _, _, _ => rfl
  | [], _ :: _, h, _, _, _ => by cases h
  | _ :: _, [], h, _, _, _ => by cases h
  | d :: r, e :: q, h, h1, h2, hc => by
    have hl : r.length = q.length := by simpa using h
    rcases Int.lt_trichotomy d e with c | c | c
    · have := TS.code_lt hl h1.tail h2.tail c
      omega
    · subst c
      have hc' : TS.code B r = TS.code B q := by
        rcases Int.lt_trichotomy (TS.code B r) (TS.code B q) with k | k | k
        · have := (TS.code_same (d := d) hl).mpr k
          omega
        · exact k
        · have := (TS.code_same (d := d) hl.symm).mpr k
          omega
      rw [code_inj hl h1.tail h2.tail hc']
    · have := TS.code_lt hl.symm h2.tail h1.tail c
      omega
def U3 (d : Nat) (n : List Int) : Prop := n.length = d ∧ TS.Bd 1000000 n
theorem insU_sorted {d : Nat} {n : List Int} (hn : U3 d n) : ∀ {l : List (List Int)}, (∀ m ∈ l, U3 d m) → l.Pairwise (fun a b => TS.code 1000000 a < TS.code 1000000 b) → (insU n l).Pairwise (fun a b => TS.code 1000000 a < TS.code 1000000 b)
  | [], _, _ => List.pairwise_singleton _ _
  | m :: ms, hu, hp => by
    obtain ⟨p1, p2⟩ := List.pairwise_cons.mp hp
    unfold insU
    split
    · exact hp
    · rename_i hne
      split
      · rename_i hlt
        refine List.pairwise_cons.mpr ⟨fun y hy => ?_, hp⟩
        rcases List.mem_cons.mp hy with e | hy
        · rw [e]; exact hlt
        · exact Int.lt_trans hlt (p1 y hy)
      · rename_i hlt
        refine List.pairwise_cons.mpr ⟨fun y hy => ?_, insU_sorted hn (fun x hx => hu x (List.mem_cons_of_mem _ hx)) p2⟩
        rcases mem_insU.mp hy with e | hy
        · rw [e]
          have hm := hu m List.mem_cons_self
          have : TS.code 1000000 n ≠ TS.code 1000000 m := fun z => hne (code_inj (hn.1.trans hm.1.symm) hn.2 hm.2 z)
          omega
        · exact p1 y hy
theorem sortU_sorted {d : Nat} : ∀ {l : List (List Int)}, (∀ m ∈ l, U3 d m) → (sortU l).Pairwise (fun a b => TS.code 1000000 a < TS.code 1000000 b)
  | [], _ => List.Pairwise.nil
  | n :: ns, hu => insU_sorted (hu n List.mem_cons_self) (fun m hm => hu m (List.mem_cons_of_mem _ (mem_sortU.mp hm))) (sortU_sorted fun m hm => hu m (List.mem_cons_of_mem _ hm))
theorem strict_one {α : Type} {f : α → Int} : ∀ {l m : List α}, l.Pairwise (fun a b => f a < f b) → m.Pairwise (fun a b => f a < f b) → (∀ x, x ∈ l ↔ x ∈ m) → l = m
  | [], [], _, _, _ => rfl
  | [], y :: m, _, _, h => absurd ((h y).mpr List.mem_cons_self) (by simp)
  | x :: l, [], _, _, h => absurd ((h x).mp List.mem_cons_self) (by simp)
  | x :: l, y :: m, hl, hm, h => by
    obtain ⟨l1, l2⟩ := List.pairwise_cons.mp hl
    obtain ⟨m1, m2⟩ := List.pairwise_cons.mp hm
    have exy : x = y := by
      rcases List.mem_cons.mp ((h x).mp List.mem_cons_self) with e | hx
      · exact e
      · rcases List.mem_cons.mp ((h y).mpr List.mem_cons_self) with e | hy
        · exact e.symm
        · have h1 := l1 y hy
          have h2 := m1 x hx
          omega
    subst exy
    rw [strict_one l2 m2 fun z => ?_]
    constructor
    · intro hz
      rcases List.mem_cons.mp ((h z).mp (List.mem_cons_of_mem _ hz)) with e | hz2
      · subst e
        have := l1 z hz
        omega
      · exact hz2
    · intro hz
      rcases List.mem_cons.mp ((h z).mpr (List.mem_cons_of_mem _ hz)) with e | hz2
      · subst e
        have := m1 z hz
        omega
      · exact hz2
def tupI (ns : List Int) : D := .tup (ns.map D.int)
def tupsOf : List D → Option (List (List Int))
  | [] => some []
  | .tup ds :: r => match D.ints ds, tupsOf r with
    | some n, some m => some (n :: m)
    | _, _ => none
  | _ => none
theorem tupsOf_map : ∀ l : List (List Int), tupsOf (l.map tupI) = some l
  | [] => rfl
  | n :: l => by
    rw [List.map_cons, tupI, tupsOf, ints_map, tupsOf_map l]
def okU (l : List (List Int)) : Bool := decide (l.length < 64) && l.all fun ns => decide (ns.length = (l.headD []).length) && (decide (1 ≤ ns.length) && ns.all fun i => decide (0 ≤ i ∧ i < 1000000))
def D.sset : D → Option D
  | .lst ds => match tupsOf ds with
    | some l => if okU l = true then some (.lst ((sortU l).map tupI)) else none
    | none => none
  | _ => none
section
variable {K : PySem.W.Frag} {as : List Addr} {B : Addr → Prop} {H : Hp}
theorem tups_rep : ∀ {ds : List D} {vs : List V} {l : List (List Int)}, RepA K as B H ds vs → tupsOf ds = some l → ∃ ks : List (Addr × List Int), vs = (ks.map fun p => V.ref p.1) ∧ ks.map (·.2) = l ∧ ∀ p ∈ ks, SqT K H p.1 (p.2.map V.int)
  | [], vs, l, h, e => by
    have e' : vs = [] := h
    subst e'
    cases e
    exact ⟨[], rfl, rfl, fun p hp => by cases hp⟩
  | d :: ds, vs, l, h, e => by
    obtain ⟨v, ws, e1, h1, h2⟩ := h
    subst e1
    cases d <;> try (cases e; done)
    rename_i es
    simp only [tupsOf] at e
    split at e
    · rename_i n m hn hm
      cases e
      obtain ⟨ks, k1, k2, k3⟩ := tups_rep h2 hm
      obtain ⟨a, xs, ev, g1, g2⟩ := h1
      subst ev k1
      rw [ints_rep g2 hn] at g1
      refine ⟨(a, n) :: ks, rfl, by rw [List.map_cons, k2], fun p hp => ?_⟩
      rcases List.mem_cons.mp hp with e | hp
      · subst e; exact g1
      · exact k3 p hp
    · cases e
theorem rep_tups : ∀ {ks : List (Addr × List Int)}, (∀ p ∈ ks, SqT K H p.1 (p.2.map V.int)) → RepA K as B H ((ks.map (·.2)).map tupI) (ks.map fun p => V.ref p.1)
  | [], _ => rfl
  | p :: ks, h => RepA.cons ⟨p.1, p.2.map V.int, rfl, h p List.mem_cons_self, rep_ints _⟩ (rep_tups fun q hq => h q (List.mem_cons_of_mem _ hq))
end
theorem okU_of {l : List (List Int)} (h : okU l = true) : l.length < 64 ∧ ∃ d, 1 ≤ d ∧ ∀ n ∈ l, U3 d n := by
  unfold okU at h
  rw [Bool.and_eq_true, List.all_eq_true] at h
  refine ⟨of_decide_eq_true h.1, ?_⟩
  cases l with
  | nil => exact ⟨1, Nat.le_refl _, fun n hn => by cases hn⟩
  | cons m l =>
    refine ⟨m.length, ?_, fun n hn => ?_⟩
    · have := h.2 m List.mem_cons_self
      rw [Bool.and_eq_true, Bool.and_eq_true] at this
      exact of_decide_eq_true this.2.1
    · have := h.2 n hn
      rw [Bool.and_eq_true, Bool.and_eq_true, List.all_eq_true] at this
      exact ⟨of_decide_eq_true this.1, fun i hi => of_decide_eq_true (this.2.2 i hi)⟩
section
variable {X : Cx} {W : WX2} {wk : Bool} {pos : Pos}
theorem e2_sset {e : Expr} {m : ME} {p p2 q : Pos} (hc : X.calm = true) (hu : X.A.units + 64 < cLine) (hg : Gl X "sorted") (hm : X.mg "sorted" = none) (hg2 : Gl X "set") (hm2 : X.mg "set" = none) (he : PE2 X W wk e m)
    (v1 : bootBuiltins "sorted" = some (.builtin "sorted") := by decide +kernel) (v2 : bootBuiltins "set" = some (.type "set") := by decide +kernel)
    (n1 : starEach [e] X.env = (false, eval e X.env) :: starEach [] X.env := by rfl) (n2 : starEach [.Call (.Name "set" p2) [e] [] q] X.env = (false, eval (.Call (.Name "set" p2) [e] [] q) X.env) :: starEach [] X.env := by rfl)
    (pl1 : (backTo q (starEach [] X.env)).any (·.1) = false := by rfl) (pl2 : (backTo pos (starEach [] X.env)).any (·.1) = false := by rfl) :
    PE2 X W wk (.Call (.Name "sorted" p) [.Call (.Name "set" p2) [e] [] q] [] pos) (mUn D.sset m) := by
  obtain ⟨t, a1, a2⟩ := he
  refine ⟨_, pe_callB (cr_sortedT hc) hg hm v1 (pa_cons (pe_callTy (cr_setOfT hc hu) hg2 hm2 v2 (pa_cons a1 pa_nil n1) (by decide) (by decide) n1 pl1) pa_nil n2) (by decide) (by decide) n2 pl2, fun B H0 as ks ow sg S σ H Q r h => ?_⟩
  refine a2 _ _ _ _ _ _ _ _ _ _ r (Den.bind h fun d S1 v H1 e0 e1 s1 q1 h1 => ?_)
  clear e0
  have r1 := r.step e1 s1
  cases es : D.sset d with
  | none => simp only [es] at h1; exact False.elim h1
  | some z =>
    simp only [es] at h1
    cases d <;> try (cases es; done)
    rename_i ds
    simp only [D.sset] at es
    split at es
    · rename_i l hl
      split at es
      · rename_i hok
        cases es
        obtain ⟨h64, dd, hd1, hU⟩ := okU_of hok
        obtain ⟨a, xs, ev, nb, g1, g2⟩ := q1
        subst ev
        obtain ⟨kk, k1, k2, k3⟩ := tups_rep g2 hl
        subst k1
        refine ⟨a, kk, rfl, SqL.of g1, k3, by rw [← k2, List.length_map] at h64; exact h64, fun b L hb l1 l2 => ?_⟩
        have k3' : ∀ p ∈ L, SqT X.K (upd H1 b (SetTO X.prog X.w b L)) p.1 (p.2.map V.int) := fun p hp => (Evo.new (W := fun _ => False) hb).sqT (k3 p (l1 p hp))
        have hUL : ∀ p ∈ L, U3 dd p.2 := fun p hp => hU p.2 (by rw [← k2]; exact List.mem_map.mpr ⟨p, l1 p hp, rfl⟩)
        refine ⟨b, L, dd, 1000000, rfl, upd_same, k3', hd1, hUL, fun L' c pm nd hf pw hcn => ?_⟩
        have hcb : c ≠ b := fun z => by subst z; rw [upd_same] at hcn; cases hcn
        have hc1 : H1 c = none := by rw [upd_ne hcb] at hcn; exact hcn
        have eL : L'.map (·.2) = sortU l := by
          refine strict_one (f := TS.code 1000000) ?_ (sortU_sorted hU) fun x => ?_
          · rw [List.pairwise_map]
            have nd' := List.pairwise_map.mp nd
            refine (nd'.and pw).imp_of_mem fun {x y} hx hy hxy => ?_
            have hx' := hUL x (pm.mem_iff.mp hx)
            have hy' := hUL y (pm.mem_iff.mp hy)
            have : TS.code 1000000 x.2 ≠ TS.code 1000000 y.2 := fun z => hxy.1 (code_inj (hx'.1.trans hy'.1.symm) hx'.2 hy'.2 z)
            have := hxy.2
            omega
          · rw [mem_sortU, ← k2, List.mem_map, List.mem_map]
            constructor
            · rintro ⟨p, hp, e⟩
              exact ⟨p, l1 p (pm.mem_iff.mp hp), e⟩
            · rintro ⟨p, hp, e⟩
              obtain ⟨p', hp', e'⟩ := List.mem_map.mp (l2 p hp)
              exact ⟨p', pm.mem_iff.mpr hp', e'.trans e⟩
        have ev3 : Evo X.K (fun _ => False) H1 (upd (upd H1 b (SetTO X.prog X.w b L)) c (.lst (L'.map fun q => V.ref q.1))) := (Evo.new hb).trans (Evo.new hcn)
        refine h1 _ _ ev3.any (r1.stoNew ev3) ⟨c, _, rfl, newB r.asBd r1.bdDom hc1, upd_same, ?_⟩
        rw [← eL]
        refine RepA.new hcn (rep_tups fun p hp => k3' p (pm.mem_iff.mp hp))
      · cases es
    · cases es
end
/-! ### constants of the module: tuples of ints -/
def intsOf : List Value → Option (List Int)
  | [] => some []
  | .int x _ :: vs => (intsOf vs).map (x :: ·)
  | _ :: _ => none
theorem vals_ints : ∀ {vs : List Value} {l : List Int}, intsOf vs = some l → Vals (l.map V.int) vs
  | [], l, h => by cases h; exact .nil
  | v :: vs, l, h => by
    cases v <;> try (cases h; done)
    rename_i x t
    simp only [intsOf, Option.map_eq_some_iff] at h
    obtain ⟨ms, h1, h2⟩ := h
    subst h2
    exact .cons ⟨_, rfl⟩ (vals_ints h1)
theorem rep_constI {K : PySem.W.Frag} {as : List Addr} {B : Addr → Prop} {H : Hp} {a : Addr} {od : Option Addr} {osl : Array (Option Value)} {its : Array Value} {n : Nat} {l : List Int} (h : K.lookup a = some ⟨.type "tuple", od, .seq its n, osl⟩) (hv : intsOf its.toList = some l) (hl : l.length ≤ sizeLine) : Rep K as B H (.tup (l.map D.int)) (.ref a) := by
  have q := vals_ints hv
  refine ⟨a, _, rfl, .inr ⟨_, its, n, h, rfl, rfl, ?_, q⟩, rep_ints l⟩
  have := q.length
  rw [List.length_map] at this
  simp at this
  omega
end D2

namespace D2
open PySem PySem.Spec PyProof.Rows L2
/-! ### set(x), x a list of ints: its members stay known to sorted -/
section
variable {Pg : Program} {u : World} {Ar : Around} {Ex : Value → Shared → Prop} {sh : Shared}
theorem lst_vals {its : Array Value} {zs : List Int} (hz : IntsAre its.toList zs) : its.size = zs.length ∧ ∀ (j : Nat) (v : Value), its[j]? = some v → ∃ k t, zs[j]? = some k ∧ v = .int k t := by
  have q := hz.length
  rw [Array.length_toList] at q
  refine ⟨q, fun j v hv => ?_⟩
  have hj := (Array.getElem?_eq_some_iff.mp hv).1
  rw [q] at hj
  obtain ⟨t, et⟩ := IntsAre.int_at hz j v (by rwa [Array.getElem?_toList])
  exact ⟨zs[j], t, List.getElem?_eq_getElem hj, by rw [et, List.getD_eq_getElem?_getD, List.getElem?_eq_getElem hj] <;> rfl⟩
theorem set_of_lst {al : Addr} {its : Array Value} (zs : List Int) {Qq : Value → Shared → Prop} (un : Ar.handled = none) (li : sh.heap.IsList al its) (hz : IntsAre its.toList zs) (sm : zs.length + 1 < scanBound)
    (go : ∀ (hp : Heap) (tk n : Nat), SetR u hp sh.heap.objs.size (fun j => decide (j ∈ zs)) n → n ≤ zs.length → (∀ b o, sh.heap.get? b = some o → hp.get? b = some o) → Qq (.ref sh.heap.objs.size) { sh with heap := hp, toks := tk }) :
    wpAny (model Pg u) Ar (call (.type "set") [.ref al]) Qq Ex sh := by
  obtain ⟨sz, vals⟩ := lst_vals hz
  obtain ⟨cc, rest, mro0⟩ := F.called_set.mro
  have k1 := F.called_set.made; have k2 := F.called_set.sub; have k3 := F.called_set.notType; have k4 := F.called_set.canCreate; have k5 := F.typeCall_set_1 (.ref al)
  refine wpAny_call (codeAny_of_tree (?_ : wpAny _ _ (callAny (.type "set") _) _ _ _))
  refine wpAny_pure ⟨Code.quiet_builtin _ (by decide +kernel), codeAny_builtin F.entry_type_call (?_)⟩
  rw [Around.under_plain (weight_type_call_type "set" [Value.ref al] []) rfl]
  repeat (any_goals (first | assumption | wp_step; done | wp_step))
  refine codeAny_mono (code_set_led1 (.ref al) (E := Ex) (Q₁ := fun ob s1 => ob = .ref sh.heap.objs.size ∧ s1 = { sh with heap := sh.heap.push ({ cls := .type "set", dict := none, data := .set #[] 0 (.fresh 0 0 (!u.params.followText "set-order")) } : Obj) }) ⟨rfl, rfl⟩) fun r0 s1 hr0 => ?_
  match r0, hr0 with
  | .error e0, hr0 => exact hr0
  | .ok (.ret ob), hr0 =>
    obtain ⟨rfl, rfl⟩ := hr0
    have at0 : (sh.heap.push ({ cls := .type "set", dict := none, data := .set #[] 0 (.fresh 0 0 (!u.params.followText "set-order")) } : Obj)).get? sh.heap.objs.size = some ({ cls := .type "set", dict := none, data := .set #[] 0 (.fresh 0 0 (!u.params.followText "set-order")) } : Obj) := Heap.get?_push_size _ rfl
    have ty0 : Shared.TypeIs { sh with heap := sh.heap.push ({ cls := .type "set", dict := none, data := .set #[] 0 (.fresh 0 0 (!u.params.followText "set-order")) } : Obj) } (.ref sh.heap.objs.size) "set" := ⟨_, at0, rfl⟩
    have k6 := F.called_set.init.lookup; have k7 := F.called_set.init.bind (.ref sh.heap.objs.size)
    repeat (any_goals (first | assumption | wp_step; done | wp_step))
    refine codeAny_mono (codeAny_call_builtin (R := wants (fun r2 s2 => r2 = .none ∧ ∃ hp tk n, s2 = { sh with heap := hp, toks := tk } ∧ SetR u hp sh.heap.objs.size (fun j => decide (j ∈ zs)) n ∧ n ≤ zs.length ∧ (∀ b o, sh.heap.get? b = some o → hp.get? b = some o)) Ex)
      F.called_set.init.plain F.entry_set_init (check_set_init_1 ty0 ?inn)) fun r2 s2 hr2 => ?outt
    case outt =>
      match r2, hr2 with
      | .error e2, hr2 => exact hr2
      | .ok (.ret v2), hr2 =>
        obtain ⟨rfl, hp, tk, n, rfl, y1, y2, y3⟩ := hr2
        repeat (any_goals (first | assumption | wp_step; done | wp_step))
        exact go _ _ _ y1 y2 y3
    case inn =>
      obtain ⟨⟨oc, od, ot, os⟩, g0, c0, nn, d0⟩ := li
      simp only at c0 d0
      subst c0 d0
      have g1 : (sh.heap.push ({ cls := .type "set", dict := none, data := .set #[] 0 (.fresh 0 0 (!u.params.followText "set-order")) } : Obj)).get? al = some { cls := .type "list", dict := od, data := .seq its nn, slots := os } := Heap.get?_push_of_some _ g0
      have li1 : (sh.heap.push ({ cls := .type "set", dict := none, data := .set #[] 0 (.fresh 0 0 (!u.params.followText "set-order")) } : Obj)).IsList al its := ⟨_, g1, rfl, nn, rfl⟩
      have q1 := F.sub_list_set; have q2 := F.sub_list_frozenset; have q3 : (Value.type "list" == Value.type "dict") = false := by decide
      unfold Builtin.«set.__init__» noKeywords Builtin.Frozenset.updateFrom
      generalize eP : pyIter = PP
      wp_walk
      subst eP
      refine wpAny_pyIter_list li1 (wpAny_bind (wpAny_runValue ?_))
      have below : al < sh.heap.objs.size := Heap.lt_size g0
      have un3 : Ar.in1.in1.in1.handled = none := by simp only [un, Around.in1]
      have sz1 : (sh.heap.push ({ cls := .type "set", dict := none, data := .set #[] 0 (.fresh 0 0 (!u.params.followText "set-order")) } : Obj)).objs.size = sh.heap.objs.size + 1 := Heap.size_push ..
      have far : al ≠ (sh.heap.push ({ cls := .type "set", dict := none, data := .set #[] 0 (.fresh 0 0 (!u.params.followText "set-order")) } : Obj)).objs.size := by rw [sz1]; exact Nat.ne_of_lt (Nat.lt_succ_of_lt below)
      have out0 : sh.heap.objs.size ∉ [(sh.heap.push ({ cls := .type "set", dict := none, data := .set #[] 0 (.fresh 0 0 (!u.params.followText "set-order")) } : Obj)).objs.size, al] := by
        rw [sz1]
        simp only [List.mem_cons, List.not_mem_nil, or_false, not_or]
        exact And.intro (Nat.ne_of_lt (Nat.lt_succ_self _)) (Nat.ne_of_gt below)
      refine set_update_ints ((Walks.list un3 _ al far its).toS) sh.heap.objs.size out0 zs sz sm vals (its.size - 0) 0 _ (by omega) (Nat.zero_le _) ⟨⟨_, Heap.get?_push_size _ rfl, rfl, rfl⟩, (li1.push _)⟩ ⟨0, Nat.le_refl 0, setR_new_at (Heap.get?_push_of_some _ at0)⟩ fun s9 n9 mv hn9 sr9 => ?_
      obtain ⟨hp9, gn9, dr9, tk9, os9⟩ := s9
      obtain rfl : gn9 = sh.gens := mv.gens
      obtain rfl : dr9 = sh.drawn := mv.drawn
      obtain rfl : os9 = sh.os := mv.os
      refine wpAny_pure (?_ : wpAny _ _ (ret Value.none) _ _ _)
      rw [sz] at hn9
      refine wpAny_pure ⟨rfl, hp9, tk9, n9, rfl, sr9, hn9, fun b o eb => ?_⟩
      have lb : b < sh.heap.objs.size := Heap.lt_size eb
      refine mv.heap b o (fun z => ?_) (Heap.get?_push_of_some _ (Heap.get?_push_of_some _ eb))
      rw [sz1] at z
      simp only [List.mem_cons, List.not_mem_nil, or_false] at z
      exact z.elim (fun z => Nat.ne_of_lt lb z) fun z => Nat.ne_of_lt (Nat.lt_succ_of_lt lb) z
end
end D2
namespace D2
open PySem PySem.Spec PyProof.Rows L2
def rSetLst (K : PySem.W.Frag) (u : World) : List V → Hp → VK → Prop := fun xs H Q => ∃ (l : Addr) (zs : List Int), xs = [V.ref l] ∧ SqL K H l (zs.map V.int) ∧ zs.length < 64 ∧ ∀ a n, H a = none → n ≤ zs.length → Q (.ref a) (upd H a (SetO u a (fun j => decide (j ∈ zs)) n))
theorem cr_setLst {X : Cx} (calm : X.calm = true) : CallR X (.type "set") (rSetLst X.K X.w) := by
  intro pins s σ H xs us Q I r h
  obtain ⟨l, zs, rfl, sq, few, q⟩ := h
  obtain ⟨its, rv, pl, _⟩ := I.list sq
  rw [Vals.ref1 r]
  refine set_of_lst zs (I.ok.hd calm) pl.isList (by simpa using L2.intsAre_of rv) (by unfold scanBound; omega) fun hp tk n R hn keep => ?_
  exact ⟨.ref s.heap.objs.size, upd H s.heap.objs.size (SetO X.w s.heap.objs.size (fun j => decide (j ∈ zs)) n), I.laid (t' := tk) keep (Nat.le_refl _) (setO_new R), rfl, q _ _ (I.hok.fresh (Nat.le_refl _)) hn⟩
/-- those that differ, ascending -/
def insS (n : Int) : List Int → List Int
  | [] => [n]
  | m :: ms => if n = m then m :: ms else if n < m then n :: m :: ms else m :: insS n ms
def sortS : List Int → List Int
  | [] => []
  | n :: ns => insS n (sortS ns)
theorem mem_insS {n x : Int} : ∀ {l : List Int}, x ∈ insS n l ↔ x = n ∨ x ∈ l
  | [] => by simp [insS]
  | m :: ms => by
    unfold insS
    split
    · rename_i h
      subst h
      simp
    · split
      · simp
      · rw [List.mem_cons, mem_insS (l := ms), List.mem_cons]
        constructor
        · rintro (h | h | h)
          · exact .inr (.inl h)
          · exact .inl h
          · exact .inr (.inr h)
        · rintro (h | h | h)
          · exact .inr (.inl h)
          · exact .inl h
          · exact .inr (.inr h)
theorem mem_sortS {x : Int} : ∀ {l : List Int}, x ∈ sortS l ↔ x ∈ l
  | [] => by simp [sortS]
  | n :: ns => by rw [sortS, mem_insS, mem_sortS, List.mem_cons]
theorem insS_sorted {n : Int} : ∀ {l : List Int}, l.Pairwise (· < ·) → (insS n l).Pairwise (· < ·)
  | [], _ => List.pairwise_singleton _ _
  | m :: ms, hp => by
    obtain ⟨p1, p2⟩ := List.pairwise_cons.mp hp
    unfold insS
    split
    · exact hp
    · split
      · refine List.pairwise_cons.mpr ⟨fun y hy => ?_, hp⟩
        rcases List.mem_cons.mp hy with e | hy
        · omega
        · have := p1 y hy
          omega
      · refine List.pairwise_cons.mpr ⟨fun y hy => ?_, insS_sorted p2⟩
        rcases mem_insS.mp hy with e | hy
        · omega
        · exact p1 y hy
theorem sortS_sorted : ∀ {l : List Int}, (sortS l).Pairwise (· < ·)
  | [] => List.Pairwise.nil
  | n :: ns => insS_sorted sortS_sorted
theorem insS_len {n : Int} : ∀ {l : List Int}, (insS n l).length ≤ l.length + 1
  | [] => Nat.le_refl _
  | m :: ms => by
    unfold insS
    split
    · simp
    · split
      · simp
      · have := insS_len (n := n) (l := ms)
        simp
        omega
theorem sortS_len : ∀ {l : List Int}, (sortS l).length ≤ l.length
  | [] => Nat.le_refl _
  | n :: ns => Nat.le_trans insS_len (Nat.succ_le_succ sortS_len)
def D.ssetI : D → Option D := D.intsL fun ns => if ns.length < 64 then some (.lst ((sortS ns).map D.int)) else none
section
variable {X : Cx} {W : WX2} {wk : Bool} {pos : Pos}
theorem e2_ssetI {e : Expr} {m : ME} {p p2 q : Pos} (hc : X.calm = true) (hu : X.A.units + 64 < cLine) (hg : Gl X "sorted") (hm : X.mg "sorted" = none) (hg2 : Gl X "set") (hm2 : X.mg "set" = none) (he : PE2 X W wk e m)
    (v1 : bootBuiltins "sorted" = some (.builtin "sorted") := by decide +kernel) (v2 : bootBuiltins "set" = some (.type "set") := by decide +kernel)
    (n1 : starEach [e] X.env = (false, eval e X.env) :: starEach [] X.env := by rfl) (n2 : starEach [.Call (.Name "set" p2) [e] [] q] X.env = (false, eval (.Call (.Name "set" p2) [e] [] q) X.env) :: starEach [] X.env := by rfl)
    (pl1 : (backTo q (starEach [] X.env)).any (·.1) = false := by rfl) (pl2 : (backTo pos (starEach [] X.env)).any (·.1) = false := by rfl) :
    PE2 X W wk (.Call (.Name "sorted" p) [.Call (.Name "set" p2) [e] [] q] [] pos) (mUn D.ssetI m) := by
  obtain ⟨t, a1, a2⟩ := he
  refine ⟨_, pe_callB (cr_sortedSet hc) hg hm v1 (pa_cons (pe_callTy (cr_setLst hc) hg2 hm2 v2 (pa_cons a1 pa_nil n1) (by decide) (by decide) n1 pl1) pa_nil n2) (by decide) (by decide) n2 pl2, fun B H0 as ks ow sg S σ H Q r h => ?_⟩
  refine a2 _ _ _ _ _ _ _ _ _ _ r (Den.bind h fun d S1 v H1 e0 e1 s1 q1 h1 => ?_)
  clear e0
  have r1 := r.step e1 s1
  cases es : D.ssetI d with
  | none => simp only [es] at h1; exact False.elim h1
  | some z =>
    simp only [es] at h1
    obtain ⟨a, ns, ev, g, e2⟩ := intsL_rep q1 es
    subst ev
    split at e2
    · rename_i h64
      cases e2
      refine ⟨a, ns, rfl, SqL.of g, h64, fun b n hb hn => ⟨b, _, n, rfl, upd_same, by omega, fun ms c pw hmem hlen hcn => ?_⟩⟩
      have hcb : c ≠ b := fun z => by subst z; rw [upd_same] at hcn; cases hcn
      have hc1 : H1 c = none := by rw [upd_ne hcb] at hcn; exact hcn
      have em : ms = sortS ns := strict_one (f := fun x => x) pw sortS_sorted fun x => by
        rw [hmem, mem_sortS]
        exact decide_eq_true_iff
      subst em
      have ev3 : Evo X.K (fun _ => False) H1 (upd (upd H1 b (SetO X.w b (fun j => decide (j ∈ ns)) n)) c (.lst ((sortS ns).map V.int))) := (Evo.new hb).trans (Evo.new hcn)
      exact h1 _ _ ev3.any (r1.stoNew ev3) ⟨c, _, rfl, newB r.asBd r1.bdDom hc1, upd_same, rep_ints _⟩
    · cases e2
end
end D2

namespace D2
open PySem PySem.Spec PyProof.Rows L2
section
variable {X : Cx} {W : WX2} {wk : Bool} {pos : Pos}
/-! ### a range as a value -/
theorem cr_range1 : CallR X (.type "range") (fun vs H Q => ∃ j, vs = [V.int j] ∧ ∀ p, H p = none → Q (.ref p) (upd H p (.rng 0 j))) := by
  intro pins s σ H vs us Q I r h
  obtain ⟨j, rfl, q⟩ := h
  cases r with
  | cons r rr =>
    cases rr
    obtain ⟨t, rfl⟩ := r
    refine call_range_1 ⟨.ref s.heap.objs.size, upd H s.heap.objs.size (.rng 0 j), I.laid (t' := _) (fun b o e => Heap.get?_push_of_some _ e) (Nat.le_refl _) ?_, rfl, q _ (I.hok.fresh (Nat.le_refl _))⟩
    exact ⟨_, _, _, Heap.get?_push_size _ rfl⟩
def D.mkRng : D → Option D
  | .int j => if lim62 j = true then some (.rng 0 j) else none
  | _ => none
theorem ok_rng1 {K : PySem.W.Frag} : CallOk K wk (on1 D.mkRng) (fun vs H Q => ∃ j, vs = [V.int j] ∧ ∀ p, H p = none → Q (.ref p) (upd H p (.rng 0 j))) := by
  refine ok_on1 fun as Bs Bw H d z v Q h1 h2 hr e q => ?_
  cases d <;> try (cases e; done)
  rename_i j
  simp only [D.mkRng] at e
  split at e
  · cases e
    exact ⟨j, congrArg (fun x => [x]) hr, fun p hp => q _ _ (Evo.new hp) ⟨p, rfl, newB h1 h2 hp, upd_same⟩⟩
  · cases e
def iRngV (tl : TE) : TI := fun σ H R => tl σ H fun x H1 => ∃ a lo hi, x = .ref a ∧ H1 a = some (.rng lo hi) ∧ (-(2 ^ 62) ≤ lo ∧ lo < 2 ^ 62 ∧ -(2 ^ 62) ≤ hi ∧ hi < 2 ^ 62) ∧ R (Itr lo (hi - lo).toNat) H1
theorem pi_rngV {tg l : Expr} {tl : TE} (hl : PE X l tl) : PI X tg l (iRngV tl) := by
  refine ⟨fun pins s σ H R I h => ?_⟩
  refine thn (hl.run pins s σ H _ I h) fun v s1 ⟨x, H1, I1, r1, q1⟩ => ?_
  obtain ⟨a, lo, hi, e, ha, ⟨b1, b2, b3, b4⟩, q⟩ := q1
  subst e
  cases r1
  obtain ⟨t, u, w, hg⟩ : ∃ t u v, s1.heap.get? a = some { cls := .type "range", data := .fields #[.int lo t, .int hi u, .int 1 v] } := I1.hok a _ ha
  refine wpAny_pyIter_range (t := t) (u := u) (v := w) hg (small_one b1 b2 b3 b4) ⟨s1.heap.objs.size, [s1.heap.objs.size], _, _, H1, rfl, I1.kept (t' := s1.toks) fun b o e => Heap.get?_push_of_some _ e, turn_range _ lo (hi - lo).toNat, ?_, fun b hb => ?_, q⟩
  · have e1 : lo + ((0 : Nat) : Int) * 1 = lo := by simp
    have e2 : (((hi - lo).toNat : Nat) : Int) - ((0 : Nat) : Int) = Builtin.Range.rangeSize lo hi 1 := by rw [rangeSize_one]; split <;> omega
    show IsRangeIter _ _ (lo + ((0 : Nat) : Int) * 1) ((((hi - lo).toNat : Nat) : Int) - ((0 : Nat) : Int)) 1
    rw [e1, e2]; exact Heap.get?_push_size _ rfl
  · rw [show b = s1.heap.objs.size by simpa using hb]
    exact I1.fpOk (Nat.le_refl _) (I1.hok.fresh (Nat.le_refl _))
def mIrv (m : ME) : MA := fun sg S => (m sg S).bind fun x => match x.1 with
  | .rng lo hi => if (lim62 lo && lim62 hi) = true then .ok (rngD lo (hi - lo).toNat, x.2) else .bad
  | _ => .bad
theorem i2_rngV {tg e : Expr} {m : ME} (h : PE2 X W wk e m) : PI2 X W wk tg e (mIrv m) := by
  obtain ⟨t, a1, a2⟩ := h
  refine ⟨_, pi_rngV a1, fun B H0 as ks ow sg S σ H R r h => ?_⟩
  refine a2 _ _ _ _ _ _ _ _ _ _ r (Den.bind h fun d S1 v H1 e0 e1 s1 q1 h1 => ?_)
  clear e0
  cases d <;> try exact False.elim h1
  rename_i lo hi
  obtain ⟨a, ev, nb, g1⟩ := id q1
  simp only [] at h1
  by_cases hc : (lim62 lo && lim62 hi) = true
  · rw [if_pos hc] at h1
    rw [Bool.and_eq_true] at hc
    have c1 := lim62_of hc.1
    have c2 := lim62_of hc.2
    refine ⟨a, lo, hi, ev, g1, ⟨c1.1, c1.2, c2.1, c2.2⟩, h1 _ H1 Evo.refl s1 (rpI1 (dk := .non) (vk := .non) rfl fun B2 H2 _ k => ⟨fun hk => by rw [rngD_len] at hk; exact hk, fun d hd => ?_⟩)⟩
    obtain ⟨hi2, ed⟩ := rngD_get hd
    refine ⟨hi2, fun x H3 ⟨e3, ex⟩ => ?_⟩
    subst e3 ex ed
    exact ⟨Evo.refl, rfl⟩
  · rw [if_neg hc] at h1
    exact False.elim h1
/-! ### (*xs, e, ..) -/
def unroll : D → Option (List D)
  | .tup ds => some ds
  | .lst ds => some ds
  | _ => none
def mStar (m : ME) (ms : MA) : MA := fun sg S => (m sg S).bind fun x => match unroll x.1 with
  | some ds => (ms sg x.2).bind fun y => .ok (ds ++ y.1, y.2)
  | none => .bad
theorem a2_star {e : Expr} {p : Pos} {es : List Expr} {m : ME} {ms : MA} (he : PE2 X W wk e m) (hr : PA2 X W wk es ms) (hs : starEach (.Starred e p :: es) X.env = (true, eval e X.env) :: starEach es X.env := by rfl) : PA2 X W wk (.Starred e p :: es) (mStar m ms) := by
  obtain ⟨t, h1, h2⟩ := he
  obtain ⟨u, g1, g2⟩ := hr
  refine ⟨_, StX.pa_star h1 g1 hs, fun B H0 as ks ow sg S σ H Q r h => ?_⟩
  refine h2 _ _ _ _ _ _ _ _ _ _ r (Den.bind h fun d S1 v H1 e0 e1 s1 q1 h1 => ?_)
  clear e0
  have r1 := r.step e1 s1
  cases eu : unroll d with
  | none => simp only [eu] at h1; exact False.elim h1
  | some ds =>
    simp only [eu] at h1
    have both : ∃ a xs, v = V.ref a ∧ (SqT X.K H1 a xs ∨ SqL X.K H1 a xs) ∧ RepA X.K as (if wk then (· ∈ as) else Bd B ow) H1 ds xs := by
      cases d <;> try (cases eu; done)
      · cases eu
        obtain ⟨a, xs, ev, k1, k2⟩ := q1
        exact ⟨a, xs, ev, .inl k1, k2⟩
      · cases eu
        obtain ⟨a, xs, ev, nb, k1, k2⟩ := q1
        exact ⟨a, xs, ev, .inr (SqL.of k1), k2⟩
    obtain ⟨a, xs, ev, hsq, hre⟩ := both
    refine ⟨a, xs, ev, hsq, g2 _ _ _ _ _ _ _ _ _ _ r1 (Den.bind h1 fun ys S2 ws H2 c2 e2 s2 q2 h2 => ?_)⟩
    clear c2
    refine h2 _ H2 Evo.refl s2 (RepA.append ?_ q2)
    exact RepA.imp (B' := if wk then (· ∈ as) else Bd B ow) e2 (asWk r) (fun _ z => z) _ _ hre
/-! ### never reached -/
def mNever : MS := fun _ _ => .bad
theorem s2_never {st : Stmt} : PS2 X W st mNever := ⟨_, ps_never, fun B H0 as ks ow sg S σ H Dd r h => False.elim h⟩
end
end D2

namespace D2
open PySem PySem.Spec PyProof.Rows L2
/-! ### max(x, default=d), x a list of ints -/
section
variable {Pg : Program} {u : World} {Ar : Around} {Ex : Value → Shared → Prop}
theorem max_args (a d : Value) : argsOk "max" ⟨[a], [(Str.ofString "default", d)]⟩ := by unfold argsOk; kernel_rfl
/-- a built-in with keywords that goes on as another code -/
theorem kw_tree {id : String} {b : Builtin} {args : List Value} {kw : List (Str × Value)} {Qq : Value → Shared → Prop} {sh : Shared} (k1 : builtinKind id = none) (k2 : plainId id = true) (k3 : entryFor table id = some b) (k4 : argsOk id ⟨args, kw⟩)
    (run : wpAny (model Pg u) Ar.in1 (b ⟨args, kw⟩) (fun fin sh' => match fin with
      | .done f => (match (Except.ok f : Result) with | .ok (.ret v) => Qq v sh' | .ok _ => False | .error e => Ex e sh')
      | .again c' => c'.quiet = true ∧ codeAny (model Pg u) Ar c' (fun r sh'' => match r with | .ok (.ret v) => Qq v sh'' | .ok _ => False | .error e => Ex e sh'') sh') Ex sh) : wpAny (model Pg u) Ar (call (.builtin id) args kw) Qq Ex sh := by
  refine wpAny_call (codeAny_call_builtin k2 k3 (?_ : wpAny _ _ _ _ _ _))
  simp only [checkBuiltinCall, k1]
  generalize esig : Manifest.signature? id = sg
  cases sg with
  | none => exact wpAny_pure run
  | some g =>
    have ok2 : Bind.checkArgs id g ⟨args, kw⟩ = pure () := by simpa only [argsOk, esig] using k4
    simp only [ok2]
    exact wpAny_pure run
theorem gtI (m m0 : Int) (t t0 : Tok) (sh : Shared) (Q : Value → Shared → Prop) (Ex : Value → Shared → Prop) (h : Q (.bool (decide (m > m0))) sh) : wpAny (model Pg u) Ar (richCompare .Gt (.int m t) (.int m0 t0)) Q Ex sh :=
  CmpOf.ints_gt (P := fun i v => ∃ t, v = .int (if i = 0 then m else m0) t) (fun i => if i = 0 then m else m0) (fun i v h => h) 0 1 (.int m t) (.int m0 t0) sh Q Ex ⟨t, rfl⟩ ⟨t0, rfl⟩ h
theorem max_more {it bx : Addr} {fp wr : List Addr} {zs : List Int} {Pv : Nat → Value → Prop} {St : Nat → Heap → Prop} {dv : Value} {Rr : Result → Shared → Prop} (Wk : Walks Pg u Ar.in1 it fp wr zs.length Pv St) (far : bx ∉ fp) (val : ∀ i v, Pv i v → ∃ m t, zs[i]? = some m ∧ v = .int m t) :
    ∀ (left j : Nat) (sh : Shared) (m0 : Int) (t0 : Tok) (n : Nat), left + j = zs.length → St j sh.heap → m0 ∈ zs.take j → (∀ y ∈ zs.take j, y ≤ m0) → sh.heap.get? bx = some { cls := .type "list", dict := none, data := .seq #[.int m0 t0, .int m0 t0] n, slots := #[] } →
      (∀ m t hp tk, m ∈ zs → (∀ y ∈ zs, y ≤ m) → (∀ b o, b ∉ wr → b ≠ bx → sh.heap.get? b = some o → hp.get? b = some o) → Rr (.ok (.ret (.int m t))) { sh with heap := hp, toks := tk }) →
      codeAny (model Pg u) Ar (.builtin "max.loop" ⟨[.ref it, .none, .ref bx], [(Str.ofString "default", dv)]⟩) Rr sh := by
  have off : bx ∉ wr := fun z => far (Wk.sub _ z)
  have nm : (toString "max" ++ toString ".loop" : String) = "max.loop" := by decide
  intro left
  induction left with
  | zero =>
    intro j sh m0 t0 n hj st in0 le0 ob goal
    have hj' : j = zs.length := by omega
    subst hj'
    rw [List.take_length] at in0 le0
    refine codeAny_builtin F.entry_max_loop (?_ : wpAny _ _ _ _ _ _)
    rw [Around.under_plainId F.plain_max_loop ⟨_, _⟩]
    show wpAny _ Ar.in1 (seqItems? (.ref bx) >>= _) _ _ sh
    refine wpAny_bind (wpAny_seqItems ob rfl ?_)
    show wpAny _ Ar.in1 (tryCatch (pyNext (.ref it)) _ >>= _) _ _ sh
    refine wpAny_bind (wpAny_tryCatch (Wk.done sh _ _ st fun hp tk kp => ?_))
    have ob' := kp bx _ off ob
    show wpAny _ Ar.in1 (updateSeq bx (fun _ => #[]) >>= _) _ _ _
    refine wpAny_bind ?_
    refine wpAny_updateSeq ob' rfl (wpAny_bind (wpAny_letGo (wpAny_pure ?_)))
    exact goal m0 t0 _ tk in0 le0 fun b o hw hb e => (Heap.get?_update_other _ _ (Ne.symm hb)).trans (kp b o hw e)
  | succ left ih =>
    intro j sh m0 t0 n hj st in0 le0 ob goal
    have hlt : j < zs.length := by omega
    refine codeAny_builtin F.entry_max_loop (?_ : wpAny _ _ _ _ _ _)
    rw [Around.under_plainId F.plain_max_loop ⟨_, _⟩]
    show wpAny _ Ar.in1 (seqItems? (.ref bx) >>= _) _ _ sh
    refine wpAny_bind (wpAny_seqItems ob rfl ?_)
    show wpAny _ Ar.in1 (tryCatch (pyNext (.ref it)) _ >>= _) _ _ sh
    refine wpAny_bind (wpAny_tryCatch (Wk.item j sh _ _ hlt st fun v hp tk pv st' kp => ?_))
    have ob' := kp bx _ off ob
    obtain ⟨m, t, hz, ev⟩ := val j v pv
    subst ev
    have tk1 : zs.take (j + 1) = zs.take j ++ [m] := by rw [List.take_add_one, hz]; rfl
    show wpAny _ Ar.in1 (tryCatch (holding [.int m t, .int m t] (richCompare .Gt (.int m t) (.int m0 t0) >>= _)) _ >>= _) _ _ _
    refine wpAny_bind (wpAny_tryCatch (wpAny_holding (wpAny_bind (gtI m m0 t t0 _ _ _ ?_))))
    refine wpAny_bind (wpAny_holding (wpAny_truthy_bool ?_))
    refine wpAny_bind (wpAny_letGo (wpAny_pure ?_))
    by_cases c : m > m0
    · rw [decide_eq_true c]
      simp only [if_true]
      refine wpAny_bind ?_
      refine wpAny_updateSeq ob' rfl (wpAny_bind (wpAny_letGo ?_))
      rw [nm]
      refine wpAny_pure ⟨plainId_quiet F.plain_max_loop _, ih (j + 1) _ m t _ (by omega) (Wk.frame _ _ _ st' fun b hb o e => ?_) (by rw [tk1]; simp) (fun y hy => ?_) (Heap.get?_update_self _ ob' rfl) fun m2 t2 hp2 tk2 i2 l2 kp2 => ?_⟩
      · exact (Heap.get?_update_other _ _ (fun z : bx = b => far (by rw [z]; exact hb))).trans e
      · rw [tk1] at hy
        rcases List.mem_append.mp hy with hy | hy
        · have := le0 y hy
          omega
        · rw [List.mem_singleton.mp hy]
          exact Int.le_refl _
      · exact goal m2 t2 hp2 tk2 i2 l2 fun b o hw hb e => kp2 b o hw hb ((Heap.get?_update_other _ _ (Ne.symm hb)).trans (kp b o hw e))
    · rw [decide_eq_false c]
      simp only [Bool.false_eq_true, if_false]
      refine wpAny_bind (wpAny_letGo ?_)
      rw [nm]
      refine wpAny_pure ⟨plainId_quiet F.plain_max_loop _, ih (j + 1) _ m0 t0 _ (by omega) st' (by rw [tk1]; exact List.mem_append_left _ in0) (fun y hy => ?_) ob' fun m2 t2 hp2 tk2 i2 l2 kp2 => ?_⟩
      · rw [tk1] at hy
        rcases List.mem_append.mp hy with hy | hy
        · exact le0 y hy
        · rw [List.mem_singleton.mp hy]
          omega
      · exact goal m2 t2 hp2 tk2 i2 l2 fun b o hw hb e => kp2 b o hw hb (kp b o hw e)
end
end D2
namespace D2
open PySem PySem.Spec PyProof.Rows L2
section
variable {Pg : Program} {u : World} {Ar : Around} {Ex : Value → Shared → Prop}
theorem max_zero {it bx : Addr} {fp wr : List Addr} {zs : List Int} {Pv : Nat → Value → Prop} {St : Nat → Heap → Prop} {dv : Value} {Rr : Result → Shared → Prop} (Wk : Walks Pg u Ar.in1 it fp wr zs.length Pv St) (far : bx ∉ fp) (val : ∀ i v, Pv i v → ∃ m t, zs[i]? = some m ∧ v = .int m t)
    {sh : Shared} {n : Nat} (st : St 0 sh.heap) (ob : sh.heap.get? bx = some { cls := .type "list", dict := none, data := .seq #[] n, slots := #[] })
    (goal0 : zs = [] → ∀ hp tk, (∀ b o, b ∉ wr → b ≠ bx → sh.heap.get? b = some o → hp.get? b = some o) → Rr (.ok (.ret dv)) { sh with heap := hp, toks := tk })
    (goal : ∀ m t hp tk, m ∈ zs → (∀ y ∈ zs, y ≤ m) → (∀ b o, b ∉ wr → b ≠ bx → sh.heap.get? b = some o → hp.get? b = some o) → Rr (.ok (.ret (.int m t))) { sh with heap := hp, toks := tk }) :
    codeAny (model Pg u) Ar (.builtin "max.loop" ⟨[.ref it, .none, .ref bx], [(Str.ofString "default", dv)]⟩) Rr sh := by
  have off : bx ∉ wr := fun z => far (Wk.sub _ z)
  have nm : (toString "max" ++ toString ".loop" : String) = "max.loop" := by decide
  refine codeAny_builtin F.entry_max_loop (?_ : wpAny _ _ _ _ _ _)
  rw [Around.under_plainId F.plain_max_loop ⟨_, _⟩]
  show wpAny _ Ar.in1 (seqItems? (.ref bx) >>= _) _ _ sh
  refine wpAny_bind (wpAny_seqItems ob rfl ?_)
  show wpAny _ Ar.in1 (tryCatch (pyNext (.ref it)) _ >>= _) _ _ sh
  cases zs with
  | nil =>
    refine wpAny_bind (wpAny_tryCatch (Wk.done sh _ _ st fun hp tk kp => ?_))
    show wpAny _ Ar.in1 (rule _ >>= fun _ => ret dv) _ _ _
    refine wpAny_bind (wpAny_rule (wpAny_pure ?_))
    exact goal0 rfl hp tk fun b o hw _ e => kp b o hw e
  | cons z zs =>
    refine wpAny_bind (wpAny_tryCatch (Wk.item 0 sh _ _ (Nat.succ_pos _) st fun v hp tk pv st' kp => ?_))
    have ob' := kp bx _ off ob
    obtain ⟨m, t, hz, ev⟩ := val 0 v pv
    subst ev
    obtain rfl : z = m := by simpa using hz
    show wpAny _ Ar.in1 (updateSeq bx (fun _ => #[.int z t, .int z t]) >>= _) _ _ _
    refine wpAny_bind ?_
    refine wpAny_updateSeq ob' rfl ?_
    rw [nm]
    refine wpAny_pure ⟨plainId_quiet F.plain_max_loop _, max_more Wk far val zs.length 1 _ z t _ (by simp) (Wk.frame _ _ _ st' fun b hb o e => ?_) (by simp) (fun y hy => ?_) (Heap.get?_update_self _ ob' rfl) fun m2 t2 hp2 tk2 i2 l2 kp2 => ?_⟩
    · exact (Heap.get?_update_other _ _ (fun q : bx = b => far (by rw [q]; exact hb))).trans e
    · have : y = z := by simpa using hy
      omega
    · exact goal m2 t2 hp2 tk2 i2 l2 fun b o hw hb e => kp2 b o hw hb ((Heap.get?_update_other _ _ (Ne.symm hb)).trans (kp b o hw e))
theorem call_maxD {l : Addr} {its : Array Value} {zs : List Int} {dv : Value} {sh : Shared} {Qq : Value → Shared → Prop} (un : Ar.handled = none) (li : sh.heap.IsList l its) (hz : IntsAre its.toList zs)
    (goal0 : zs = [] → ∀ hp tk, (∀ b o, sh.heap.get? b = some o → hp.get? b = some o) → Qq dv { sh with heap := hp, toks := tk })
    (goal : ∀ m t hp tk, m ∈ zs → (∀ y ∈ zs, y ≤ m) → (∀ b o, sh.heap.get? b = some o → hp.get? b = some o) → Qq (.int m t) { sh with heap := hp, toks := tk }) :
    wpAny (model Pg u) Ar (call (.builtin "max") [.ref l] [(Str.ofString "default", dv)]) Qq Ex sh := by
  obtain ⟨sz, vals⟩ := lst_vals hz
  have nm : (toString "max" ++ toString ".loop" : String) = "max.loop" := by decide
  refine kw_tree F.kind_max F.plain_max F.entry_max (max_args _ _) ?_
  show wpAny _ Ar.in1 (Builtin.Builtins.bindParams "max" ["key", "default"] 0 ⟨[], [(Str.ofString "default", dv)]⟩ >>= _) _ _ sh
  refine wpAny_bind (wpAny_of_eq (show Builtin.Builtins.bindParams "max" ["key", "default"] 0 ⟨[], [(Str.ofString "default", dv)]⟩ = pure [none, some dv] from rfl) ?_)
  refine wpAny_bind (wpAny_pure ?_)
  refine wpAny_bind (wpAny_pyIter_list li ?_)
  refine wpAny_bind (wpAny_newObj_type ?_)
  have h3 : Ar.in1.handled = none := by simp only [un, Around.in1]
  have below : l < sh.heap.objs.size := Heap.lt_size li.choose_spec.1
  have s1 : (sh.heap.push { cls := .type "list_iterator", data := .fields #[.ref l, .int 0 0] }).objs.size = sh.heap.objs.size + 1 := Heap.size_push ..
  rw [nm]
  have wk := Walks.list (prog := Pg) (w := u) h3 sh.heap.objs.size l (Nat.ne_of_lt below) its
  rw [sz] at wk
  refine wpAny_pure ⟨plainId_quiet F.plain_max_loop _, max_zero wk (by
    rw [s1]
    simp only [List.mem_cons, List.not_mem_nil, or_false, not_or]
    exact ⟨Nat.ne_of_gt (Nat.lt_succ_self _), Nat.ne_of_gt (Nat.lt_succ_of_lt below)⟩) vals ⟨⟨_, Heap.get?_push_of_some _ (Heap.get?_push_size _ rfl), rfl, rfl⟩, (li.push _).push _⟩ (Heap.get?_push_size _ rfl) (fun e0 hp tk kp => goal0 e0 hp tk fun b o e => ?_) fun m t hp tk i l2 kp => goal m t hp tk i l2 fun b o e => ?_⟩
  all_goals
    have lb := Heap.lt_size e
    refine kp b o (fun z => Nat.ne_of_lt lb (by simpa using z)) (by rw [s1]; exact Nat.ne_of_lt (Nat.lt_succ_of_lt lb)) (Heap.get?_push_of_some _ (Heap.get?_push_of_some _ e))
end
section
variable {X : Cx} {W : WX2} {wk : Bool} {pos : Pos}
def rMaxDf (K : PySem.W.Frag) : List V → List V → Hp → VK → Prop := fun vs zs H Q => ∃ (a : Addr) (ns : List Int) (z : V), vs = [V.ref a] ∧ zs = [z] ∧ SqL K H a (ns.map V.int) ∧ (ns = [] → Q z H) ∧ ∀ m, m ∈ ns → (∀ y ∈ ns, y ≤ m) → Q (.int m) H
theorem cr_maxDf (calm : X.calm = true) : CallRK X (.builtin "max") [Str.ofString "default"] (rMaxDf X.K) := by
  intro pins s σ H xs zs us ws Q I r1 r2 h
  obtain ⟨l, ns, z, e1, e2, sq, q0, q1⟩ := h
  subst e1 e2
  obtain ⟨its, rv, pl, _⟩ := I.list sq
  rw [Vals.ref1 r1]
  cases r2 with
  | cons rz rr =>
    cases rr
    rename_i w
    refine call_maxD (I.ok.hd calm) pl.isList (by simpa using L2.intsAre_of rv) (fun e0 hp tk kp => ?_) fun m t hp tk im lm kp => ?_
    · exact ⟨z, H, I.kept kp, rz, q0 e0⟩
    · exact ⟨.int m, H, I.kept kp, ⟨t, rfl⟩, q1 m im lm⟩
def D.maxDf : D → D → Option D
  | .lst ds, z => match D.ints ds with
    | some [] => some z
    | some ns => (maxI ns).map D.int
    | none => none
  | _, _ => none
theorem e2_maxDf {a c : Expr} {ma mc : ME} {p kpos : Pos} (calm : X.calm = true) (hg : Gl X "max") (hm : X.mg "max" = none) (ha : PE2 X W wk a ma) (hc : PE2 X W wk c mc)
    (v1 : bootBuiltins "max" = some (.builtin "max") := by decide +kernel) (n1 : starEach [a] X.env = (false, eval a X.env) :: starEach [] X.env := by rfl)
    (he : backTo pos (starEach [a] X.env) = (false, eval a X.env) :: backTo pos (starEach [] X.env) := by rfl) (hpl : (backTo pos (starEach [a] X.env)).any (·.1) = false := by rfl)
    (hall : (backToKw pos (keywordEach [⟨some (Str.ofString "default"), c, kpos⟩] X.env)).all (·.1.isSome) = true := by rfl) (hnone : (backToKw pos (keywordEach [⟨some (Str.ofString "default"), c, kpos⟩] X.env)).any (·.1.isNone) = false := by rfl)
    (hks : (backToKw pos (keywordEach [⟨some (Str.ofString "default"), c, kpos⟩] X.env)).filterMap (·.1) = [Str.ofString "default"] := by rfl) :
    PE2 X W wk (.Call (.Name "max" p) [a] [⟨some (Str.ofString "default"), c, kpos⟩] pos) (mBin D.maxDf ma mc) := by
  obtain ⟨ta, a1, a2⟩ := ha
  obtain ⟨tc, c1, c2⟩ := hc
  refine ⟨_, pe_callBK (cr_maxDf calm) hg hm v1 (pa_cons a1 pa_nil n1) (pk_cons c1 pk_nil) (by decide) (by decide) he hpl hall hnone hks, fun B H0 as ks ow sg S σ H Q r h => ?_⟩
  refine a2 _ _ _ _ _ _ _ _ _ _ r (Den.bind h fun x S1 v H1 k1 e1 s1 q1 h1 => ?_)
  clear k1
  have r1 := r.step e1 s1
  refine c2 _ _ _ _ _ _ _ _ _ _ r1 (Den.bind h1 fun y S2 w H2 k2 e2 s2 q2 h2 => ?_)
  clear k2
  have r2 := r1.step e2 s2
  have q1' := Rep.imp (B' := if wk then (· ∈ as) else Bd B ow) e2 (asWk r) (fun _ z => z) x v q1
  cases e : D.maxDf x y with
  | none => simp only [e] at h2; exact False.elim h2
  | some z =>
    simp only [e] at h2
    cases x <;> try (cases e; done)
    rename_i ds
    simp only [D.maxDf] at e
    obtain ⟨b, xs, ev, nb, g1, g2⟩ := q1'
    cases en : D.ints ds with
    | none => rw [en] at e; cases e
    | some ns =>
      rw [en] at e
      rw [ints_rep g2 en] at g1
      refine ⟨b, ns, w, by rw [ev], rfl, SqL.of g1, fun e0 => ?_, fun m hm hle => ?_⟩
      · subst e0
        cases e
        exact h2 w H2 Evo.refl s2 q2
      · cases ns with
        | nil => cases hm
        | cons n ns =>
          simp only [maxI, Option.map_some] at e
          cases e
          rw [foldl_max ns n m hm hle] at h2
          exact h2 _ H2 Evo.refl s2 rfl
end
end D2

namespace D2
open PySem PySem.Spec PyProof.Rows L2

/-! ### defs that may let an exception out -/
def wE (E : XK) : WX2 := fun cl d _ H => E cl d H
def Fn2X (K : PySem.W.Frag) (mg : Str → Option Value) (n : Nat) (F : FD) : Sp := fun vs H Q E => vs.length = n ∧ ∃ (B : Addr → Prop) (as : List Addr) (S : List O) (ds : List D), (∀ a, B a → H a ≠ none) ∧ (∀ a, a ∈ as → B a) ∧ Sto K as B H S ∧ RepA K as B H ds vs ∧
  match F ds S with
  | .ok (d, S') => ∀ v H', Evo K (· ∈ as) H H' → Sto K as B H' S' → Rep K as B H' d v → Q v H'
  | .ex e _ S' => ∀ cl dx H', Evo K (· ∈ as) H H' → Sto K as B H' S' → XRep mg K as B H' e cl dx → E cl dx H'
  | .bad => False
theorem XRep.weak {mg : Str → Option Value} {K : PySem.W.Frag} {as : List Addr} {B B' : Addr → Prop} {H : Hp} {e : Exn} {c : Value} {dx : Option Addr} (h : ∀ a, B' a → B a) (x : XRep mg K as B H e c dx) : XRep mg K as B' H e c dx := by
  obtain ⟨C, a, h1, h2, h3, h4⟩ := x
  exact ⟨C, a, h1, h2, h3, Rep.imp (W := fun _ => False) Evo.refl (fun _ z => z.elim) h _ _ h4⟩
section
variable {P : Program} {w : World} {K : PySem.W.Frag} {mg : Str → Option Value} {base : Heap}
/-- THE RULE for a def that may raise: its body -/
theorem fn2x_ok {x qual : Str} {st : Stmt} {f : Addr} {fd : FuncData} {N ps : List Str} {k : Nat} {m : MS} (F : Fun K x qual st f fd) (Sc : FnScope N ps (defScope st))
    (body : ∀ (cdv : Value) (A : Around) (outer : List Env) (s : Shared) (H : Hp) (E : XK), Room k (A.deeper (envOfC qual (defScope st) s.heap.objs.size f cdv)) → PSs2 (cxOf (L2.CX P w) P w K mg base N qual (defScope st) f cdv A outer s H E) (wE E) (defBody st) m) :
    FnOk P w K mg base (L2.CX P w) (k + 1) f fd ps (Fn2X K mg ps.length (fnF N m)) := by
  refine F.okX Sc (fun vs H Q E h => h.1) (fun cdv A outer s H vs Q E hr h => ?_)
  obtain ⟨hl, B, as, S, ds, hB, hA, hS, hR, hF⟩ := h
  obtain ⟨t, p, sim⟩ := body cdv A outer s H E hr
  refine ⟨t, p, sim B H as [] _ (startS N ds) S (L2.start N vs) H _ (rl_start hB hA hS hR) ?_⟩
  unfold fnF at hF
  revert hF
  cases m (startS N ds) S with
  | ok z =>
    obtain ⟨fl, sg', S'⟩ := z
    cases fl with
    | nx => exact fun hF ow' σ' H' r' => hF .non H' r'.evo (r'.sto.weak bdB) rfl
    | bk => exact fun hF => False.elim hF
    | ct => exact fun hF => False.elim hF
    | rt d => exact fun hF v H' e s q => hF v H' e s q
  | ex e sg S' => exact fun hF cl dx ow σ H' r x => hF cl dx H' r.evo (r.sto.weak bdB) (x.weak bdB)
  | bad => exact fun hF => False.elim hF
end
section
variable {X : Cx} {W : WX2} {wk : Bool} {pos : Pos}
def mCallX (F : FD) (ms : MA) : ME := fun sg S => (ms sg S).bind fun x => match F x.1 x.2 with
  | .ok y => .ok y
  | .ex e _ S' => .ex e sg S'
  | .bad => .bad
theorem e2_callX {F : FD} {ms : MA} {k : Nat} {f : Addr} {fd : FuncData} {ps : List Str} {x : Str} {p : Pos} {e : Expr} {es : List Expr} {n : Nat} (tk : L2.Takes X W) (G : FnOk X.prog X.w X.K X.mg X.base (L2.CX X.prog X.w) k f fd ps (Fn2X X.K X.mg n F)) (hr : Room k X.A) (hg : Gl X x) (hm : X.mg x = some (.ref f)) (hk : PySem.W.keepIn X.K (.ref f) = true) (hb : Binds X.K fd ps [])
    (ha : PA2 X W false (e :: es) ms) (hn : ∀ sg S ds S', ms sg S = .ok (ds, S') → ds.length = n) (hdb : (x == ("__debug__" : Str)) = false := by decide) (he : starEach (e :: es) X.env = (false, eval e X.env) :: starEach es X.env := by rfl) (hpl : (backTo pos (starEach es X.env)).any (·.1) = false := by rfl) :
    PE2 X W false (.Call (.Name x p) (e :: es) [] pos) (mCallX F ms) := by
  obtain ⟨t, a1, a2⟩ := ha
  refine ⟨_, pe_callS G hr hg hm hk hb (fun σ => passAt tk σ) a1 hdb he hpl, fun B H0 as ks ow sg S σ H Q r h => ?_⟩
  refine a2 _ _ _ _ _ _ _ _ _ _ r (Den.bind h fun ds S1 vs H1 e0 e1 s1 q1 h1 => ?_)
  have r1 := r.step e1 s1
  refine ⟨by rw [← q1.length]; exact hn _ _ _ _ e0, Bd B ow, as, S1, ds, r1.bdDom, r1.asBd, r1.sto, q1, ?_⟩
  cases eF : F ds S1 with
  | ok z =>
    obtain ⟨d, S'⟩ := z
    simp only [eF] at h1
    exact fun v H' e s q => h1 v H' e s q
  | ex e sg2 S' =>
    simp only [eF] at h1
    exact fun cl dx H' ev st x => h1 cl dx ow σ H' (r1.step ev st) x
  | bad => simp only [eF] at h1; exact False.elim h1
end
/-! ### making an exception: an __init__ of its own class or an inherited one -/
/-- what an __init__ does: it stores its fields, the last one first in ns -/
def spIni (ns : List Str) (K : PySem.W.Frag) : Sp := fun vs H Q _ => ∃ (a C : Addr) (xs : List V), vs = .ref a :: xs ∧ xs.length = ns.length ∧ OexC K C ∧ (∀ n, n ∈ ns → PySem.W.findIn K (.ref C) n = some none) ∧ H a = some (exo a C none) ∧
  ∀ d, H d = none → d ≠ a → Q .non (upd (upd H d (exd d (ns.zip xs.reverse))) a (exo a C (some d)))
theorem zip_rev {K : PySem.W.Frag} {as : List Addr} {B : Addr → Prop} {H : Hp} : ∀ {ds : List D} {xs : List V}, RepA K as B H ds xs → RepA K as B H ds.reverse xs.reverse := by
  intro ds xs h
  have app : ∀ {ds es : List D} {xs ys : List V}, RepA K as B H ds xs → RepA K as B H es ys → RepA K as B H (ds ++ es) (xs ++ ys) := by
    intro ds
    induction ds with
    | nil => intro es xs ys h1 h2; have : xs = [] := h1; subst this; exact h2
    | cons d ds ih =>
      intro es xs ys h1 h2
      obtain ⟨v, vs, e, g1, g2⟩ := h1
      subst e
      exact ⟨v, vs ++ ys, rfl, g1, ih g2 h2⟩
  induction ds generalizing xs with
  | nil => have : xs = [] := h; subst this; exact rfl
  | cons d ds ih =>
    obtain ⟨v, vs, e, g1, g2⟩ := h
    subst e
    rw [List.reverse_cons, List.reverse_cons]
    exact app (ih g2) ⟨v, [], rfl, g1, rfl⟩
section
variable {X : Cx} {W : WX2} {wk : Bool} {pos : Pos}
/-- raise C(e, ..) -/
def mRaise (c : Str) (ns : List Str) (ms : MA) : MS := fun sg S => (ms sg S).bind fun x => if x.1.length = ns.length then .ex ⟨c, ns, x.1.reverse⟩ sg x.2 else .bad
theorem s2_raise {x : Str} {ns : List Str} {e : Expr} {es : List Expr} {ms : MA} {p pos2 : Pos} {C fI : Addr} {k : Nat} {fd : FuncData} {ps : List Str} (hc : X.calm = true) (tk : L2.Takes X W) (T : OexC X.K C) (hN : ∀ n, n ∈ ns → PySem.W.findIn X.K (.ref C) n = some none) (hns : ns.length ≤ 1000)
    (iC : PySem.W.findIn X.K (.ref C) "__init__" = some (some (.ref fI))) (tI : PySem.W.typeIn X.K (.ref fI) = some (.type "function"))
    (F1 : FnOk X.prog X.w X.K X.mg X.base CX0 k fI fd ps (spIni ns X.K)) (hr : Room (k + 1) X.A) (hb : Binds X.K fd ps []) (hg : Gl X x) (hm : X.mg x = some (.ref C)) (ha : PA2 X W false (e :: es) ms)
    (hdb : (x == ("__debug__" : Str)) = false := by decide) (he : starEach (e :: es) X.env = (false, eval e X.env) :: starEach es X.env := by rfl) (hpl : (backTo pos (starEach es X.env)).any (·.1) = false := by rfl) :
    PS2 X W (.Raise (some (.Call (.Name x p) (e :: es) [] pos)) none pos2) (mRaise x ns ms) := by
  obtain ⟨t, a1, a2⟩ := ha
  refine ⟨_, ps_raise hc tk (pmk_oex T iC tI F1 hr hb .nil pass0 hg hm a1 hdb he hpl), fun B H0 as ks ow sg S σ H Dd r h => ?_⟩
  refine a2 _ _ _ _ _ _ _ _ _ _ r ?_
  unfold mRaise at h
  cases e1 : ms sg S with
  | ok z =>
    obtain ⟨ds, S1⟩ := z
    rw [e1] at h
    by_cases hl : ds.length = ns.length
    · simp only [R.bind, if_pos hl] at h
      intro vs H1 ev st q1
      have r1 := r.step ev st
      have hvl : vs.length = ns.length := by rw [← q1.length]; exact hl
      refine ⟨by omega, fun a hn => ⟨a, C, vs, by simp, hvl, T, hN, upd_same, fun d hd hda => ?_⟩⟩
      refine ⟨rfl, d, ns.zip vs.reverse, upd_same, ?_, ?_, ?_⟩
      · rw [upd_ne hda, upd_same]
      · rw [upd_ne hda] at hd
        exact hd
      · have hd1 : H1 d = none := by rw [upd_ne hda] at hd; exact hd
        have eH : upd (del (upd (upd (upd H1 a (exo a C none)) d (exd d (ns.zip vs.reverse))) a (exo a C (some d))) a) d (.xd (ns.zip vs.reverse)) = upd H1 d (.xd (ns.zip vs.reverse)) := by
          funext b
          by_cases hbd : b = d
          · subst hbd
            rw [upd_same, upd_same]
          · rw [upd_ne hbd, upd_ne hbd]
            by_cases hba : b = a
            · subst hba
              rw [del_same, hn]
            · rw [del_ne hba, upd_ne hba, upd_ne hbd, upd_ne hba]
        rw [eH]
        have e2 : Evo X.K (· ∈ as) H1 (upd H1 d (.xd (ns.zip vs.reverse))) := Evo.new hd1
        have nb : ¬ Bd B ow d := fun z => r1.bdDom d z hd1
        have r2 := r1.step e2 (r1.sto.evo (W := fun _ => False) (Evo.new hd1))
        refine h (.ref C) (some d) ow σ _ r2 ⟨C, d, hm, rfl, rfl, d, vs.reverse, rfl, nb, upd_same, by rw [List.length_reverse]; exact hvl.symm, ?_⟩
        exact RepA.imp (W := fun _ => False) (Evo.new hd1) (fun _ z => z.elim) (fun _ z => z) _ _ (zip_rev q1)
    · simp only [R.bind, if_neg hl] at h
      exact False.elim h
  | ex e sg2 S2 =>
    rw [e1] at h
    exact h
  | bad =>
    rw [e1] at h
    exact False.elim h
end
end D2

namespace D2
open PySem PySem.Spec PyProof.Rows L2

/-! ### try: .. except C as n: .. -/
def R.done (i : Nat) : R (Fl × List Sl × List O) → R (Fl × List Sl × List O)
  | .ok (fl, sg, S) => match sg[i]? with
    | some .no => .ok (fl, sg, S)
    | _ => .bad
  | r => r
def mTry (i : Nat) (c : Str) (mb : MS) (ms : Exn → MS) : MS := fun sg S => match mb sg S with
  | .ex e sg1 S1 => if e.cls = c then match sg1[i]? with
      | some .no => (ms e sg1 S1).done i
      | _ => .bad
    else .bad
  | r => r
/-- what a suite computes from the exception that it holds -/
def PSu (X : Cx) (W : WX2) (i : Nat) (x : Str) (a : Addr) (oe : Obj) (cls : Value) (d : Option Addr) (pn : List (Addr × Obj)) (st : List Stmt) (ms : Exn → MS) : Prop :=
  ∃ t, PSs (X.suite a ((a, oe) :: pn)) st t ∧ ∀ (e : Exn) B H0 as ks ow sg S σ H (Dd : Ends), Rl X.K B H0 as ks ow sg S σ H → sg[i]? = some .no → σ[i]? = some (some (.ref a)) → XRep X.mg X.K as (Bd B ow) H e cls d → e.cls = x →
    DenS (ctOf X W B H0 as ks) (ms e sg S) Dd → t Dd σ H
section
variable {X : Cx} {W : WX2} {K : PySem.W.Frag}
theorem rl_slot {B : Addr → Prop} {H0 : Hp} {as : List Addr} {ks : List (D × V)} {ow : List (Option Addr)} {sg : List Sl} {S : List O} {σ : L2.St} {H : Hp} {i : Nat} {v : Option V} (r : Rl K B H0 as ks ow sg S σ H) (h : sg[i]? = some .no) : Rl K B H0 as ks ow sg S (σ.set i v) H := by
  refine ⟨r.lo, by rw [List.length_set]; exact r.ls, fun j s hs => ?_, r.inj, r.new, r.odom, r.bdom, r.asB, r.evo, r.sto, r.kp⟩
  obtain ⟨w, x, h1, h2, h3⟩ := r.sl j s hs
  by_cases hij : i = j
  · subst hij
    rw [h] at hs
    cases hs
    have hl : i < σ.length := (List.getElem?_eq_some_iff.mp h2).1
    exact ⟨w, v, h1, by rw [List.getElem?_set, if_pos rfl, if_pos hl], h3⟩
  · exact ⟨w, x, h1, by rw [List.getElem?_set, if_neg hij]; exact h2, h3⟩
theorem s2_try {x n : Str} {C : Addr} {i : Nat} {body suite : List Stmt} {b₀ : Stmt} {np pos pos' : Pos} {mb : MS} {ms : Exn → MS}
    (hs : X.stack = X.env :: X.outer) (hf : X.env.frame = some X.env.locals) (hN : X.N.Nodup) (hi : X.N[i]? = some n) (hln : X.env.kindOf n = some .local) (hc : Names X x (.ref C)) (hm : X.mg x = some (.ref C)) (te : PySem.W.exmOne X.K (.ref C) (.ref C) = some true) (tk : L2.Takes X W)
    (hb : ∀ (W' : WX2) (pn : List (Addr × Obj)) (xe : Value → Shared → Prop), L2.Takes (X.tr pn xe) W' → PassesOwn (model X.prog X.w) X.A X.env xe → PSs2 (X.tr pn xe) W' body mb)
    (hsu : ∀ (a : Addr) (oe : Obj) (cls : Value) (d : Option Addr) (pn : List (Addr × Obj)), L2.Zc cls d oe → (∃ vs, oe.data = .fields vs) → PSu X W i x a oe cls d pn (b₀ :: suite) ms) :
    PS2 X W (.Try body [.ExceptHandler (some (.Name x np)) (some n) (b₀ :: suite) pos'] [] [] pos) (mTry i x mb ms) := by
  let tb : L2.WX → TS := fun W' D σ H => ∃ (B : Addr → Prop) (H0 : Hp) (as : List Addr) (ks : List (D2.D × V)) (ow : List (Option Addr)) (sg : List Sl) (S : List O), Rl X.K B H0 as ks ow sg S σ H ∧ DenS (ctOf X W' B H0 as ks) (mb sg S) D
  let ts : Addr → Value → Option Addr → TS := fun a cls d D σ H => ∃ (e : Exn) (B : Addr → Prop) (H0 : Hp) (as : List Addr) (ks : List (D2.D × V)) (ow : List (Option Addr)) (sg : List Sl) (S : List O), Rl X.K B H0 as ks ow sg S σ H ∧ sg[i]? = some .no ∧ σ[i]? = some (some (.ref a)) ∧ XRep X.mg X.K as (Bd B ow) H e cls d ∧ e.cls = x ∧ DenS (ctOf X W B H0 as ks) (ms e sg S) D
  refine ⟨_, L2.ps_try_as (i := i) (tb := tb) (ts := ts) hs hf hN hi hln hc tk (fun W' pn xe tk' pw => ?_) (fun a oe cls d pn hz hf2 => ?_), fun B H0 as ks ow sg S σ H Dd r h => ?_⟩
  · obtain ⟨t, p, sim⟩ := hb W' pn xe tk' pw
    exact ⟨fun pins s σ H D I h => by
      obtain ⟨B, H0, as, ks, ow, sg, S, r, hd⟩ := h
      exact p.run pins s σ H D I (sim B H0 as ks ow sg S σ H D r hd)⟩
  · obtain ⟨t, p, sim⟩ := hsu a oe cls d pn hz hf2
    exact ⟨fun pins s σ H D I h => by
      obtain ⟨e, B, H0, as, ks, ow, sg, S, r, h1, h2, h3, h4, hd⟩ := h
      exact p.run pins s σ H D I (sim e B H0 as ks ow sg S σ H D r h1 h2 h3 h4 hd)⟩
  · refine ⟨B, H0, as, ks, ow, sg, S, r, ?_⟩
    unfold mTry at h
    cases e1 : mb sg S with
    | ok z =>
      rw [e1] at h
      obtain ⟨fl, sg2, S2⟩ := z
      cases fl <;> exact h
    | bad =>
      rw [e1] at h
      exact h
    | ex e sg1 S1 =>
      rw [e1] at h
      simp only [] at h
      by_cases c1 : e.cls = x
      · rw [if_pos c1] at h
        cases c2 : sg1[i]? with
        | none => rw [c2] at h; exact False.elim h
        | some s =>
          cases s with
          | val => rw [c2] at h; exact False.elim h
          | own => rw [c2] at h; exact False.elim h
          | no =>
            rw [c2] at h
            simp only [] at h
            intro cl dx ow1 σ1 H1 r1 x1
            have ecl : cl = .ref C := by
              obtain ⟨C', a', h1, h2, _⟩ := x1
              have h1' : X.mg e.cls = some (.ref C') := h1
              rw [c1, hm] at h1'
              rw [h2]
              exact (Option.some.inj h1').symm
            refine ⟨true, by rw [ecl]; exact te, fun _ a ha => ?_, fun z => nomatch z⟩
            refine ⟨e, B, H0, as, ks, ow1, sg1, S1, rl_slot r1 c2, c2, ?_, x1, c1, ?_⟩
            · obtain ⟨w, v, _, h2, _⟩ := r1.sl i _ c2
              rw [List.getElem?_set, if_pos rfl, if_pos (List.getElem?_eq_some_iff.mp h2).1]
            · revert h
              cases e2 : ms e sg1 S1 with
              | ok z =>
                obtain ⟨fl, sg2, S2⟩ := z
                intro h
                unfold R.done at h
                simp only [] at h
                cases c3 : sg2[i]? with
                | none => rw [c3] at h; exact False.elim h
                | some s2 =>
                  cases s2 with
                  | val => rw [c3] at h; exact False.elim h
                  | own => rw [c3] at h; exact False.elim h
                  | no =>
                    rw [c3] at h
                    cases fl with
                    | nx => exact fun ow' σ' H' r' => h ow' _ H' (rl_slot r' c3)
                    | bk => exact fun ow' σ' H' r' => h ow' _ H' (rl_slot r' c3)
                    | ct => exact fun ow' σ' H' r' => h ow' _ H' (rl_slot r' c3)
                    | rt d => exact h
              | ex e3 sg3 S3 => exact fun h => h
              | bad => exact fun h => h
      · rw [if_neg c1] at h
        exact False.elim h
end
end D2

namespace D2
open PySem PySem.Spec PyProof.Rows L2

/-! ### the fields of an exception that is held -/
structure ExF (K : PySem.W.Frag) (C : Addr) : Prop where
  ga : PySem.W.findIn K (.ref C) "__getattribute__" = some (some (.builtin "BaseException.__getattribute__"))
  gg : PySem.W.findIn K (.ref C) "__getattr__" = some none
  exC : PySem.W.subIn K (.ref C) (.type "BaseException") = some true
  hdC : PySem.W.hasDictIn K C = true
def tFld (C : Addr) (a : Addr) (cls : Value) (d : Option Addr) (f : Str) (te : TE) : TE := fun σ H Q => te σ H fun x H1 => x = .ref a ∧ cls = .ref C ∧ ∃ (dd : Addr) (fs : List (Str × V)) (v : V), d = some dd ∧ H1 dd = some (.xd fs) ∧ fs.lookup f = some v ∧ Q v H1
theorem pe_fld {X : Cx} {a C : Addr} {oe : Obj} {cls : Value} {d : Option Addr} {pn : List (Addr × Obj)} {e : Expr} {f : Str} {te : TE} {pos : Pos} (T : ExF X.K C) (noN : PySem.W.findIn X.K (.ref C) f = some none) (hz : L2.Zc cls d oe) (hf : ∃ vs, oe.data = .fields vs) (he : PE (X.suite a ((a, oe) :: pn)) e te)
    (hb : attributeBase e f X.env (eval e X.env) = eval e X.env := by rfl) :
    PE (X.suite a ((a, oe) :: pn)) (.Attribute e f pos) (tFld C a cls d f te) := by
  refine ⟨fun pins s σ H Q I h => ?_⟩
  refine attr_of hb (thn (he.run pins s σ H _ I h) fun u s1 hh => ?_)
  obtain ⟨x, H1, I1, rx, ex, ec, dd, fs, v, ed, ea, el, q⟩ := hh
  subst ex
  obtain rfl : u = Value.ref a := rx
  subst ec
  subst ed
  obtain ⟨ha, _⟩ := I1.pin (a, oe) (List.mem_append_left _ List.mem_cons_self)
  obtain ⟨vs, hd⟩ := hf
  have hx : ObjOk X.prog X.w H1 s1.heap dd (.xd fs) := I1.hok dd _ ea
  obtain ⟨mA, hns, hr⟩ := hx
  obtain ⟨od, ho, hl⟩ := lookIn_ns hns
  obtain ⟨u, hu, ru⟩ := RelO.some_of (v := v) (o := mA f) (by rw [← el]; exact hr f)
  have J : PySem.W.InstAt s1.heap a oe C (some od) := ⟨ha, hz.1, by unfold PySem.W.notCls; rw [hd] <;> rfl, by rw [hz.2]; exact ho⟩
  exact HandSPX.exc_get I1.kIn J T.ga T.gg T.exC (PySem.W.findObj_own T.hdC noN rfl (by rw [hl, hu])) (handed_of ru) ⟨v, H1, I1.tok _, ru, q⟩
/-- a field's data -/
def fld (e : Exn) (f : Str) : Option D := ((e.ns.zip e.ds).lookup f)
theorem lookup_cons {α : Type} (f g : Str) (y : α) (fs : List (Str × α)) : ((f, y) :: fs).lookup g = if g = f then some y else fs.lookup g := by
  by_cases h : g = f
  · subst h
    simp [List.lookup]
  · have e : (g == f) = false := by simpa using h
    rw [if_neg h]
    simp [List.lookup, e]
theorem fld_rep {K : PySem.W.Frag} {as : List Addr} {B : Addr → Prop} {H : Hp} {f : Str} {z : D} : ∀ {ns : List Str} {ds : List D} {xs : List V}, RepA K as B H ds xs → (ns.zip ds).lookup f = some z → ∃ v, (ns.zip xs).lookup f = some v ∧ Rep K as B H z v
  | [], ds, xs, _, h => by simp [List.lookup] at h
  | n :: ns, [], xs, _, h => by simp [List.lookup] at h
  | n :: ns, d :: ds, xs, h1, h => by
    obtain ⟨v, vs, e1, g1, g2⟩ := h1
    subst e1
    rw [List.zip_cons_cons, lookup_cons] at h
    rw [List.zip_cons_cons, lookup_cons]
    by_cases c : f = n
    · rw [if_pos c] at h ⊢
      cases h
      exact ⟨v, rfl, g1⟩
    · rw [if_neg c] at h ⊢
      exact fld_rep g2 h
section
variable {X : Cx} {W : WX2} {i : Nat} {x n : Str} {a C : Addr} {oe : Obj} {cls : Value} {d : Option Addr} {pn : List (Addr × Obj)} {np pos pos2 : Pos}
/-- the facts at a field's place -/
theorem fld_at {mg : Str → Option Value} {K : PySem.W.Frag} {as : List Addr} {B : Addr → Prop} {H : Hp} {e : Exn} {f : Str} {z : D} (hm : mg x = some (.ref C)) (h : XRep mg K as B H e cls d) (hc : e.cls = x) (hz : fld e f = some z) :
    cls = .ref C ∧ ∃ (dd : Addr) (fs : List (Str × V)) (v : V), d = some dd ∧ H dd = some (.xd fs) ∧ fs.lookup f = some v ∧ Rep K as B H z v := by
  obtain ⟨C', dd, h1, h2, h3, dd2, xs, e1, nb, h4, h5, h6⟩ := h
  cases e1
  rw [hc, hm] at h1
  cases h1
  obtain ⟨v, g1, g2⟩ := fld_rep h6 hz
  exact ⟨h2, dd, _, v, h3, h4, g1, g2⟩
/-- return n.f -/
def msRetF (f : Str) : Exn → MS := fun e sg S => match fld e f with
  | some z => .ok (.rt z, sg, S)
  | none => .bad
theorem su_retF {f : Str} (T : ExF X.K C) (hm : X.mg x = some (.ref C)) (noN : PySem.W.findIn X.K (.ref C) f = some none) (hz : L2.Zc cls d oe) (hf : ∃ vs, oe.data = .fields vs)
    (hN : X.N[i]? = some n := by rfl) (hv : Vis X.env.scope n := by first | exact Or.inl rfl | exact Or.inr (Or.inl rfl) | exact Or.inr (Or.inr rfl)) (hd : (n == ("__debug__" : Str)) = false := by decide)
    (hcd : (n == ("__classdict__" : Str)) = false := by decide) (hb : attributeBase (.Name n np) f X.env (eval (.Name n np) X.env) = eval (.Name n np) X.env := by rfl) :
    PSu X W i x a oe cls d pn [.Return (some (.Attribute (.Name n np) f pos)) pos2] (msRetF f) := by
  refine ⟨_, pss_one (ps_ret (pe_fld T noN hz hf (pe_var (i := i) hN hv hd hcd) hb)), fun e B H0 as ks ow sg S σ H Dd r h1 h2 h3 h4 h => ?_⟩
  unfold msRetF at h
  cases e1 : fld e f with
  | none => rw [e1] at h; exact False.elim h
  | some z =>
    rw [e1] at h
    obtain ⟨g1, dd, fs, v, g2, g3, g4, g5⟩ := fld_at hm h3 h4 e1
    refine ⟨.ref a, h2, rfl, g1, dd, fs, v, g2, g3, g4, ?_⟩
    exact h v H r.evo (r.sto.weak bdB) (Rep.imp (W := fun _ => False) Evo.refl (fun _ z => z.elim) bdB _ _ g5)
end
end D2
namespace D2
open PySem PySem.Spec PyProof.Rows L2
/-- what the written part says of an exception class -/
structure ExCl (K : PySem.W.Frag) (mg : Str → Option Value) (x : Str) (C fI : Addr) (fdI : FuncData) (ns ps : List Str) : Prop where
  gm : mg x = some (.ref C)
  oe : OexC K C
  nf : ∀ n, n ∈ ns → PySem.W.findIn K (.ref C) n = some none
  iC : PySem.W.findIn K (.ref C) "__init__" = some (some (.ref fI))
  tI : PySem.W.typeIn K (.ref fI) = some (.type "function")
  b : Binds K fdI ps []
  ef : ExF K C
  te : PySem.W.exmOne K (.ref C) (.ref C) = some true
theorem exm_own {K : PySem.W.Frag} {S : Addr} (h1 : PySem.W.subIn K (.ref S) (.type "BaseException") = some true) (h2 : PySem.W.isClsIn K S = true) (h3 : PySem.W.typeIn K (.ref S) = some (.type "type")) (h4 : PySem.W.subIn K (.ref S) (.ref S) = some true) :
    PySem.W.exmOne K (.ref S) (.ref S) = some true := by
  have e1 : (PySem.W.subIn K (.ref S) (.type "BaseException") == some true) = true := by rw [h1]; rfl
  have h2' : (PySem.W.clsIn K S).isSome = true := h2
  have e2 : ((PySem.W.clsIn K S).isSome && PySem.W.typeIn K (.ref S) == some (.type "type")) = true := by rw [h2', h3]; rfl
  unfold PySem.W.exmOne
  rw [if_pos e1]
  show (if ((PySem.W.clsIn K S).isSome && PySem.W.typeIn K (.ref S) == some (.type "type")) = true then PySem.W.subIn K (.ref S) (.ref S) else none) = some true
  rw [if_pos e2]
  exact h4
end D2

namespace D2
open PySem PySem.Spec PyProof.Rows L2
section
variable {X : Cx} {W : WX2} {wk : Bool} {pos : Pos}
/-- list(e), of its own -/
def oToL (m : ME) : MO := fun sg S => (m sg S).bind fun x => match x.1 with
  | .tup ds => .ok (.lst ds, x.2)
  | .lst ds => .ok (.lst ds, x.2)
  | _ => .bad
theorem f2_toL {e : Expr} {m : ME} {p : Pos} (hg : Gl X "list") (hm : X.mg "list" = none) (he : PE2 X W false e m) (v1 : bootBuiltins "list" = some (.type "list") := by decide +kernel)
    (h1 : starEach [e] X.env = (false, eval e X.env) :: starEach [] X.env := by rfl) (h2 : (backTo pos (starEach [] X.env)).any (·.1) = false := by rfl) :
    PF2 X W (.Call (.Name "list" p) [e] [] pos) (oToL m) := by
  obtain ⟨t, a1, a2⟩ := he
  refine ⟨_, pe_callTy call_list_of hg hm v1 (pa_cons a1 pa_nil h1) (by decide) (by decide) h1 h2, fun B H0 as ks ow sg S σ H Q r h => ?_⟩
  refine a2 _ _ _ _ _ _ _ _ _ _ r (DenO.bind h fun x S1 v H1 c1 e1 s1 q1 h1 => ?_)
  clear c1
  cases x <;> try exact False.elim h1
  · rename_i ds
    obtain ⟨a, xs, ev, g1, g2⟩ := q1
    subst ev
    exact ⟨a, xs, rfl, .inr g1, fun l hl => h1 l _ hl (Evo.new hl) (boxNew hl s1) ⟨xs, upd_same, boxNewA hl g2⟩⟩
  · rename_i ds
    obtain ⟨a, xs, ev, nb, g1, g2⟩ := q1
    subst ev
    exact ⟨a, xs, rfl, .inl (SqL.of g1), fun l hl => h1 l _ hl (Evo.new hl) (boxNew hl s1) ⟨xs, upd_same, boxNewA hl g2⟩⟩
end
section
variable {X : Cx} {W : WX2} {i : Nat} {x n : Str} {a C : Addr} {oe : Obj} {cls : Value} {d : Option Addr} {pn : List (Addr × Obj)} {np np2 pos pos2 pos3 pos4 : Pos}
/-- return True, return False, return None -/
def msRetC (z : D) : Exn → MS := fun _ sg S => .ok (.rt z, sg, S)
theorem su_retB {b : Bool} {j} : PSu X W i x a oe cls d pn [.Return (some (.Constant (.bool b) j pos)) pos2] (msRetC (.bl b)) :=
  ⟨_, pss_one (ps_ret pe_bl), fun e B H0 as ks ow sg S σ H Dd r h1 h2 h3 h4 h => h _ H r.evo (r.sto.weak bdB) rfl⟩
theorem su_retN {j} : PSu X W i x a oe cls d pn [.Return (some (.Constant .none j pos)) pos2] (msRetC .non) :=
  ⟨_, pss_one (ps_ret pe_non), fun e B H0 as ks ow sg S σ H Dd r h1 h2 h3 h4 h => h _ H r.evo (r.sto.weak bdB) rfl⟩
/-- return (n.f, n.g) -/
def msRetP (f g : Str) : Exn → MS := fun e sg S => match fld e f, fld e g with
  | some z, some y => .ok (.rt (.tup [z, y]), sg, S)
  | _, _ => .bad
theorem su_retP {f g : Str} {x1} (T : ExF X.K C) (hm : X.mg x = some (.ref C)) (nf : PySem.W.findIn X.K (.ref C) f = some none) (ng : PySem.W.findIn X.K (.ref C) g = some none) (hz : L2.Zc cls d oe) (hf : ∃ vs, oe.data = .fields vs)
    (hN : X.N[i]? = some n := by rfl) (hv : Vis X.env.scope n := by first | exact Or.inl rfl | exact Or.inr (Or.inl rfl) | exact Or.inr (Or.inr rfl)) (hd : (n == ("__debug__" : Str)) = false := by decide)
    (hcd : (n == ("__classdict__" : Str)) = false := by decide) (hb : attributeBase (.Name n np) f X.env (eval (.Name n np) X.env) = eval (.Name n np) X.env := by rfl) (hb2 : attributeBase (.Name n np2) g X.env (eval (.Name n np2) X.env) = eval (.Name n np2) X.env := by rfl)
    (n1 : starEach [.Attribute (.Name n np) f pos, .Attribute (.Name n np2) g pos2] X.env = (false, eval (.Attribute (.Name n np) f pos) X.env) :: starEach [.Attribute (.Name n np2) g pos2] X.env := by rfl)
    (n2 : starEach [.Attribute (.Name n np2) g pos2] X.env = (false, eval (.Attribute (.Name n np2) g pos2) X.env) :: starEach [] X.env := by rfl) :
    PSu X W i x a oe cls d pn [.Return (some (.Tuple [.Attribute (.Name n np) f pos, .Attribute (.Name n np2) g pos2] x1 pos3)) pos4] (msRetP f g) := by
  refine ⟨_, pss_one (ps_ret (pe_tup (pa_cons (pe_fld T nf hz hf (pe_var (i := i) hN hv hd hcd) hb) (pa_cons (pe_fld T ng hz hf (pe_var (i := i) hN hv hd hcd) hb2) pa_nil n2) n1))), fun e B H0 as ks ow sg S σ H Dd r h1 h2 h3 h4 h => ?_⟩
  unfold msRetP at h
  cases e1 : fld e f with
  | none => rw [e1] at h; exact False.elim h
  | some z =>
    cases e2 : fld e g with
    | none => rw [e1, e2] at h; exact False.elim h
    | some y =>
      rw [e1, e2] at h
      obtain ⟨g1, dd, fs, v, g2, g3, g4, g5⟩ := fld_at hm h3 h4 e1
      obtain ⟨_, dd', fs', u, k2, k3, k4, k5⟩ := fld_at hm h3 h4 e2
      refine ⟨.ref a, h2, rfl, g1, dd, fs, v, g2, g3, g4, .ref a, h2, rfl, g1, dd', fs', u, k2, k3, k4, (by show 2 ≤ sizeLine; decide), fun p hp => ?_⟩
      have e3 : Evo X.K (fun _ => False) H (upd H p (.tup [v, u])) := Evo.new hp
      refine h (.ref p) _ (r.evo.trans e3.any) ((r.sto.weak bdB).evo (W := fun _ => False) e3) ⟨p, [v, u], rfl, SqT.of upd_same, v, [u], rfl, ?_, u, [], rfl, ?_, rfl⟩
      · exact Rep.imp (W := fun _ => False) e3 (fun _ z => z.elim) bdB _ _ g5
      · exact Rep.imp (W := fun _ => False) e3 (fun _ z => z.elim) bdB _ _ k5
end
end D2

namespace D2
open PySem PySem.Spec PyProof.Rows L2
/-! ### C.m(e, ..): a def of a class, called off the class -/
theorem pe_cfn {X : Cx} {CX : CXT} {x m : Str} {C f : Addr} {fd : FuncData} {ps : List Str} {sp : Sp} {k : Nat} {E : XK} {e : Expr} {es : List Expr} {t : TA} {p1 p2 pos : Pos} {pl : Sem Bool} (hg : Gl X x) (hm : X.mg x = some (.ref C))
    (hs : PySem.W.specialIn X.K (.ref C) "__getattribute__" = some (some (.builtin "type.__getattribute__"))) (hd : PySem.W.readsIn X.K C (.type "type") = true) (hf : PySem.W.findCls X.K (.ref C) (.type "type") m = some (.val (.ref f))) (hh : PySem.W.handedIn (.ref f) = true)
    (hk : PySem.W.keepIn X.K (.ref f) = true) (F : FnOk X.prog X.w X.K X.mg X.base CX k f fd ps sp) (hr : Room k X.A) (hb : Binds X.K fd ps []) (hx : Passes CX X E) (ha : PA X (e :: es) t)
    (hc : eval (.Call (.Attribute (.Name x p1) m p2) (e :: es) [] pos) X.env = (do
      let ov ← eval (.Name x p1) X.env
      standAt p2.atName
      let (f, first) ← holding [ov] (getMethod ov m pl)
      callWith pos f first (backTo pos (starEach (e :: es) X.env)) (backToKw pos (keywordEach [] X.env))) := by rfl)
    (hdb : (x == ("__debug__" : Str)) = false := by decide) (he : starEach (e :: es) X.env = (false, eval e X.env) :: starEach es X.env := by rfl) (hpl : (backTo pos (starEach es X.env)).any (·.1) = false := by rfl) :
    PE X (.Call (.Attribute (.Name x p1) m p2) (e :: es) [] pos) (fun σ H Q => t σ H fun vs H1 => sp vs H1 Q E) := by
  refine ⟨fun pins s σ H Q I h => ?_⟩
  refine PySem.W.methodCall_KW (ld_glob I hg hm ?_ hdb) hc
  refine PySem.W.method_cls I.kIn hs (PySem.W.cls_value I.kIn hd hf hh ?_)
  show wpAny _ _ (callWith pos (Value.ref f) [] (backTo pos (starEach (e :: es) X.env)) []) _ _ _
  refine PySem.W.callWith_K (h₀ := X.base) I.ok.mod.kin hk (thn (ha.run pos pins _ σ H _ (I.tok _) h) fun us s1 ⟨vs, H1, I1, r, q⟩ => ⟨I1.kIn, ?_⟩) he hpl
  exact run_fn F hr hb .nil hx I1 r (by rw [List.append_nil]; exact q)
end D2

namespace D2
open PySem PySem.Spec PyProof.Rows L2
/-! ### t * k, t a tuple: any k -/
section
variable {Pg : Program} {u : World} {Ar : Around} {Ex : Value → Shared → Prop} {sh : Shared}
theorem tup_mul_same (l : Addr) (items : Array Value) (n : Nat) (ddz : Option Addr) (slz : Array (Option Value)) (x : Int) (t : Tok) (c0z : (decide (x < -(2 ^ 63)) || decide (x ≥ 2 ^ 63)) = false) (c1z : (items.isEmpty || x == 1) = true) :
    Meets (Builtin.«tuple.__mul__» ⟨[.ref l, .int x t], []⟩) (fun _ Rz sz => sz.heap.get? l = some { cls := .type "tuple", dict := ddz, data := .seq items n, slots := slz } ∧
      Rz (.ok (.ret (Value.ref l))) sz) :=
  .of_wp fun progz wz Az Rz sz hz => by
    obtain ⟨hpz, gz, dz, tkz, osz⟩ := sz
    obtain ⟨hlz, hz⟩ := hz
    have f1z := AutoSeq1.idx_int
    wp_walk using wpAny_loadPart' hlz
    repeat (first
      | (refine wpAny_ite_false (decide_eq_false (by rw [c0z]; exact Bool.false_ne_true)) ?_; wp_walk using wpAny_loadPart' hlz)
      | (refine wpAny_ite_true (decide_eq_true c1z) ?_; wp_walk using wpAny_loadPart' hlz))
    exact ⟨_, rfl, hz⟩
theorem tup_mul_none (l : Addr) (items : Array Value) (n : Nat) (ddz : Option Addr) (slz : Array (Option Value)) (x : Int) (t : Tok) (c0z : (decide (x < -(2 ^ 63)) || decide (x ≥ 2 ^ 63)) = false) (c1z : (items.isEmpty || x == 1) = false) (c2z : (decide (x ≤ 0) || items.isEmpty) = true) :
    Meets (Builtin.«tuple.__mul__» ⟨[.ref l, .int x t], []⟩) (fun _ Rz sz => sz.heap.get? l = some { cls := .type "tuple", dict := ddz, data := .seq items n, slots := slz } ∧
      Rz (.ok (.ret (Value.ref sz.heap.objs.size))) { sz with heap := sz.heap.push { cls := Value.type "tuple", data := Data.seq #[] }, toks := sz.toks }) :=
  .of_wp fun progz wz Az Rz sz hz => by
    obtain ⟨hpz, gz, dz, tkz, osz⟩ := sz
    obtain ⟨hlz, hz⟩ := hz
    have f1z := AutoSeq1.idx_int
    wp_walk using wpAny_loadPart' hlz
    repeat (first
      | (refine wpAny_ite_false (decide_eq_false (by rw [c0z]; exact Bool.false_ne_true)) ?_; wp_walk using wpAny_loadPart' hlz)
      | (refine wpAny_ite_false (decide_eq_false (by rw [c1z]; exact Bool.false_ne_true)) ?_; wp_walk using wpAny_loadPart' hlz)
      | (refine wpAny_ite_true (decide_eq_true c2z) ?_; wp_walk using wpAny_loadPart' hlz))
    exact ⟨_, rfl, hz⟩
end
def rRepTA (K : PySem.W.Frag) : R2 := fun x y Hz Q => ∃ l k xs, x = .ref l ∧ y = .int k ∧ SqT K Hz l xs ∧ -4611686018427387904 ≤ k ∧ k < 4611686018427387904 ∧ xs.length * k.toNat ≤ 16777216 ∧
  ((k = 1 ∨ xs = []) → Q (.ref l) Hz) ∧ (¬ (k = 1 ∨ xs = []) → ∀ p, Hz p = none → Q (.ref p) (upd Hz p (.tup (List.replicate k.toNat xs).flatten)))
theorem op_repTA {X : Cx} : OpR X (binaryOp .Mult) (rRepTA X.K) := by
  intro pinsz sz σz Hz x y v u Q Iz rxz ryz hz
  obtain ⟨l, k, xs, rfl, rfl, hT, h1, h2, hz, q1, q2⟩ := hz
  cases rxz
  obtain ⟨t, rfl⟩ := ryz
  obtain ⟨itsz, r, ⟨⟨clsz, ddz, dataz, slz⟩, ho, hc, n, hd⟩, hs⟩ := Iz.tuple hT
  simp only at hc hd
  subst hc hd
  have hlez : itsz.length = xs.length := r.length.symm
  have c0z : (decide (k < -(2 ^ 63)) || decide (k ≥ 2 ^ 63)) = false := by
    rw [decide_eq_false (by omega), decide_eq_false (by omega)] <;> rfl
  have road : ∀ {Q' : Value → Shared → Prop}, wpAny (model X.prog X.w) X.A (call (.builtin "tuple.__mul__") [.ref l, .int k t]) Q' X.xe sz → wpAny (model X.prog X.w) X.A (binaryOp .Mult (.ref l) (.int k t)) Q' X.xe sz := fun {Q'} hq =>
    wpAny_binaryOp_repeat_ref (T := "tuple") (U := "int") (by decide) ⟨_, ho, rfl⟩ (fun s' => typeIs_int s' k t) noFill_tuple_mul F.fills_int_mul F.slot_int_rmul repeat_tuple F.slot_int_index.lookup
      (call_meets F.slot_int_rmul (typeIs_int sz k t) F.entry_int_rmul (F.args_int_rmul_2 _ _) (int_rmul_tuple k t l itsz.toArray n ddz slz) ⟨ho, rfl, ⟨_, ho, rfl⟩, hq⟩)
  refine road ?_
  by_cases c : k = 1 ∨ xs = []
  · have c1z : (itsz.toArray.isEmpty || k == 1) = true := by
      rcases c with c | c
      · rw [c]; simp
      · subst c
        have ez : itsz = [] := List.eq_nil_of_length_eq_zero (by rw [hlez]; rfl)
        rw [ez]; rfl
    exact call_meets F.slot_tuple_mul ⟨_, ho, rfl⟩ F.entry_tuple_mul (F.args_tuple_mul_2 _ _) (tup_mul_same l itsz.toArray n ddz slz k t c0z c1z) ⟨ho, ⟨.ref l, Hz, Iz, rfl, q1 c⟩⟩
  · have hx : xs ≠ [] := fun z => c (.inr z)
    have hk1 : k ≠ 1 := fun z => c (.inl z)
    have hnz : itsz ≠ [] := fun ez => hx (by
      rw [ez] at hlez
      exact List.eq_nil_of_length_eq_zero hlez.symm)
    have hiz : itsz.toArray.isEmpty = false := by
      cases itsz with
      | nil => exact absurd rfl hnz
      | cons a b => rfl
    have c1z : (itsz.toArray.isEmpty || k == 1) = false := by
      rw [hiz, Bool.false_or]
      exact beq_eq_false_iff_ne.mpr hk1
    by_cases hk : k ≤ 0
    · have c2z : (decide (k ≤ 0) || itsz.toArray.isEmpty) = true := by
        rw [decide_eq_true hk] <;> rfl
      refine call_meets F.slot_tuple_mul ⟨_, ho, rfl⟩ F.entry_tuple_mul (F.args_tuple_mul_2 _ _) (tup_mul_none l itsz.toArray n ddz slz k t c0z c1z c2z) ⟨ho, ?_⟩
      have e0 : (List.replicate k.toNat xs).flatten = [] := by
        rw [Int.toNat_of_nonpos hk] <;> rfl
      rw [e0] at q2
      refine ⟨.ref sz.heap.objs.size, _, Iz.laid (t' := sz.toks) (o := .tup []) (fun b ob q => Heap.get?_push_of_some _ q) (Nat.le_refl _) ?_, rfl, q2 c _ (Iz.hok.fresh (Nat.le_refl _))⟩
      exact ⟨Nat.zero_le _, [], .nil, IsTup.new _ _⟩
    · have c2z : (decide (k ≤ 0) || itsz.toArray.isEmpty) = false := by
        rw [hiz, Bool.or_false]
        exact decide_eq_false hk
      have hlen0 : 0 < xs.length := List.length_pos_iff.mpr hx
      have hm : ((itsz.toArray.size : Nat) : Int) * k ≤ 16777216 := by
        rw [List.size_toArray, hlez]
        have ez : k = ((k.toNat : Nat) : Int) := by omega
        rw [ez]
        have : (((xs.length * k.toNat : Nat)) : Int) ≤ ((16777216 : Nat) : Int) := Int.ofNat_le.mpr hz
        rw [Int.natCast_mul] at this
        exact this
      have flenz : (List.replicate k.toNat itsz).flatten.length ≤ sizeLine := by
        rw [PyProof.Rows.lm_len_rep_flat, hlez, sizeLine_eq, Nat.mul_comm]
        omega
      have c4z : Builtin.Tuple.tupleTooMany (((itsz.toArray.size : Nat) : Int) * k) = false := by
        unfold Builtin.Tuple.tupleTooMany
        rw [sizeLine_eq]
        exact decide_eq_false (by omega)
      refine call_meets F.slot_tuple_mul ⟨_, ho, rfl⟩ F.entry_tuple_mul (F.args_tuple_mul_2 _ _) (tuple_mulW l itsz.toArray n ddz slz k t c0z c1z c2z (by omega) c4z (by rw [size_rep, List.size_toArray]; exact flenz)) ⟨ho, ?_⟩
      rw [size_rep]
      refine ⟨.ref sz.heap.objs.size, _, Iz.laid (t' := sz.toks) (o := .tup (List.replicate k.toNat xs).flatten) (fun b ob q => Heap.get?_push_of_some _ q) (Nat.le_refl _) ?_, rfl, q2 c _ (Iz.hok.fresh (Nat.le_refl _))⟩
      exact ⟨by rw [PyProof.Rows.lm_len_rep_flat, sizeLine_eq, Nat.mul_comm]; omega, _, r.rep k.toNat, IsTup.new _ _⟩
section
variable {K : PySem.W.Frag} {wk : Bool}
/-- a product: ints, a list or a tuple times an int -/
def D.mulT : D → D → Option D
  | .tup xs, .int k => if decide (-4611686018427387904 ≤ k ∧ k < 4611686018427387904 ∧ xs.length * k.toNat ≤ 16777216) = true then some (.tup (List.replicate k.toNat xs).flatten) else none
  | x, y => D.mul x y
def rMulT (K : PySem.W.Frag) : R2 := fun x y H Q => rMulD x y H Q ∨ rRepTA K x y H Q
theorem op_mulT {X : Cx} : OpR X (binaryOp .Mult) (rMulT X.K) := OpR.or op_mulD op_repTA
theorem ok_mulT : BinOk K wk D.mulT (rMulT K) := by
  intro as Bs Bw H x y z v w Q h1 h2 rx ry e q
  cases x <;> try exact .inl (ok_mul as Bs Bw H _ y z v w Q h1 h2 rx ry e q)
  rename_i xs
  cases y <;> try (cases e; done)
  rename_i k
  unfold D.mulT at e
  simp only [] at e
  split at e
  · rename_i hc
    cases e
    have hc' := of_decide_eq_true hc
    obtain ⟨a, vs, e1, a1, a2⟩ := rx
    subst e1
    rw [a2.length] at hc'
    refine .inr ⟨a, k, vs, rfl, ry, a1, hc'.1, hc'.2.1, hc'.2.2, fun hk => ?_, fun _ p hp => ?_⟩
    · refine q _ _ Evo.refl ⟨a, vs, rfl, a1, ?_⟩
      rcases hk with hk | hk
      · subst hk
        have e1 : (List.replicate (1 : Int).toNat xs).flatten = xs := by simp
        rw [e1]
        exact a2
      · subst hk
        have e1 : xs = [] := List.eq_nil_of_length_eq_zero (by rw [a2.length]; rfl)
        subst e1
        have e2 : (List.replicate k.toNat ([] : List D)).flatten = [] := by simp
        rw [e2]
        exact rfl
    · exact q _ _ (Evo.new hp) (repNewT hp (a2.rep _))
  · cases e
end
end D2

namespace D2
open PySem PySem.Spec PyProof.Rows L2
/-! ### t[::-1], t a tuple -/
section
variable {prog : Program} {w : World} {A : Around} {E : Value → Shared → Prop} {s : Shared}
theorem adjust_rev (n : Nat) : Builtin.Slice.sliceAdjust none none (-1) (n : Int) = ((n : Int) - 1, -1) := by
  unfold Builtin.Slice.sliceAdjust
  simp
theorem places_rev (n : Nat) : Builtin.Slice.slicePlaces ((n : Int) - 1) (-1) (-1) = n := by
  unfold Builtin.Slice.slicePlaces
  have h1z : ¬ ((-1 : Int) > 0) := by decide
  simp only [h1z, if_false]
  by_cases hz : (n : Int) - 1 > -1
  · rw [if_pos hz, show (- -1 : Int) = 1 by decide, Int.ediv_one]
    omega
  · rw [if_neg hz]
    omega
theorem sliceApplied_rev {sl : Addr} {vlz vuz vsz : Value} {n : Nat} {Qz : Int × Int × Nat → Shared → Prop} (hsz : sz.heap.IsSliceOf sl vlz vuz vsz) (plz : IsPart vlz none) (puz : IsPart vuz none) (psz : IsPart vsz (some (-1)))
    (hz : Qz ((n : Int) - 1, -1, n) sz) : wpAny (model progz wz) Az (Builtin.Slice.sliceApplied (.ref sl) (pure (n : Int))) Qz Ez sz := by
  obtain ⟨osz, hosz, hcsz, hdsz⟩ := id hsz
  unfold Builtin.Slice.sliceApplied Builtin.Slice.sliceFields
  refine wpAny_bind (wpAny_bind (wpAny_field hosz hdsz (x := vlz) rfl (wpAny_bind (wpAny_field hosz hdsz (x := vuz) rfl (wpAny_bind (wpAny_field hosz hdsz (x := vsz) rfl (wpAny_pure ?_)))))))
  refine wpAny_bind (HT.slicePart_ psz ?_)
  show wpAny _ _ (if ((-1 : Int) == 0) = true then _ else _) _ _ sz
  rw [if_neg (by decide)]
  refine wpAny_bind (HT.slicePart_ plz (wpAny_bind (HT.slicePart_ puz (wpAny_bind (wpAny_pure ?_)))))
  show wpAny _ _ (match Builtin.Slice.sliceAdjust none none (-1) (n : Int) with | (lo, hi) => pure (lo, (-1 : Int), Builtin.Slice.slicePlaces lo hi (-1))) _ _ sz
  rw [adjust_rev n]
  show wpAny _ _ (pure ((n : Int) - 1, (-1 : Int), Builtin.Slice.slicePlaces ((n : Int) - 1) (-1) (-1))) _ _ sz
  rw [places_rev]
  exact wpAny_pure hz
theorem pick_rev (xsz : Array Value) : ((List.range xsz.size).filterMap fun (m : Nat) => xsz[(((xsz.size : Int) - 1) + (m : Int) * -1).toNat]?).toArray = xsz.toList.reverse.toArray := by
  have e : ∀ m, m ∈ List.range xsz.size → (fun (m : Nat) => xsz[(((xsz.size : Int) - 1) + (m : Int) * -1).toNat]?) m = (fun m => xsz[xsz.size - 1 - m]?) m := by
    intro m hm
    have := List.mem_range.mp hm
    have : (((xsz.size : Int) - 1) + (m : Int) * -1).toNat = xsz.size - 1 - m := by omega
    simp only [this]
  have cg : ∀ (l : List Nat), (∀ m, m ∈ l → (fun (m : Nat) => xsz[(((xsz.size : Int) - 1) + (m : Int) * -1).toNat]?) m = (fun m => xsz[xsz.size - 1 - m]?) m) → l.filterMap (fun (m : Nat) => xsz[(((xsz.size : Int) - 1) + (m : Int) * -1).toNat]?) = l.filterMap (fun m => xsz[xsz.size - 1 - m]?) := by
    intro l
    induction l with
    | nil => intro _; rfl
    | cons a l ih =>
      intro hz
      rw [List.filterMap_cons, List.filterMap_cons, ih fun m hm => hz m (List.mem_cons_of_mem _ hm)]
      have := hz a List.mem_cons_self
      simp only [] at this
      rw [this]
  rw [cg _ e]
  have h2 : (List.range xsz.size).filterMap (fun m => xsz[xsz.size - 1 - m]?) = ((List.range xsz.size).map fun k => xsz.size - 1 - k).filterMap (xsz[·]?) := by
    rw [List.filterMap_map]
    rfl
  rw [h2, PySem.W.krv_range, List.filterMap_reverse, PySem.W.krv_all]
theorem getItem_tuple_rev {t sl : Addr} {items : Array Value} {vlz vuz vsz : Value} {Qz : Value → Shared → Prop} (htz : IsTup sz.heap t items) (hsz : sz.heap.IsSliceOf sl vlz vuz vsz) (plz : IsPart vlz none) (puz : IsPart vuz none) (psz : IsPart vsz (some (-1)))
    (hz : Qz (.ref sz.heap.objs.size) { sz with heap := sz.heap.push { cls := .type "tuple", data := .seq items.toList.reverse.toArray } })
    (hszz : items.size ≤ sizeLine) : wpAny (model progz wz) Az (getItem (.ref t) (.ref sl)) Qz Ez sz := by
  have htakez : sizeOk (.seq items.toList.reverse.toArray) := by
    show items.toList.reverse.toArray.size ≤ sizeLine
    rw [List.size_toArray, List.length_reverse, Array.length_toList]
    omega
  obtain ⟨osz, hosz, hcsz, hdsz⟩ := id hsz
  have hTsz : sz.TypeIs (.ref sl) "slice" := ⟨osz, hosz, hcsz⟩
  unfold getItem
  try with_reducible refine wpAny_holding ?_
  first | refine wpAny_bind (wpAny_pure ?_) | skip
  refine wpAny_bind (wpAny_sequenceKey htz.typeIs (by decide) ?_)
  refine wpAny_bind (wpAny_callSpecial?_slot (name := Str.ofString "__getitem__") htz.typeIs PyProof.Rows.slot_tuple_getitem
    (wpAny_call_entry PyProof.Rows.slot_tuple_getitem htz.typeIs entry_tuple_getitem ?_ (args_tuple_getitem _ _)))
  show wpAny _ _ (Builtin.Tuple.tupleItemsOf (.ref t) >>= _) _ _ sz
  refine wpAny_bind (tupleItemsOf_ htz ?_)
  refine wpAny_bind (wpAny_typeOf hTsz ?_)
  rw [if_pos (by decide)]
  refine wpAny_bind (sliceApplied_rev hsz plz puz psz ?_)
  have hnoz : ¬ ((((items.size : Int) - 1) == 0 && (-1 : Int) == 1 && items.size == items.size) = true) := by
    intro qz
    rw [Bool.and_eq_true, Bool.and_eq_true] at qz
    exact absurd qz.1.2 (by decide)
  show wpAny _ _ (if (((items.size : Int) - 1) == 0 && (-1 : Int) == 1 && items.size == items.size) = true then _ else _) _ _ sz
  rw [if_neg hnoz, pick_rev]
  first
    | exact wpAny_bind (m := Builtin.Tuple.tupleExact _) (wpAny_newObj_type (wpAny_pure ⟨_, rfl, wpAny_pure hz⟩) htakez)
    | exact wpAny_bind (m := Builtin.Tuple.tupleExact _) (wpAny_newObj_type (wpAny_bind (wpAny_pure (wpAny_pure ⟨_, rfl, wpAny_pure hz⟩))) htakez)
    | exact wpAny_bind (wpAny_bind (m := Builtin.Tuple.tupleExact _) (wpAny_newObj_type (wpAny_pure (wpAny_pure ⟨_, rfl, wpAny_pure hz⟩)) htakez))
    | exact wpAny_bind (wpAny_bind (m := Builtin.Tuple.tupleExact _) (wpAny_newObj_type (wpAny_pure ⟨_, rfl, wpAny_pure hz⟩) htakez))
end
section
variable {X : Cx} {W : WX2} {wk : Bool}
def tRevT (K : PySem.W.Frag) (te : TE) : TE := fun σz Hz Qz => te σz Hz fun xz H1 => ∃ a xsz, xz = .ref a ∧ SqT K H1 a xsz ∧ ∀ p, H1 p = none → Qz (.ref p) (upd H1 p (.tup xsz.reverse))
theorem pe_revT {e : Expr} {te : TE} {k : Nat} {p1 p2 p3 pos : Pos} (hez : PE X e te) : PE X (.Subscript e (.Slice none none (some (.UnaryOp .USub (.Constant (.int 1) k p1) p2)) p3) pos) (tRevT X.K te) := by
  refine ⟨fun pinsz sz σz Hz Qz Iz hz => ?_⟩
  refine Subscript_ (thn (hez.run pinsz sz σz Hz _ Iz hz) fun vz s1z ⟨xz, H1, I1z, r1z, q1⟩ => ?_)
  obtain ⟨a, xsz, exz, hxz, qz⟩ := q1
  subst exz
  cases r1z
  have hstz : PO X (some (.UnaryOp .USub (.Constant (.int 1) k p1) p2)) (tPart (tUn (rU fun i => .int (-i)) (tC (.int 1)))) := po_some (pe_un un_neg pe_int)
  refine wpAny_Slice (thn (po_none.run pinsz s1z σz H1 (fun o H2 => o = none ∧ H2 = H1) I1z ⟨rfl, rfl⟩) fun vlz s2z ⟨l, H2, I2z, plz, el, e2⟩ => ?_)
  subst el e2
  refine thn (po_none.run pinsz s2z σz H2 (fun o H3 => o = none ∧ H3 = H2) I2z ⟨rfl, rfl⟩) fun vuz s3z ⟨u, H3, I3z, puz, eu, e3⟩ => ?_
  subst eu e3
  refine thn (hstz.run pinsz s3z σz H3 (fun o H4 => o = some (-1) ∧ H4 = H3) I3z ⟨1, rfl, -1, rfl, rfl, rfl⟩) fun vsz s4z ⟨o, H4, I4z, psz, eo, e4⟩ => ?_
  subst eo e4
  have I5z : Inv X pinsz σz H4 { s4z with heap := s4z.heap.push { cls := .type "slice", data := .fields #[vlz, vuz, vsz] } } := I4z.kept (t' := s4z.toks) fun b ob qz => Heap.get?_push_of_some _ qz
  obtain ⟨itsz, r, htz, hz⟩ := I5z.tuple hxz
  have hlen := r.length
  show wpAny (model X.prog X.w) X.A (subscriptTail e (.Slice none none (some (.UnaryOp .USub (.Constant (.int 1) k p1) p2)) p3) (.ref a) (.ref s4z.heap.objs.size)) (EP X pinsz σz Qz) X.xe { s4z with heap := s4z.heap.push { cls := .type "slice", data := .fields #[vlz, vuz, vsz] } }
  refine tail_any (ops := [.ref a, .ref s4z.heap.objs.size]) htz.typeIs (PyProof.Rows.slot_tuple_getitem.lookup) ?_ (by with_unfolding_all rfl)
  refine getItem_tuple_rev htz (Heap.IsSliceOf.new _ vlz vuz vsz) plz puz psz ?_ (by rw [List.size_toArray]; omega)
  refine ⟨.ref _, _, I5z.laid (t' := s4z.toks) (o := .tup xsz.reverse) (fun b ob qz => Heap.get?_push_of_some _ qz) (Nat.le_refl _) ?_, rfl, qz _ (I5z.hok.fresh (Nat.le_refl _))⟩
  exact ⟨by rw [List.length_reverse]; exact hz, _, r.reverse, IsTup.new _ _⟩
def D.revT : D → Option D
  | .tup xs => some (.tup xs.reverse)
  | _ => none
theorem e2_revT {e : Expr} {m : ME} {k : Nat} {p1 p2 p3 pos : Pos} (he : PE2 X W wk e m) : PE2 X W wk (.Subscript e (.Slice none none (some (.UnaryOp .USub (.Constant (.int 1) k p1) p2)) p3) pos) (mUn D.revT m) := by
  obtain ⟨t, a1, a2⟩ := he
  refine ⟨_, pe_revT a1, fun B H0 as ks ow sg S σ H Q r h => ?_⟩
  refine a2 _ _ _ _ _ _ _ _ _ _ r (Den.bind h fun d S1 v H1 e0 e1 s1 q1 h1 => ?_)
  clear e0
  cases d <;> try exact False.elim h1
  rename_i ds
  obtain ⟨a, xs, ev, g1, g2⟩ := q1
  subst ev
  exact ⟨a, xs, rfl, g1, fun p hp => h1 _ _ (Evo.new hp) ((r.step e1 s1).stoNew (Evo.new hp)) (repNewT hp (RepA.reverse g2))⟩
/-! ### a op b op c op d -/
def tChainT (r' r'' : R2) (tc td : TE) (σ : L2.St) (y : V) (H3 : Hp) (Q : VK) : Prop := tc σ H3 fun w' H4 => r' y w' H4 fun z' H5 => ∃ k', z' = .bl k' ∧ (if k' = true then td σ H5 fun w2 H6 => r'' w' w2 H6 Q else Q (.bl false) H5)
def tChain3 (r r' r'' : R2) (ta tb tc td : TE) : TE := fun σ H Q => ta σ H fun x H1 => tb σ H1 fun y H2 => r x y H2 fun z H3 => ∃ k, z = .bl k ∧
  (if k = true then tChainT r' r'' tc td σ y H3 Q else Q (.bl false) H3)
variable {a b c d : Expr} {ta tb tc td : TE} {pos : Pos}
theorem pe_chain3 {op op' op2 : CmpOp} {r r' r2 : R2} (ho : OpR X (compareOp op) r) (ho' : OpR X (compareOp op') r') (ho2 : OpR X (compareOp op2) r2) (ha : PE X a ta) (hb : PE X b tb) (hc : PE X c tc) (hd : PE X d td)
    (hm : lastMarks [op, op', op2] [b, c, d] = false := by with_unfolding_all rfl) : PE X (.Compare a [op, op', op2] [b, c, d] pos) (tChain3 r r' r2 ta tb tc td) := by
  refine ⟨fun pins s σ H Q I h => ?_⟩
  refine Compare_chain (thn (ha.run pins s σ H _ I h) fun v s1 ⟨x, H1, I1, r1, q1⟩ => chain_link (thn (hb.run pins s1 σ H1 _ I1 q1) fun u s2 ⟨y, H2, I2, rr2, q2⟩ =>
    thn (ho pins s2 σ H2 x y v u _ I2 r1 rr2 q2) fun d1 s3 ⟨z, H3, I3, r3, k, e, q3⟩ => ?_)) hm
  subst e
  cases r3
  refine wpAny_truthy_bool ?_
  cases k with
  | false => exact ite_ff ⟨.bl false, H3, I3, rfl, q3⟩
  | true =>
    refine ite_tt (chain_link (thn (hc.run pins s3 σ H3 _ I3 q3) fun w' s4 ⟨z', H4, I4, r4, q4⟩ => thn (ho' pins s4 σ H4 y z' u w' _ I4 rr2 r4 q4) fun d2 s5 ⟨z2, H5, I5, r5, k2, e2, q5⟩ => ?_))
    subst e2
    cases r5
    refine wpAny_truthy_bool ?_
    cases k2 with
    | false => exact ite_ff ⟨.bl false, H5, I5, rfl, q5⟩
    | true => exact ite_tt (chain_last (thn (hd.run pins s5 σ H5 _ I5 q5) fun w2 s6 ⟨z3, H6, I6, r6, q6⟩ => ho2 pins s6 σ H6 z' z3 w' w2 Q I6 r4 r6 q6))
theorem pt_chain3 {op op' op2 : CmpOp} {r r' r2 : R2} (ho : OpR X (compareOp op) r) (ho' : OpR X (compareOp op') r') (ho2 : OpR X (compareOp op2) r2) (ha : PE X a ta) (hb : PE X b tb) (hc : PE X c tc) (hd : PE X d td)
    (hm : lastMarks [op, op', op2] [b, c, d] = false := by with_unfolding_all rfl) : PT X (.Compare a [op, op', op2] [b, c, d] pos) (tTest (tChain3 r r' r2 ta tb tc td)) := by
  refine ⟨fun pins s σ H Q I h => ?_⟩
  refine isTrue_chain (thn (ha.run pins s σ H _ I h) fun v s1 ⟨x, H1, I1, r1, q1⟩ => test_link (thn (hb.run pins s1 σ H1 _ I1 q1) fun u s2 ⟨y, H2, I2, rr2, q2⟩ =>
    thn (ho pins s2 σ H2 x y v u _ I2 r1 rr2 q2) fun d1 s3 ⟨z, H3, I3, r3, k, e, q3⟩ => ?_)) hm
  subst e
  cases r3
  refine wpAny_truthy_bool ?_
  cases k with
  | false =>
    obtain ⟨k', e', q'⟩ := q3
    cases e'
    exact ite_ff ⟨H3, I3, q'⟩
  | true =>
    refine ite_tt (test_link (thn (hc.run pins s3 σ H3 _ I3 q3) fun w' s4 ⟨z', H4, I4, r4, q4⟩ => thn (ho' pins s4 σ H4 y z' u w' _ I4 rr2 r4 q4) fun d2 s5 ⟨z2, H5, I5, r5, k2, e2, q5⟩ => ?_))
    subst e2
    cases r5
    refine wpAny_truthy_bool ?_
    cases k2 with
    | false =>
      obtain ⟨k', e', q'⟩ := q5
      cases e'
      exact ite_ff ⟨H5, I5, q'⟩
    | true =>
      refine ite_tt (test_last (thn (hd.run pins s5 σ H5 _ I5 q5) fun w2 s6 ⟨z3, H6, I6, r6, q6⟩ => thn (ho2 pins s6 σ H6 z' z3 w' w2 _ I6 r4 r6 q6) fun d3 s7 ⟨z4, H7, I7, r7, k3, e3, q7⟩ => ?_))
      subst e3
      cases r7
      exact wpAny_truthy_bool ⟨H7, I7, q7⟩
variable {ma mb mc md : ME}
def mChT (g h : D → D → Option D) (y : D) (mc md : ME) (sg : List Sl) (S : List O) : R (D × List O) := (mc sg S).bind fun z => match g y z.1 with
  | some (.bl true) => (md sg z.2).bind fun w => R.of ((h z.1 w.1).map fun u => (u, w.2))
  | some (.bl false) => .ok (.bl false, z.2)
  | _ => .bad
def mChain3 (f g h : D → D → Option D) (ma mb mc md : ME) : ME := fun sg S => (ma sg S).bind fun x => (mb sg x.2).bind fun y => match f x.1 y.1 with
  | some (.bl true) => mChT g h y.1 mc md sg y.2
  | some (.bl false) => .ok (.bl false, y.2)
  | _ => .bad
theorem chain3_den {op op' op2 : CmpOp} {r2 r2' r2'' : R2} {f g h3 : D → D → Option D} (hop : BinOk X.K wk f r2) (hop' : BinOk X.K wk g r2') (hop2 : BinOk X.K wk h3 r2'')
    (ha : ∀ B H0 as ks ow sg S σ H (Q : VK), Rl X.K B H0 as ks ow sg S σ H → Den (ctOf X W B H0 as ks) ow ((ctOf X W B H0 as ks).rp ow wk) (ma sg S) H Q → ta σ H Q)
    (hb : ∀ B H0 as ks ow sg S σ H (Q : VK), Rl X.K B H0 as ks ow sg S σ H → Den (ctOf X W B H0 as ks) ow ((ctOf X W B H0 as ks).rp ow wk) (mb sg S) H Q → tb σ H Q)
    (hc : ∀ B H0 as ks ow sg S σ H (Q : VK), Rl X.K B H0 as ks ow sg S σ H → Den (ctOf X W B H0 as ks) ow ((ctOf X W B H0 as ks).rp ow wk) (mc sg S) H Q → tc σ H Q)
    (hd : ∀ B H0 as ks ow sg S σ H (Q : VK), Rl X.K B H0 as ks ow sg S σ H → Den (ctOf X W B H0 as ks) ow ((ctOf X W B H0 as ks).rp ow wk) (md sg S) H Q → td σ H Q)
    {B : Addr → Prop} {H0 : Hp} {as : List Addr} {ks : List (D × V)} {ow : List (Option Addr)} {sg : List Sl} {S : List O} {σ : L2.St} {H : Hp} {Q : VK} (r : Rl X.K B H0 as ks ow sg S σ H) (h : Den (ctOf X W B H0 as ks) ow ((ctOf X W B H0 as ks).rp ow wk) (mChain3 f g h3 ma mb mc md sg S) H Q) : tChain3 r2 r2' r2'' ta tb tc td σ H Q := by
  refine ha _ _ _ _ _ _ _ _ _ _ r (Den.bind h fun x S1 v H1 _ e1 s1 q1 h1 => ?_)
  have r1 := r.step e1 s1
  refine hb _ _ _ _ _ _ _ _ _ _ r1 (Den.bind h1 fun y S2 w H2 _ e2 s2 q2 h2 => ?_)
  have r2 := r1.step e2 s2
  have q1' := Rep.imp (B' := if wk then (· ∈ as) else Bd B ow) e2 (asWk r) (fun _ z => z) x v q1
  cases e : f x y with
  | none => simp only [e] at h2; exact False.elim h2
  | some z =>
    refine hop as (Bd B ow) (· ∈ as) H2 x y z v w _ r.asBd r2.bdDom q1' q2 e fun u H' e3 q3 => ?_
    have s3 := r2.stoNew e3
    have r3 := r2.step e3.any s3
    cases z <;> try (simp only [e] at h2; exact False.elim h2)
    rename_i k
    refine ⟨k, q3, ?_⟩
    cases k with
    | false =>
      simp only [e] at h2
      exact h2 _ H' e3.any s3 rfl
    | true =>
      simp only [e] at h2
      unfold mChT at h2
      refine hc _ _ _ _ _ _ _ _ _ _ r3 (Den.bind (Den.evo e3.any h2) fun z S4 w4 H4 _ e4 s4 q4 h4 => ?_)
      have r4 := r3.step e4 s4
      cases e' : g y z with
      | none => simp only [e'] at h4; exact False.elim h4
      | some u2 =>
        have q2' := Rep.imp (B' := if wk then (· ∈ as) else Bd B ow) (e3.any.trans e4) (asWk r) (fun _ z => z) y w q2
        refine hop' as (Bd B ow) (· ∈ as) H4 y z u2 w w4 _ r.asBd r4.bdDom q2' q4 e' fun u5 H5 e5 q5 => ?_
        have s5 := r4.stoNew e5
        have r5 := r4.step e5.any s5
        cases u2 <;> try (simp only [e'] at h4; exact False.elim h4)
        rename_i k2
        refine ⟨k2, q5, ?_⟩
        cases k2 with
        | false =>
          simp only [e'] at h4
          exact h4 _ H5 e5.any s5 rfl
        | true =>
          simp only [e'] at h4
          refine hd _ _ _ _ _ _ _ _ _ _ r5 (Den.bind (Den.evo e5.any h4) fun z6 S6 w6 H6 _ e6 s6 q6 h6 => ?_)
          have r6 := r5.step e6 s6
          cases e7 : h3 z z6 with
          | none => simp only [e7] at h6; exact False.elim h6
          | some u7 =>
            simp only [e7] at h6
            have q4' := Rep.imp (B' := if wk then (· ∈ as) else Bd B ow) (e5.any.trans e6) (asWk r) (fun _ z => z) z w4 q4
            refine hop2 as (Bd B ow) (· ∈ as) H6 z z6 u7 w4 w6 Q r.asBd r6.bdDom q4' q6 e7 fun u8 H8 e8 q8 => ?_
            exact h6 u8 H8 e8.any (r6.stoNew e8) q8
theorem e2_chain3 {op op' op2 : CmpOp} {r2 r2' r2'' : R2} {f g h3 : D → D → Option D} (ho : OpR X (compareOp op) r2) (hop : BinOk X.K wk f r2) (ho' : OpR X (compareOp op') r2') (hop' : BinOk X.K wk g r2') (ho2 : OpR X (compareOp op2) r2'') (hop2 : BinOk X.K wk h3 r2'')
    (ha : PE2 X W wk a ma) (hb : PE2 X W wk b mb) (hc : PE2 X W wk c mc) (hd : PE2 X W wk d md) (hm : lastMarks [op, op', op2] [b, c, d] = false := by with_unfolding_all rfl) : PE2 X W wk (.Compare a [op, op', op2] [b, c, d] pos) (mChain3 f g h3 ma mb mc md) := by
  obtain ⟨ta, a1, a2⟩ := ha
  obtain ⟨tb, b1, b2⟩ := hb
  obtain ⟨tc, c1, c2⟩ := hc
  obtain ⟨td, d1, d2⟩ := hd
  exact ⟨_, pe_chain3 ho ho' ho2 a1 b1 c1 d1 hm, fun B H0 as ks ow sg S σ H Q r h => chain3_den (op := op) (op' := op') (op2 := op2) hop hop' hop2 a2 b2 c2 d2 r h⟩
theorem t2_chain3 {op op' op2 : CmpOp} {r2 r2' r2'' : R2} {f g h3 : D → D → Option D} (ho : OpR X (compareOp op) r2) (hop : BinOk X.K wk f r2) (ho' : OpR X (compareOp op') r2') (hop' : BinOk X.K wk g r2') (ho2 : OpR X (compareOp op2) r2'') (hop2 : BinOk X.K wk h3 r2'')
    (ha : PE2 X W wk a ma) (hb : PE2 X W wk b mb) (hc : PE2 X W wk c mc) (hd : PE2 X W wk d md) (hm : lastMarks [op, op', op2] [b, c, d] = false := by with_unfolding_all rfl) : PT2 X W (.Compare a [op, op', op2] [b, c, d] pos) (mTst (mChain3 f g h3 ma mb mc md)) := by
  obtain ⟨ta, a1, a2⟩ := ha
  obtain ⟨tb, b1, b2⟩ := hb
  obtain ⟨tc, c1, c2⟩ := hc
  obtain ⟨td, d1, d2⟩ := hd
  refine ⟨_, pt_chain3 ho ho' ho2 a1 b1 c1 d1 hm, fun B H0 as ks ow sg S σ H Q r h => ?_⟩
  refine chain3_den (op := op) (op' := op') (op2 := op2) (W := W) hop hop' hop2 a2 b2 c2 d2 r (Q := fun x H' => ∃ k, x = .bl k ∧ Q k H') (Den.bind h fun d S' v H' e0 e s q h => ?_)
  clear e0
  cases d <;> try exact False.elim h
  rename_i b
  have e : v = .bl b := q
  exact ⟨b, e, h b H' Evo.refl s rfl⟩
end
end D2

namespace D2
open PySem PySem.Spec PyProof.Rows L2
/-! ### order of data that are alike -/
mutual
theorem pd_inj : ∀ (x y : D) (n m : Nat), x.okq n = true → y.okq m = true → x.pd = y.pd → x = y
  | .non, y, n, m, _, h2, e => by
    cases y <;> simp [D.pd, D.okq] at e h2 ⊢
  | .bl _, y, n, m, _, h2, e => by
    cases y <;> simp [D.pd, D.okq] at e h2 ⊢
    exact e
  | .int _, y, n, m, _, h2, e => by
    cases y <;> simp [D.pd, D.okq] at e h2 ⊢
    exact e
  | .str _, y, n, m, _, h2, e => by
    cases y <;> simp [D.pd, D.okq] at e h2 ⊢
    exact e
  | .tup ds, y, n, m, h1, h2, e => by
    cases y <;> simp [D.pd] at e ⊢
    cases n <;> simp [D.okq] at h1
    cases m <;> simp [D.okq] at h2
    exact pd_injA ds _ _ _ h1 h2 e
  | .lst ds, y, n, m, h1, h2, e => by
    cases y <;> simp [D.pd] at e ⊢
    cases n <;> simp [D.okq] at h1
    cases m <;> simp [D.okq] at h2
    exact pd_injA ds _ _ _ h1 h2 e
  | .dic _ _, _, _, _, h1, _, _ => by simp [D.okq] at h1
  | .rng _ _, _, _, _, h1, _, _ => by simp [D.okq] at h1
  | .xd _ _, _, _, _, h1, _, _ => by simp [D.okq] at h1
  | .ref _, _, _, _, h1, _, _ => by simp [D.okq] at h1
theorem pd_injA : ∀ (xs ys : List D) (n m : Nat), D.okqA xs n = true → D.okqA ys m = true → D.pdA xs = D.pdA ys → xs = ys
  | [], ys, _, _, _, _, e => by
    cases ys
    · rfl
    · simp [D.pdA] at e
  | x :: xs, [], _, _, _, _, e => by simp [D.pdA] at e
  | x :: xs, y :: ys, n, m, h1, h2, e => by
    simp only [D.okqA, Bool.and_eq_true] at h1 h2
    simp only [D.pdA, List.cons.injEq] at e
    rw [pd_inj x y n m h1.1 h2.1 e.1, pd_injA xs ys n m h1.2 h2.2 e.2]
end
theorem pdA_map : ∀ ds : List D, D.pdA ds = ds.map D.pd
  | [] => rfl
  | d :: ds => by rw [D.pdA, pdA_map ds, List.map_cons]
theorem okqA_mem : ∀ {ds : List D} {n : Nat} {d : D}, D.okqA ds n = true → d ∈ ds → d.okq n = true
  | c :: ds, n, d, h, hd => by
    simp only [D.okqA, Bool.and_eq_true] at h
    rcases List.mem_cons.mp hd with e | hd
    · rw [e]; exact h.1
    · exact okqA_mem h.2 hd
theorem okqA_of : ∀ {ds : List D} {n : Nat}, (∀ d ∈ ds, d.okq n = true) → D.okqA ds n = true
  | [], _, _ => rfl
  | d :: ds, n, h => by
    simp only [D.okqA, Bool.and_eq_true]
    exact ⟨h d List.mem_cons_self, okqA_of fun x hx => h x (List.mem_cons_of_mem _ hx)⟩
def D.ltb (x y : D) : Bool := PySem.W.dataLt x.pd y.pd
def D.alk (x y : D) : Bool := PySem.W.alike x.pd y.pd
def D.noN : D → Bool
  | .non => false
  | _ => true
/-- they can be ordered -/
def D.cmpOk (x y : D) : Bool := x.okq 50 && y.okq 50 && x.alk y && x.noN
theorem pd_non {x : D} {n : Nat} (h : x.okq n = true) (k : x.noN = true) : x.pd ≠ .none := by
  cases x <;> simp [D.pd, D.okq, D.noN] at h k ⊢
def D.ltG (x y : D) : Option D := if x.cmpOk y = true then some (.bl (x.ltb y)) else none
def D.gtG (x y : D) : Option D := if x.cmpOk y = true then some (.bl (y.ltb x)) else none
def D.leG (x y : D) : Option D := if x.cmpOk y = true then some (.bl (!y.ltb x)) else none
def D.geG (x y : D) : Option D := if x.cmpOk y = true then some (.bl (!x.ltb y)) else none
def rCmpD (K : PySem.W.Frag) (f : PyData → PyData → Bool) : R2 := fun x y H Q => ∃ d e, Dp K H x d ∧ Dp K H y e ∧ d.depth ≤ 60 ∧ e.depth ≤ 60 ∧ PySem.W.alike d e = true ∧ d ≠ .none ∧ Q (.bl (f d e)) H
section
variable {X : Cx} {K : PySem.W.Frag} {wk : Bool}
theorem op_ltD (hu : X.A.units + 64 < cLine) : OpR X (compareOp .Lt) (rCmpD X.K fun d e => PySem.W.dataLt d e) := by
  intro pins s σ H x y v u Q I rx ry h
  obtain ⟨d, e, hd, he, d1, e1, al, nn, q⟩ := h
  obtain ⟨as, r1⟩ := Dp.reads I d x v hd rx
  obtain ⟨bs, r2⟩ := Dp.reads I e y u he ry
  exact PySem.W.lt_data r1 r2 al nn (by omega) ⟨.bl _, H, I, rfl, q⟩
theorem op_gtD (hu : X.A.units + 64 < cLine) : OpR X (compareOp .Gt) (rCmpD X.K fun d e => PySem.W.dataLt e d) := by
  intro pins s σ H x y v u Q I rx ry h
  obtain ⟨d, e, hd, he, d1, e1, al, nn, q⟩ := h
  obtain ⟨as, r1⟩ := Dp.reads I d x v hd rx
  obtain ⟨bs, r2⟩ := Dp.reads I e y u he ry
  exact PySem.W.gt_data r1 r2 al nn (by omega) ⟨.bl _, H, I, rfl, q⟩
theorem op_leD (hu : X.A.units + 64 < cLine) : OpR X (compareOp .LtE) (rCmpD X.K fun d e => !PySem.W.dataLt e d) := by
  intro pins s σ H x y v u Q I rx ry h
  obtain ⟨d, e, hd, he, d1, e1, al, nn, q⟩ := h
  obtain ⟨as, r1⟩ := Dp.reads I d x v hd rx
  obtain ⟨bs, r2⟩ := Dp.reads I e y u he ry
  exact PySem.W.le_data r1 r2 al nn (by omega) ⟨.bl _, H, I, rfl, q⟩
theorem op_geD (hu : X.A.units + 64 < cLine) : OpR X (compareOp .GtE) (rCmpD X.K fun d e => !PySem.W.dataLt d e) := by
  intro pins s σ H x y v u Q I rx ry h
  obtain ⟨d, e, hd, he, d1, e1, al, nn, q⟩ := h
  obtain ⟨as, r1⟩ := Dp.reads I d x v hd rx
  obtain ⟨bs, r2⟩ := Dp.reads I e y u he ry
  exact PySem.W.ge_data r1 r2 al nn (by omega) ⟨.bl _, H, I, rfl, q⟩
theorem ok_cmpG {f : PyData → PyData → Bool} {g : D → D → Option D} (hg : ∀ x y z, g x y = some z → x.cmpOk y = true ∧ z = .bl (f x.pd y.pd)) : BinOk K wk g (rCmpD K f) := by
  intro as Bs Bw H x y z v w Q h1 h2 rx ry e q
  obtain ⟨c, ez⟩ := hg x y z e
  subst ez
  unfold D.cmpOk at c
  simp only [Bool.and_eq_true] at c
  obtain ⟨⟨⟨c1, c2⟩, c3⟩, c4⟩ := c
  obtain ⟨p1, p2, p3⟩ := okq_dp x v 50 rx c1
  obtain ⟨k1, k2, k3⟩ := okq_dp y w 50 ry c2
  exact ⟨x.pd, y.pd, p1, k1, by omega, by omega, c3, pd_non c1 c4, q _ H Evo.refl rfl⟩
theorem ok_ltG : BinOk K wk D.ltG (rCmpD K fun d e => PySem.W.dataLt d e) := ok_cmpG fun x y z e => by
  unfold D.ltG at e
  split at e
  · rename_i c; cases e; exact ⟨c, rfl⟩
  · cases e
theorem ok_gtG : BinOk K wk D.gtG (rCmpD K fun d e => PySem.W.dataLt e d) := ok_cmpG fun x y z e => by
  unfold D.gtG at e
  split at e
  · rename_i c; cases e; exact ⟨c, rfl⟩
  · cases e
theorem ok_leG : BinOk K wk D.leG (rCmpD K fun d e => !PySem.W.dataLt e d) := ok_cmpG fun x y z e => by
  unfold D.leG at e
  split at e
  · rename_i c; cases e; exact ⟨c, rfl⟩
  · cases e
theorem ok_geG : BinOk K wk D.geG (rCmpD K fun d e => !PySem.W.dataLt d e) := ok_cmpG fun x y z e => by
  unfold D.geG at e
  split at e
  · rename_i c; cases e; exact ⟨c, rfl⟩
  · cases e
mutual
theorem depth_okq : ∀ (d : D) (n : Nat), d.okq n = true → d.pd.depth ≤ n + 1
  | .non, n, _ => by simp [D.pd, PyData.depth]
  | .bl _, n, _ => by simp [D.pd, PyData.depth]
  | .int _, n, _ => by simp [D.pd, PyData.depth]
  | .str _, n, _ => by simp [D.pd, PyData.depth]
  | .tup ds, n, h => by
    cases n <;> simp [D.okq] at h
    rename_i n
    have := depth_okqA ds n h
    simp only [D.pd, PyData.depth]
    omega
  | .lst ds, n, h => by
    cases n <;> simp [D.okq] at h
    rename_i n
    have := depth_okqA ds n h
    simp only [D.pd, PyData.depth]
    omega
  | .dic _ _, _, h => by simp [D.okq] at h
  | .rng _ _, _, h => by simp [D.okq] at h
  | .xd _ _, _, h => by simp [D.okq] at h
  | .ref _, _, h => by simp [D.okq] at h
theorem depth_okqA : ∀ (ds : List D) (n : Nat), D.okqA ds n = true → PyData.depthAll (D.pdA ds) ≤ n + 1
  | [], n, _ => by simp [D.pdA, PyData.depthAll]
  | d :: ds, n, h => by
    simp only [D.okqA, Bool.and_eq_true] at h
    have h1 := depth_okq d n h.1
    have h2 := depth_okqA ds n h.2
    simp only [D.pdA, PyData.depthAll]
    omega
end
/-! ### sorted of a list of such -/
def D.leS (x y : D) : Bool := PySem.W.dataLe false D.pd x y
def D.tupP : D → Bool
  | .tup (_ :: _) => true
  | _ => false
def D.othP : D → Bool
  | .non => false
  | .tup _ => false
  | _ => true
def D.sortOk (ds : List D) : Bool := D.okqA ds 50 && (ds.all fun x => ds.all fun y => x.alk y) && (ds.all D.tupP || ds.all D.othP) && decide (ds.length ≤ 16777216)
def D.sortG : D → Option D
  | .lst ds => if D.sortOk ds = true then some (.lst (ds.mergeSort D.leS)) else none
  | _ => none
def rSortG (K : PySem.W.Frag) : List V → Hp → VK → Prop := fun vs H Q => ∃ (a : Addr) (xs : List V) (ds : List D), vs = [V.ref a] ∧ SqL K H a xs ∧ xs.length = ds.length ∧ DpAll K H xs (D.pdA ds) ∧ D.sortOk ds = true ∧
  ∀ p, H p = none → Q (.ref p) (upd H p (.lst (((xs.zip ds).mergeSort fun b c => D.leS b.2 c.2).map Prod.fst)))
theorem each_zip {us : List Value} : ∀ {xs : List V} {ds : List D}, Vals xs us → xs.length = ds.length → PySem.W.EachIs (fun (u : Value) (b : V × D) => RelV b.1 u) us (xs.zip ds) := by
  induction us with
  | nil =>
    intro xs ds r hl
    cases r
    exact .nil
  | cons u us ih =>
    intro xs ds r hl
    cases r with
    | cons r1 r2 =>
      cases ds with
      | nil => cases hl
      | cons d ds => exact .cons r1 (ih r2 (by simpa using hl))
theorem each_reads {h : Heap} : ∀ {us : List Value} {xs : List V} {ds : List D} {as : List Addr}, us.length = xs.length → xs.length = ds.length → ReadsAll h us (D.pdA ds) as → PySem.W.EachIs (fun (v : Value) (b : V × D) => ∃ as, Reads h v b.2.pd as) us (xs.zip ds)
  | [], [], [], _, _, _, _ => .nil
  | u :: us, x :: xs, d :: ds, _, h1, h2, r => by
    cases r with
    | cons r1 r2 => exact .cons ⟨_, r1⟩ (each_reads (by simpa using h1) (by simpa using h2) r2)
  | [], _ :: _, _, _, h1, _, _ => by cases h1
  | _ :: _, [], _, _, h1, _, _ => by cases h1
  | _, _ :: _, [], _, _, h2, _ => by cases h2
  | _, [], _ :: _, _, _, h2, _ => by cases h2
theorem vals_each : ∀ {out : List Value} {bs : List (V × D)}, PySem.W.EachIs (fun (u : Value) (b : V × D) => RelV b.1 u) out bs → Vals (bs.map Prod.fst) out
  | _, _, .nil => .nil
  | _, _, .cons r t => .cons r (vals_each t)
theorem zip_snd {xs : List V} {ds : List D} (h : xs.length = ds.length) : (xs.zip ds).map Prod.snd = ds := List.map_snd_zip (by omega)
theorem depth_mem : ∀ {xs : List PyData} {x : PyData}, x ∈ xs → x.depth ≤ PyData.depthAll xs
  | y :: ys, x, h => by
    rw [PyData.depthAll]
    rcases List.mem_cons.mp h with e | h
    · rw [e]; omega
    · have := depth_mem h; omega
theorem cr_sortG (hc : X.calm = true) (hu : X.A.units + 64 < cLine) : CallR X (.builtin "sorted") (rSortG X.K) := by
  intro pins s σ H vs us Q I r h
  obtain ⟨a, xs, ds, rfl, hs, hl, hdp, hok, q⟩ := h
  obtain ⟨its, rv, hli, hz⟩ := I.list hs
  rw [Vals.ref1 r]
  obtain ⟨as, rd⟩ := Dp.readsAll I _ _ _ hdp rv
  unfold D.sortOk at hok
  simp only [Bool.and_eq_true, Bool.or_eq_true, List.all_eq_true, decide_eq_true_eq] at hok
  obtain ⟨⟨⟨o1, o2⟩, o3⟩, o4⟩ := hok
  have eenc : (xs.zip ds).map (fun b => b.2.pd) = ds.map D.pd := by
    rw [show (fun b : V × D => b.2.pd) = D.pd ∘ Prod.snd from rfl, ← List.map_map, zip_snd hl]
  have hdep : ∀ d ∈ ds, d.pd.depth ≤ 51 := fun d hd => by
    exact depth_okq d 50 (okqA_mem o1 hd)
  have lz : (xs.zip ds).length = xs.length := by rw [List.length_zip]; omega
  refine PySem.W.sorted_data (bs := xs.zip ds) (enc := fun b => b.2.pd) (R := fun u b => RelV b.1 u) hli.isList (each_zip rv hl) (each_reads rv.length.symm hl rd) ?_ ?_ (by rw [lz]; exact hz) (fun b hb => ?_) fun out ho eo => ?_
  · rw [eenc]
    intro d hd d' hd'
    obtain ⟨x, hx, rfl⟩ := List.mem_map.mp hd
    obtain ⟨y, hy, rfl⟩ := List.mem_map.mp hd'
    exact o2 x hx y hy
  · rw [eenc]
    rcases o3 with o3 | o3
    · refine .inl fun d hd => ?_
      obtain ⟨x, hx, rfl⟩ := List.mem_map.mp hd
      have := o3 x hx
      cases x <;> simp [D.tupP] at this
      rename_i ys
      cases ys with
      | nil => simp [D.tupP] at this
      | cons y ys => exact ⟨y.pd, D.pdA ys, by simp [D.pd, D.pdA]⟩
    · refine .inr fun d hd => ?_
      obtain ⟨x, hx, rfl⟩ := List.mem_map.mp hd
      have h1 := o3 x hx
      have h2 := okqA_mem o1 hx
      cases x <;> simp [D.othP, D.pd, D.okq] at h1 h2 ⊢
  · have := hdep b.2 (List.of_mem_zip hb).2
    omega
  · obtain ⟨ep, he'⟩ := PyProof.Rows.sortedAll_at s.heap its out.toArray
    have r2 := vals_each eo
    have hlen : (((xs.zip ds).mergeSort fun b c => D.leS b.2 c.2).map Prod.fst).length ≤ sizeLine := by
      rw [List.length_map, List.length_mergeSort, lz]
      exact hz
    exact ⟨.ref _, upd H (s.heap.objs.size + 1) (.lst (((xs.zip ds).mergeSort fun b c => D.leS b.2 c.2).map Prod.fst)), I.laid (t' := s.toks) (fun _ _ => PyProof.Rows.sortedAll_old) (Nat.le_succ _) ⟨hlen, out, ep, r2, he'⟩, rfl, q _ (I.hok.fresh (Nat.le_succ _))⟩
end
end D2

namespace D2
open PySem PySem.Spec PyProof.Rows L2
section
variable {K : PySem.W.Frag} {wk : Bool}
theorem repA_mem {as : List Addr} {B : Addr → Prop} {H : Hp} : ∀ {bs : List (V × D)}, (∀ b ∈ bs, Rep K as B H b.2 b.1) → RepA K as B H (bs.map Prod.snd) (bs.map Prod.fst)
  | [], _ => rfl
  | b :: bs, h => ⟨b.1, bs.map Prod.fst, rfl, h b List.mem_cons_self, repA_mem fun c hc => h c (List.mem_cons_of_mem _ hc)⟩
theorem repA_zip {as : List Addr} {B : Addr → Prop} {H : Hp} : ∀ {ds : List D} {xs : List V}, RepA K as B H ds xs → ∀ b ∈ xs.zip ds, Rep K as B H b.2 b.1
  | [], xs, h, b, hb => by
    have e : xs = [] := h
    subst e
    cases hb
  | d :: ds, xs, h, b, hb => by
    obtain ⟨v, vs, e, h1, h2⟩ := h
    subst e
    rw [List.zip_cons_cons] at hb
    rcases List.mem_cons.mp hb with e | hb
    · rw [e]; exact h1
    · exact repA_zip h2 b hb
theorem ok_sortG : CallOk K wk (on1 D.sortG) (rSortG K) := by
  refine ok_on1 fun as Bs Bw H d z v Q h1 h2 hr e q => ?_
  cases d <;> try (cases e; done)
  rename_i ds
  unfold D.sortG at e
  simp only [] at e
  split at e
  · rename_i hok
    cases e
    obtain ⟨a, xs, e1, nb, a1, a2⟩ := hr
    subst e1
    have hok' := hok
    unfold D.sortOk at hok'
    simp only [Bool.and_eq_true] at hok'
    refine ⟨a, xs, ds, rfl, SqL.of a1, a2.length.symm, (okqA_dp ds xs 50 a2 hok'.1.1.1).1, hok, fun p hp => ?_⟩
    refine q _ _ (Evo.new hp) ⟨p, _, rfl, newB h1 h2 hp, upd_same, ?_⟩
    have hm := List.map_mergeSort (l := xs.zip ds) (r := fun b c => D.leS b.2 c.2) (s := D.leS) (f := Prod.snd) (fun a _ b _ => rfl)
    rw [zip_snd a2.length.symm] at hm
    rw [← hm]
    refine RepA.new hp (repA_mem fun b hb => ?_)
    exact repA_zip a2 b ((List.mergeSort_perm _ _).mem_iff.mp hb)
  · cases e
/-! ### sorted of a tuple of such -/
end
/-! ### len(set(x)), x a list of ints -/
theorem dedup_nodup : ∀ (l : List Int) (acc : List Int), acc.Nodup → (l.foldl PyProof.Rows.step_dedup acc).Nodup ∧ ∀ k, k ∈ l.foldl PyProof.Rows.step_dedup acc ↔ k ∈ acc ∨ k ∈ l
  | [], acc, h => ⟨h, fun k => by simp⟩
  | x :: l, acc, h => by
    rw [List.foldl_cons]
    unfold PyProof.Rows.step_dedup
    by_cases c : (acc.any (· == x)) = true
    · rw [if_pos c]
      obtain ⟨a1, a2⟩ := dedup_nodup l acc h
      refine ⟨a1, fun k => ?_⟩
      have hx : x ∈ acc := by
        obtain ⟨y, hy, e⟩ := List.any_eq_true.mp c
        rw [eq_of_beq e] at hy
        exact hy
      have a3 := a2 k
      unfold PyProof.Rows.step_dedup at a3
      rw [a3, List.mem_cons]
      constructor
      · rintro (z | z)
        · exact .inl z
        · exact .inr (.inr z)
      · rintro (z | z | z)
        · exact .inl z
        · rw [z]; exact .inl hx
        · exact .inr z
    · rw [if_neg c]
      have hx : x ∉ acc := fun hx => c (List.any_eq_true.mpr ⟨x, hx, by simp⟩)
      obtain ⟨a1, a2⟩ := dedup_nodup l (acc ++ [x]) (by
        rw [List.nodup_append]
        refine ⟨h, by simp, fun a ha b hb e => ?_⟩
        rw [List.mem_singleton.mp hb] at e
        exact hx (e ▸ ha))
      refine ⟨a1, fun k => ?_⟩
      have a3 := a2 k
      unfold PyProof.Rows.step_dedup at a3
      rw [a3, List.mem_append, List.mem_singleton, List.mem_cons]
      constructor
      · rintro ((z | z) | z)
        · exact .inl z
        · exact .inr (.inl z)
        · exact .inr (.inr z)
      · rintro (z | z | z)
        · exact .inl (.inl z)
        · exact .inl (.inr z)
        · exact .inr z
theorem range_getD (ns : List Int) : (List.range ns.length).map (fun i => ns.getD i 0) = ns := by
  apply List.ext_getElem
  · simp
  · intro i h1 h2
    rw [List.getElem_map, List.getElem_range, List.getD_eq_getElem?_getD, List.getElem?_eq_getElem h2]
    rfl
theorem firstMet_len (ns : List Int) : (PyProof.Rows.firstMet (fun i => ns.getD i 0) ns.length).length = (sortS ns).length := by
  unfold PyProof.Rows.firstMet
  rw [range_getD]
  obtain ⟨a1, a2⟩ := dedup_nodup ns [] List.nodup_nil
  have s1 : (sortS ns).Nodup := List.Pairwise.imp (fun h => by omega) (sortS_sorted (l := ns))
  have p : (ns.foldl PyProof.Rows.step_dedup []).Perm (sortS ns) := by
    refine (List.perm_ext_iff_of_nodup a1 s1).mpr fun k => ?_
    rw [a2 k, mem_sortS]
    simp
  exact p.length_eq
def tLenSet (K : PySem.W.Frag) (ta : TE) : TE := fun σz Hz Qz => ta σz Hz fun xz H1z => ∃ (l : Addr) (ns : List Int), xz = .ref l ∧ SqL K H1z l (ns.map V.int) ∧ ns.length ≤ 4000 ∧ Qz (.int ((sortS ns).length : Nat)) H1z
theorem pe_lenSet {X : Cx} {a : Expr} {ta : TE} {p p2 q pos : Pos} (hgz : Gl X "len") (hmz : X.mg "len" = none) (hg2z : Gl X "set") (hm2z : X.mg "set" = none) (haz : PE X a ta) (hcz : X.calm = true := by rfl)
    (naz : starEach [a] X.env = (false, eval a X.env) :: starEach [] X.env := by rfl) : PE X (.Call (.Name "len" p) [.Call (.Name "set" p2) [a] [] q] [] pos) (tLenSet X.K ta) := by
  refine ⟨fun pinsz sz σz Hz Qz Iz hz => ?_⟩
  refine Call_ (ld_blt Iz hgz hmz boot_len ?_)
  refine PyProof.Rows.callWith_builtin1 (PyProof.Rows.args_cons ?_ rfl) rfl rfl
  refine Call_ (ld_blt Iz hg2z hm2z PyProof.Rows.boot_set ?_)
  refine PyProof.Rows.callWith_type1 (PyProof.Rows.args_cons (thn (haz.run pinsz sz σz Hz _ Iz hz) fun vz s1z ⟨xz, H1z, I1z, r1z, q1z⟩ => PyProof.Rows.args_nil ?_) naz) naz rfl
  obtain ⟨l, ns, rfl, hq, hl, q1z⟩ := q1z
  cases r1z
  obtain ⟨itsz, rz, plz, hzz⟩ := I1z.list hq
  have hlenz : itsz.toArray.size = ns.length := by rw [List.size_toArray, ← rz.length, List.length_map]
  refine call_set_list (I1z.ok.hd hcz) plz.isList (by simpa using RZ.intsAre_vals rz) (by rw [hlenz]; unfold scanBound; omega) fun h' tkz hSz hkz => ?_
  refine PyProof.Rows.args_nil ?_
  rw [hlenz] at hSz
  obtain ⟨oz, esz, epz, tz, hoz, hexz, hdz, _, _, _, hfz, hnz⟩ := hSz
  rw [firstMet_len] at hnz
  have hslz := sortS_len (l := ns)
  have I2z : Inv X pinsz σz H1z { s1z with heap := h', toks := tkz } := I1z.kept fun b oz e => hkz b oz (Heap.lt_size e) e
  exact call_len_set hoz hexz hdz hfz (by rw [hnz] <;> omega) ⟨.int (sortS ns).length, H1z, I2z.tok _, ⟨_, by rw [hnz]⟩, q1z⟩
def D.lenSetI : D → Option D := D.intsL fun ns => if ns.length ≤ 4000 then some (.int ((sortS ns).length : Int)) else none
section
variable {X : Cx} {W : WX2} {wk : Bool} {pos : Pos}
theorem e2_lenSet {e : Expr} {m : ME} {p p2 q : Pos} (hc : X.calm = true) (hg : Gl X "len") (hm : X.mg "len" = none) (hg2 : Gl X "set") (hm2 : X.mg "set" = none) (he : PE2 X W wk e m)
    (n1 : starEach [e] X.env = (false, eval e X.env) :: starEach [] X.env := by rfl) :
    PE2 X W wk (.Call (.Name "len" p) [.Call (.Name "set" p2) [e] [] q] [] pos) (mUn D.lenSetI m) := by
  obtain ⟨t, a1, a2⟩ := he
  refine ⟨_, pe_lenSet hg hm hg2 hm2 a1 hc n1, fun B H0 as ks ow sg S σ H Q r h => ?_⟩
  refine a2 _ _ _ _ _ _ _ _ _ _ r (Den.bind h fun d S1 v H1 e0 e1 s1 q1 h1 => ?_)
  clear e0
  cases es : D.lenSetI d with
  | none => simp only [es] at h1; exact False.elim h1
  | some z =>
    simp only [es] at h1
    obtain ⟨a, ns, ev, g, e2⟩ := intsL_rep q1 es
    subst ev
    split at e2
    · rename_i h64
      cases e2
      exact ⟨a, ns, rfl, SqL.of g, h64, h1 _ H1 Evo.refl s1 rfl⟩
    · cases e2
/-! ### a new list: x + y -/
def oAdd (wk : Bool) (ma mb : ME) : MO := fun sg S => (ma sg S).bind fun x => (mb sg x.2).bind fun y => match x.1, y.1 with
  | .lst xs, .lst ys => if (decide (xs.length + ys.length ≤ 16777216) && (!wk || (D.flatA xs && D.flatA ys))) = true then .ok (.lst (xs ++ ys), y.2) else .bad
  | _, _ => .bad
theorem repA_str {K : PySem.W.Frag} {as : List Addr} {B0 B : Addr → Prop} {H : Hp} {ds : List D} {xs : List V} (h : RepA K as (if wk then B0 else B) H ds xs) (hf : (!wk || D.flatA ds) = true) : RepA K as B H ds xs := by
  cases wk with
  | false => exact h
  | true => exact RepA.ofFlat _ _ (by simpa using hf) h
theorem f2_add {a b : Expr} {ma mb : ME} (ha : PE2 X W wk a ma) (hb : PE2 X W wk b mb) : PF2 X W (.BinOp a .Add b pos) (oAdd wk ma mb) := by
  obtain ⟨t, h1, h2⟩ := ha
  obtain ⟨u, g1, g2⟩ := hb
  refine ⟨_, pe_op op_cat h1 g1, fun B H0 as ks ow sg S σ H Q r h => ?_⟩
  refine h2 _ _ _ _ _ _ _ _ _ _ r (DenO.bind h fun x S1 v H1 c1 e1 s1 q1 h1 => ?_)
  refine g2 _ _ _ _ _ _ _ _ _ _ (r.step e1 s1) (DenO.bind h1 fun y S2 w H2 c2 e2 s2 q2 h2 => ?_)
  clear c1 c2
  cases x <;> try exact False.elim h2
  rename_i xs
  cases y <;> try exact False.elim h2
  rename_i ys
  have r1 := r.step e1 s1
  have q1' := Rep.imp (B' := if wk then (· ∈ as) else Bd B ow) e2 (asWk r) (fun _ z => z) _ v q1
  obtain ⟨p, vs, ep, np, k1, k2⟩ := q1'
  obtain ⟨p', vs', ep', np', k1', k2'⟩ := q2
  by_cases hc : (decide (xs.length + ys.length ≤ 16777216) && (!wk || (D.flatA xs && D.flatA ys))) = true
  · simp only [if_pos hc] at h2
    simp only [Bool.and_eq_true, decide_eq_true_eq] at hc
    obtain ⟨hc1, hc2⟩ := hc
    have f1 : (!wk || D.flatA xs) = true := by
      cases wk with
      | false => rfl
      | true => simp only [Bool.not_true, Bool.false_or, Bool.and_eq_true] at hc2 ⊢; exact hc2.1
    have f2 : (!wk || D.flatA ys) = true := by
      cases wk with
      | false => rfl
      | true => simp only [Bool.not_true, Bool.false_or, Bool.and_eq_true] at hc2 ⊢; exact hc2.2
    have m1 := repA_str k2 f1
    have m2 := repA_str k2' f2
    rw [m1.length, m2.length] at hc1
    exact ⟨p, p', vs, vs', ep, ep', k1, k1', lineN hc1, fun l hl => h2 l _ hl (Evo.new hl) (boxNew hl s2) ⟨_, upd_same, boxNewA hl (m1.append m2)⟩⟩
  · simp only [if_neg hc] at h2
    exact False.elim h2
/-! ### isinstance(x, str) -/
def D.isStr : D → Option D
  | .str _ => some (.bl true)
  | .int _ => some (.bl false)
  | .tup _ => some (.bl false)
  | .non => some (.bl false)
  | .bl _ => some (.bl false)
  | _ => none
theorem rep_tyX {K : PySem.W.Frag} {as : List Addr} {B : Addr → Prop} {H : Hp} {ds : List D} {v : V} (h : Rep K as B H (.tup ds) v) : TyX K H v (.type "tuple") := by
  obtain ⟨a, xs, e, h1, h2⟩ := h
  subst e
  rcases h1 with (h1 | ⟨o, h1⟩) | h1
  · exact .base (.tup h1)
  · exact .fTuple h1
  · obtain ⟨o, its, n, h3, h4, _⟩ := h1
    exact .kTuple h3 h4
theorem kit_str {K : PySem.W.Frag} {a : String} {r : Bool} (h : kitB a "str" = some r) : PySem.W.kitOne K (.type a) (.type "str") = some r := kit_ty h
theorem e2_isStr {e : Expr} {m : ME} {p p2 : Pos} (hg : Gl X "isinstance") (hm : X.mg "isinstance" = none) (hg2 : Gl X "str") (hm2 : X.mg "str" = none) (he : PE2 X W wk e m)
    (v1 : bootBuiltins "isinstance" = some (.builtin "isinstance") := by decide +kernel) (v2 : bootBuiltins "str" = some (.type "str") := by decide +kernel)
    (n1 : starEach [e, .Name "str" p2] X.env = (false, eval e X.env) :: starEach [.Name "str" p2] X.env := by rfl) (n2 : starEach [.Name "str" p2] X.env = (false, eval (.Name "str" p2) X.env) :: starEach [] X.env := by rfl)
    (pl2 : (backTo pos (starEach [.Name "str" p2] X.env)).any (·.1) = false := by rfl) :
    PE2 X W wk (.Call (.Name "isinstance" p) [e, .Name "str" p2] [] pos) (mUn D.isStr m) := by
  obtain ⟨t, a1, a2⟩ := he
  refine ⟨_, pe_callB call_isi hg hm v1 (pa_cons a1 (pa_cons (pe_bltn (v := .ty "str") hg2 hm2 v2 rfl) pa_nil n2) n1) (by decide) (by decide) n1 pl2, fun B H0 as ks ow sg S σ H Q r h => ?_⟩
  refine a2 _ _ _ _ _ _ _ _ _ _ r (Den.bind h fun d S1 v H1 e0 e1 s1 q1 h1 => ?_)
  clear e0
  have fin : ∀ (b : Bool) (ty : String), kitB ty "str" = some b → TyX X.K H1 v (.type ty) → (Q (.bl b) H1) → rIsi X.K [v, .ty "str"] H1 Q := fun b ty hk ht hq => ⟨v, .ty "str", .type ty, .type "str", b, rfl, .ty "str", ht, kit_str hk, hq⟩
  cases d <;> try exact False.elim h1
  · have e : v = .non := q1
    subst e
    exact fin false "NoneType" (by decide +kernel) (.base .non) (h1 _ H1 Evo.refl s1 rfl)
  · rename_i b
    have e : v = .bl b := q1
    subst e
    exact fin false "bool" (by decide +kernel) (.base (.bl b)) (h1 _ H1 Evo.refl s1 rfl)
  · rename_i i
    have e : v = .int i := q1
    subst e
    exact fin false "int" (by decide +kernel) (.base (.int i)) (h1 _ H1 Evo.refl s1 rfl)
  · rename_i x
    have e : v = .str x := q1
    subst e
    exact fin true "str" (by decide +kernel) (.base (.str x)) (h1 _ H1 Evo.refl s1 rfl)
  · exact fin false "tuple" (by decide +kernel) (rep_tyX q1) (h1 _ H1 Evo.refl s1 rfl)
end
end D2

namespace D2
open PySem PySem.Spec PyProof.Rows L2
/-! ### try: .. with several clauses, each with a name or without -/
abbrev Cl3 := Value × Option Nat × (Addr → Value → Option Addr → TS)
def endsAt (D : Ends) : Option Nat → Ends
  | none => D
  | some i => { nx := fun σ' H' => D.nx (σ'.set i none) H', rt := D.rt, bk := fun σ' H' => D.bk (σ'.set i none) H', ct := fun σ' H' => D.ct (σ'.set i none) H' }
def slotAt (a : Addr) (σ : L2.St) : Option Nat → L2.St
  | none => σ
  | some i => σ.set i (some (.ref a))
def wEach (K : PySem.W.Frag) (Wout : L2.WX) (D : Ends) : List Cl3 → L2.WX
  | [] => Wout
  | (c, oi, ts) :: r => fun cls d σ H => ∃ b, PySem.W.exmOne K cls c = some b ∧ (b = true → ∀ a, H a = none → ts a cls d (endsAt D oi) (slotAt a σ oi) H) ∧ (b = false → wEach K Wout D r cls d σ H)
inductive HdsN (X : Cx) : List ExceptHandler → List Cl3 → Prop
  | nil : HdsN X [] []
  | as {x n : Str} {i : Nat} {c : Value} {ts : Addr → Value → Option Addr → TS} {b₀ : Stmt} {suite : List Stmt} {np pos' : Pos} {hds : List ExceptHandler} {l : List Cl3} (hN : X.N.Nodup) (hi : X.N[i]? = some n) (hln : X.env.kindOf n = some .local) (hc : Names X x c)
      (hsu : ∀ (a : Addr) (oe : Obj) (cls : Value) (d : Option Addr) (pn : List (Addr × Obj)), L2.Zc cls d oe → (∃ vs, oe.data = .fields vs) → PSs (X.suite a ((a, oe) :: pn)) (b₀ :: suite) (ts a cls d)) (r : HdsN X hds l) :
      HdsN X (.ExceptHandler (some (.Name x np)) (some n) (b₀ :: suite) pos' :: hds) ((c, some i, ts) :: l)
  | only {x : Str} {c : Value} {ts : Addr → Value → Option Addr → TS} {b₀ : Stmt} {suite : List Stmt} {np pos' : Pos} {hds : List ExceptHandler} {l : List Cl3} (hc : Names X x c)
      (hsu : ∀ (a : Addr) (oe : Obj) (cls : Value) (d : Option Addr) (pn : List (Addr × Obj)), L2.Zc cls d oe → (∃ vs, oe.data = .fields vs) → PSs (X.suite a ((a, oe) :: pn)) (b₀ :: suite) (ts a cls d)) (r : HdsN X hds l) :
      HdsN X (.ExceptHandler (some (.Name x np)) none (b₀ :: suite) pos' :: hds) ((c, none, ts) :: l)
section
variable {X : Cx} {body : List Stmt} {h₀ : ExceptHandler} {hds : List ExceptHandler} {l : List Cl3} {pos : Pos} {tb : L2.WX → TS} {Wout : L2.WX}
theorem ps_try_each (hs : X.stack = X.env :: X.outer) (hf : X.env.frame = some X.env.locals) (tk : L2.Takes X Wout)
    (hb : ∀ (W : L2.WX) (pn : List (Addr × Obj)) (xe : Value → Shared → Prop), L2.Takes (X.tr pn xe) W → PassesOwn (model X.prog X.w) X.A X.env xe → PSs (X.tr pn xe) body (tb W))
    (hh : HdsN X (h₀ :: hds) l) : PS X (.Try body (h₀ :: hds) [] [] pos) (fun D σ H => tb (wEach X.K Wout D l) D σ H) := by
  refine ⟨fun pinsz sz σ H D I h => ?_⟩
  have okz := I.ok
  have hfrz : X.A.frames = some (X.env :: X.outer) := by rw [okz.frames, hs]
  refine wpAny_Try_except ?_
  refine wpAny_mono ((hb (wEach X.K Wout D l) (X.pn ++ pinsz) (fun e s₁ => wpAny (model X.prog X.w) X.A (noteFrame e X.env) (fun _ s₂ => wpAny (model X.prog X.w) X.A (setFlight e none) (fun _ s₃ =>
    wpAny (model X.prog X.w) X.A (handleBy e X.env (h₀ :: hds)) (SP X pinsz D) X.xe s₃) X.xe s₂) X.xe s₁) (fun u s'z xx => ?_) PassesOwn.looking).run [] sz σ H D (I.toTry _) h) (fun f s1 hspz => ?_) (fun e s1 he => he)
  · obtain ⟨a, B, sI, pins', σ'z, H'z, cls, d, rfl, J'z, nbz, upz, skyz, naz, osz, agz, wz⟩ := xx
    have Jz : Inv X pinsz σ'z H'z sI := J'z.ofTry okz
    have sky' : Sky B (X.env :: X.outer) a (Zc cls d) X.env.locals s'z.heap := by rw [← hs]; exact skyz
    show wpAny (model X.prog X.w) X.A (noteFrame (.ref a) X.env) _ _ _
    refine Sky.land Zc.steady hfrz hf sky' fun h3z fl3z up3z => ?_
    have J3z : Inv X pinsz σ'z H'z { s'z with heap := h3z } := Jz.landed nbz fl3z.1 (upz.trans up3z) osz agz
    obtain ⟨oe3z, vs3z, he3z, hz3z, hd3z⟩ := fl3z.there
    have notFrz : ∀ {h : Heap} {o : Obj} {vs : Array Value}, h.FunFrames B (X.env :: X.outer) → h.get? a = some o → o.data = .fields vs → a ∉ frs (X.env :: X.outer) := fun {h o vs} ffz e dd hmz => by
      obtain ⟨_, o', e', hnfz⟩ := ffz.mem hmz
      rw [e] at e'; cases e'
      exact hnfz _ dd
    have nfrz := notFrz fl3z.2.2.1 he3z hd3z
    have nLz : a ≠ X.env.locals := fun z => nfrz (List.mem_filterMap.mpr ⟨X.env, List.mem_cons_self, by rw [hf, z]⟩)
    have nFz : a ∉ X.fs := fun hmz => by
      obtain ⟨e, he, q⟩ := List.mem_filterMap.mp hmz
      exact nfrz (List.mem_filterMap.mpr ⟨e, List.mem_cons_of_mem _ he, q⟩)
    have S3z := J3z.suite he3z hd3z naz nLz nFz
    have LTz : PySem.W.Looks (model X.prog X.w) h3z (typeOf (.ref a)) cls := fun A Q E sz k q => wpAny_typeOf_ref (k _ _ he3z) (by rw [hz3z.1]; exact q)
    have test : ∀ {x : Str} {c : Value} {np : Pos} {Q : Value → Shared → Prop} {E : Value → Shared → Prop}, Names X x c → Q c { s'z with heap := h3z } → wpAny (model X.prog X.w) (X.A.mark (some (.ref a))) (eval (.Name x np) X.env) Q E { s'z with heap := h3z } := fun {x c np Q E} hc q => by
      obtain ⟨hg, hdbg, hmz | ⟨hmz, hv, hnn⟩⟩ := hc
      · exact ld_glob (X := X.suite a ((a, oe3z) :: (X.pn ++ pinsz))) S3z hg hmz q hdbg
      · exact ld_blt (X := X.suite a ((a, oe3z) :: (X.pn ++ pinsz))) S3z hg hmz hv q hnn hdbg
    have goz : ∀ {hds' : List ExceptHandler} {l' : List Cl3}, HdsN X hds' l' → wEach X.K Wout D l' cls d σ'z H'z →
        wpAny (model X.prog X.w) X.A (handleBy (.ref a) X.env hds') (SP X pinsz D) X.xe { s'z with heap := h3z } := by
      intro hds' l' hk
      induction hk with
      | nil =>
        intro wz
        refine wpAny_handleBy_nil ?_
        obtain ⟨k1z, k2z, k3z, oe, vs, T, oT, ts', he, hz, hd, h1, hr⟩ := id fl3z
        unfold PySem.passOn
        refine wpAny_bind (wpAny_field he hd h1 ?_)
        rw [if_neg (show ¬ ((Value.ref T == Value.none) = true) from by simp)]
        have finz : wpAny (model X.prog X.w) X.A (setFlight (.ref a) X.env.frame) (fun _ s4 => wpAny (model X.prog X.w) X.A (throw (.ref a) : Sem Flow) (SP X pinsz D) X.xe s4) X.xe { s'z with heap := h3z } := by
          rw [hf]
          refine HandSPX.setFlight_upZ fl3z fun h4z hh4 up4z => wpAny_throw (tk _ _ ?_)
          exact ⟨a, B, sI, pinsz, σ'z, H'z, cls, d, rfl, Jz, nbz, (upz.trans up3z).trans up4z, .inr (.inr (by rw [hs]; exact hh4)), naz, osz, agz, wz⟩
        first
          | exact wpAny_bind (wpAny_pure (wpAny_bind finz))
          | exact wpAny_bind finz
      | @as x n i c ts b₀ suite np pos' hds2 l2 hN hi hln hc hsu r ih =>
        intro wz
        obtain ⟨b, hb1z, hyesz, hnoz⟩ := wz
        refine wpAny_handleBy_cons (codeAny_handlers_test ?_) (by intro q; cases q)
        have LMz := PySem.W.exm_one (M := model X.prog X.w) (J3z.kIn) LTz hb1z
        refine test hc (LMz.here ?_)
        have hloc : Loc X.env.scope n := .inl hln
        cases b with
        | true =>
          refine codeAny_handlers_suite_as ?_
          refine HandSPX.lands_againZ fl3z fun h4z fl4z up4z => ?_
          have J4z : Inv X pinsz σ'z H'z { s'z with heap := h4z } := Jz.landed nbz fl4z.1 ((upz.trans up3z).trans up4z) osz agz
          obtain ⟨oe4z, vs4z, he4z, hz4z, hd4z⟩ := fl4z.there
          have S4z := J4z.suite he4z hd4z naz nLz nFz
          refine store_ok (X := X.suite a ((a, oe4z) :: (X.pn ++ pinsz))) (v := .ref a) S4z hN hi hloc rfl (fun s5z S5z => ?_) (.inr hln)
          refine wpAny_mono ((hsu a oe4z cls d (X.pn ++ pinsz) hz4z ⟨_, hd4z⟩).run [] s5z _ H'z _ S5z (hyesz rfl a naz)) (fun f s6z hspz => ?_) (fun _ _ z => False.elim z)
          have end_z : ∀ {σ6z : L2.St} {H6z : Hp} {Q : Shared → Prop}, Inv (X.suite a ((a, oe4z) :: (X.pn ++ pinsz))) [] σ6z H6z s6z → (∀ s7z, Inv X pinsz (σ6z.set i none) H6z s7z → Q s7z) →
              wpAny (model X.prog X.w) X.A (do bindName X.env n .none; unbindBehindTheSuite X.env n pos') (fun _ s7z => Q s7z) X.xe s6z := fun {σ6z H6z Q} S6z hq => gone_ok (S6z.unsuite okz) hN hi hln hq
          cases f with
          | next =>
            obtain ⟨σ6z, H6z, S6z, q6z⟩ := hspz
            exact end_z S6z fun s7z J7z => ⟨_, _, J7z, q6z⟩
          | brk =>
            obtain ⟨σ6z, H6z, S6z, q6z⟩ := hspz
            exact end_z S6z fun s7z J7z => ⟨_, _, J7z, q6z⟩
          | cont =>
            obtain ⟨σ6z, H6z, S6z, q6z⟩ := hspz
            exact end_z S6z fun s7z J7z => ⟨_, _, J7z, q6z⟩
          | ret u =>
            obtain ⟨v6z, σ6z, H6z, S6z, r6z, q6z⟩ := hspz
            exact end_z S6z fun s7z J7z => ⟨_, _, _, J7z, r6z, q6z⟩
        | false =>
          show wpAny _ X.A (handleBy (.ref a) X.env hds2) _ _ _
          exact ih (hnoz rfl)
      | @only x c ts b₀ suite np pos' hds2 l2 hc hsu r ih =>
        intro wz
        obtain ⟨b, hb1z, hyesz, hnoz⟩ := wz
        refine wpAny_handleBy_cons (codeAny_handlers_test ?_) (by intro q; cases q)
        have LMz := PySem.W.exm_one (M := model X.prog X.w) (J3z.kIn) LTz hb1z
        refine test hc (LMz.here ?_)
        cases b with
        | true =>
          refine codeAny_handlers_suite ?_
          refine HandSPX.lands_againZ fl3z fun h4z fl4z up4z => ?_
          have J4z : Inv X pinsz σ'z H'z { s'z with heap := h4z } := Jz.landed nbz fl4z.1 ((upz.trans up3z).trans up4z) osz agz
          obtain ⟨oe4z, vs4z, he4z, hz4z, hd4z⟩ := fl4z.there
          have S4z := J4z.suite he4z hd4z naz nLz nFz
          refine wpAny_mono ((hsu a oe4z cls d (X.pn ++ pinsz) hz4z ⟨_, hd4z⟩).run [] _ _ H'z _ S4z (hyesz rfl a naz)) (fun f s6z hspz => ?_) (fun _ _ z => False.elim z)
          cases f with
          | next =>
            obtain ⟨σ6z, H6z, S6z, q6z⟩ := hspz
            exact ⟨_, _, S6z.unsuite okz, q6z⟩
          | brk =>
            obtain ⟨σ6z, H6z, S6z, q6z⟩ := hspz
            exact ⟨_, _, S6z.unsuite okz, q6z⟩
          | cont =>
            obtain ⟨σ6z, H6z, S6z, q6z⟩ := hspz
            exact ⟨_, _, S6z.unsuite okz, q6z⟩
          | ret u =>
            obtain ⟨v6z, σ6z, H6z, S6z, r6z, q6z⟩ := hspz
            exact ⟨_, _, _, S6z.unsuite okz, r6z, q6z⟩
        | false =>
          show wpAny _ X.A (handleBy (.ref a) X.env hds2) _ _ _
          exact ih (hnoz rfl)
    exact goz hh wz
  · cases f with
    | next =>
      obtain ⟨σ'z, H'z, J'z, q⟩ := hspz
      exact wpAny_execs_nil ⟨σ'z, H'z, J'z.ofTry okz, q⟩
    | brk =>
      obtain ⟨σ'z, H'z, J'z, q⟩ := hspz
      exact ⟨σ'z, H'z, J'z.ofTry okz, q⟩
    | cont =>
      obtain ⟨σ'z, H'z, J'z, q⟩ := hspz
      exact ⟨σ'z, H'z, J'z.ofTry okz, q⟩
    | ret u =>
      obtain ⟨v, σ'z, H'z, J'z, r, q⟩ := hspz
      exact ⟨v, σ'z, H'z, J'z.ofTry okz, r, q⟩
end
/-! ### what a suite computes, by parts -/
def Xh (K : PySem.W.Frag) (mg : Str → Option Value) (i : Nat) (x : Str) (a : Addr) (cls : Value) (d : Option Addr) (e : Exn) (B : Addr → Prop) (as : List Addr) (ow : List (Option Addr)) (sg : List Sl) (σ : L2.St) (H : Hp) : Prop :=
  sg[i]? = some .no ∧ σ[i]? = some (some (.ref a)) ∧ XRep mg K as (Bd B ow) H e cls d ∧ e.cls = x
theorem XRep.evo {mg : Str → Option Value} {K : PySem.W.Frag} {as : List Addr} {W B : Addr → Prop} {H H' : Hp} {e : Exn} {c : Value} {dx : Option Addr} (ev : Evo K W H H') (hW : ∀ a, W a → B a) (x : XRep mg K as B H e c dx) : XRep mg K as B H' e c dx := by
  obtain ⟨C, a, h1, h2, h3, h4⟩ := x
  exact ⟨C, a, h1, h2, h3, Rep.imp ev hW (fun _ z => z) _ _ h4⟩
theorem Xh.step {K : PySem.W.Frag} {mg : Str → Option Value} {i : Nat} {x : Str} {a : Addr} {cls : Value} {d : Option Addr} {e : Exn} {B : Addr → Prop} {as : List Addr} {ow : List (Option Addr)} {sg : List Sl} {σ : L2.St} {H H' : Hp} (h : Xh K mg i x a cls d e B as ow sg σ H) (ev : Evo K (· ∈ as) H H') (hb : ∀ b, b ∈ as → Bd B ow b) : Xh K mg i x a cls d e B as ow sg σ H' :=
  ⟨h.1, h.2.1, h.2.2.1.evo ev hb, h.2.2.2⟩
def PEu (X : Cx) (W : WX2) (i : Nat) (x : Str) (a : Addr) (cls : Value) (d : Option Addr) (wk : Bool) (ex : Expr) (me : Exn → ME) : Prop :=
  ∃ t : TE, PE X ex t ∧ ∀ (e : Exn) B H0 as ks ow sg S σ H (Q : VK), Rl X.K B H0 as ks ow sg S σ H → Xh X.K X.mg i x a cls d e B as ow sg σ H → Den (ctOf X W B H0 as ks) ow ((ctOf X W B H0 as ks).rp ow wk) (me e sg S) H Q → t σ H Q
section
variable {X : Cx} {W : WX2} {i : Nat} {x n : Str} {a C : Addr} {oe : Obj} {cls : Value} {d : Option Addr} {pn : List (Addr × Obj)} {wk : Bool} {np pos pos2 : Pos}
theorem eu_of {ex : Expr} {m : ME} (h : PE2 X W wk ex m) : PEu X W i x a cls d wk ex (fun _ => m) := by
  obtain ⟨t, a1, a2⟩ := h
  exact ⟨t, a1, fun e B H0 as ks ow sg S σ H Q r _ h => a2 _ _ _ _ _ _ _ _ _ _ r h⟩
def mxF (f : Str) : Exn → ME := fun e _ S => match fld e f with
  | some z => .ok (z, S)
  | none => .bad
theorem eu_fld {f : Str} (T : ExF X.K C) (hm : X.mg x = some (.ref C)) (noN : PySem.W.findIn X.K (.ref C) f = some none) (hz : L2.Zc cls d oe) (hf : ∃ vs, oe.data = .fields vs)
    (hN : X.N[i]? = some n := by rfl) (hv : Vis X.env.scope n := by first | exact Or.inl rfl | exact Or.inr (Or.inl rfl) | exact Or.inr (Or.inr rfl)) (hd : (n == ("__debug__" : Str)) = false := by decide)
    (hcd : (n == ("__classdict__" : Str)) = false := by decide) (hb : attributeBase (.Name n np) f X.env (eval (.Name n np) X.env) = eval (.Name n np) X.env := by rfl) :
    PEu (X.suite a ((a, oe) :: pn)) W i x a cls d false (.Attribute (.Name n np) f pos) (mxF f) := by
  refine ⟨_, pe_fld T noN hz hf (pe_var (i := i) hN hv hd hcd) hb, fun e B H0 as ks ow sg S σ H Q r k h => ?_⟩
  obtain ⟨h1, h2, h3, h4⟩ := k
  unfold mxF at h
  cases e1 : fld e f with
  | none => rw [e1] at h; exact False.elim h
  | some z =>
    rw [e1] at h
    obtain ⟨g1, dd, fs, v, g2, g3, g4, g5⟩ := fld_at (mg := X.mg) (K := X.K) hm h3 h4 e1
    exact ⟨.ref a, h2, rfl, g1, dd, fs, v, g2, g3, g4, h v H Evo.refl r.sto g5⟩
def mxBin (f : D → D → Option D) (ma mb : Exn → ME) : Exn → ME := fun e => mBin f (ma e) (mb e)
theorem binu_den {r2 : R2} {f : D → D → Option D} {ta tb : TE} {ma mb : Exn → ME} (hop : BinOk X.K wk f r2)
    (ha : ∀ (e : Exn) B H0 as ks ow sg S σ H (Q : VK), Rl X.K B H0 as ks ow sg S σ H → Xh X.K X.mg i x a cls d e B as ow sg σ H → Den (ctOf X W B H0 as ks) ow ((ctOf X W B H0 as ks).rp ow wk) (ma e sg S) H Q → ta σ H Q)
    (hb : ∀ (e : Exn) B H0 as ks ow sg S σ H (Q : VK), Rl X.K B H0 as ks ow sg S σ H → Xh X.K X.mg i x a cls d e B as ow sg σ H → Den (ctOf X W B H0 as ks) ow ((ctOf X W B H0 as ks).rp ow wk) (mb e sg S) H Q → tb σ H Q)
    {e : Exn} {B : Addr → Prop} {H0 : Hp} {as : List Addr} {ks : List (D × V)} {ow : List (Option Addr)} {sg : List Sl} {S : List O} {σ : L2.St} {H : Hp} {Q : VK} (r : Rl X.K B H0 as ks ow sg S σ H) (k : Xh X.K X.mg i x a cls d e B as ow sg σ H) (h : Den (ctOf X W B H0 as ks) ow ((ctOf X W B H0 as ks).rp ow wk) (mxBin f ma mb e sg S) H Q) : tOp r2 ta tb σ H Q := by
  refine ha _ _ _ _ _ _ _ _ _ _ _ r k (Den.bind h fun x S1 v H1 _ e1 s1 q1 h1 => ?_)
  have r1 := r.step e1 s1
  refine hb _ _ _ _ _ _ _ _ _ _ _ r1 (k.step e1 r.asBd) (Den.bind h1 fun y S2 w H2 _ e2 s2 q2 h2 => ?_)
  have r2 := r1.step e2 s2
  have q1' := Rep.imp (B' := if wk then (· ∈ as) else Bd B ow) e2 (asWk r) (fun _ z => z) x v q1
  cases e : f x y with
  | none =>
    simp only [e] at h2
    exact False.elim h2
  | some z =>
    simp only [e] at h2
    refine hop as (Bd B ow) (· ∈ as) H2 x y z v w Q r.asBd r2.bdDom q1' q2 e fun u H' e3 q3 => ?_
    exact h2 u H' e3.any (r2.stoNew e3) q3
theorem eu_bin {op : Operator} {r2 : R2} {f : D → D → Option D} {ea eb : Expr} {ma mb : Exn → ME} (ho : OpR X (binaryOp op) r2) (hop : BinOk X.K wk f r2) (ha : PEu X W i x a cls d wk ea ma) (hb : PEu X W i x a cls d wk eb mb) : PEu X W i x a cls d wk (.BinOp ea op eb pos) (mxBin f ma mb) := by
  obtain ⟨ta, a1, a2⟩ := ha
  obtain ⟨tb, b1, b2⟩ := hb
  exact ⟨_, pe_op ho a1 b1, fun e B H0 as ks ow sg S σ H Q r k h => binu_den hop a2 b2 r k h⟩
theorem eu_cmp {op : CmpOp} {r2 : R2} {f : D → D → Option D} {ea eb : Expr} {ma mb : Exn → ME} (ho : OpR X (compareOp op) r2) (hop : BinOk X.K wk f r2) (ha : PEu X W i x a cls d wk ea ma) (hb : PEu X W i x a cls d wk eb mb) (hm : behindInMarks op eb = false) : PEu X W i x a cls d wk (.Compare ea [op] [eb] pos) (mxBin f ma mb) := by
  obtain ⟨ta, a1, a2⟩ := ha
  obtain ⟨tb, b1, b2⟩ := hb
  exact ⟨_, pe_cmpR ho a1 b1 hm, fun e B H0 as ks ow sg S σ H Q r k h => binu_den hop a2 b2 r k h⟩
/-- the judgement of a suite -/
def PSv (X : Cx) (W : WX2) (i : Nat) (x : Str) (a : Addr) (cls : Value) (d : Option Addr) (st : List Stmt) (ms : Exn → MS) : Prop :=
  ∃ t, PSs X st t ∧ ∀ (e : Exn) B H0 as ks ow sg S σ H (Dd : Ends), Rl X.K B H0 as ks ow sg S σ H → Xh X.K X.mg i x a cls d e B as ow sg σ H → DenS (ctOf X W B H0 as ks) (ms e sg S) Dd → t Dd σ H
def msRet (me : Exn → ME) : Exn → MS := fun e => mRet (me e)
theorem sv_ret {ex : Expr} {me : Exn → ME} (h : PEu X W i x a cls d false ex me) : PSv X W i x a cls d [.Return (some ex) pos] (msRet me) := by
  obtain ⟨t, a1, a2⟩ := h
  refine ⟨_, pss_one (ps_ret a1), fun e B H0 as ks ow sg S σ H Dd r k h => ?_⟩
  refine a2 _ _ _ _ _ _ _ _ _ _ _ r k ?_
  unfold msRet mRet at h
  cases e1 : me e sg S with
  | ok z =>
    obtain ⟨z, S1⟩ := z
    rw [e1] at h
    exact fun v H1 ev st q => h v H1 (r.evo.trans ev) (st.weak bdB) (Rep.imp (W := fun _ => False) Evo.refl (fun _ z => z.elim) bdB _ _ q)
  | ex e2 sg2 S2 => rw [e1] at h; exact h
  | bad => rw [e1] at h; exact False.elim h
theorem psu_of {st : List Stmt} {ms : Exn → MS} (h : PSv (X.suite a ((a, oe) :: pn)) W i x a cls d st ms) : PSu X W i x a oe cls d pn st ms := by
  obtain ⟨t, a1, a2⟩ := h
  exact ⟨t, a1, fun e B H0 as ks ow sg S σ H Dd r h1 h2 h3 h4 h => a2 e B H0 as ks ow sg S σ H Dd r ⟨h1, h2, h3, h4⟩ h⟩
end
end D2

namespace D2
open PySem PySem.Spec PyProof.Rows L2
abbrev Hd := Str × Option Nat × (Exn → MS)
def hdOf : List Hd → Str → Option (Option Nat × (Exn → MS))
  | [], _ => none
  | h :: r, c => if c = h.1 then some h.2 else hdOf r c
theorem hdOf_mem : ∀ {l : List Hd} {c : Str} {z : Option Nat × (Exn → MS)}, hdOf l c = some z → (c, z) ∈ l
  | h :: r, c, z, e => by
    unfold hdOf at e
    by_cases k : c = h.1
    · rw [if_pos k] at e
      cases e
      rw [k]
      exact List.mem_cons_self
    · rw [if_neg k] at e
      exact List.mem_cons_of_mem _ (hdOf_mem e)
def mHd (z : Option (Option Nat × (Exn → MS))) (e : Exn) : MS := fun sg S => match z with
  | some (some i, ms) => match sg[i]? with
    | some .no => (ms e sg S).done i
    | _ => .bad
  | some (none, ms) => ms e sg S
  | none => .bad
def mTryN (hs : List Hd) (mb : MS) : MS := fun sg S => match mb sg S with
  | .ex e sg1 S1 => mHd (hdOf hs e.cls) e sg1 S1
  | r => r
/-- a suite without a name -/
def PSu0 (X : Cx) (W : WX2) (x : Str) (a : Addr) (oe : Obj) (cls : Value) (d : Option Addr) (pn : List (Addr × Obj)) (st : List Stmt) (ms : Exn → MS) : Prop :=
  ∃ t, PSs (X.suite a ((a, oe) :: pn)) st t ∧ ∀ (e : Exn) B H0 as ks ow sg S σ H (Dd : Ends), Rl X.K B H0 as ks ow sg S σ H → XRep X.mg X.K as (Bd B ow) H e cls d → e.cls = x →
    DenS (ctOf X W B H0 as ks) (ms e sg S) Dd → t Dd σ H
theorem su0_of {X : Cx} {W : WX2} {x : Str} {a : Addr} {oe : Obj} {cls : Value} {d : Option Addr} {pn : List (Addr × Obj)} {st : List Stmt} {m : MS} (h : PSs2 (X.suite a ((a, oe) :: pn)) W st m) : PSu0 X W x a oe cls d pn st (fun _ => m) := by
  obtain ⟨t, a1, a2⟩ := h
  exact ⟨t, a1, fun e B H0 as ks ow sg S σ H Dd r _ _ h => a2 B H0 as ks ow sg S σ H Dd r h⟩
theorem ps2_of {X : Cx} {W : WX2} {st : Stmt} {m : MS} (h : PS2 X W st m) : PSs2 X W [st] m := by
  obtain ⟨t, a1, a2⟩ := h
  exact ⟨t, pss_one a1, a2⟩
inductive Hds2 (X : Cx) (W : WX2) : List ExceptHandler → List Hd → Prop
  | nil : Hds2 X W [] []
  | dead {x : Str} {c : Value} {b₀ : Stmt} {suite : List Stmt} {np pos' : Pos} (hc : Names X x c) : Hds2 X W [.ExceptHandler (some (.Name x np)) none (b₀ :: suite) pos'] []
  | as {x n : Str} {i : Nat} {C : Addr} {ms : Exn → MS} {b₀ : Stmt} {suite : List Stmt} {np pos' : Pos} {hds : List ExceptHandler} {l : List Hd} (hN : X.N.Nodup) (hi : X.N[i]? = some n) (hln : X.env.kindOf n = some .local) (hc : Names X x (.ref C)) (hm : X.mg x = some (.ref C)) (te : PySem.W.exmOne X.K (.ref C) (.ref C) = some true)
      (hl : ∀ p ∈ l, ∃ C', X.mg p.1 = some (.ref C') ∧ PySem.W.exmOne X.K (.ref C') (.ref C) = some false)
      (hsu : ∀ (a : Addr) (oe : Obj) (cls : Value) (d : Option Addr) (pn : List (Addr × Obj)), L2.Zc cls d oe → (∃ vs, oe.data = .fields vs) → PSu X W i x a oe cls d pn (b₀ :: suite) ms) (r : Hds2 X W hds l) :
      Hds2 X W (.ExceptHandler (some (.Name x np)) (some n) (b₀ :: suite) pos' :: hds) ((x, some i, ms) :: l)
  | only {x : Str} {C : Addr} {ms : Exn → MS} {b₀ : Stmt} {suite : List Stmt} {np pos' : Pos} {hds : List ExceptHandler} {l : List Hd} (hc : Names X x (.ref C)) (hm : X.mg x = some (.ref C)) (te : PySem.W.exmOne X.K (.ref C) (.ref C) = some true)
      (hl : ∀ p ∈ l, ∃ C', X.mg p.1 = some (.ref C') ∧ PySem.W.exmOne X.K (.ref C') (.ref C) = some false)
      (hsu : ∀ (a : Addr) (oe : Obj) (cls : Value) (d : Option Addr) (pn : List (Addr × Obj)), L2.Zc cls d oe → (∃ vs, oe.data = .fields vs) → PSu0 X W x a oe cls d pn (b₀ :: suite) ms) (r : Hds2 X W hds l) :
      Hds2 X W (.ExceptHandler (some (.Name x np)) none (b₀ :: suite) pos' :: hds) ((x, none, ms) :: l)
section
variable {X : Cx} {W : WX2}
theorem xrep_cls {mg : Str → Option Value} {K : PySem.W.Frag} {as : List Addr} {B : Addr → Prop} {H : Hp} {e : Exn} {cl : Value} {dx : Option Addr} {C : Addr} (h : XRep mg K as B H e cl dx) (hm : mg e.cls = some (.ref C)) : cl = .ref C := by
  obtain ⟨C', a', h1, h2, _⟩ := h
  rw [hm] at h1
  cases h1
  exact h2
theorem den_done {c : Ct} {i : Nat} {r : R (Fl × List Sl × List O)} {Dd : Ends} (hc : ∀ {ow sg S σ H} {v : Option V}, sg[i]? = some .no → c.Rl ow sg S σ H → c.Rl ow sg S (σ.set i v) H) (h : DenS c (r.done i) Dd) : DenS c r (endsAt Dd (some i)) := by
  cases r with
  | ok z =>
    obtain ⟨fl, sg2, S2⟩ := z
    unfold R.done at h
    simp only [] at h
    cases c3 : sg2[i]? with
    | none => rw [c3] at h; exact False.elim h
    | some s2 =>
      cases s2 with
      | val => rw [c3] at h; exact False.elim h
      | own => rw [c3] at h; exact False.elim h
      | no =>
        rw [c3] at h
        cases fl with
        | nx => exact fun ow' σ' H' r' => h ow' _ H' (hc c3 r')
        | bk => exact fun ow' σ' H' r' => h ow' _ H' (hc c3 r')
        | ct => exact fun ow' σ' H' r' => h ow' _ H' (hc c3 r')
        | rt d => exact h
  | ex e3 sg3 S3 => exact h
  | bad => exact h
theorem hds_go {hds : List ExceptHandler} {l : List Hd} (h : Hds2 X W hds l) : ∃ l3, HdsN X hds l3 ∧ ∀ (B : Addr → Prop) (H0 : Hp) (as : List Addr) (ks : List (D2.D × V)) (Dd : Ends) (e : Exn) (cl : Value) (dx : Option Addr) (ow : List (Option Addr)) (sg : List Sl) (S : List O) (σ : L2.St) (H : Hp),
    Rl X.K B H0 as ks ow sg S σ H → XRep X.mg X.K as (Bd B ow) H e cl dx → DenS (ctOf X W B H0 as ks) (mHd (hdOf l e.cls) e sg S) Dd → wEach X.K W Dd l3 cl dx σ H := by
  induction h with
  | nil => exact ⟨[], .nil, fun B H0 as ks Dd e cl dx ow sg S σ H r x h => False.elim h⟩
  | @dead x c b₀ suite np pos' hc => exact ⟨[(c, none, fun _ _ _ _ _ _ => False)], .only hc (fun a oe cls d pn _ _ => ⟨fun _ _ _ _ _ _ h => False.elim h⟩) .nil, fun B H0 as ks Dd e cl dx ow sg S σ H r x h => False.elim h⟩
  | @as x n i C ms b₀ suite np pos' hds l hN hi hln hc hm te hl hsu r ih =>
    obtain ⟨l3, k1, k2⟩ := ih
    let ts : Addr → Value → Option Addr → TS := fun a cls d D σ H => ∃ (e : Exn) (B : Addr → Prop) (H0 : Hp) (as : List Addr) (ks : List (D2.D × V)) (ow : List (Option Addr)) (sg : List Sl) (S : List O), Rl X.K B H0 as ks ow sg S σ H ∧ sg[i]? = some .no ∧ σ[i]? = some (some (.ref a)) ∧ XRep X.mg X.K as (Bd B ow) H e cls d ∧ e.cls = x ∧ DenS (ctOf X W B H0 as ks) (ms e sg S) D
    refine ⟨(.ref C, some i, ts) :: l3, .as hN hi hln hc (fun a oe cls d pn hz hf2 => ?_) k1, fun B H0 as ks Dd e cl dx ow sg S σ H rr x1 h => ?_⟩
    · obtain ⟨t, p, sim⟩ := hsu a oe cls d pn hz hf2
      exact ⟨fun pins s σ H D I h => by
        obtain ⟨e, B, H0, as, ks, ow, sg, S, r, h1, h2, h3, h4, hd⟩ := h
        exact p.run pins s σ H D I (sim e B H0 as ks ow sg S σ H D r h1 h2 h3 h4 hd)⟩
    · unfold hdOf at h
      by_cases c1 : e.cls = x
      · rw [if_pos c1] at h
        have ecl := xrep_cls x1 (c1 ▸ hm)
        refine ⟨true, by rw [ecl]; exact te, fun _ a ha => ?_, fun z => nomatch z⟩
        unfold mHd at h
        simp only [] at h
        cases c2 : sg[i]? with
        | none => rw [c2] at h; exact False.elim h
        | some s =>
          cases s with
          | val => rw [c2] at h; exact False.elim h
          | own => rw [c2] at h; exact False.elim h
          | no =>
            rw [c2] at h
            simp only [] at h
            refine ⟨e, B, H0, as, ks, ow, sg, S, rl_slot rr c2, c2, ?_, x1, c1, den_done (fun c3 r' => rl_slot r' c3) h⟩
            obtain ⟨w, v, _, h2, _⟩ := rr.sl i _ c2
            show (σ.set i _)[i]? = _
            rw [List.getElem?_set, if_pos rfl, if_pos (List.getElem?_eq_some_iff.mp h2).1]
      · rw [if_neg c1] at h
        cases c2 : hdOf l e.cls with
        | none => rw [c2] at h; exact False.elim h
        | some z =>
          obtain ⟨C', m1, m2⟩ := hl _ (hdOf_mem c2)
          have ecl := xrep_cls x1 m1
          refine ⟨false, by rw [ecl]; exact m2, fun z => (nomatch z), fun _ => k2 B H0 as ks Dd e cl dx ow sg S σ H rr x1 h⟩
  | @only x C ms b₀ suite np pos' hds l hc hm te hl hsu r ih =>
    obtain ⟨l3, k1, k2⟩ := ih
    let ts : Addr → Value → Option Addr → TS := fun a cls d D σ H => ∃ (e : Exn) (B : Addr → Prop) (H0 : Hp) (as : List Addr) (ks : List (D2.D × V)) (ow : List (Option Addr)) (sg : List Sl) (S : List O), Rl X.K B H0 as ks ow sg S σ H ∧ XRep X.mg X.K as (Bd B ow) H e cls d ∧ e.cls = x ∧ DenS (ctOf X W B H0 as ks) (ms e sg S) D
    refine ⟨(.ref C, none, ts) :: l3, .only hc (fun a oe cls d pn hz hf2 => ?_) k1, fun B H0 as ks Dd e cl dx ow sg S σ H rr x1 h => ?_⟩
    · obtain ⟨t, p, sim⟩ := hsu a oe cls d pn hz hf2
      exact ⟨fun pins s σ H D I h => by
        obtain ⟨e, B, H0, as, ks, ow, sg, S, r, h3, h4, hd⟩ := h
        exact p.run pins s σ H D I (sim e B H0 as ks ow sg S σ H D r h3 h4 hd)⟩
    · unfold hdOf at h
      by_cases c1 : e.cls = x
      · rw [if_pos c1] at h
        have ecl := xrep_cls x1 (c1 ▸ hm)
        exact ⟨true, by rw [ecl]; exact te, fun _ a ha => ⟨e, B, H0, as, ks, ow, sg, S, rr, x1, c1, h⟩, fun z => nomatch z⟩
      · rw [if_neg c1] at h
        cases c2 : hdOf l e.cls with
        | none => rw [c2] at h; exact False.elim h
        | some z =>
          obtain ⟨C', m1, m2⟩ := hl _ (hdOf_mem c2)
          have ecl := xrep_cls x1 m1
          refine ⟨false, by rw [ecl]; exact m2, fun z => (nomatch z), fun _ => k2 B H0 as ks Dd e cl dx ow sg S σ H rr x1 h⟩
theorem s2_tryN {body : List Stmt} {h₀ : ExceptHandler} {hds : List ExceptHandler} {l : List Hd} {pos : Pos} {mb : MS}
    (hs : X.stack = X.env :: X.outer) (hf : X.env.frame = some X.env.locals) (tk : L2.Takes X W)
    (hb : ∀ (W' : WX2) (pn : List (Addr × Obj)) (xe : Value → Shared → Prop), L2.Takes (X.tr pn xe) W' → PassesOwn (model X.prog X.w) X.A X.env xe → PSs2 (X.tr pn xe) W' body mb)
    (hh : Hds2 X W (h₀ :: hds) l) : PS2 X W (.Try body (h₀ :: hds) [] [] pos) (mTryN l mb) := by
  obtain ⟨l3, k1, k2⟩ := hds_go hh
  let tb : L2.WX → TS := fun W' D σ H => ∃ (B : Addr → Prop) (H0 : Hp) (as : List Addr) (ks : List (D2.D × V)) (ow : List (Option Addr)) (sg : List Sl) (S : List O), Rl X.K B H0 as ks ow sg S σ H ∧ DenS (ctOf X W' B H0 as ks) (mb sg S) D
  refine ⟨_, ps_try_each (tb := tb) hs hf tk (fun W' pn xe tk' pw => ?_) k1, fun B H0 as ks ow sg S σ H Dd r h => ?_⟩
  · obtain ⟨t, p, sim⟩ := hb W' pn xe tk' pw
    exact ⟨fun pins s σ H D I h => by
      obtain ⟨B, H0, as, ks, ow, sg, S, r, hd⟩ := h
      exact p.run pins s σ H D I (sim B H0 as ks ow sg S σ H D r hd)⟩
  · refine ⟨B, H0, as, ks, ow, sg, S, r, ?_⟩
    unfold mTryN at h
    cases e1 : mb sg S with
    | ok z =>
      rw [e1] at h
      obtain ⟨fl, sg2, S2⟩ := z
      cases fl <;> exact h
    | bad =>
      rw [e1] at h
      exact h
    | ex e sg1 S1 =>
      rw [e1] at h
      simp only [] at h
      intro cl dx ow1 σ1 H1 r1 x1
      exact k2 B H0 as ks Dd e cl dx ow1 sg1 S1 σ1 H1 r1 x1 h
end
end D2
namespace D2
open PySem PySem.Spec PyProof.Rows L2
theorem exm_other {K : PySem.W.Frag} {S T : Addr} (h1 : PySem.W.subIn K (.ref S) (.type "BaseException") = some true) (h2 : PySem.W.isClsIn K S = true) (h3 : PySem.W.typeIn K (.ref S) = some (.type "type")) (h4 : PySem.W.subIn K (.ref T) (.ref S) = some false) :
    PySem.W.exmOne K (.ref T) (.ref S) = some false := by
  have e1 : (PySem.W.subIn K (.ref S) (.type "BaseException") == some true) = true := by rw [h1]; rfl
  have h2' : (PySem.W.clsIn K S).isSome = true := h2
  have e2 : ((PySem.W.clsIn K S).isSome && PySem.W.typeIn K (.ref S) == some (.type "type")) = true := by rw [h2', h3]; rfl
  unfold PySem.W.exmOne
  rw [if_pos e1]
  show (if ((PySem.W.clsIn K S).isSome && PySem.W.typeIn K (.ref S) == some (.type "type")) = true then PySem.W.subIn K (.ref T) (.ref S) else none) = some false
  rw [if_pos e2]
  exact h4
end D2

namespace D2
open PySem PySem.Spec PyProof.Rows L2
/-! ### helpers -/
theorem perm_lift {α β : Type} {f : α → β} : ∀ {M N : List β}, M.Perm N → ∀ {L : List α}, M = L.map f → ∃ L1 : List α, L1.Perm L ∧ N = L1.map f := by
  intro M N h
  induction h with
  | nil => exact fun e => ⟨[], by rw [(List.map_eq_nil_iff.mp e.symm)], rfl⟩
  | cons x _ ih =>
    intro L e
    obtain ⟨a, L', e1, e2, e3⟩ := List.map_eq_cons_iff.mp e.symm
    obtain ⟨L1, p1, q1⟩ := ih e3.symm
    exact ⟨a :: L1, by rw [e1]; exact p1.cons a, by rw [List.map_cons, e2, q1]⟩
  | swap x y l =>
    intro L e
    obtain ⟨a, L', e1, e2, e3⟩ := List.map_eq_cons_iff.mp e.symm
    obtain ⟨b, L2, f1, f2, f3⟩ := List.map_eq_cons_iff.mp e3
    exact ⟨b :: a :: L2, by rw [e1, f1]; exact List.Perm.swap _ _ _, by rw [List.map_cons, List.map_cons, e2, f2, f3]⟩
  | trans _ _ ih1 ih2 =>
    intro L e
    obtain ⟨L1, p1, q1⟩ := ih1 e
    obtain ⟨L2, p2, q2⟩ := ih2 q1
    exact ⟨L2, p2.trans p1, q2⟩
theorem each_refl : ∀ L : List (Addr × List Int), PySem.W.EachIs (fun (v : Value) (q : Addr × List Int) => v = .ref q.1) (L.map fun q => Value.ref q.1) L
  | [] => .nil
  | q :: L => .cons rfl (each_refl L)
theorem each_eq : ∀ {out : List Value} {L : List (Addr × List Int)}, PySem.W.EachIs (fun (v : Value) (q : Addr × List Int) => v = .ref q.1) out L → out = L.map fun q => Value.ref q.1
  | _, _, .nil => rfl
  | _, _, .cons e t => by rw [e, each_eq t, List.map_cons]
theorem ints_readsAll {h : Heap} : ∀ {vs : List Value} {ns : List Int}, IntsAre vs ns → ReadsAll h vs (ns.map .int) []
  | _, _, .nil => .nil
  | _, _, .cons n t r => by
    have := ReadsAll.cons (Reads.int (h := h) n t) (ints_readsAll r)
    exact this
theorem each_rd {h : Heap} {n : Addr} : ∀ {L : List (Addr × List Int)}, (∀ q ∈ L, TS.TupInts h (.ref q.1) q.2) → PySem.W.EachIs (fun (v : Value) (q : Addr × List Int) => ∃ as, Reads h v (PyData.tuple (q.2.map .int)) as ∧ n ∉ as) (L.map fun q => Value.ref q.1) L
  | [], _ => .nil
  | q :: L, hq => by
    refine .cons ?_ (each_rd fun r hr => hq r (List.mem_cons_of_mem _ hr))
    obtain ⟨a, xs, e, ⟨o, ho, hc, m, hd⟩, hi⟩ := hq q List.mem_cons_self
    cases e
    exact ⟨[], .tuple ho hc hd (ints_readsAll hi), by simp⟩
theorem le_tt : (PySem.W.dataLe false fun q : Addr × List Int => PyData.tuple (q.2.map .int)) = fun p q => decide (p.2 ≤ q.2) := by
  funext p q
  have h1 := congrFun (congrFun (PySem.W.dataLe_rows (fun q : Addr × List Int => q.2)) p) q
  rw [← h1]
  rfl
theorem sorted_le (L : List (Addr × List Int)) : (L.mergeSort (PySem.W.dataLe false fun q : Addr × List Int => PyData.tuple (q.2.map .int))).Pairwise fun q r => q.2 ≤ r.2 := by
  rw [le_tt]
  have := List.pairwise_mergeSort (le := fun p q : Addr × List Int => decide (p.2 ≤ q.2)) (fun a b c h1 h2 => by
    rw [decide_eq_true_eq] at h1 h2 ⊢
    exact List.le_trans h1 h2) (fun a b => by
    rw [Bool.or_eq_true, decide_eq_true_eq, decide_eq_true_eq]
    exact List.le_total _ _) L
  exact this.imp fun h => of_decide_eq_true h
/-! ### set(x), x a tuple of tuples of ints -/
section
variable {Pg : Program} {u : World} {Ar : Around} {Ex : Value → Shared → Prop} {sh : Shared}
abbrev set0 (u : World) : Obj := { cls := .type "set", dict := none, data := .set #[] 0 (.fresh 0 0 (!u.params.followText "set-order")) }
theorem no_obj {hp : Heap} {b : Addr} (hb : hp.objs.size ≤ b) : hp.get? b = none := by
  cases q : hp.get? b with
  | none => rfl
  | some o => exact absurd (Nat.lt_of_lt_of_le (Heap.lt_size q) hb) (Nat.lt_irrefl _)
theorem set_of_tt {al : Addr} {its : Array Value} (kk : List (Addr × List Int)) {Qq : Value → Shared → Prop} (un : Ar.handled = none) (li : sh.heap.IsTuple al its) (hit : its.toList = kk.map fun p => Value.ref p.1) (hk : ∀ p ∈ kk, IsT Pg u sh.heap p.2 p.1) (few : kk.length < 64) (rm : Ar.units + 3 < cLine)
    (go : ∀ (hp : Heap) (tk : Nat) L es ep t, SetTR Pg u hp sh.heap.objs.size L es ep t → Got kk kk.length L → (∀ b o, sh.heap.get? b = some o → hp.get? b = some o) → Qq (.ref sh.heap.objs.size) { sh with heap := hp, toks := tk }) :
    wpAny (model Pg u) Ar (call (.type "set") [.ref al]) Qq Ex sh := by
  have sz : its.size = kk.length := by
    have z := congrArg List.length hit
    rw [Array.length_toList, List.length_map] at z
    exact z
  have vals : ∀ (i : Nat) (v : Value), its[i]? = some v → ∃ p, kk[i]? = some p ∧ v = .ref p.1 := fun i v hv => by
    have z : its.toList[i]? = some v := by rw [Array.getElem?_toList]; exact hv
    rw [hit, List.getElem?_map] at z
    cases zq : kk[i]? with
    | none => rw [zq] at z; cases z
    | some p =>
      rw [zq] at z
      exact ⟨p, rfl, (Option.some.inj z).symm⟩
  obtain ⟨cc, rest, mro0⟩ := F.called_set.mro
  have k1 := F.called_set.made; have k2 := F.called_set.sub; have k3 := F.called_set.notType; have k4 := F.called_set.canCreate; have k5 := F.typeCall_set_1 (.ref al)
  refine wpAny_call (codeAny_of_tree (?_ : wpAny _ _ (callAny (.type "set") _) _ _ _))
  refine wpAny_pure ⟨Code.quiet_builtin _ (by decide +kernel), codeAny_builtin F.entry_type_call (?_)⟩
  rw [Around.under_plain (weight_type_call_type "set" [Value.ref al] []) rfl]
  repeat (any_goals (first | assumption | wp_step; done | wp_step))
  refine codeAny_mono (code_set_led1 (.ref al) (E := Ex) (Q₁ := fun ob s1 => ob = .ref sh.heap.objs.size ∧ s1 = { sh with heap := sh.heap.push (set0 u) }) ⟨rfl, rfl⟩) fun r0 s1 hr0 => ?_
  match r0, hr0 with
  | .error e0, hr0 => exact hr0
  | .ok (.ret ob), hr0 =>
    obtain ⟨rfl, rfl⟩ := hr0
    have at0 : (sh.heap.push (set0 u)).get? sh.heap.objs.size = some (set0 u) := Heap.get?_push_size _ rfl
    have ty0 : Shared.TypeIs { sh with heap := sh.heap.push (set0 u) } (.ref sh.heap.objs.size) "set" := ⟨_, at0, rfl⟩
    have k6 := F.called_set.init.lookup; have k7 := F.called_set.init.bind (.ref sh.heap.objs.size)
    repeat (any_goals (first | assumption | wp_step; done | wp_step))
    refine codeAny_mono (codeAny_call_builtin (R := wants (fun r2 s2 => r2 = .none ∧ ∃ hp tk L es ep t, s2 = { sh with heap := hp, toks := tk } ∧ SetTR Pg u hp sh.heap.objs.size L es ep t ∧ Got kk kk.length L ∧ (∀ b o, sh.heap.get? b = some o → hp.get? b = some o)) Ex)
      F.called_set.init.plain F.entry_set_init (check_set_init_1 ty0 ?inn)) fun r2 s2 hr2 => ?outt
    case outt =>
      match r2, hr2 with
      | .error e2, hr2 => exact hr2
      | .ok (.ret v2), hr2 =>
        obtain ⟨rfl, hp, tk, L, es, ep, t, rfl, y1, y2, y3⟩ := hr2
        repeat (any_goals (first | assumption | wp_step; done | wp_step))
        exact go _ _ _ _ _ _ y1 y2 y3
    case inn =>
      obtain ⟨⟨oc, od, ot, os⟩, g0, c0, nn, d0⟩ := li
      simp only at c0 d0
      subst c0 d0
      have g1 : (sh.heap.push (set0 u)).get? al = some { cls := .type "tuple", dict := od, data := .seq its nn, slots := os } := Heap.get?_push_of_some _ g0
      have li1 : (sh.heap.push (set0 u)).IsTuple al its := ⟨_, g1, rfl, nn, rfl⟩
      have q1 := F.sub_tuple_set; have q2 := F.sub_tuple_frozenset; have q3 : (Value.type "tuple" == Value.type "dict") = false := by decide
      unfold Builtin.«set.__init__» noKeywords Builtin.Frozenset.updateFrom
      generalize eP : pyIter = PP
      wp_walk
      subst eP
      refine wpAny_pyIter_tuple li1 (wpAny_bind (wpAny_runValue ?_))
      have below : al < sh.heap.objs.size := Heap.lt_size g0
      have un3 : Ar.in1.in1.in1.handled = none := by simp only [un, Around.in1]
      have sz1 : (sh.heap.push (set0 u)).objs.size = sh.heap.objs.size + 1 := Heap.size_push ..
      have far : al ≠ (sh.heap.push (set0 u)).objs.size := by rw [sz1]; exact Nat.ne_of_lt (Nat.lt_succ_of_lt below)
      have out0 : sh.heap.objs.size ∉ [(sh.heap.push (set0 u)).objs.size, al] := by
        rw [sz1]
        simp only [List.mem_cons, List.not_mem_nil, or_false, not_or]
        exact And.intro (Nat.ne_of_lt (Nat.lt_succ_self _)) (Nat.ne_of_gt below)
      refine set_update_tups ((Walks.tuple un3 _ al far its).toS) sh.heap.objs.size out0 kk sz few vals sh.heap hk (no_obj (Nat.le_refl _)) (fun b hb => no_obj (by rw [List.mem_singleton.mp hb, sz1]; exact Nat.le_succ _)) rm (its.size - 0) 0 _ (by omega) (Nat.zero_le _) ⟨⟨_, Heap.get?_push_size _ rfl, rfl, rfl⟩, (li1.push _)⟩
        (fun b o e => Heap.get?_push_of_some _ (Heap.get?_push_of_some _ e)) ⟨[], #[], 0, _, setTR_fresh (Heap.get?_push_of_some _ at0), Got.zero kk⟩ fun s9 L es ep t mv sr gt kp => ?_
      obtain ⟨hp9, gn9, dr9, tk9, os9⟩ := s9
      obtain rfl : gn9 = sh.gens := mv.gens
      obtain rfl : dr9 = sh.drawn := mv.drawn
      obtain rfl : os9 = sh.os := mv.os
      refine wpAny_pure (?_ : wpAny _ _ (ret Value.none) _ _ _)
      rw [sz] at gt
      exact wpAny_pure ⟨rfl, hp9, tk9, L, es, ep, t, rfl, sr, gt, kp⟩
/-- sorted(s), s a set of tuples of ints, none of them empty: by the order of data -/
theorem sorted_tt {a : Addr} {L : List (Addr × List Int)} {es : Array (Int × Value)} {ep : Nat} {t : SetTable} {Qq : Value → Shared → Prop} (R : SetTR Pg u sh.heap a L es ep t) (un : Ar.handled = none) (ne : ∀ p ∈ L, p.2 ≠ []) (rm : Ar.units + 10 < cLine)
    (go : ∀ s' p (out : Array Value) (c : Nat) (L' : List (Addr × List Int)), (∀ b o, sh.heap.get? b = some o → s'.heap.get? b = some o) → s'.gens = sh.gens → s'.os = sh.os → sh.heap.objs.size ≤ p →
      s'.heap.get? p = some (seqObj "list" out c) → out.toList = L'.map (fun q => Value.ref q.1) → L'.Perm L → L'.Pairwise (fun q r => q.2 ≤ r.2) → Qq (.ref p) s') :
    wpAny (model Pg u) Ar (call (.builtin "sorted") [.ref a]) Qq Ex sh := by
  obtain ⟨ob, at0, ex0, dt0⟩ := R.ob
  have ez := R.size
  have few := R.few
  refine Calls.call_function_entry kind_sorted plain_sorted entry_sorted (args_sorted1 _) ?_
  unfold Builtin.«sorted»
  refine wpAny_bind (m := checkCount "sorted" 1 1 _) (wpAny_pure ?_)
  refine wpAny_bind (collect_set (A := Ar.in1) un ⟨ob, at0, ex0.1, dt0⟩ R.fits (by unfold scanBound; omega) R.tab.ris R.led fun s1 vs kp1 zz g1 o1 pm => ?_)
  have er : es.toList.map (·.2) = L.map fun q => Value.ref q.1 := by
    rw [R.rows]
    unfold rowsOf
    rw [List.map_map] <;> rfl
  rw [er] at pm
  obtain ⟨L1, pL1, eL1⟩ : ∃ L1 : List (Addr × List Int), L1.Perm L ∧ vs = L1.map fun q => Value.ref q.1 := by
    exact perm_lift (f := fun q : Addr × List Int => Value.ref q.1) pm.symm rfl
  have vl : vs.length < 64 := by rw [pm.length_eq, List.length_map]; exact few
  refine wpAny_bind (wpAny_newList ?_ (by rw [sizeLine_eq]; omega))
  have atL : (s1.heap.push (seqObj "list" vs.toArray 0)).get? s1.heap.objs.size = some (seqObj "list" vs.toArray 0) := Heap.get?_push_size _ rfl
  have tk : ∀ q ∈ L, TS.TupInts (s1.heap.push (seqObj "list" vs.toArray 0)) (.ref q.1) q.2 := fun q hq => tupInts_of (P := Pg) (w := u) (isT_keep (R.tup q hq) fun b o e => Heap.get?_push_of_some _ (kp1 b o e))
  have inL : ∀ q ∈ L1, q ∈ L := fun q hq => pL1.mem_iff.mp hq
  have ea : PySem.W.EachIs (fun (v : Value) (q : Addr × List Int) => v = .ref q.1) vs L1 := by
    rw [eL1]
    exact each_refl L1
  have rd : PySem.W.EachIs (fun (v : Value) (q : Addr × List Int) => ∃ as, Reads (s1.heap.push (seqObj "list" vs.toArray 0)) v (PyData.tuple (q.2.map .int)) as ∧ s1.heap.objs.size ∉ as) vs L1 := by
    have z := each_rd (n := s1.heap.objs.size) (fun q hq => tk q (inL q hq))
    rw [← eL1] at z
    exact z
  refine wpAny_bind (wpAny_holding (PySem.W.list_sort_data (s := { s1 with heap := s1.heap.push (seqObj "list" vs.toArray 0) }) (enc := fun q : Addr × List Int => PyData.tuple (q.2.map .int)) atL ea rd ?_ ?_ (by rw [pL1.length_eq, sizeLine_eq]; omega) (fun q hq => ?_) fun out ho eo => ?_))
  · exact PySem.W.AllAlike.of fun b b' => by simp only [PySem.W.alike]; exact PySem.W.alike_ints _ _
  · refine .inl fun d hd => ?_
    obtain ⟨q, hq, rfl⟩ := List.mem_map.mp hd
    cases e : q.2 with
    | nil => exact absurd e (ne q (inL q hq))
    | cons x xs => exact ⟨_, _, rfl⟩
  · show Ar.in1.units + 1 + (PyData.tuple (q.2.map .int)).depth < cLine
    rw [PyData.depth, PySem.W.depth_ints]
    show Ar.units + 1 + 1 + _ < cLine
    omega
  obtain ⟨c, hc⟩ := sortedHeap_at (vs := vs) (out := out.toArray) atL
  have eout : out = (L1.mergeSort (PySem.W.dataLe false fun q : Addr × List Int => PyData.tuple (q.2.map .int))).map fun q => Value.ref q.1 := each_eq eo
  refine wpAny_pure ⟨_, rfl, go _ s1.heap.objs.size out.toArray c _ (fun b o e => ?_) g1 o1 zz hc (by simpa using eout) ((List.mergeSort_perm _ _).trans pL1) ?_⟩
  · have q := kp1 b o e
    have hlt := Heap.lt_size q
    show (sortedHeap (s1.heap.push (seqObj "list" vs.toArray 0)) s1.heap.objs.size vs out.toArray).get? b = some o
    rw [sortedHeap_old (Nat.ne_of_lt hlt) (by rw [size_push']; exact Nat.lt_succ_of_lt hlt)]
    exact Heap.get?_push_of_some _ q
  · exact sorted_le L1
end
end D2

namespace D2
open PySem PySem.Spec PyProof.Rows L2
/-! ### sorted(set(x)): x a list or a tuple of tuples of ints -/
def rSetTT (K : PySem.W.Frag) (P : Program) (w : World) : List V → Hp → VK → Prop := fun xs H Q => ∃ (l : Addr) (kk : List (Addr × List Int)), xs = [V.ref l] ∧ SqT K H l (kk.map fun p => V.ref p.1) ∧ (∀ p ∈ kk, SqT K H p.1 (p.2.map V.int)) ∧ kk.length < 64 ∧
  ∀ a L, H a = none → (∀ p ∈ L, p ∈ kk) → (∀ p ∈ kk, p.2 ∈ L.map (·.2)) → Q (.ref a) (upd H a (SetTO P w a L))
theorem cr_setTT {X : Cx} (calm : X.calm = true) (hu : X.A.units + 64 < cLine) : CallR X (.type "set") (rSetTT X.K X.prog X.w) := by
  intro pz sz τ Hz xs us Qz J r h
  obtain ⟨l, kk, rfl, hl, hk, hf, q⟩ := h
  rw [Vals.ref1 r]
  obtain ⟨its, rv, pl, hz⟩ := J.tuple hl
  refine set_of_tt (Pg := X.prog) (u := X.w) kk (J.ok.hd calm) pl (by simpa using refs_of_vals rv) (fun p hp => J.isT (hk p hp)) hf (by omega) fun h' tk L es ep t R g k => ?_
  refine ⟨.ref sz.heap.objs.size, upd Hz sz.heap.objs.size (SetTO X.prog X.w sz.heap.objs.size L), J.laid (t' := tk) k (Nat.le_refl _) (setTO_new R.t0), rfl, q _ L (J.hok.fresh (Nat.le_refl _)) (fun p hp => List.mem_of_mem_take (g.sub p hp)) fun p hp => ?_⟩
  exact g.all p (by rw [List.take_length]; exact hp)
def rSetLT (K : PySem.W.Frag) (P : Program) (w : World) : List V → Hp → VK → Prop := fun xs H Q => rSetOfT K P w xs H Q ∨ rSetTT K P w xs H Q
theorem cr_setLT {X : Cx} (calm : X.calm = true) (hu : X.A.units + 64 < cLine) : CallR X (.type "set") (rSetLT X.K X.prog X.w) := CallR.or (cr_setOfT calm hu) (cr_setTT calm hu)
def rSortTT (K : PySem.W.Frag) (P : Program) (w : World) : List V → Hp → VK → Prop := fun vs H Q => ∃ (a : Addr) (L : List (Addr × List Int)), vs = [V.ref a] ∧ H a = some (SetTO P w a L) ∧ (∀ p ∈ L, SqT K H p.1 (p.2.map V.int)) ∧ (∀ p ∈ L, p.2 ≠ []) ∧
  ∀ (L' : List (Addr × List Int)) (p : Addr), L'.Perm L → (L'.map (·.2)).Nodup → L'.Pairwise (fun q r => q.2 ≤ r.2) → H p = none → Q (.ref p) (upd H p (.lst (L'.map fun q => V.ref q.1)))
theorem cr_sortTT {X : Cx} (calm : X.calm = true) (hu : X.A.units + 64 < cLine) : CallR X (.builtin "sorted") (rSortTT X.K X.prog X.w) := by
  intro pz sz τ Hz vs us Qz J r h
  obtain ⟨a, L, rfl, ha, hk, hn, q⟩ := h
  have R0 : SetT0 X.prog X.w sz.heap a L := (J.hok a _ ha).1
  obtain ⟨es, ep, t, R⟩ := R0.full fun p hp => J.isT (hk p hp)
  rw [Vals.ref1 r]
  refine sorted_tt R (J.ok.hd calm) hn (by omega) fun s' p out c L' k g o hp hg hout pm pw => ?_
  have few : L'.length < 64 := by rw [pm.length_eq]; exact R.few
  have len : (L'.map fun q => V.ref q.1).length ≤ sizeLine := by rw [List.length_map, sizeLine_eq]; omega
  have fr : Hz p = none := J.hok.fresh hp
  have hv : Vals (L'.map fun q => V.ref q.1) out.toList := by rw [hout]; exact vals_of_refs L'
  have J2 : Inv X pz τ (upd Hz p (.lst (L'.map fun q => V.ref q.1))) { sz with heap := s'.heap, gens := s'.gens, drawn := s'.drawn, toks := s'.toks } :=
    J.call (ch := []) (Un.laid k hp fr) (J.hok.laid k hp ⟨len, out.toList, c, hv, hg⟩) (by rw [g]; exact J.bare) (fun _ z => nomatch z)
  have e : s' = { sz with heap := s'.heap, gens := s'.gens, drawn := s'.drawn, toks := s'.toks } := by
    cases s'; cases sz; cases o
    rfl
  rw [e]
  exact ⟨.ref p, _, J2, rfl, q L' p pm ((pm.map (·.2)).nodup_iff.mpr R.nd) pw fr⟩
/-- those that differ, ascending -/
def dd : List (List Int) → List (List Int)
  | [] => []
  | x :: xs => if x ∈ xs then dd xs else x :: dd xs
theorem mem_dd {x : List Int} : ∀ {l : List (List Int)}, x ∈ dd l ↔ x ∈ l
  | [] => by simp [dd]
  | y :: l => by
    unfold dd
    split
    · rename_i h
      rw [mem_dd (l := l), List.mem_cons]
      exact ⟨.inr, fun z => z.elim (fun e => e ▸ h) id⟩
    · rw [List.mem_cons, mem_dd (l := l), List.mem_cons]
theorem nodup_dd : ∀ l : List (List Int), (dd l).Nodup
  | [] => List.nodup_nil
  | y :: l => by
    unfold dd
    split
    · exact nodup_dd l
    · rename_i h
      exact List.nodup_cons.mpr ⟨fun z => h (mem_dd.mp z), nodup_dd l⟩
theorem dd_len : ∀ l : List (List Int), (dd l).length ≤ l.length
  | [] => Nat.le_refl _
  | y :: l => by
    unfold dd
    have := dd_len l
    split
    · rw [List.length_cons]; omega
    · rw [List.length_cons, List.length_cons]; omega
def sortL (l : List (List Int)) : List (List Int) := (dd l).mergeSort fun a b => decide (a ≤ b)
theorem sortL_perm (l : List (List Int)) : (sortL l).Perm (dd l) := List.mergeSort_perm _ _
theorem mem_sortL {x : List Int} {l : List (List Int)} : x ∈ sortL l ↔ x ∈ l := (sortL_perm l).mem_iff.trans mem_dd
theorem sortL_len (l : List (List Int)) : (sortL l).length ≤ l.length := by rw [(sortL_perm l).length_eq]; exact dd_len l
theorem sortL_nodup (l : List (List Int)) : (sortL l).Nodup := (sortL_perm l).nodup_iff.mpr (nodup_dd l)
theorem sortL_sorted (l : List (List Int)) : (sortL l).Pairwise (· ≤ ·) := by
  have := List.pairwise_mergeSort (le := fun p q : List Int => decide (p ≤ q)) (fun a b c h1 h2 => by
    rw [decide_eq_true_eq] at h1 h2 ⊢
    exact List.le_trans h1 h2) (fun a b => by
    rw [Bool.or_eq_true, decide_eq_true_eq, decide_eq_true_eq]
    exact List.le_total _ _) (dd l)
  exact this.imp fun h => of_decide_eq_true h
theorem sorted_only {l m : List (List Int)} (h1 : l.Pairwise (· ≤ ·)) (h2 : m.Pairwise (· ≤ ·)) (n1 : l.Nodup) (n2 : m.Nodup) (h : ∀ x, x ∈ l ↔ x ∈ m) : l = m :=
  List.Perm.eq_of_pairwise (fun a b _ _ x y => List.le_antisymm x y) h1 h2 ((List.perm_ext_iff_of_nodup n1 n2).mpr h)
/-- the same members: the same -/
theorem sortL_ext {l m : List (List Int)} (h : ∀ x, x ∈ l ↔ x ∈ m) : sortL l = sortL m :=
  sorted_only (sortL_sorted l) (sortL_sorted m) (sortL_nodup l) (sortL_nodup m) fun x => by rw [mem_sortL, mem_sortL]; exact h x
def okL (l : List (List Int)) : Bool := decide (l.length < 64) && l.all fun ns => decide (ns ≠ [])
def D.ssetL : D → Option D
  | .lst ds => match tupsOf ds with
    | some l => if okL l = true then some (.lst ((sortL l).map tupI)) else none
    | none => none
  | .tup ds => match tupsOf ds with
    | some l => if okL l = true then some (.lst ((sortL l).map tupI)) else none
    | none => none
  | _ => none
section
variable {X : Cx} {W : WX2} {wk : Bool} {pos : Pos}
theorem e2_ssetL {e : Expr} {m : ME} {p p2 q : Pos} (hc : X.calm = true) (hu : X.A.units + 64 < cLine) (hg : Gl X "sorted") (hm : X.mg "sorted" = none) (hg2 : Gl X "set") (hm2 : X.mg "set" = none) (he : PE2 X W wk e m)
    (v1 : bootBuiltins "sorted" = some (.builtin "sorted") := by decide +kernel) (v2 : bootBuiltins "set" = some (.type "set") := by decide +kernel)
    (n1 : starEach [e] X.env = (false, eval e X.env) :: starEach [] X.env := by rfl) (n2 : starEach [.Call (.Name "set" p2) [e] [] q] X.env = (false, eval (.Call (.Name "set" p2) [e] [] q) X.env) :: starEach [] X.env := by rfl)
    (pl1 : (backTo q (starEach [] X.env)).any (·.1) = false := by rfl) (pl2 : (backTo pos (starEach [] X.env)).any (·.1) = false := by rfl) :
    PE2 X W wk (.Call (.Name "sorted" p) [.Call (.Name "set" p2) [e] [] q] [] pos) (mUn D.ssetL m) := by
  obtain ⟨t, a1, a2⟩ := he
  refine ⟨_, pe_callB (cr_sortTT hc hu) hg hm v1 (pa_cons (pe_callTy (cr_setLT hc hu) hg2 hm2 v2 (pa_cons a1 pa_nil n1) (by decide) (by decide) n1 pl1) pa_nil n2) (by decide) (by decide) n2 pl2, fun B H0 as ks ow sg S σ H Q r h => ?_⟩
  refine a2 _ _ _ _ _ _ _ _ _ _ r (Den.bind h fun d S1 v H1 e0 e1 s1 q1 h1 => ?_)
  clear e0
  have r1 := r.step e1 s1
  -- from the members on
  have rest : ∀ (l : List (List Int)) (kk : List (Addr × List Int)), okL l = true → kk.map (·.2) = l → (∀ p ∈ kk, SqT X.K H1 p.1 (p.2.map V.int)) → (∀ (v : V) (H' : Hp), Evo X.K (· ∈ as) H1 H' → Sto X.K as (Bd B ow) H' S1 → (ctOf X W B H0 as ks).rp ow wk H' (.lst ((sortL l).map tupI)) v → Q v H') →
      kk.length < 64 ∧ ∀ b L, H1 b = none → (∀ p ∈ L, p ∈ kk) → (∀ p ∈ kk, p.2 ∈ L.map (·.2)) → rSortTT X.K X.prog X.w [V.ref b] (upd H1 b (SetTO X.prog X.w b L)) Q := by
    intro l kk hok k2 k3 fin
    unfold okL at hok
    simp only [Bool.and_eq_true, decide_eq_true_eq, List.all_eq_true] at hok
    refine ⟨by rw [← k2, List.length_map] at hok; exact hok.1, fun b L hb l1 l2 => ?_⟩
    have k3' : ∀ p ∈ L, SqT X.K (upd H1 b (SetTO X.prog X.w b L)) p.1 (p.2.map V.int) := fun p hp => (Evo.new (W := fun _ => False) hb).sqT (k3 p (l1 p hp))
    refine ⟨b, L, rfl, upd_same, k3', fun p hp => hok.2 p.2 (by rw [← k2]; exact List.mem_map.mpr ⟨p, l1 p hp, rfl⟩), fun L' c pm nd pw hcn => ?_⟩
    have hcb : c ≠ b := fun z => by subst z; rw [upd_same] at hcn; cases hcn
    have hc1 : H1 c = none := by rw [upd_ne hcb] at hcn; exact hcn
    have eL : L'.map (·.2) = sortL l := by
      refine sorted_only ?_ (sortL_sorted l) nd (sortL_nodup l) fun x => ?_
      · rw [List.pairwise_map]
        exact pw
      · rw [mem_sortL, ← k2, List.mem_map, List.mem_map]
        constructor
        · rintro ⟨p, hp, e⟩
          exact ⟨p, l1 p (pm.mem_iff.mp hp), e⟩
        · rintro ⟨p, hp, e⟩
          obtain ⟨p', hp', e'⟩ := List.mem_map.mp (l2 p hp)
          exact ⟨p', pm.mem_iff.mpr hp', e'.trans e⟩
    have ev3 : Evo X.K (fun _ => False) H1 (upd (upd H1 b (SetTO X.prog X.w b L)) c (.lst (L'.map fun q => V.ref q.1))) := (Evo.new hb).trans (Evo.new hcn)
    refine fin _ _ ev3.any (r1.stoNew ev3) ⟨c, _, rfl, newB r.asBd r1.bdDom hc1, upd_same, ?_⟩
    rw [← eL]
    exact RepA.new hcn (rep_tups fun p hp => k3' p (pm.mem_iff.mp hp))
  cases es : D.ssetL d with
  | none => simp only [es] at h1; exact False.elim h1
  | some z =>
    simp only [es] at h1
    cases d <;> try (cases es; done)
    · rename_i ds
      simp only [D.ssetL] at es
      split at es
      · rename_i l hl
        split at es
        · rename_i hok
          cases es
          obtain ⟨a, xs, ev, g1, g2⟩ := q1
          subst ev
          obtain ⟨kk, k1, k2, k3⟩ := tups_rep g2 hl
          subst k1
          obtain ⟨f1, f2⟩ := rest l kk hok k2 k3 h1
          exact .inr ⟨a, kk, rfl, g1, k3, f1, f2⟩
        · cases es
      · cases es
    · rename_i ds
      simp only [D.ssetL] at es
      split at es
      · rename_i l hl
        split at es
        · rename_i hok
          cases es
          obtain ⟨a, xs, ev, nb, g1, g2⟩ := q1
          subst ev
          obtain ⟨kk, k1, k2, k3⟩ := tups_rep g2 hl
          subst k1
          obtain ⟨f1, f2⟩ := rest l kk hok k2 k3 h1
          exact .inl ⟨a, kk, rfl, SqL.of g1, k3, f1, f2⟩
        · cases es
      · cases es
end
theorem ssetL_lst {l : List (List Int)} (h : okL l = true) : D.ssetL (.lst (l.map tupI)) = some (.lst ((sortL l).map tupI)) := by
  simp only [D.ssetL, tupsOf_map, h, if_true]
theorem ssetL_tup {l : List (List Int)} (h : okL l = true) : D.ssetL (.tup (l.map tupI)) = some (.lst ((sortL l).map tupI)) := by
  simp only [D.ssetL, tupsOf_map, h, if_true]
/-! ### a test that is (a if c else b) -/
section
variable {X : Cx} {W : WX2} {c a b : Expr} {mt ma mb : MT} {pos : Pos}
def tIfT (t ta tb : TT) : TT := fun σ H Q => t σ H fun k H1 => if k = true then ta σ H1 Q else tb σ H1 Q
theorem pt_if {t ta tb : TT} (hc : PT X c t) (ha : PT X a ta) (hb : PT X b tb) : PT X (.IfExp c a b pos) (tIfT t ta tb) := by
  refine ⟨fun pz sz τ Hz Q J h => ?_⟩
  refine isTrue_IfExp (thn (hc.run pz sz τ Hz _ J h) fun k s1 ⟨H1, I1, q1⟩ => ?_)
  cases k with
  | true => exact ha.run pz s1 τ H1 Q I1 q1
  | false => exact hb.run pz s1 τ H1 Q I1 q1
def mIfT (mt ma mb : MT) : MT := fun sg S => (mt sg S).bind fun x => if x.1 = true then ma sg x.2 else mb sg x.2
theorem t2_if (hc : PT2 X W c mt) (ha : PT2 X W a ma) (hb : PT2 X W b mb) : PT2 X W (.IfExp c a b pos) (mIfT mt ma mb) := by
  obtain ⟨t, h1, h2⟩ := hc
  obtain ⟨u, f1, f2⟩ := ha
  obtain ⟨w, g1, g2⟩ := hb
  refine ⟨_, pt_if h1 f1 g1, fun B H0 as ks ow sg S σ H Q r h => ?_⟩
  refine h2 _ _ _ _ _ _ _ _ _ _ r (Den.bind h fun d S1 v H1 e0 e1 s1 q1 h1 => ?_)
  have q : v = d := q1
  subst q
  cases v with
  | true => exact f2 _ _ _ _ _ _ _ _ _ _ (r.step e1 s1) h1
  | false => exact g2 _ _ _ _ _ _ _ _ _ _ (r.step e1 s1) h1
end
/-- a comprehension's scope within a def's -/
def relabS (oS sc : Scope) : Scope := { sc with names := sc.names.map fun (n, k) => if (k == .free && oS.kind == .function && oS.names.lookup n == some .cell) then (n, .cell) else (n, k) }
/-! ### tuple(range(n)) -/
def D.tupRg : D → Option D
  | .int n => if decide (0 ≤ n ∧ n ≤ 16777216) = true then some (.tup (rngD 0 n.toNat)) else none
  | _ => none
section
variable {X : Cx} {W : WX2} {wk : Bool} {pos : Pos}
theorem e2_tupRg {e : Expr} {m : ME} {p p2 q : Pos} (hc : X.calm = true) (hg : Gl X "tuple") (hm : X.mg "tuple" = none) (hg2 : Gl X "range") (hm2 : X.mg "range" = none) (he : PE2 X W wk e m)
    (n1 : starEach [e] X.env = (false, eval e X.env) :: starEach [] X.env := by rfl) (n2 : starEach [.Call (.Name "range" p2) [e] [] q] X.env = (false, eval (.Call (.Name "range" p2) [e] [] q) X.env) :: starEach [] X.env := by rfl) :
    PE2 X W wk (.Call (.Name "tuple" p) [.Call (.Name "range" p2) [e] [] q] [] pos) (mUn D.tupRg m) := by
  obtain ⟨t, a1, a2⟩ := he
  refine ⟨_, pe_tupRg hc hg hm (prg_1 hg2 hm2 a1 n1) n2, fun B H0 as ks ow sg S σ H Q r h => ?_⟩
  refine a2 _ _ _ _ _ _ _ _ _ _ r (Den.bind h fun x S1 v H1 c1 e1 s1 q1 h1 => ?_)
  clear c1
  cases x <;> try exact False.elim h1
  rename_i n
  by_cases hl : 0 ≤ n ∧ n ≤ 16777216
  · simp only [D.tupRg, decide_eq_true hl, if_true] at h1
    refine ⟨n, q1, RgOk.of_le (Int.le_refl _) hl.2 (by decide) hl.1, fun p hp => h1 _ _ (Evo.new hp) ((r.step e1 s1).stoNew (Evo.new hp)) (repNewT hp ?_)⟩
    unfold rgV rngD
    rw [Int.sub_zero]
    exact repA_map fun k _ => rfl
  · simp only [D.tupRg, decide_eq_false hl] at h1
    exact False.elim h1
end
end D2

namespace D2
open PySem PySem.Spec PyProof.Rows L2
/-! ### min(x), max(x): x a list or a tuple of data that can be ordered -/
def D.minF (x : D) (ds : List D) : D := ds.foldl (fun a y => if y.ltb a = true then y else a) x
def D.maxF (x : D) (ds : List D) : D := ds.foldl (fun a y => if a.ltb y = true then y else a) x
def D.bestOk (ds : List D) : Bool := D.okqA ds 50 && (ds.all fun x => ds.all fun y => x.alk y) && ds.all D.noN
def D.minG : D → Option D
  | .lst (d :: ds) => if D.bestOk (d :: ds) = true then some (D.minF d ds) else none
  | .tup (d :: ds) => if D.bestOk (d :: ds) = true then some (D.minF d ds) else none
  | _ => none
def D.maxG : D → Option D
  | .lst (d :: ds) => if D.bestOk (d :: ds) = true then some (D.maxF d ds) else none
  | .tup (d :: ds) => if D.bestOk (d :: ds) = true then some (D.maxF d ds) else none
  | _ => none
theorem minF_pd : ∀ (ds : List D) (x : D), (D.minF x ds).pd = PySem.W.minD x.pd (D.pdA ds)
  | [], x => rfl
  | y :: ds, x => by
    have ih := minF_pd ds (if y.ltb x = true then y else x)
    unfold D.minF PySem.W.minD at ih ⊢
    rw [List.foldl_cons, D.pdA, List.foldl_cons, ih]
    unfold D.ltb
    congr 1
    split <;> rfl
theorem maxF_pd : ∀ (ds : List D) (x : D), (D.maxF x ds).pd = PySem.W.maxD x.pd (D.pdA ds)
  | [], x => rfl
  | y :: ds, x => by
    have ih := maxF_pd ds (if x.ltb y = true then y else x)
    unfold D.maxF PySem.W.maxD at ih ⊢
    rw [List.foldl_cons, D.pdA, List.foldl_cons, ih]
    unfold D.ltb
    congr 1
    split <;> rfl
theorem minF_mem : ∀ (ds : List D) (x : D), D.minF x ds ∈ x :: ds
  | [], x => List.mem_cons_self
  | y :: ds, x => by
    have ih := minF_mem ds (if y.ltb x = true then y else x)
    unfold D.minF at ih ⊢
    rw [List.foldl_cons]
    rcases List.mem_cons.mp ih with e | e
    · rw [e]
      split
      · exact List.mem_cons_of_mem _ List.mem_cons_self
      · exact List.mem_cons_self
    · exact List.mem_cons_of_mem _ (List.mem_cons_of_mem _ e)
theorem maxF_mem : ∀ (ds : List D) (x : D), D.maxF x ds ∈ x :: ds
  | [], x => List.mem_cons_self
  | y :: ds, x => by
    have ih := maxF_mem ds (if x.ltb y = true then y else x)
    unfold D.maxF at ih ⊢
    rw [List.foldl_cons]
    rcases List.mem_cons.mp ih with e | e
    · rw [e]
      split
      · exact List.mem_cons_of_mem _ List.mem_cons_self
      · exact List.mem_cons_self
    · exact List.mem_cons_of_mem _ (List.mem_cons_of_mem _ e)
def rBest (K : PySem.W.Frag) (g : D → List D → D) : List V → Hp → VK → Prop := fun vs H Q => ∃ (a : Addr) (xs : List V) (d : D) (ds : List D), vs = [V.ref a] ∧ (SqL K H a xs ∨ SqT K H a xs) ∧ xs.length = ds.length + 1 ∧ DpAll K H xs (D.pdA (d :: ds)) ∧ D.bestOk (d :: ds) = true ∧
  ∀ (i : Nat) (v : V), xs[i]? = some v → (d :: ds)[i]? = some (g d ds) → Q v H
theorem best_alike {ds : List D} (h : D.bestOk ds = true) : PySem.W.AlikeAll (D.pdA ds) := by
  unfold D.bestOk at h
  simp only [Bool.and_eq_true, List.all_eq_true] at h
  obtain ⟨⟨h1, h2⟩, h3⟩ := h
  have hm : ∀ y ∈ D.pdA ds, ∃ d ∈ ds, y = d.pd := fun y hy => by
    rw [pdA_map] at hy
    obtain ⟨d, hd, rfl⟩ := List.mem_map.mp hy
    exact ⟨d, hd, rfl⟩
  refine ⟨fun x hx y hy => ?_, fun x hx => ?_⟩
  · obtain ⟨d, hd, rfl⟩ := hm x hx
    obtain ⟨e, he, rfl⟩ := hm y hy
    exact h2 d hd e he
  · obtain ⟨d, hd, rfl⟩ := hm x hx
    exact pd_non (okqA_mem h1 hd) (h3 d hd)
mutual
theorem okq_plain : ∀ (d : D) (n : Nat), d.okq n = true → d.pd.plain = true
  | .non, _, _ => rfl
  | .bl _, _, _ => rfl
  | .int _, _, _ => rfl
  | .str _, _, _ => rfl
  | .tup ds, 0, h => by simp [D.okq] at h
  | .tup ds, n + 1, h => by
    have := okqA_plain ds n h
    simp only [D.pd, PyData.plain]
    exact this
  | .lst ds, 0, h => by simp [D.okq] at h
  | .lst ds, n + 1, h => by
    have := okqA_plain ds n h
    simp only [D.pd, PyData.plain]
    exact this
  | .dic _ _, _, h => by simp [D.okq] at h
  | .rng _ _, _, h => by simp [D.okq] at h
  | .xd _ _, _, h => by simp [D.okq] at h
  | .ref _, _, h => by simp [D.okq] at h
theorem okqA_plain : ∀ (ds : List D) (n : Nat), D.okqA ds n = true → PyData.plainAll (D.pdA ds) = true
  | [], _, _ => rfl
  | d :: ds, n, h => by
    rw [D.okqA, Bool.and_eq_true] at h
    simp only [D.pdA, PyData.plainAll, Bool.and_eq_true]
    exact ⟨okq_plain d n h.1, okqA_plain ds n h.2⟩
end
theorem readsAll_keeps {h h' : Heap} (k : ∀ b o, h.get? b = some o → h'.get? b = some o) : ∀ {vs : List Value} {xs : List PyData} {as : List Addr}, ReadsAll h vs xs as → ReadsAll h' vs xs as
  | _, _, _, .nil => .nil
  | _, _, _, .cons r t => .cons (PySem.W.reads_keeps k r) (readsAll_keeps k t)
theorem vals_at {xs : List V} {us : List Value} (r : Vals xs us) : ∀ {i : Nat} {u : Value}, us[i]? = some u → ∃ v, xs[i]? = some v ∧ RelV v u := by
  induction r with
  | nil => intro i u h; cases h
  | cons r t ih =>
    rename_i x y xs us
    intro i u h
    cases i with
    | zero => cases h; exact ⟨x, rfl, r⟩
    | succ i =>
      rw [List.getElem?_cons_succ] at h
      obtain ⟨v, h1, h2⟩ := ih h
      exact ⟨v, by rw [List.getElem?_cons_succ]; exact h1, h2⟩
section
variable {X : Cx} {pins : List (Addr × Obj)} {σ : L2.St} {H : Hp} {s : Shared}
/-- the one at i is the least one -/
theorem best_at {d : D} {ds : List D} {its : List Value} {as bs : List Addr} {h : Heap} {i : Nat} {u : Value} {b : D} (hok : D.okqA (d :: ds) 50 = true) (hb : b ∈ d :: ds) (r : ReadsAll h its (D.pdA (d :: ds)) as) (hi : its[i]? = some u) (r2 : Reads h u b.pd bs) : (d :: ds)[i]? = some b := by
  obtain ⟨cs, r3, hlt, _, _⟩ := PySem.W.readsAll_at r i u hi
  have e0 : (D.pdA (d :: ds)).length = (d :: ds).length := by rw [pdA_map, List.length_map]
  rw [e0] at hlt
  have e1 : (D.pdA (d :: ds)).getD i .none = ((d :: ds)[i]).pd := by
    rw [pdA_map, List.getD_eq_getElem?_getD, List.getElem?_map, List.getElem?_eq_getElem hlt]
    rfl
  rw [e1] at r3
  have o1 := okqA_mem hok (List.getElem_mem hlt)
  have o2 := okqA_mem hok hb
  have e2 := PySem.SeqAt.plain_unique _ _ u cs bs (okq_plain _ 50 o1) r3 r2
  rw [List.getElem?_eq_getElem hlt, pd_inj _ _ 50 50 o1 o2 e2]
theorem cr_minG (hc : X.calm = true) (hu : X.A.units + 64 < cLine) : CallR X (.builtin "min") (rBest X.K D.minF) := by
  intro pins s σ H vs us Q I r h
  obtain ⟨a, xs, d, ds, rfl, hs, hl, hdp, hok, q⟩ := h
  rw [Vals.ref1 r]
  have hk : D.okqA (d :: ds) 50 = true := by
    unfold D.bestOk at hok
    simp only [Bool.and_eq_true] at hok
    exact hok.1.1
  have dep := depth_okqA (d :: ds) 50 hk
  have ep : D.pdA (d :: ds) = d.pd :: D.pdA ds := rfl
  have al := best_alike hok
  have mem := minF_mem ds d
  have go : ∀ {its : List Value} {as : List Addr}, Vals xs its → ReadsAll s.heap its (D.pdA (d :: ds)) as → ∀ (i : Nat) (u : Value) (h' : Heap) (tk : Nat) (bs : List Addr), its[i]? = some u → Reads h' u (PySem.W.minD d.pd (D.pdA ds)) bs → (∀ b o, s.heap.get? b = some o → h'.get? b = some o) →
      ∃ v H', Inv X pins σ H' { s with heap := h', toks := tk } ∧ RelV v u ∧ Q v H' := fun {its as} rv rd i u h' tk bs hi rr kp => by
    have rd' := readsAll_keeps kp rd
    rw [← minF_pd] at rr
    have hb := best_at hk mem rd' hi rr
    obtain ⟨v, hv, ru⟩ := vals_at rv hi
    exact ⟨v, H, I.kept (t' := tk) kp, ru, q i v hv hb⟩
  rcases hs with hs | hs
  · obtain ⟨its, rv, hli, hz⟩ := I.list hs
    obtain ⟨as, rd⟩ := Dp.readsAll I _ _ _ hdp rv
    refine PySem.W.min_list_data (I.ok.hd hc) (vs := its.toArray) hli.isList (x := d.pd) (xs := D.pdA ds) (show ReadsAll s.heap its.toArray.toList (d.pd :: D.pdA ds) as from rd) (by rw [← ep]; exact al) (by rw [← ep]; omega) fun i u h' tk bs hi rr kp => ?_
    exact go rv rd i u h' tk bs (by simpa using hi) rr kp
  · obtain ⟨its, rv, p, hz⟩ := I.tuple hs
    obtain ⟨as, rd⟩ := Dp.readsAll I _ _ _ hdp rv
    refine PySem.W.min_tuple_data (I.ok.hd hc) (vs := its.toArray) p (x := d.pd) (xs := D.pdA ds) (show ReadsAll s.heap its.toArray.toList (d.pd :: D.pdA ds) as from rd) (by rw [← ep]; exact al) (by rw [← ep]; omega) fun i u h' tk bs hi rr kp => ?_
    exact go rv rd i u h' tk bs (by simpa using hi) rr kp
theorem cr_maxG (hc : X.calm = true) (hu : X.A.units + 64 < cLine) : CallR X (.builtin "max") (rBest X.K D.maxF) := by
  intro pins s σ H vs us Q I r h
  obtain ⟨a, xs, d, ds, rfl, hs, hl, hdp, hok, q⟩ := h
  rw [Vals.ref1 r]
  have hk : D.okqA (d :: ds) 50 = true := by
    unfold D.bestOk at hok
    simp only [Bool.and_eq_true] at hok
    exact hok.1.1
  have dep := depth_okqA (d :: ds) 50 hk
  have ep : D.pdA (d :: ds) = d.pd :: D.pdA ds := rfl
  have al := best_alike hok
  have mem := maxF_mem ds d
  have go : ∀ {its : List Value} {as : List Addr}, Vals xs its → ReadsAll s.heap its (D.pdA (d :: ds)) as → ∀ (i : Nat) (u : Value) (h' : Heap) (tk : Nat) (bs : List Addr), its[i]? = some u → Reads h' u (PySem.W.maxD d.pd (D.pdA ds)) bs → (∀ b o, s.heap.get? b = some o → h'.get? b = some o) →
      ∃ v H', Inv X pins σ H' { s with heap := h', toks := tk } ∧ RelV v u ∧ Q v H' := fun {its as} rv rd i u h' tk bs hi rr kp => by
    have rd' := readsAll_keeps kp rd
    rw [← maxF_pd] at rr
    have hb := best_at hk mem rd' hi rr
    obtain ⟨v, hv, ru⟩ := vals_at rv hi
    exact ⟨v, H, I.kept (t' := tk) kp, ru, q i v hv hb⟩
  rcases hs with hs | hs
  · obtain ⟨its, rv, hli, hz⟩ := I.list hs
    obtain ⟨as, rd⟩ := Dp.readsAll I _ _ _ hdp rv
    refine PySem.W.max_list_data (I.ok.hd hc) (vs := its.toArray) hli.isList (x := d.pd) (xs := D.pdA ds) (show ReadsAll s.heap its.toArray.toList (d.pd :: D.pdA ds) as from rd) (by rw [← ep]; exact al) (by rw [← ep]; omega) fun i u h' tk bs hi rr kp => ?_
    exact go rv rd i u h' tk bs (by simpa using hi) rr kp
  · obtain ⟨its, rv, p, hz⟩ := I.tuple hs
    obtain ⟨as, rd⟩ := Dp.readsAll I _ _ _ hdp rv
    refine PySem.W.max_tuple_data (I.ok.hd hc) (vs := its.toArray) p (x := d.pd) (xs := D.pdA ds) (show ReadsAll s.heap its.toArray.toList (d.pd :: D.pdA ds) as from rd) (by rw [← ep]; exact al) (by rw [← ep]; omega) fun i u h' tk bs hi rr kp => ?_
    exact go rv rd i u h' tk bs (by simpa using hi) rr kp
end
section
variable {K : PySem.W.Frag} {wk : Bool}
theorem best_len {d : D} {ds : List D} {as : List Addr} {B : Addr → Prop} {H : Hp} {xs : List V} (h : RepA K as B H (d :: ds) xs) : xs.length = ds.length + 1 := by rw [← h.length]; rfl
theorem best_go {d b : D} {ds : List D} {as : List Addr} {B : Addr → Prop} {H : Hp} {xs : List V} {Q : VK} (h : RepA K as B H (d :: ds) xs) (q : ∀ u H', Evo K (fun _ => False) H H' → Rep K as B H' b u → Q u H') : ∀ (i : Nat) (v : V), xs[i]? = some v → (d :: ds)[i]? = some b → Q v H := fun i v hv hd => by
  obtain ⟨w, w1, w2⟩ := h.get hd
  rw [hv] at w1
  cases w1
  exact q v H Evo.refl w2
theorem ok_minG : CallOk K wk (on1 D.minG) (rBest K D.minF) := by
  refine ok_on1 fun as Bs Bw H d z v Q h1 h2 hr e q => ?_
  cases d <;> try (cases e; done)
  all_goals
    rename_i ds
    cases ds with
    | nil => cases e
    | cons d ds =>
      unfold D.minG at e
      simp only [] at e
      split at e
      · rename_i hok
        cases e
        have hk : D.okqA (d :: ds) 50 = true := by
          unfold D.bestOk at hok
          simp only [Bool.and_eq_true] at hok
          exact hok.1.1
        first
        | (obtain ⟨a, xs, e1, a1, a2⟩ := hr
           subst e1
           exact ⟨a, xs, d, ds, rfl, .inr a1, best_len a2, (okqA_dp _ xs 50 a2 hk).1, hok, best_go a2 q⟩)
        | (obtain ⟨a, xs, e1, nb, a1, a2⟩ := hr
           subst e1
           exact ⟨a, xs, d, ds, rfl, .inl (SqL.of a1), best_len a2, (okqA_dp _ xs 50 a2 hk).1, hok, best_go a2 q⟩)
      · cases e
theorem ok_maxG : CallOk K wk (on1 D.maxG) (rBest K D.maxF) := by
  refine ok_on1 fun as Bs Bw H d z v Q h1 h2 hr e q => ?_
  cases d <;> try (cases e; done)
  all_goals
    rename_i ds
    cases ds with
    | nil => cases e
    | cons d ds =>
      unfold D.maxG at e
      simp only [] at e
      split at e
      · rename_i hok
        cases e
        have hk : D.okqA (d :: ds) 50 = true := by
          unfold D.bestOk at hok
          simp only [Bool.and_eq_true] at hok
          exact hok.1.1
        first
        | (obtain ⟨a, xs, e1, a1, a2⟩ := hr
           subst e1
           exact ⟨a, xs, d, ds, rfl, .inr a1, best_len a2, (okqA_dp _ xs 50 a2 hk).1, hok, best_go a2 q⟩)
        | (obtain ⟨a, xs, e1, nb, a1, a2⟩ := hr
           subst e1
           exact ⟨a, xs, d, ds, rfl, .inl (SqL.of a1), best_len a2, (okqA_dp _ xs 50 a2 hk).1, hok, best_go a2 q⟩)
      · cases e
end
end D2

namespace D2
open PySem PySem.Spec PyProof.Rows L2
/-! ### min(x, default=d), max(x, default=d): x a list or a tuple of data that can be ordered -/
def rBestD (K : PySem.W.Frag) (g : D → List D → D) : List V → List V → Hp → VK → Prop := fun vs zs H Q => ∃ (a : Addr) (xs : List V) (ds : List D) (z : V), vs = [V.ref a] ∧ zs = [z] ∧ (SqL K H a xs ∨ SqT K H a xs) ∧ xs.length = ds.length ∧ DpAll K H xs (D.pdA ds) ∧ D.bestOk ds = true ∧
  (ds = [] → Q z H) ∧ ∀ (d : D) (es : List D) (i : Nat) (v : V), ds = d :: es → xs[i]? = some v → ds[i]? = some (g d es) → Q v H
def D.seqOf : D → Option (List D)
  | .lst ds => some ds
  | .tup ds => some ds
  | _ => none
def D.bestD (g : D → List D → D) (x z : D) : Option D := match x.seqOf with
  | some [] => some z
  | some (d :: es) => if D.bestOk (d :: es) = true then some (g d es) else none
  | none => none
section
variable {X : Cx} {W : WX2} {wk : Bool} {pos : Pos}
theorem cr_minD2 (hc : X.calm = true) (hu : X.A.units + 64 < cLine) : CallRK X (.builtin "min") [Str.ofString "default"] (rBestD X.K D.minF) := by
  intro pins s σ H xs0 zs us ws Q I r1 r2 h
  obtain ⟨a, xs, ds, z, e1, e2, hs, hl, hdp, hok, q0, q1⟩ := h
  subst e1 e2
  rw [Vals.ref1 r1]
  have hk : D.okqA ds 50 = true := by
    unfold D.bestOk at hok
    simp only [Bool.and_eq_true] at hok
    exact hok.1.1
  have dep := depth_okqA ds 50 hk
  have al := best_alike hok
  cases r2 with
  | cons rz rr =>
    cases rr
    rename_i w
    have go : ∀ {its : List Value} {as : List Addr}, Vals xs its → ReadsAll s.heap its (D.pdA ds) as → ∀ (y : PyData) (ys : List PyData) (i : Nat) (u : Value) (h' : Heap) (tk : Nat) (bs : List Addr), D.pdA ds = y :: ys → its[i]? = some u → Reads h' u (PySem.W.minD y ys) bs → (∀ b o, s.heap.get? b = some o → h'.get? b = some o) →
        ∃ v H', Inv X pins σ H' { s with heap := h', toks := tk } ∧ RelV v u ∧ Q v H' := fun {its as} rv rd y ys i u h' tk bs ey hi rr kp => by
      cases ds with
      | nil => cases ey
      | cons d es =>
        have ep : d.pd :: D.pdA es = y :: ys := ey
        cases ep
        have rd' := readsAll_keeps kp rd
        rw [← minF_pd] at rr
        have hb := best_at hk (minF_mem es d) rd' hi rr
        obtain ⟨v, hv, ru⟩ := vals_at rv hi
        exact ⟨v, H, I.kept (t' := tk) kp, ru, q1 d es i v rfl hv hb⟩
    have nil0 : D.pdA ds = [] → ds = [] := fun e => by
      cases ds with
      | nil => rfl
      | cons d es => cases e
    rcases hs with hs | hs
    · obtain ⟨its, rv, hli, hz⟩ := I.list hs
      obtain ⟨as, rd⟩ := Dp.readsAll I _ _ _ hdp rv
      refine PySem.W.min_list_default (I.ok.hd hc) (vs := its.toArray) hli.isList (xs := D.pdA ds) (show ReadsAll s.heap its.toArray.toList (D.pdA ds) as from rd) al (by omega) (fun e h' tk kp => ?_) fun y ys i u h' tk bs ey hi rr kp => ?_
      · exact ⟨z, H, I.kept (t' := tk) kp, rz, q0 (nil0 e)⟩
      · exact go rv rd y ys i u h' tk bs ey (by simpa using hi) rr kp
    · obtain ⟨its, rv, p, hz⟩ := I.tuple hs
      obtain ⟨as, rd⟩ := Dp.readsAll I _ _ _ hdp rv
      refine PySem.W.min_tuple_default (I.ok.hd hc) (vs := its.toArray) p (xs := D.pdA ds) (show ReadsAll s.heap its.toArray.toList (D.pdA ds) as from rd) al (by omega) (fun e h' tk kp => ?_) fun y ys i u h' tk bs ey hi rr kp => ?_
      · exact ⟨z, H, I.kept (t' := tk) kp, rz, q0 (nil0 e)⟩
      · exact go rv rd y ys i u h' tk bs ey (by simpa using hi) rr kp
theorem cr_maxD2 (hc : X.calm = true) (hu : X.A.units + 64 < cLine) : CallRK X (.builtin "max") [Str.ofString "default"] (rBestD X.K D.maxF) := by
  intro pins s σ H xs0 zs us ws Q I r1 r2 h
  obtain ⟨a, xs, ds, z, e1, e2, hs, hl, hdp, hok, q0, q1⟩ := h
  subst e1 e2
  rw [Vals.ref1 r1]
  have hk : D.okqA ds 50 = true := by
    unfold D.bestOk at hok
    simp only [Bool.and_eq_true] at hok
    exact hok.1.1
  have dep := depth_okqA ds 50 hk
  have al := best_alike hok
  cases r2 with
  | cons rz rr =>
    cases rr
    rename_i w
    have go : ∀ {its : List Value} {as : List Addr}, Vals xs its → ReadsAll s.heap its (D.pdA ds) as → ∀ (y : PyData) (ys : List PyData) (i : Nat) (u : Value) (h' : Heap) (tk : Nat) (bs : List Addr), D.pdA ds = y :: ys → its[i]? = some u → Reads h' u (PySem.W.maxD y ys) bs → (∀ b o, s.heap.get? b = some o → h'.get? b = some o) →
        ∃ v H', Inv X pins σ H' { s with heap := h', toks := tk } ∧ RelV v u ∧ Q v H' := fun {its as} rv rd y ys i u h' tk bs ey hi rr kp => by
      cases ds with
      | nil => cases ey
      | cons d es =>
        have ep : d.pd :: D.pdA es = y :: ys := ey
        cases ep
        have rd' := readsAll_keeps kp rd
        rw [← maxF_pd] at rr
        have hb := best_at hk (maxF_mem es d) rd' hi rr
        obtain ⟨v, hv, ru⟩ := vals_at rv hi
        exact ⟨v, H, I.kept (t' := tk) kp, ru, q1 d es i v rfl hv hb⟩
    have nil0 : D.pdA ds = [] → ds = [] := fun e => by
      cases ds with
      | nil => rfl
      | cons d es => cases e
    rcases hs with hs | hs
    · obtain ⟨its, rv, hli, hz⟩ := I.list hs
      obtain ⟨as, rd⟩ := Dp.readsAll I _ _ _ hdp rv
      refine PySem.W.max_list_default (I.ok.hd hc) (vs := its.toArray) hli.isList (xs := D.pdA ds) (show ReadsAll s.heap its.toArray.toList (D.pdA ds) as from rd) al (by omega) (fun e h' tk kp => ?_) fun y ys i u h' tk bs ey hi rr kp => ?_
      · exact ⟨z, H, I.kept (t' := tk) kp, rz, q0 (nil0 e)⟩
      · exact go rv rd y ys i u h' tk bs ey (by simpa using hi) rr kp
    · obtain ⟨its, rv, p, hz⟩ := I.tuple hs
      obtain ⟨as, rd⟩ := Dp.readsAll I _ _ _ hdp rv
      refine PySem.W.max_tuple_default (I.ok.hd hc) (vs := its.toArray) p (xs := D.pdA ds) (show ReadsAll s.heap its.toArray.toList (D.pdA ds) as from rd) al (by omega) (fun e h' tk kp => ?_) fun y ys i u h' tk bs ey hi rr kp => ?_
      · exact ⟨z, H, I.kept (t' := tk) kp, rz, q0 (nil0 e)⟩
      · exact go rv rd y ys i u h' tk bs ey (by simpa using hi) rr kp
theorem best_go0 {d b : D} {ds : List D} {as : List Addr} {B : Addr → Prop} {H : Hp} {xs : List V} {Q : VK} (h : RepA X.K as B H (d :: ds) xs) (q : ∀ u, Rep X.K as B H b u → Q u H) : ∀ (i : Nat) (v : V), xs[i]? = some v → (d :: ds)[i]? = some b → Q v H := fun i v hv hd => by
  obtain ⟨w, w1, w2⟩ := h.get hd
  rw [hv] at w1
  cases w1
  exact q v w2
theorem bestD_has {g : D → List D → D} {x y zz : D} {v w : V} {as : List Addr} {B : Addr → Prop} {H : Hp} {Q : VK} (e : D.bestD g x y = some zz) (hx : Rep X.K as B H x v) (hy : Rep X.K as B H y w) (q : ∀ u, Rep X.K as B H zz u → Q u H) : rBestD X.K g [v] [w] H Q := by
  have main : ∀ (a : Addr) (xs : List V) (ds : List D), v = V.ref a → (SqL X.K H a xs ∨ SqT X.K H a xs) → RepA X.K as B H ds xs → x.seqOf = some ds → rBestD X.K g [v] [w] H Q := by
    intro a xs ds ev hs hr hx
    unfold D.bestD at e
    rw [hx] at e
    cases ds with
    | nil =>
      cases e
      exact ⟨a, xs, [], w, by rw [ev], rfl, hs, by rw [← hr.length], (okqA_dp [] xs 50 hr rfl).1, rfl, fun _ => q w hy, fun d es i v h => by cases h⟩
    | cons d es =>
      simp only [] at e
      split at e
      · rename_i hok
        cases e
        have hk : D.okqA (d :: es) 50 = true := by
          unfold D.bestOk at hok
          simp only [Bool.and_eq_true] at hok
          exact hok.1.1
        refine ⟨a, xs, d :: es, w, by rw [ev], rfl, hs, by rw [← hr.length], (okqA_dp _ xs 50 hr hk).1, hok, (fun h => by cases h), fun d' es' i u h => ?_⟩
        cases h
        exact best_go0 hr q i u
      · cases e
  cases x <;> try (unfold D.bestD D.seqOf at e; cases e; done)
  · rename_i ds
    obtain ⟨a, xs, e1, a1, a2⟩ := hx
    exact main a xs ds e1 (.inr a1) a2 rfl
  · rename_i ds
    obtain ⟨a, xs, e1, nb, a1, a2⟩ := hx
    exact main a xs ds e1 (.inl (SqL.of a1)) a2 rfl
theorem e2_minD2 {a c : Expr} {ma mc : ME} {p kpos : Pos} (calm : X.calm = true) (hu : X.A.units + 64 < cLine) (hg : Gl X "min") (hm : X.mg "min" = none) (ha : PE2 X W wk a ma) (hc : PE2 X W wk c mc)
    (v1 : bootBuiltins "min" = some (.builtin "min") := by decide +kernel) (n1 : starEach [a] X.env = (false, eval a X.env) :: starEach [] X.env := by rfl)
    (he : backTo pos (starEach [a] X.env) = (false, eval a X.env) :: backTo pos (starEach [] X.env) := by rfl) (hpl : (backTo pos (starEach [a] X.env)).any (·.1) = false := by rfl)
    (hall : (backToKw pos (keywordEach [⟨some (Str.ofString "default"), c, kpos⟩] X.env)).all (·.1.isSome) = true := by rfl) (hnone : (backToKw pos (keywordEach [⟨some (Str.ofString "default"), c, kpos⟩] X.env)).any (·.1.isNone) = false := by rfl)
    (hks : (backToKw pos (keywordEach [⟨some (Str.ofString "default"), c, kpos⟩] X.env)).filterMap (·.1) = [Str.ofString "default"] := by rfl) :
    PE2 X W wk (.Call (.Name "min" p) [a] [⟨some (Str.ofString "default"), c, kpos⟩] pos) (mBin (D.bestD D.minF) ma mc) := by
  obtain ⟨ta, a1, a2⟩ := ha
  obtain ⟨tc, c1, c2⟩ := hc
  refine ⟨_, pe_callBK (cr_minD2 calm hu) hg hm v1 (pa_cons a1 pa_nil n1) (pk_cons c1 pk_nil) (by decide) (by decide) he hpl hall hnone hks, fun B H0 as ks ow sg S σ H Q r h => ?_⟩
  refine a2 _ _ _ _ _ _ _ _ _ _ r (Den.bind h fun x S1 v H1 k1 e1 s1 q1 h1 => ?_)
  clear k1
  have r1 := r.step e1 s1
  refine c2 _ _ _ _ _ _ _ _ _ _ r1 (Den.bind h1 fun y S2 w H2 k2 e2 s2 q2 h2 => ?_)
  clear k2
  have r2 := r1.step e2 s2
  have q1' := Rep.imp (B' := if wk then (· ∈ as) else Bd B ow) e2 (asWk r) (fun _ z => z) x v q1
  cases e : D.bestD D.minF x y with
  | none => simp only [e] at h2; exact False.elim h2
  | some z =>
    simp only [e] at h2
    exact bestD_has e q1' q2 fun u rp => h2 u H2 Evo.refl s2 rp
theorem e2_maxD2 {a c : Expr} {ma mc : ME} {p kpos : Pos} (calm : X.calm = true) (hu : X.A.units + 64 < cLine) (hg : Gl X "max") (hm : X.mg "max" = none) (ha : PE2 X W wk a ma) (hc : PE2 X W wk c mc)
    (v1 : bootBuiltins "max" = some (.builtin "max") := by decide +kernel) (n1 : starEach [a] X.env = (false, eval a X.env) :: starEach [] X.env := by rfl)
    (he : backTo pos (starEach [a] X.env) = (false, eval a X.env) :: backTo pos (starEach [] X.env) := by rfl) (hpl : (backTo pos (starEach [a] X.env)).any (·.1) = false := by rfl)
    (hall : (backToKw pos (keywordEach [⟨some (Str.ofString "default"), c, kpos⟩] X.env)).all (·.1.isSome) = true := by rfl) (hnone : (backToKw pos (keywordEach [⟨some (Str.ofString "default"), c, kpos⟩] X.env)).any (·.1.isNone) = false := by rfl)
    (hks : (backToKw pos (keywordEach [⟨some (Str.ofString "default"), c, kpos⟩] X.env)).filterMap (·.1) = [Str.ofString "default"] := by rfl) :
    PE2 X W wk (.Call (.Name "max" p) [a] [⟨some (Str.ofString "default"), c, kpos⟩] pos) (mBin (D.bestD D.maxF) ma mc) := by
  obtain ⟨ta, a1, a2⟩ := ha
  obtain ⟨tc, c1, c2⟩ := hc
  refine ⟨_, pe_callBK (cr_maxD2 calm hu) hg hm v1 (pa_cons a1 pa_nil n1) (pk_cons c1 pk_nil) (by decide) (by decide) he hpl hall hnone hks, fun B H0 as ks ow sg S σ H Q r h => ?_⟩
  refine a2 _ _ _ _ _ _ _ _ _ _ r (Den.bind h fun x S1 v H1 k1 e1 s1 q1 h1 => ?_)
  clear k1
  have r1 := r.step e1 s1
  refine c2 _ _ _ _ _ _ _ _ _ _ r1 (Den.bind h1 fun y S2 w H2 k2 e2 s2 q2 h2 => ?_)
  clear k2
  have r2 := r1.step e2 s2
  have q1' := Rep.imp (B' := if wk then (· ∈ as) else Bd B ow) e2 (asWk r) (fun _ z => z) x v q1
  cases e : D.bestD D.maxF x y with
  | none => simp only [e] at h2; exact False.elim h2
  | some z =>
    simp only [e] at h2
    exact bestD_has e q1' q2 fun u rp => h2 u H2 Evo.refl s2 rp
end
end D2

namespace D2
open PySem PySem.Spec PyProof.Rows L2
/-! ### x.append(e.code) in the suite of an except clause -/
section
variable {X : Cx} {W : WX2} {i : Nat} {x n : Str} {a C : Addr} {oe : Obj} {cls : Value} {d : Option Addr} {pn : List (Addr × Obj)} {wk : Bool} {np pos pos2 : Pos}
/-- arguments that may name the exception -/
def PAu (X : Cx) (W : WX2) (i : Nat) (x : Str) (a : Addr) (cls : Value) (d : Option Addr) (wk : Bool) (es : List Expr) (ms : Exn → MA) : Prop :=
  ∃ t : TA, PA X es t ∧ ∀ (e : Exn) B H0 as ks ow sg S σ H (Q : List V → Hp → Prop), Rl X.K B H0 as ks ow sg S σ H → Xh X.K X.mg i x a cls d e B as ow sg σ H → Den (ctOf X W B H0 as ks) ow ((ctOf X W B H0 as ks).rpa ow wk) (ms e sg S) H Q → t σ H Q
def mxOne (me : Exn → ME) : Exn → MA := fun e => mCons (me e) mNil
theorem au_one {ex : Expr} {me : Exn → ME} (h : PEu X W i x a cls d wk ex me) (hs : starEach [ex] X.env = (false, eval ex X.env) :: starEach [] X.env := by rfl) : PAu X W i x a cls d wk [ex] (mxOne me) := by
  obtain ⟨t, a1, a2⟩ := h
  refine ⟨_, pa_cons a1 pa_nil hs, fun e B H0 as ks ow sg S σ H Q r k h => ?_⟩
  refine a2 _ _ _ _ _ _ _ _ _ _ _ r k (Den.bind h fun y S1 v H1 _ e1 s1 q1 h1 => ?_)
  exact h1 [v] H1 Evo.refl s1 ⟨v, [], rfl, q1, rfl⟩
def mxOwnE (j : Nat) (c : O → Bool) (f : O → List D → Option (O × D)) (ms : Exn → MA) : Exn → MS := fun e => mOwnE j c f (ms e)
theorem own_at {T : String} {c : O → Bool} {f : O → List D → Option (O × D)} {r2 : V → List V → Hp → VK → Prop} {j : Nat} {ms : MA} {t : TA} (hop : OwnOk X.K T c f r2)
    {B : Addr → Prop} {H0 : Hp} {as : List Addr} {ks : List (D × V)} {ow : List (Option Addr)} {sg : List Sl} {S : List O} {σ : L2.St} {H : Hp} {Dd : Ends} {k : D × List Sl × List O → R (Fl × List Sl × List O)}
    (args : ∀ (Q : List V → Hp → Prop), Den (ctOf X W B H0 as ks) ow ((ctOf X W B H0 as ks).rpa ow false) (ms sg S) H Q → t σ H Q) (r : Rl X.K B H0 as ks ow sg S σ H)
    (h : DenS (ctOf X W B H0 as ks) ((mOwn j c f ms sg S).bind k) Dd) (Q : VK)
    (hQ : ∀ u z sg' S' H', Rl X.K B H0 as ks ow sg' S' σ H' → Rep X.K as (Bd B ow) H' z u → DenS (ctOf X W B H0 as ks) (k (z, sg', S')) Dd → Q u H') :
    tVar j σ H fun x H1 => tyV X.K T x H1 ∧ t σ H1 fun xs H2 => r2 x xs H2 Q := by
  cases own : sg[j]? with
  | none => simp only [mOwn, own] at h; exact h.elim
  | some sl =>
    cases sl with
    | no => simp only [mOwn, own] at h; exact h.elim
    | val dd => simp only [mOwn, own] at h; exact h.elim
    | own ob =>
      obtain ⟨w, y, at1, at2, b, eb, ea, rep⟩ := r.sl j _ own
      subst eb
      subst ea
      have inA := List.mem_of_getElem? at1
      cases fit : c ob with
      | false => simp only [mOwn, own, fit] at h; exact h.elim
      | true =>
        simp only [mOwn, own, fit, if_true] at h
        obtain ⟨ty, go⟩ := hop as (Bd B ow) H ob b rep (.inr inA) fit
        refine ⟨_, at2, ty, args _ ?_⟩
        generalize ms sg S = out at h ⊢
        cases out with
        | bad => exact h
        | ex => exact h
        | ok pr =>
          obtain ⟨ds, S1⟩ := pr
          intro vs H2 ev st rp
          have later := r.step ev st
          have rep2 : ORep X.K as (Bd B ow) H2 ob b := ORep.imp ev r.asBd (fun _ z => z) ob b (r.ownAs inA) rep
          cases new : f ob ds with
          | none => simp only [R.bind, new] at h; exact h.elim
          | some pr2 =>
            obtain ⟨ob2, z⟩ := pr2
            simp only [R.bind, new] at h
            exact go H2 ds vs ob2 z Q rep2 rp new fun u ho k1 k2 => hQ u z _ S1 _ (later.putOwn own at1 k1) k2 h
theorem sv_own {y meth : Str} {px apos cpos : Pos} {ex : Expr} {es : List Expr} {T id : String} {c : O → Bool} {f : O → List D → Option (O × D)} {r2 : V → List V → Hp → VK → Prop} {ms : Exn → MA}
    (j : Nat) (pa : PlainAttrs T) (slot : Slot T meth id) (hty : typeOf (.builtin id) = pure (.type "method_descriptor")) (hm : MtR X id r2) (hop : OwnOk X.K T c f r2) (ha : PAu X W i x a cls d false (ex :: es) ms)
    (hN : X.N[j]? = some y := by rfl) (hv : Vis X.env.scope y := by first | exact Or.inl rfl | exact Or.inr (Or.inl rfl) | exact Or.inr (Or.inr rfl)) (hd : (y == ("__debug__" : Str)) = false := by decide) (hcd : (y == ("__classdict__" : Str)) = false := by decide)
    (hbase : attributeBase (.Name y px) meth X.env (eval (.Name y px) X.env) = eval (.Name y px) X.env := by rfl)
    (hfew : ((backTo cpos (starEach (ex :: es) X.env)).all (fun x => !x.1) && (backToKw cpos (keywordEach [] X.env)).all (fun x => x.1.isSome)
      && decide ((ex :: es).length + ([] : List Keyword).length + (if ([] : List Keyword).isEmpty then 0 else 1) < 30)) = true := by rfl)
    (hline : (apos.endLine == cpos.line) = true := by rfl) (hs : starEach (ex :: es) X.env = (false, eval ex X.env) :: starEach es X.env := by rfl) (hplain : (backTo cpos (starEach es X.env)).any (·.1) = false := by rfl)
    (hsw : swapsWith (.Call (.Attribute (.Name y px) meth apos) (ex :: es) [] cpos) none pos.line X.env = pure false := by rfl) :
    PSv X W i x a cls d [.Expr (.Call (.Attribute (.Name y px) meth apos) (ex :: es) [] cpos) pos] (mxOwnE j c f ms) := by
  obtain ⟨t, a1, a2⟩ := ha
  refine ⟨_, pss_one (ps_expr (pe_bm pa slot hty hm (pe_var hN hv hd hcd) a1 hbase hfew hline hs hplain) hsw), fun e B H0 as ks ow sg S σ H Dd r k h => ?_⟩
  exact own_at hop (fun Q q => a2 e _ _ _ _ _ _ _ _ _ _ r k q) r h _ fun u z sg' S' H' r' q' h' => h' _ _ _ r'
end
end D2

namespace D2
open PySem PySem.Spec PyProof.Rows L2
/-! ### for x, y in zip(a, b): two tuples, or two lists -/
def zipD : List D → List D → List D
  | d :: ds, e :: es => .tup [d, e] :: zipD ds es
  | _, _ => []
theorem zipD_get : ∀ {ds es : List D} {i : Nat} {z : D}, (zipD ds es)[i]? = some z → ∃ x y, ds[i]? = some x ∧ es[i]? = some y ∧ z = .tup [x, y]
  | [], _, i, z, h => by simp [zipD] at h
  | _ :: _, [], i, z, h => by simp [zipD] at h
  | d :: ds, e :: es, 0, z, h => by
    simp only [zipD, List.getElem?_cons_zero, Option.some.injEq] at h
    exact ⟨d, e, rfl, rfl, h.symm⟩
  | d :: ds, e :: es, i + 1, z, h => by
    simp only [zipD, List.getElem?_cons_succ] at h
    obtain ⟨x, y, h1, h2, h3⟩ := zipD_get h
    exact ⟨x, y, by simpa using h1, by simpa using h2, h3⟩
theorem zipD_end : ∀ {ds es : List D} {i : Nat}, (zipD ds es).length ≤ i → ds.length ≤ i ∨ es.length ≤ i
  | [], _, i, _ => .inl (Nat.zero_le _)
  | _ :: _, [], i, _ => .inr (Nat.zero_le _)
  | d :: ds, e :: es, 0, h => by simp [zipD] at h
  | d :: ds, e :: es, i + 1, h => by
    simp only [zipD, List.length_cons] at h ⊢
    rcases zipD_end (ds := ds) (es := es) (i := i) (by omega) with z | z
    · exact .inl (by omega)
    · exact .inr (by omega)
def twoZ : List D → Option (List D)
  | [.tup ds, .tup es] => some (zipD ds es)
  | [.lst ds, .lst es] => some (zipD ds es)
  | _ => none
def mIz (ms : MA) : MA := fun sg S => (ms sg S).bind fun x => match twoZ x.1 with
  | some ds => .ok (ds, x.2)
  | none => .bad
section
variable {X : Cx} {W : WX2} {wk : Bool} {pos : Pos}
theorem i2_zip {e e2 : Expr} {ms : MA} {p tpos : Pos} {elts : List Expr} {kk : Nat} (hg : Gl X "zip") (hm : X.mg "zip" = none) (ha : PA2 X W wk [e, e2] ms) (hs : starEach [e, e2] X.env = (false, eval e X.env) :: starEach [e2] X.env := by rfl) (hpl : (backTo pos (starEach [e2] X.env)).any (·.1) = false := by rfl) :
    PI2 X W wk (.Tuple elts kk tpos) (.Call (.Name "zip" p) [e, e2] [] pos) (mIz ms) := by
  obtain ⟨t, a1, a2⟩ := ha
  refine ⟨_, RZ.pi_zipA hg hm a1 hs hpl, fun B H0 as ks ow sg S σ H R r h => ?_⟩
  refine a2 _ _ _ _ _ _ _ _ _ _ r (Den.bind h fun d S1 v H1 e0 e1 s1 q1 h1 => ?_)
  clear e0
  cases ej : twoZ d with
  | none => simp only [ej] at h1; exact False.elim h1
  | some zs =>
    simp only [ej] at h1
    unfold twoZ at ej
    split at ej
    · rename_i ds es
      cases ej
      obtain ⟨x, xs, ev, k1, x2, xs2, ev2, k2, k3⟩ := q1
      obtain rfl : xs2 = [] := k3
      subst ev2
      subst ev
      obtain ⟨a, ys, ex, g1, g2⟩ := id k1
      obtain ⟨b, ws, ex2, l1, l2⟩ := id k2
      subst ex ex2
      refine ⟨a, b, ys, ws, rfl, .inr ⟨g1, l1, h1 _ H1 Evo.refl s1 ⟨[(.tup ds, .ref a), (.tup es, .ref b)], fun q hq => ?_, fun B2 H2 kp i => ?_⟩⟩⟩
      · simp only [List.mem_cons, List.not_mem_nil, or_false] at hq
        rcases hq with rfl | rfl
        · exact k1
        · exact k2
      · obtain ⟨a', us, ea, m1, m2⟩ := kp (.tup ds, .ref a) List.mem_cons_self
        obtain ⟨b', vs, eb, n1, n2⟩ := kp (.tup es, .ref b) (List.mem_cons_of_mem _ List.mem_cons_self)
        cases ea
        cases eb
        refine ⟨fun hi => ⟨us, vs, m1, n1, by rw [← m2.length, ← n2.length]; exact zipD_end hi⟩, fun z hz => ?_⟩
        obtain ⟨y1, y2, z1, z2, ez⟩ := zipD_get hz
        obtain ⟨w1, o1, o2⟩ := m2.get z1
        obtain ⟨w2, p1, p2⟩ := n2.get z2
        refine ⟨⟨us, vs, w1, w2, m1, n1, o1, p1⟩, fun x H3 ⟨T, u1, u2, ey, hT, e3, hx, hy⟩ => ?_⟩
        have f1 := hx us m1
        have f2 := hy vs n1
        rw [o1] at f1
        rw [p1] at f2
        cases f1
        cases f2
        subst ey e3 ez
        exact ⟨Evo.new hT, repNewT hT (RepA.cons o2 (RepA.one p2))⟩
    · rename_i ds es
      cases ej
      obtain ⟨x, xs, ev, k1, x2, xs2, ev2, k2, k3⟩ := q1
      obtain rfl : xs2 = [] := k3
      subst ev2
      subst ev
      obtain ⟨a, ys, ex, na, g1, g2⟩ := id k1
      obtain ⟨b, ws, ex2, nb, l1, l2⟩ := id k2
      subst ex ex2
      refine ⟨a, b, ys, ws, rfl, .inl ⟨SqL.of g1, SqL.of l1, h1 _ H1 Evo.refl s1 ⟨[(.lst ds, .ref a), (.lst es, .ref b)], fun q hq => ?_, fun B2 H2 kp i => ?_⟩⟩⟩
      · simp only [List.mem_cons, List.not_mem_nil, or_false] at hq
        rcases hq with rfl | rfl
        · exact k1
        · exact k2
      · obtain ⟨a', us, ea, na', m1, m2⟩ := kp (.lst ds, .ref a) List.mem_cons_self
        obtain ⟨b', vs, eb, nb', n1, n2⟩ := kp (.lst es, .ref b) (List.mem_cons_of_mem _ List.mem_cons_self)
        cases ea
        cases eb
        refine ⟨fun hi => ⟨us, vs, SqL.of m1, SqL.of n1, by rw [← m2.length, ← n2.length]; exact zipD_end hi⟩, fun z hz => ?_⟩
        obtain ⟨y1, y2, z1, z2, ez⟩ := zipD_get hz
        obtain ⟨w1, o1, o2⟩ := m2.get z1
        obtain ⟨w2, p1, p2⟩ := n2.get z2
        refine ⟨⟨us, vs, w1, w2, SqL.of m1, SqL.of n1, o1, p1⟩, fun x H3 ⟨T, u1, u2, ey, hT, e3, hx, hy⟩ => ?_⟩
        have f1 := hx us (SqL.of m1)
        have f2 := hy vs (SqL.of n1)
        rw [o1] at f1
        rw [p1] at f2
        cases f1
        cases f2
        subst ey e3 ez
        exact ⟨Evo.new hT, repNewT hT (RepA.cons o2 (RepA.one p2))⟩
    · cases ej
end
end D2

namespace D2
open PySem PySem.Spec PyProof.Rows L2
/-! ### len(set(x)), x a tuple of ints -/
theorem keys_len {l : List Int} {ns : List Int} (h1 : l.Nodup) (h2 : ∀ k, decide (k ∈ ns) = true ↔ k ∈ l) : l.length = (sortS ns).length := by
  have s1 : (sortS ns).Nodup := List.Pairwise.imp (fun h => by omega) (sortS_sorted (l := ns))
  have p : l.Perm (sortS ns) := (List.perm_ext_iff_of_nodup h1 s1).mpr fun k => by rw [mem_sortS, ← h2 k, decide_eq_true_eq]
  exact p.length_eq
def tLenTup (K : PySem.W.Frag) (ta : TE) : TE := fun σz Hz Qz => ta σz Hz fun xz H1z => ∃ (l : Addr) (ns : List Int), xz = .ref l ∧ SqT K H1z l (ns.map V.int) ∧ ns.length ≤ 4000 ∧ Qz (.int ((sortS ns).length : Nat)) H1z
theorem pe_lenTup {X : Cx} {a : Expr} {ta : TE} {p p2 q pos : Pos} (gl : Gl X "len") (ml : X.mg "len" = none) (gs : Gl X "set") (ms : X.mg "set" = none) (ha : PE X a ta) (calm : X.calm = true := by rfl)
    (one : starEach [a] X.env = (false, eval a X.env) :: starEach [] X.env := by rfl) : PE X (.Call (.Name "len" p) [.Call (.Name "set" p2) [a] [] q] [] pos) (tLenTup X.K ta) := by
  refine ⟨fun pinsz sz σz Hz Qz Iz hz => ?_⟩
  refine Call_ (ld_blt Iz gl ml boot_len ?_)
  refine PyProof.Rows.callWith_builtin1 (PyProof.Rows.args_cons ?_ rfl) rfl rfl
  refine Call_ (ld_blt Iz gs ms PyProof.Rows.boot_set ?_)
  refine PyProof.Rows.callWith_type1 (PyProof.Rows.args_cons (thn (ha.run pinsz sz σz Hz _ Iz hz) fun vz s1z ⟨xz, H1z, I1z, r1z, q1z⟩ => PyProof.Rows.args_nil ?_) one) one rfl
  obtain ⟨l, ns, rfl, hq, hl, q1z⟩ := q1z
  cases r1z
  obtain ⟨itsz, rz, plz, hzz⟩ := I1z.tuple hq
  refine call_set_tupI ns (I1z.ok.hd calm) plz (by simpa using RZ.intsAre_vals rz) (by unfold scanBound; omega) fun h' tkz cz hSz hcz hkz => ?_
  refine PyProof.Rows.args_nil ?_
  obtain ⟨oz, esz, epz, tz, hoz, hexz, hdz, _, hnd, hmem, _, hfz, hnz, _, _⟩ := hSz
  have hsz : esz.size = (sortS ns).length := by
    have e := keys_len hnd hmem
    rw [List.length_map, Array.length_toList] at e
    exact e
  have hslz := sortS_len (l := ns)
  have I2z : Inv X pinsz σz H1z { s1z with heap := h', toks := tkz } := I1z.kept fun b oz e => hkz b oz e
  exact call_len_set hoz hexz hdz hfz (by omega) ⟨.int (sortS ns).length, H1z, I2z.tok _, ⟨_, by rw [hsz]⟩, q1z⟩
def D.lenSetT : D → Option D
  | .tup ds => match D.ints ds with
    | some ns => if ns.length ≤ 4000 then some (.int ((sortS ns).length : Int)) else none
    | none => none
  | _ => none
section
variable {X : Cx} {W : WX2} {wk : Bool} {pos : Pos}
theorem e2_lenSetT {e : Expr} {m : ME} {p p2 q : Pos} (hc : X.calm = true) (hg : Gl X "len") (hm : X.mg "len" = none) (hg2 : Gl X "set") (hm2 : X.mg "set" = none) (he : PE2 X W wk e m)
    (n1 : starEach [e] X.env = (false, eval e X.env) :: starEach [] X.env := by rfl) :
    PE2 X W wk (.Call (.Name "len" p) [.Call (.Name "set" p2) [e] [] q] [] pos) (mUn D.lenSetT m) := by
  obtain ⟨t, a1, a2⟩ := he
  refine ⟨_, pe_lenTup hg hm hg2 hm2 a1 hc n1, fun B H0 as ks ow sg S σ H Q r h => ?_⟩
  refine a2 _ _ _ _ _ _ _ _ _ _ r (Den.bind h fun d S1 v H1 e0 e1 s1 q1 h1 => ?_)
  clear e0
  cases d <;> try (exact False.elim h1)
  rename_i ds
  obtain ⟨a, xs, ev, g1, g2⟩ := q1
  subst ev
  cases en : D.ints ds with
  | none => simp only [D.lenSetT, en] at h1; exact False.elim h1
  | some ns =>
    simp only [D.lenSetT, en] at h1
    by_cases h64 : ns.length ≤ 4000
    · simp only [h64, if_true] at h1
      rw [ints_rep g2 en] at g1
      exact ⟨a, ns, rfl, g1, h64, h1 _ H1 Evo.refl s1 rfl⟩
    · simp only [h64, if_false] at h1
      exact False.elim h1
end
end D2

namespace D2
open PySem PySem.Spec PyProof.Rows L2
/-! ### sorted(x), x a tuple of ints -/
section
variable {Pg : Program} {u : World} {Ar : Around} {Ex : Value → Shared → Prop} {sh : Shared}
theorem ints_each {vs : List Value} {ns : List Int} (h : IntsAre vs ns) : PySem.W.EachIs (fun (v : Value) (n : Int) => ∃ t, v = .int n t) vs ns := by
  induction h with
  | nil => exact .nil
  | cons n t _ ih => exact .cons ⟨t, rfl⟩ ih
theorem each_ints {vs : List Value} {ns : List Int} (h : PySem.W.EachIs (fun (v : Value) (n : Int) => ∃ t, v = .int n t) vs ns) : IntsAre vs ns := by
  induction h with
  | nil => exact .nil
  | cons e _ ih =>
    obtain ⟨t, rfl⟩ := e
    exact .cons _ t ih
theorem each_read {h : Heap} {n : Addr} {vs : List Value} {ns : List Int} (x : PySem.W.EachIs (fun (v : Value) (n : Int) => ∃ t, v = .int n t) vs ns) : PySem.W.EachIs (fun (v : Value) (i : Int) => ∃ as, Reads h v (PyData.int i) as ∧ n ∉ as) vs ns :=
  x.mono fun v i ⟨t, e⟩ => by subst e; exact ⟨[], .int _ _, List.not_mem_nil⟩
theorem le_int (p q : Int) : PySem.W.dataLe false (fun i : Int => PyData.int i) p q = decide (p ≤ q) := by
  show (!PySem.W.dataLt (.int q) (.int p)) = _
  rw [PySem.W.dataLt_int, Bool.eq_iff_iff]
  simp
theorem sorted_tupI {a : Addr} {its : Array Value} {ns : List Int} {Qq : Value → Shared → Prop} (li : sh.heap.IsTuple a its) (hi : IntsAre its.toList ns) (few : ns.length ≤ 16777216) (rm : Ar.units + 10 < cLine)
    (go : ∀ (h1 h' : Heap) (out : List Value) (c : Nat) (ms : List Int), (∀ b o, sh.heap.get? b = some o → h1.get? b = some o) → (∀ b o, sh.heap.get? b = some o → h'.get? b = some o) → h'.get? h1.objs.size = some (seqObj "list" out.toArray c) → IntsAre out ms → ms.Perm ns → ms.Pairwise (· ≤ ·) → Qq (.ref h1.objs.size) { sh with heap := h' }) :
    wpAny (model Pg u) Ar (call (.builtin "sorted") [.ref a]) Qq Ex sh := by
  obtain ⟨ob, at0, cl0, nn, dt0⟩ := li
  have hsz : its.size = ns.length := by
    have q := IntsAre.length hi
    rwa [Array.length_toList] at q
  refine Calls.call_function_entry kind_sorted plain_sorted entry_sorted (args_sorted1 _) ?_
  unfold Builtin.«sorted»
  refine wpAny_bind (m := checkCount "sorted" 1 1 _) (wpAny_pure ?_)
  refine wpAny_bind (wpAny_collect_seq (A := Ar.in1) a (.inr rfl) at0 cl0 dt0 (fun h1 kp1 => ?_) (by rw [hsz, sizeLine_eq]; omega))
  refine wpAny_bind (wpAny_newList ?_ (by rw [Array.length_toList, hsz, sizeLine_eq]; omega))
  have atL : (h1.push (seqObj "list" its.toList.toArray 0)).get? h1.objs.size = some (seqObj "list" its.toList.toArray 0) := Heap.get?_push_size _ rfl
  have ea := ints_each hi
  refine wpAny_bind (wpAny_holding (PySem.W.list_sort_data (s := { sh with heap := h1.push (seqObj "list" its.toList.toArray 0) }) (enc := fun i : Int => PyData.int i) atL ea (each_read ea) ?_ ?_ (by rw [sizeLine_eq]; omega) (fun q hq => ?_) fun out ho eo => ?_))
  · exact PySem.W.AllAlike.of fun b b' => by simp only [PySem.W.alike]
  · refine .inr fun d hd => ?_
    obtain ⟨q, hq, rfl⟩ := List.mem_map.mp hd
    simp
  · show Ar.in1.units + 1 + (PyData.int q).depth < cLine
    have : Ar.in1.units = Ar.units + 1 := rfl
    simp only [PyData.depth]
    omega
  obtain ⟨c, hc⟩ := sortedHeap_at (vs := its.toList) (out := out.toArray) atL
  refine wpAny_pure ⟨_, rfl, go h1 _ out c _ kp1 (fun b o e => ?_) hc (each_ints eo) (List.mergeSort_perm _ _) ?_⟩
  · have q := kp1 b o e
    have hlt := Heap.lt_size q
    show (sortedHeap (h1.push (seqObj "list" its.toList.toArray 0)) h1.objs.size its.toList out.toArray).get? b = some o
    rw [sortedHeap_old (Nat.ne_of_lt hlt) (by rw [size_push']; exact Nat.lt_succ_of_lt hlt)]
    exact Heap.get?_push_of_some _ q
  · rw [show (PySem.W.dataLe false fun i : Int => PyData.int i) = fun p q => decide (p ≤ q) from funext fun p => funext fun q => le_int p q]
    have := List.pairwise_mergeSort (le := fun p q : Int => decide (p ≤ q)) (fun a b c h1 h2 => by
      rw [decide_eq_true_eq] at h1 h2 ⊢
      omega) (fun a b => by
      rw [Bool.or_eq_true, decide_eq_true_eq, decide_eq_true_eq]
      omega) ns
    exact this.imp fun h => of_decide_eq_true h
end
section
variable {X : Cx} {K : PySem.W.Frag} {wk : Bool}
def rSortTu (K : PySem.W.Frag) : List V → Hp → VK → Prop := fun vs H Q => ∃ (a : Addr) (ns : List Int), vs = [V.ref a] ∧ SqT K H a (ns.map V.int) ∧ ns.length ≤ 16777216 ∧
  ∀ (ms : List Int) (p : Addr), ms.Perm ns → ms.Pairwise (· ≤ ·) → H p = none → Q (.ref p) (upd H p (.lst (ms.map V.int)))
theorem vals_of_i : ∀ {us : List Value} {ns : List Int}, IntsAre us ns → Vals (ns.map V.int) us
  | _, _, .nil => .nil
  | _, _, .cons n t h => .cons ⟨t, rfl⟩ (vals_of_i h)
theorem cr_sortTu (hu : X.A.units + 64 < cLine) : CallR X (.builtin "sorted") (rSortTu X.K) := by
  intro pins s σ H vs us Q I r h
  obtain ⟨a, ns, rfl, hs, few, q⟩ := h
  rw [Vals.ref1 r]
  obtain ⟨its, rv, pl, _⟩ := I.tuple hs
  refine sorted_tupI (its := its.toArray) pl (by simpa using RZ.intsAre_vals rv) few (by omega) fun h1 h' out c ms kp1 kp2 at1 ia pm pw => ?_
  have hp : s.heap.get? h1.objs.size = none := by
    cases e : s.heap.get? h1.objs.size with
    | none => rfl
    | some o => exact absurd (Heap.lt_size (kp1 _ _ e)) (Nat.lt_irrefl _)
  have hn : H h1.objs.size = none := (I.hok.kept kp1).fresh (Nat.le_refl _)
  have hl : (ms.map V.int).length ≤ sizeLine := by rw [List.length_map, pm.length_eq, sizeLine_eq]; omega
  exact ⟨.ref _, upd H h1.objs.size (.lst (ms.map V.int)), I.laidN (t' := s.toks) kp2 hp hn ⟨hl, out, c, vals_of_i ia, at1⟩, rfl, q ms _ pm pw hn⟩
def D.sortT : D → Option D
  | .tup ds => match D.ints ds with
    | some ns => if ns.length ≤ 16777216 then some (.lst ((sortI ns).map D.int)) else none
    | none => none
  | _ => none
theorem ok_sortT : CallOk K wk (on1 D.sortT) (rSortTu K) := by
  refine ok_on1 fun as Bs Bw H d z v Q h1 h2 hr e q => ?_
  cases d <;> try (cases e; done)
  rename_i ds
  obtain ⟨a, xs, ev, g1, g2⟩ := hr
  subst ev
  cases en : D.ints ds with
  | none => simp only [D.sortT, en] at e; cases e
  | some ns =>
    simp only [D.sortT, en] at e
    split at e
    · rename_i few
      cases e
      rw [ints_rep g2 en] at g1
      refine ⟨a, ns, rfl, g1, few, fun ms p pm pw hp => ?_⟩
      have em : ms = sortI ns := sorted_one (pm.trans (sortI_perm ns).symm) pw (sortI_sorted ns)
      rw [em]
      exact q _ _ (Evo.new hp) ⟨p, _, rfl, newB h1 h2 hp, upd_same, rep_ints _⟩
    · cases e
end
end D2

/-! D2: lambdas that capture names and are handed to a def -/
namespace D2
open PySem PySem.Spec PyProof.Rows L2

/-! ### what K tells at its end -/
def markV : List (Addr × Str) → List Value
  | [] => []
  | p :: r => .ref p.1 :: .str p.2 0 :: markV r
theorem tabsV_mark : ∀ T : List (Addr × Str), tabsV (markV T) = T
  | [] => rfl
  | p :: r => by rw [markV, tabsV, tabsV_mark r]
def markK (K : PySem.W.Frag) (T : List (Addr × Str)) : PySem.W.Frag := match K with
  | [] => []
  | p :: r => (p :: r) ++ [(p.1, { cls := .none, data := .fields (markV T).toArray })]
theorem lookup_app {α β : Type} [BEq α] (a : α) (l m : List (α × β)) : (l ++ m).lookup a = (l.lookup a).or (m.lookup a) := List.lookup_append
theorem lookup_mark (K : PySem.W.Frag) (T : List (Addr × Str)) (a : Addr) : (markK K T).lookup a = K.lookup a := by
  cases K with
  | nil => rfl
  | cons p r =>
    show ((p :: r) ++ _).lookup a = _
    rw [lookup_app]
    by_cases h : (a == p.1) = true
    · simp [List.lookup, h]
    · have h' : (a == p.1) = false := by simpa using h
      simp [List.lookup, h']
theorem tabsOf_mark {K : PySem.W.Frag} {T : List (Addr × Str)} (h : K ≠ []) : tabsOf (markK K T) = T := by
  cases K with
  | nil => exact absurd rfl h
  | cons p r =>
    unfold tabsOf markK
    rw [List.getLast?_concat]
    show tabsV (markV T).toArray.toList = T
    rw [List.toList_toArray, tabsV_mark]
theorem tabsOf_nil (K : PySem.W.Frag) : tabsOf (markK K []) = [] := by
  cases K with
  | nil => rfl
  | cons p r => exact tabsOf_mark (by simp)
theorem in_mark {K : PySem.W.Frag} {T : List (Addr × Str)} {h : Heap} (x : K.In h) : (markK K T).In h := fun a o e => x a o (by rw [← lookup_mark K T]; exact e)
section
variable {K : PySem.W.Frag} {T : List (Addr × Str)}
theorem nsIn_mark : PySem.W.nsIn (markK K T) = PySem.W.nsIn K := by funext a x; unfold PySem.W.nsIn; rw [lookup_mark]
theorem codeIn_mark : PySem.W.codeIn (markK K T) = PySem.W.codeIn K := by funext a x; unfold PySem.W.codeIn; simp only [lookup_mark]
end

/-! ### cells told for a while -/
def liftH (cs : List Addr) (h : Heap) (H : Hp) : Hp := fun b => if b ∈ cs then (h.get? b).map (ObjX b) else H b
def dropH (cs : List Addr) (H : Hp) : Hp := fun b => if b ∈ cs then none else H b
def backH (cs : List Addr) (H H' : Hp) : Hp := fun b => if b ∈ cs then H b else H' b
section
variable {cs : List Addr} {h : Heap} {H H' : Hp} {b : Addr}
theorem liftH_in (hb : b ∈ cs) : liftH cs h H b = (h.get? b).map (ObjX b) := if_pos hb
theorem liftH_out (hb : b ∉ cs) : liftH cs h H b = H b := if_neg hb
theorem dropH_in (hb : b ∈ cs) : dropH cs H b = none := if_pos hb
theorem dropH_out (hb : b ∉ cs) : dropH cs H b = H b := if_neg hb
theorem backH_in (hb : b ∈ cs) : backH cs H H' b = H b := if_pos hb
theorem backH_out (hb : b ∉ cs) : backH cs H H' b = H' b := if_neg hb
end
theorem objX_ok {P : Program} {w : World} {H : Hp} {h : Heap} {b : Addr} {o : Obj} (e : h.get? b = some o) : ObjOk P w H h b (ObjX b o) := ⟨e, ⟨o, e⟩, fun h1 h2 p st => st _ p⟩
theorem objX_at {P : Program} {w : World} {H : Hp} {h : Heap} {b : Addr} {o : Obj} (ok : HOk P w H h) (e : H b = some (ObjX b o)) : h.get? b = some o := (ok b _ e).1
section
variable {P : Program} {w : World} {K : PySem.W.Frag} {mg : Str → Option Value} {base : Heap} {A : Around} {outer : List Env} {s : Shared} {H H' : Hp} {cs : List Addr} {h h' : Heap}
theorem hok_lift (ok : HOk P w H h) (n : ∀ c ∈ cs, H c = none) : HOk P w (liftH cs h H) h := fun b u e => by
  by_cases hb : b ∈ cs
  · rw [liftH_in hb] at e
    cases q : h.get? b with
    | none => rw [q] at e; cases e
    | some o => rw [q] at e; cases e; exact objX_ok q
  · rw [liftH_out hb] at e
    have out : ∀ c v, H c = some v → liftH cs h H c = some v := fun c v q => by rw [liftH_out fun z => by rw [n c z] at q; cases q]; exact q
    exact (ok b u e).stay (fun c v _ q => q) (fun c q => out c _ q) (fun c xs q => out c _ q)
theorem env0_lift (e0 : Env0 P w K mg base A outer s H) (n : ∀ c ∈ cs, H c = none ∧ base.get? c = none ∧ c ∉ frs outer) : Env0 P w K mg base A outer s (liftH cs s.heap H) :=
  ⟨e0.frames, e0.mod, fun b o e => ⟨(e0.bs b o e).1, by rw [liftH_out fun z => by rw [(n b z).2.1] at e; cases e]; exact (e0.bs b o e).2⟩, e0.bsz, e0.funs, fun b hb => by rw [liftH_out fun z => (n b z).2.2 hb]; exact e0.frf b hb,
    hok_lift e0.hok fun c hc => (n c hc).1, e0.bare⟩
theorem hok_drop (ok : HOk P w H h) (x : ∀ c ∈ cs, ∃ o, H c = some (ObjX c o)) : HOk P w (dropH cs H) h := fun b u e => by
  by_cases hb : b ∈ cs
  · rw [dropH_in hb] at e; cases e
  · rw [dropH_out hb] at e
    have out : ∀ c v, H c = some v → (∀ φ, v ≠ .ext φ) → dropH cs H c = some v := fun c v q nx => by
      rw [dropH_out fun z => by
        obtain ⟨o, ho⟩ := x c z
        rw [ho] at q
        exact nx _ (Option.some.inj q).symm]
      exact q
    exact (ok b u e).stay (fun c v _ q => q) (fun c q => out c _ q fun _ z => nomatch z) (fun c xs q => out c _ q fun _ z => nomatch z)
theorem env0_drop (e0 : Env0 P w K mg base A outer s H) (x : ∀ c ∈ cs, ∃ o, H c = some (ObjX c o)) : Env0 P w K mg base A outer s (dropH cs H) := by
  have sub : ∀ b, H b = none → dropH cs H b = none := fun b q => by
    by_cases hb : b ∈ cs
    · exact dropH_in hb
    · rw [dropH_out hb]; exact q
  exact ⟨e0.frames, e0.mod, fun b o e => ⟨(e0.bs b o e).1, sub b (e0.bs b o e).2⟩, e0.bsz, e0.funs, fun b hb => sub b (e0.frf b hb), hok_drop e0.hok x, e0.bare⟩
/-- behind a call with cells told: they are not told any more -/
theorem un_drop {fs : List Addr} (u : Un fs [] (liftH cs h H) H' h h') (ok : HOk P w H' h') (n : ∀ c ∈ cs, H c = none ∧ ∃ o, h.get? c = some o) (k : ∀ c ∈ cs, H' c = liftH cs h H c) : Un fs [] H (dropH cs H') h h' := by
  have cell : ∀ c o, c ∈ cs → h.get? c = some o → h'.get? c = some o := fun c o hc e => objX_at ok (by rw [k c hc, liftH_in hc, e]; rfl)
  have up : ∀ b v, H b = some v → liftH cs h H b = some v ∧ b ∉ cs := fun b v q => by
    have nb : b ∉ cs := fun z => by rw [(n b z).1] at q; cases q
    exact ⟨by rw [liftH_out nb]; exact q, nb⟩
  refine ⟨fun b o e hn hf hx => ?_, fun b o e hn hf hx => ?_, fun b o e hn hx => ?_, u.there, fun b xs q => ?_, fun b o v q => ?_, fun b ps q => ?_⟩
  · by_cases hb : b ∈ cs
    · exact cell b o hb e
    · exact u.keep b o e (by rw [liftH_out hb]; exact hn) hf hx
  · by_cases hb : b ∈ cs
    · exact ⟨o.slots, cell b o hb e⟩
    · exact u.slot b o e (by rw [liftH_out hb]; exact hn) hf hx
  · by_cases hb : b ∈ cs
    · exact dropH_in hb
    · rw [dropH_out hb]
      exact u.free b o e (by rw [liftH_out hb]; exact hn) hx
  · rw [dropH_out (up b _ q).2]; exact u.tups b xs (up b _ q).1
  · rw [dropH_out (up b _ q).2]; exact u.frzs b o v (up b _ q).1
  · obtain ⟨m, e⟩ := u.tbls b ps (up b _ q).1
    exact ⟨m, by rw [dropH_out (up b _ q).2]; exact e⟩
/-- behind a call for which the cells were not told: they are told again -/
theorem back_ok (e0 : Env0 P w K mg base A outer s H) {s' : Shared} (u : Un (frs outer) [] (dropH cs H) H' s.heap s'.heap) (ok : HOk P w H' s'.heap) (x : ∀ c ∈ cs, ∃ o, H c = some (ObjX c o)) :
    Un (frs outer) [] H (backH cs H H') s.heap s'.heap ∧ HOk P w (backH cs H H') s'.heap ∧ ∀ c ∈ cs, H' c = none := by
  have cell : ∀ c ∈ cs, ∃ o, H c = some (ObjX c o) ∧ s.heap.get? c = some o ∧ s'.heap.get? c = some o ∧ H' c = none := fun c hc => by
    obtain ⟨o, ho⟩ := x c hc
    have e := objX_at e0.hok ho
    have nf : c ∉ frs outer := fun z => by rw [e0.frf c z] at ho; cases ho
    exact ⟨o, ho, e, u.keep c o e (dropH_in hc) nf (by simp), u.free c o e (dropH_in hc) (by simp)⟩
  have up : ∀ b v, H b = some v → (∀ φ, v ≠ .ext φ) → dropH cs H b = some v ∧ b ∉ cs := fun b v q nx => by
    have nb : b ∉ cs := fun z => by
      obtain ⟨o, ho, _⟩ := cell b z
      rw [ho] at q
      exact nx _ (Option.some.inj q).symm
    exact ⟨by rw [dropH_out nb]; exact q, nb⟩
  have bk : ∀ b v, H' b = some v → backH cs H H' b = some v := fun b v q => by
    rw [backH_out fun z => by
      obtain ⟨o, _, _, _, r⟩ := cell b z
      rw [r] at q; cases q]
    exact q
  refine ⟨⟨fun b o e hn hf hx => ?_, fun b o e hn hf hx => ?_, fun b o e hn hx => ?_, u.there, fun b xs q => ?_, fun b o v q => ?_, fun b ps q => ?_⟩, fun b v e => ?_, fun c hc => by obtain ⟨o, _, _, _, r⟩ := cell c hc; exact r⟩
  · have nb : b ∉ cs := fun z => by obtain ⟨o, ho, _⟩ := cell b z; rw [ho] at hn; cases hn
    exact u.keep b o e (by rw [dropH_out nb]; exact hn) hf hx
  · have nb : b ∉ cs := fun z => by obtain ⟨o, ho, _⟩ := cell b z; rw [ho] at hn; cases hn
    exact u.slot b o e (by rw [dropH_out nb]; exact hn) hf hx
  · have nb : b ∉ cs := fun z => by obtain ⟨o, ho, _⟩ := cell b z; rw [ho] at hn; cases hn
    rw [backH_out nb]
    exact u.free b o e (by rw [dropH_out nb]; exact hn) hx
  · exact bk _ _ (u.tups b xs (up b _ q fun _ z => nomatch z).1)
  · exact bk _ _ (u.frzs b o v (up b _ q fun _ z => nomatch z).1)
  · obtain ⟨m, e⟩ := u.tbls b ps (up b _ q fun _ z => nomatch z).1
    exact ⟨m, bk _ _ e⟩
  · by_cases hb : b ∈ cs
    · obtain ⟨o, ho, _, e', _⟩ := cell b hb
      rw [backH_in hb, ho] at e
      cases e
      exact objX_ok e'
    · rw [backH_out hb] at e
      exact (ok b v e).stay (fun c v _ q => q) (fun c q => bk c _ q) (fun c xs q => bk c _ q)
end
end D2

namespace D2
open PySem PySem.Spec PyProof.Rows L2

/-! ### data without lambdas -/
mutual
def D.nofn : D → Bool
  | .tup ds => D.nofnA ds
  | .lst ds => D.nofnA ds
  | .dic _ ds => D.nofnA ds
  | .xd _ ds => D.nofnA ds
  | .fn _ _ => false
  | _ => true
def D.nofnA : List D → Bool
  | [] => true
  | d :: ds => d.nofn && D.nofnA ds
end
section
variable {K : PySem.W.Frag} {as : List Addr} {B B' : Addr → Prop} {H H' : Hp}
theorem sqT_to {a : Addr} {xs : List V} (k : ∀ a u, H a = some u → (∀ φ, u ≠ .ext φ) → H' a = some u) (h : SqT K H a xs) : SqT K H' a xs := by
  rcases h with (h | ⟨o, h⟩) | h
  · exact .inl (.inl (k _ _ h fun _ z => nomatch z))
  · exact .inl (.inr ⟨o, k _ _ h fun _ z => nomatch z⟩)
  · exact .inr h
theorem rd_to {a : Addr} {u : HO} (k : ∀ a u, H a = some u → (∀ φ, u ≠ .ext φ) → H' a = some u) (hu : ∀ φ, u ≠ .ext φ) (h : Rd H a u) : Rd H' a u := by
  rcases h with h | ⟨o, h⟩
  · exact .inl (k _ _ h hu)
  · exact .inr ⟨o, k _ _ h fun _ z => nomatch z⟩
mutual
/-- all but what is told otherwise is there -/
theorem Rep.dropF (k : ∀ a u, H a = some u → (∀ φ, u ≠ .ext φ) → H' a = some u) (hB : ∀ a, B' a → B a) : ∀ (d : D) (v : V), d.nofn = true → Rep K as B H d v → Rep K as B' H' d v
  | .non, _, _, h => h
  | .bl _, _, _, h => h
  | .int _, _, _, h => h
  | .str _, _, _, h => h
  | .tup ds, v, f, h => by
    obtain ⟨a, xs, e1, h1, h2⟩ := h
    exact ⟨a, xs, e1, sqT_to k h1, RepA.dropF k hB ds xs f h2⟩
  | .lst ds, v, f, h => by
    obtain ⟨a, xs, e1, nb, h1, h2⟩ := h
    exact ⟨a, xs, e1, fun z => nb (hB a z), k _ _ h1 (fun _ z => nomatch z), RepA.dropF k hB ds xs f h2⟩
  | .dic ks ds, v, f, h => by
    obtain ⟨a, xs, e1, nb, h1, hl, h2⟩ := h
    exact ⟨a, xs, e1, fun z => nb (hB a z), rd_to k (fun _ z => nomatch z) h1, hl, RepA.dropF k hB ds xs f h2⟩
  | .rng _ _, v, _, h => by
    obtain ⟨a, e1, nb, h1⟩ := h
    exact ⟨a, e1, fun z => nb (hB a z), k _ _ h1 (fun _ z => nomatch z)⟩
  | .xd ns ds, v, f, h => by
    obtain ⟨a, xs, e1, nb, h1, hl, h2⟩ := h
    exact ⟨a, xs, e1, fun z => nb (hB a z), k _ _ h1 (fun _ z => nomatch z), hl, RepA.dropF k hB ds xs f h2⟩
  | .ref _, _, _, h => h
  | .fn _ _, _, f, _ => nomatch f
theorem RepA.dropF (k : ∀ a u, H a = some u → (∀ φ, u ≠ .ext φ) → H' a = some u) (hB : ∀ a, B' a → B a) : ∀ (ds : List D) (xs : List V), D.nofnA ds = true → RepA K as B H ds xs → RepA K as B' H' ds xs
  | [], _, _, h => h
  | d :: ds, xs, f, h => by
    obtain ⟨v, vs, e1, h1, h2⟩ := h
    have f' : (d.nofn && D.nofnA ds) = true := f
    rw [Bool.and_eq_true] at f'
    exact ⟨v, vs, e1, Rep.dropF k hB d v f'.1 h1, RepA.dropF k hB ds vs f'.2 h2⟩
end
theorem LamR.into {t : Lm} {f : Addr} {xs : List V} (k : ∀ a u, H a = some u → H' a = some u) (h : LamR H t f xs) : LamR H' t f xs := by
  obtain ⟨c', cl, h1, h2, h3, h4, h5, h6⟩ := h
  refine ⟨c', cl, k _ _ h1, k _ _ h2, fun p q => ?_, h4, h5, fun i y q => ?_⟩
  · obtain ⟨o, v, a, b⟩ := h3 p q
    exact ⟨o, v, k _ _ a, b⟩
  · obtain ⟨c, o, u, v, a, b, d⟩ := h6 i y q
    exact ⟨c, o, u, v, a, k _ _ b, d⟩
mutual
/-- all of it is there; what is bad there and was there was bad -/
theorem Rep.into (k : ∀ a u, H a = some u → H' a = some u) (hB : ∀ a, H a ≠ none → B' a → B a) : ∀ (d : D) (v : V), Rep K as B H d v → Rep K as B' H' d v
  | .non, _, h => h
  | .bl _, _, h => h
  | .int _, _, h => h
  | .str _, _, h => h
  | .tup ds, v, h => by
    obtain ⟨a, xs, e1, h1, h2⟩ := h
    exact ⟨a, xs, e1, sqT_to (fun a u q _ => k a u q) h1, RepA.into k hB ds xs h2⟩
  | .lst ds, v, h => by
    obtain ⟨a, xs, e1, nb, h1, h2⟩ := h
    exact ⟨a, xs, e1, fun z => nb (hB a (by rw [h1]; exact fun z => nomatch z) z), k _ _ h1, RepA.into k hB ds xs h2⟩
  | .dic ks ds, v, h => by
    obtain ⟨a, xs, e1, nb, h1, hl, h2⟩ := h
    exact ⟨a, xs, e1, fun z => nb (hB a (by rcases h1 with q | ⟨o, q⟩ <;> (rw [q]; exact fun z => nomatch z)) z), rd_to (fun a u q _ => k a u q) (fun _ z => nomatch z) h1, hl, RepA.into k hB ds xs h2⟩
  | .rng _ _, v, h => by
    obtain ⟨a, e1, nb, h1⟩ := h
    exact ⟨a, e1, fun z => nb (hB a (by rw [h1]; exact fun z => nomatch z) z), k _ _ h1⟩
  | .xd ns ds, v, h => by
    obtain ⟨a, xs, e1, nb, h1, hl, h2⟩ := h
    exact ⟨a, xs, e1, fun z => nb (hB a (by rw [h1]; exact fun z => nomatch z) z), k _ _ h1, hl, RepA.into k hB ds xs h2⟩
  | .ref _, _, h => h
  | .fn t ds, v, h => by
    obtain ⟨a, xs, e1, h1, h2⟩ := h
    exact ⟨a, xs, e1, h1.into k, RepA.into k hB ds xs h2⟩
theorem RepA.into (k : ∀ a u, H a = some u → H' a = some u) (hB : ∀ a, H a ≠ none → B' a → B a) : ∀ (ds : List D) (xs : List V), RepA K as B H ds xs → RepA K as B' H' ds xs
  | [], _, h => h
  | d :: ds, xs, h => by
    obtain ⟨v, vs, e1, h1, h2⟩ := h
    exact ⟨v, vs, e1, Rep.into k hB d v h1, RepA.into k hB ds vs h2⟩
end
end
/-! ### a cell is no code object and no function -/
section
variable {h : Heap} {c : Addr} {o : Obj} {v : Option Value}
theorem codeO_cell {q : Str} (e : h.get? c = some o) (hd : o.data = .cell v) : LamX.CodeO c q ≠ ObjX c o := fun z => by
  have z1 := congrFun (HO.ext.inj z) h
  have z2 : ∃ (oc : Obj) (vs : Array Value) (t : Tok), h.get? c = some oc ∧ oc.data = .fields vs ∧ vs[1]? = some (.str q t) := z1.mpr e
  obtain ⟨oc, vs, t, h1, h2, _⟩ := z2
  rw [e] at h1
  cases h1
  rw [hd] at h2
  cases h2
theorem lamO_cell {t : Lm} {cl : List (Str × Addr)} {c' : Addr} (e : h.get? c = some o) (hd : o.data = .cell v) : LamO c t cl c' ≠ ObjX c o := fun z => by
  have z1 := congrFun (HO.ext.inj z) h
  have z2 : ∃ pm ctv : Value, h.get? c = some (PySem.W.kla_obj "<lambda>" t.qual t.params t.body t.scope cl pm c' ctv) := z1.mpr e
  obtain ⟨pm, ctv, h1⟩ := z2
  rw [e] at h1
  cases h1
  cases hd
end
/-- the cells cs as they lie in h, told in H -/
def CellsT (cs : List Addr) (h : Heap) (H : Hp) : Prop := ∀ c ∈ cs, ∃ (o : Obj) (v : Option Value), H c = some (ObjX c o) ∧ h.get? c = some o ∧ o.data = .cell v
section
variable {K : PySem.W.Frag} {W : Addr → Prop} {cs : List Addr} {h : Heap} {H H' : Hp}
theorem CellsT.ne (x : CellsT cs h H) {b : Addr} {u : HO} (e : H b = some u) (hu : ∀ c o, c ∈ cs → h.get? c = some o → (∃ v, o.data = .cell v) → u ≠ ObjX c o) : b ∉ cs := fun z => by
  obtain ⟨o, v, h1, h2, h3⟩ := x b z
  rw [h1] at e
  exact hu b o z h2 ⟨v, h3⟩ (Option.some.inj e).symm
theorem CellsT.nx (x : CellsT cs h H) {b : Addr} {u : HO} (e : H b = some u) (hu : ∀ φ, u ≠ .ext φ) : b ∉ cs := x.ne e fun _ _ _ _ _ z => hu _ z
theorem tabs_drop {P : Addr} {q : Str} (x : CellsT cs h H) (t : LamX.TabS H P q) : LamX.TabS (dropH cs H) P q := by
  obtain ⟨ps, h1, h2, h3⟩ := t
  refine ⟨ps, by rw [dropH_out (x.nx h1 fun _ z => nomatch z)]; exact h1, h2, fun pos cv hc => ?_⟩
  obtain ⟨c, e1, e2⟩ := h3 pos cv hc
  refine ⟨c, e1, ?_⟩
  rw [dropH_out fun z => ?_]
  · exact e2
  · obtain ⟨o, v, k1, k2, k3⟩ := x c z
    rw [k1] at e2
    exact codeO_cell k2 k3 (Option.some.inj e2).symm
theorem evo_lift (n : ∀ c ∈ cs, H c = none) : Evo K W H (liftH cs h H) := by
  have out : ∀ a u, H a = some u → liftH cs h H a = some u := fun a u q => by rw [liftH_out fun z => by rw [n a z] at q; cases q]; exact q
  exact ⟨fun a u q _ _ => out a u q, fun a φ q => out a _ q, fun P q _ ⟨ps, h1, h2, h3⟩ => ⟨ps, out _ _ h1, h2, fun pos cv hc => let ⟨c, e1, e2⟩ := h3 pos cv hc; ⟨c, e1, out _ _ e2⟩⟩, fun a u q => out a _ q, fun a o u q => out a _ q,
    fun a q => by cases r : H a with | none => exact absurd r q | some u => rw [out a u r]; exact fun z => nomatch z⟩
/-- behind a call for which cells were told -/
theorem evo_back1 (e : Evo K (fun _ => False) (liftH cs h H) H') (n : ∀ c ∈ cs, H c = none ∧ ∃ (o : Obj) (v : Option Value), h.get? c = some o ∧ o.data = .cell v) : Evo K W H (dropH cs H') ∧ CellsT cs h H' := by
  have up : ∀ b v, H b = some v → liftH cs h H b = some v ∧ b ∉ cs := fun b v q => by
    have nb : b ∉ cs := fun z => by rw [(n b z).1] at q; cases q
    exact ⟨by rw [liftH_out nb]; exact q, nb⟩
  have x : CellsT cs h H' := fun c hc => by
    obtain ⟨_, o, v, h1, h2⟩ := n c hc
    exact ⟨o, v, e.exts _ _ (by rw [liftH_in hc, h1]; rfl), h1, h2⟩
  refine ⟨⟨fun a u q _ nt => ?_, fun a φ q => ?_, fun P q m t => ?_, fun a u q => ?_, fun a o u q => ?_, fun a q => ?_⟩, x⟩
  · rw [dropH_out (up a u q).2]; exact e.keep a u (up a u q).1 (fun z => z) nt
  · rw [dropH_out (up a _ q).2]; exact e.exts a φ (up a _ q).1
  · exact tabs_drop x (e.tabs _ _ m ((evo_lift (W := W) fun c hc => (n c hc).1).tabs _ _ m t))
  · rw [dropH_out (up a _ q).2]; exact e.tups a u (up a _ q).1
  · rw [dropH_out (up a _ q).2]; exact e.frzs a o u (up a _ q).1
  · cases r : H a with
    | none => exact absurd r q
    | some u => rw [dropH_out (up a u r).2]; exact e.dom a (by rw [(up a u r).1]; exact fun z => nomatch z)
/-- behind a call for which they were not told -/
theorem evo_back2 (e : Evo K (fun _ => False) (dropH cs H) H') (x : CellsT cs h H) (nn : ∀ c ∈ cs, H' c = none) : Evo K W H (backH cs H H') ∧ ∀ a u, H' a = some u → backH cs H H' a = some u := by
  have bk : ∀ b v, H' b = some v → backH cs H H' b = some v := fun b v q => by
    rw [backH_out fun z => by rw [nn b z] at q; cases q]
    exact q
  have up : ∀ b v, H b = some v → (∀ φ, v ≠ .ext φ) → dropH cs H b = some v := fun b v q nx => by rw [dropH_out (x.nx q nx)]; exact q
  refine ⟨⟨fun a u q _ nt => ?_, fun a φ q => ?_, fun P q m t => ?_, fun a u q => ?_, fun a o u q => ?_, fun a q => ?_⟩, bk⟩
  · by_cases ha : a ∈ cs
    · rw [backH_in ha]; exact q
    · exact bk _ _ (e.keep a u (by rw [dropH_out ha]; exact q) (fun z => z) nt)
  · by_cases ha : a ∈ cs
    · rw [backH_in ha]; exact q
    · exact bk _ _ (e.exts a φ (by rw [dropH_out ha]; exact q))
  · obtain ⟨ps, h1, h2, h3⟩ := e.tabs _ _ m (tabs_drop x t)
    exact ⟨ps, bk _ _ h1, h2, fun pos cv hc => let ⟨c, e1, e2⟩ := h3 pos cv hc; ⟨c, e1, bk _ _ e2⟩⟩
  · exact bk _ _ (e.tups a u (up a _ q fun _ z => nomatch z))
  · exact bk _ _ (e.frzs a o u (up a _ q fun _ z => nomatch z))
  · by_cases ha : a ∈ cs
    · rw [backH_in ha]; exact q
    · cases r : H a with
      | none => exact absurd r q
      | some u =>
        have := e.dom a (by rw [dropH_out ha, r]; exact fun z => nomatch z)
        cases r' : H' a with
        | none => exact absurd r' this
        | some u' => rw [bk _ _ r']; exact fun z => nomatch z
end
end D2

namespace D2
open PySem PySem.Spec PyProof.Rows L2

/-! ### the lambda is made -/
def tLamM (T : List (Addr × Str)) (t : Lm) (cl : List (Str × Addr)) : TE := fun σ H Q => LamX.Tabs T H ∧ ∀ (f c' : Addr) (H1 : Hp), LamX.ExtN H H1 → (∀ b, H1 b = none → H b = none) → LamX.Tabs T H1 → H f = none → H1 f = some (LamO f t cl c') → H1 c' = some (LamX.CodeO c' t.qual) → Q (.ref f) H1
section
variable {X : Cx} {pins : List (Addr × Obj)} {σ : L2.St} {H : Hp} {s : Shared}
theorem lamO_ok {P : Program} {w : World} {H : Hp} {h : Heap} {t : Lm} {cl : List (Str × Addr)} {f c' : Addr} {pm ctv : Value} (e : h.get? f = some (PySem.W.kla_obj "<lambda>" t.qual t.params t.body t.scope cl pm c' ctv)) : ObjOk P w H h f (LamO f t cl c') :=
  ⟨⟨pm, ctv, e⟩, ⟨_, e⟩, fun h1 h2 ⟨pm, ctv, p⟩ st => ⟨pm, ctv, st _ p⟩⟩
theorem pe_lamM {T : List (Addr × Str)} {c P : Addr} {params : Arguments} {body : Expr} {scope : Scope} {pos : Pos} {fr : List Str} (TB : LamX.TabB X.base X.mg c P) (hcode : X.env.code = .ref c) (hm : (P, X.env.qual ++ "<lambda>") ∈ T) (hu : ∀ p ∈ T, p.1 = P → p.2 = X.env.qual ++ "<lambda>") (hdef : defaultsOf params X.env = ([], []))
    (hfree : ∀ y ∈ scope.names, y.2 = .free → X.env.scope.names.lookup y.1 = some .cell ∨ X.env.scope.names.lookup y.1 = some .free) :
    PE X (.Lambda params body scope pos) (tLamM T ⟨X.env.qual ++ "<lambda>", params, body, scope, fr⟩ (cloFrom X.env.cells scope.names [])) := by
  refine ⟨fun pins s σ H Q I h => ?_⟩
  obtain ⟨hT, h⟩ := h
  have hfr : ∀ y ∈ scope.names, y.2 = .free → ∃ c, X.env.cells.lookup y.1 = some c := fun y hy e => (hfree y hy e).elim (fun z => I.ok.has _ (.inl z)) fun z => I.ok.has _ (.inr z)
  obtain ⟨ps, hP, ht, ha⟩ := hT _ hm
  refine PySem.W.kla_eval hdef ?_
  have bP : s.heap.BuiltinsAt X.mg P := TB.bm.keeps I.bk
  have hP' : s.heap.get? P = some { cls := .none, data := .fields ps } := I.hok P _ hP
  cases hc : codeAmong pos ps.toList with
  | none =>
    refine PySem.W.kla_makeFunction (mg := X.mg) (c := c) (P := P) (ps := ps) (closure_ok hfr) I.ok.glob (I.mod.glob.keeps I.bk) hcode (TB.code.keeps I.bk) hP' ht hc TB.gP bP fun c' ctv h' tk hx hge hlt hrec htb => ?_
    obtain ⟨c2, oc, vs, t, e2, hoc, hd, hv⟩ := hrec
    cases e2
    have nC : H c' = none := I.hok.fresh hge
    have I1 := LamX.inv_table (t' := tk) (more := #[rawInt pos.line, rawInt pos.col, .ref c']) (h' := h') I hP (fun b o hb e => hx b o hb e) htb hge ⟨oc, vs, t, hoc, hd, hv⟩
    have hE : LamX.ExtN H (upd (upd H P (.tbl (ps ++ #[rawInt pos.line, rawInt pos.col, .ref c']))) c' (LamX.CodeO c' (X.env.qual ++ "<lambda>"))) := fun b o e n => by
      rw [upd_ne (ne_of_none e nC), upd_ne (fun z => n ps (Option.some.inj (e.symm.trans (by rw [z]; exact hP))))]
      exact e
    have eL : (ps ++ #[rawInt pos.line, rawInt pos.col, .ref c']).toList = ps.toList ++ [rawInt pos.line, rawInt pos.col, .ref c'] := by simp
    have T1 : LamX.Tabs T (upd (upd H P (.tbl (ps ++ #[rawInt pos.line, rawInt pos.col, .ref c']))) c' (LamX.CodeO c' (X.env.qual ++ "<lambda>"))) := fun p hp => by
      by_cases hb : p.1 = P
      · rw [hu p hp hb, hb]
        refine ⟨_, by rw [upd_ne (ne_of_none hP nC), upd_same], by rw [eL]; exact PySem.TriplesOk_snoc _ _ _ _ ht, fun p' cv hcv => ?_⟩
        rw [eL] at hcv
        rcases LamX.among_app _ ht hcv with z | z
        · obtain ⟨c0, e1, e2⟩ := ha p' cv z
          exact ⟨c0, e1, hE _ _ e2 LamX.codeO_ne⟩
        · exact ⟨c', z, upd_same⟩
      · obtain ⟨ps', a1, a2, a3⟩ := hT p hp
        refine ⟨ps', by rw [upd_ne (ne_of_none a1 nC), upd_ne hb]; exact a1, a2, fun p' cv hcv => ?_⟩
        obtain ⟨c0, e1, e2⟩ := a3 p' cv hcv
        exact ⟨c0, e1, hE _ _ e2 LamX.codeO_ne⟩
    have nF := I1.hok.fresh (Nat.le_refl _)
    have I2 := I1.laid (a := h'.objs.size) (t' := tk) (o := LamO h'.objs.size ⟨X.env.qual ++ "<lambda>", params, body, scope, fr⟩ (cloFrom X.env.cells scope.names []) c') (h' := h'.push (PySem.W.kla_obj "<lambda>" (X.env.qual ++ "<lambda>") params body scope (cloFrom X.env.cells scope.names []) ((X.mg "__name__").getD .none) c' ctv)) (fun b u e => Heap.get?_push_of_some _ e) (Nat.le_refl _) (lamO_ok (Heap.get?_push_size _ rfl))
    refine ⟨.ref h'.objs.size, _, I2, rfl, h h'.objs.size c' _ (fun b o e n => ?_) (fun b e => NdefX.upd_none (NdefX.upd_none (NdefX.upd_none e))) (T1.ext fun b o e => ?_) (I.hok.fresh (Nat.le_trans hge (Nat.le_of_lt hlt))) upd_same ?_⟩
    · have e1 := hE b o e n
      exact (upd_ne (ne_of_none e1 nF)).trans e1
    · exact (upd_ne (ne_of_none e nF)).trans e
    · exact (upd_ne (Nat.ne_of_lt hlt)).trans upd_same
  | some cv =>
    obtain ⟨c', e, hco⟩ := ha pos cv hc
    subst e
    refine PySem.W.kla_makeFunctionHit (mg := X.mg) (c := c) (P := P) (ps := ps) (closure_ok hfr) I.ok.glob (I.mod.glob.keeps I.bk) hcode (TB.code.keeps I.bk) hP' ht hc bP fun ctv h' tk hx hsz => ?_
    have I1 : Inv X pins σ H { s with heap := h', toks := tk } := I.kept hx
    have nF : H h'.objs.size = none := I1.hok.fresh (Nat.le_refl _)
    have I2 := I1.laid (a := h'.objs.size) (t' := tk) (o := LamO h'.objs.size ⟨X.env.qual ++ "<lambda>", params, body, scope, fr⟩ (cloFrom X.env.cells scope.names []) c') (h' := h'.push (PySem.W.kla_obj "<lambda>" (X.env.qual ++ "<lambda>") params body scope (cloFrom X.env.cells scope.names []) ((X.mg "__name__").getD .none) c' ctv)) (fun b u e => Heap.get?_push_of_some _ e) (Nat.le_refl _) (lamO_ok (Heap.get?_push_size _ rfl))
    refine ⟨.ref h'.objs.size, _, I2, rfl, h h'.objs.size c' _ (fun b o e n => ?_) (fun b e => NdefX.upd_none e) (hT.ext fun b o e => ?_) nF upd_same ?_⟩
    · exact (upd_ne (ne_of_none e nF)).trans e
    · exact (upd_ne (ne_of_none e nF)).trans e
    · exact (upd_ne (ne_of_none hco nF)).trans hco
end
/-! ### x(e, lambda ..) -/
def tCallL (T : List (Addr × Str)) (t : Lm) (cl : List (Str × Addr)) (js : List Nat) (sp : Sp) (ta : TE) : TE := fun σ H Q => tCons ta (tCons (tLamM T t cl) tNil) σ H fun vs H2 =>
  ∀ h : Heap, NdefX.CellsAt cl t.fr (js.map (NdefX.slotAt σ)) h H2 → (∀ p ∈ cl, H2 p.2 = none ∧ ∃ (o : Obj) (v : Option Value), h.get? p.2 = some o ∧ o.data = .cell v) →
    sp (vs ++ []) (liftH (cl.map (·.2)) h H2) (fun v H' => (∀ c ∈ cl.map (·.2), H' c = liftH (cl.map (·.2)) h H2 c) ∧ Q v (dropH (cl.map (·.2)) H')) E0
section
variable {X : Cx}
theorem pe_callL {T : List (Addr × Str)} {c P f : Addr} {fd : FuncData} {ps : List Str} {sp : Sp} {k : Nat} {x : Str} {e : Expr} {ta : TE} {params : Arguments} {body : Expr} {scope : Scope} {lpos p pos : Pos} {fr : List Str} {js : List Nat}
    (F : FnOk X.prog X.w X.K X.mg X.base CX0 k f fd ps sp) (hr : Room k X.A) (hg : Gl X x) (hm : X.mg x = some (.ref f)) (hk : PySem.W.keepIn X.K (.ref f) = true) (hb : Binds X.K fd ps [])
    (TB : LamX.TabB X.base X.mg c P) (hcode : X.env.code = .ref c) (hmT : (P, X.env.qual ++ "<lambda>") ∈ T) (hu : ∀ p ∈ T, p.1 = P → p.2 = X.env.qual ++ "<lambda>") (hdef : defaultsOf params X.env = ([], []))
    (hfree : ∀ y ∈ scope.names, y.2 = .free → X.env.scope.names.lookup y.1 = some .cell ∨ X.env.scope.names.lookup y.1 = some .free) (hfr : ∀ y ∈ fr, (y, NameKind.free) ∈ scope.names) (hjs : js.map (fun j => X.N[j]?) = fr.map some) (hfn : ∀ y, X.fn y = true)
    (ha : PE X e ta) (hdb : (x == ("__debug__" : Str)) = false := by decide) (he : starEach (e :: [.Lambda params body scope lpos]) X.env = (false, eval e X.env) :: starEach [.Lambda params body scope lpos] X.env := by rfl) (hpl : (backTo pos (starEach [.Lambda params body scope lpos] X.env)).any (·.1) = false := by rfl) :
    PE X (.Call (.Name x p) (e :: [.Lambda params body scope lpos]) [] pos) (tCallL T ⟨X.env.qual ++ "<lambda>", params, body, scope, fr⟩ (cloFrom X.env.cells scope.names []) js sp ta) := by
  refine ⟨fun pins s σ H Q I h => ?_⟩
  refine wpAny_Call_Name_kw (ld_glob I hg hm ?_ hdb)
  refine PySem.W.callWith_K (h₀ := X.base) I.ok.mod.kin hk (thn ((pa_cons ha (pa_cons (pe_lamM TB hcode hmT hu hdef hfree) pa_nil) he).run pos pins s σ H _ I h) fun us s1 ⟨vs, H1, I1, r, q⟩ => ⟨I1.kIn, ?_⟩) he hpl
  have hcells : ∀ y ∈ scope.names, y.2 = .free → ∃ c, X.env.cells.lookup y.1 = some c := fun y hy e => (hfree y hy e).elim (fun z => I.ok.has _ (.inl z)) fun z => I.ok.has _ (.inr z)
  have hin : ∀ p ∈ cloFrom X.env.cells scope.names [], X.env.cells.lookup p.1 = some p.2 := fun p hp => by
    rcases cloFrom_mem hp with hm | ⟨h1, h2⟩
    · cases hm
    · obtain ⟨c1, hc⟩ := hcells _ h1 rfl
      have hc : X.env.cells.lookup p.1 = some c1 := hc
      rw [hc]
      have e2 : p.2 = c1 := by rw [h2, hc] <;> rfl
      rw [e2]
  have facts : ∀ p ∈ cloFrom X.env.cells scope.names [], H1 p.2 = none ∧ ∃ (o : Obj) (v : Option Value), s1.heap.get? p.2 = some o ∧ o.data = .cell v := fun p hp => by
    obtain ⟨v, o, ho, hd⟩ := I1.cell p.1 p.2 (hin p hp)
    exact ⟨I1.freeC p.1 p.2 (hin p hp), o, v, ho, hd⟩
  have q2 := q s1.heap (NdefX.cells_of I1 (NdefX.Caps.made I1.ok hfree hfr hjs)) facts
  have mem : ∀ c ∈ (cloFrom X.env.cells scope.names []).map (·.2), ∃ p ∈ cloFrom X.env.cells scope.names [], p.2 = c := fun c hc => by
    obtain ⟨p, hp, e⟩ := List.mem_map.mp hc
    exact ⟨p, hp, e⟩
  have e0 : Env0 X.prog X.w X.K X.mg X.base X.A X.stack s1 (liftH ((cloFrom X.env.cells scope.names []).map (·.2)) s1.heap H1) := env0_lift I1.env0 fun c hc => by
    obtain ⟨p, hp, rfl⟩ := mem c hc
    have ab := I1.ok.cab p.1 p.2 (hfn _) (hin p hp)
    refine ⟨(facts p hp).1, Heap.get?_none_of_le (Nat.le_trans I1.ok.bsz ab), fun z => ?_⟩
    rcases List.mem_cons.mp (I1.stkSub _ z) with e | e
    · exact I1.cne p.1 p.2 (hin p hp) e
    · obtain ⟨_, o, ho, _⟩ := I1.ok.funs.mem e
      exact absurd (Nat.lt_of_lt_of_le (Heap.lt_size ho) ab) (Nat.lt_irrefl _)
  have r2 : Vals (vs ++ []) (us ++ []) := r.append .nil
  have hl : (us ++ []).length = ps.length := by rw [← r2.length]; exact F.len _ _ _ _ q2
  refine wpAny_call (codeAny_mono (F.run X.A X.stack s1 _ ⟨us, []⟩ (us ++ []) (vs ++ []) _ E0 hr e0 (hb s1 us I1.kIn hl) r2 q2) fun r s' hq => ?_)
  cases r with
  | error e => exact (show False from hq).elim
  | ok fl =>
    cases fl with
    | ret u =>
      obtain ⟨v, H', os, bare, un, hok, rv, kk, q3⟩ := hq
      refine I1.after ⟨v, _, os, bare, un_drop un hok (fun c hc => ?_) kk, hok_drop hok (fun c hc => ?_), rv, q3⟩
      · obtain ⟨p, hp, rfl⟩ := mem c hc
        obtain ⟨a, o, v, b, _⟩ := facts p hp
        exact ⟨a, o, b⟩
      · have e1 := kk c hc
        obtain ⟨p, hp, rfl⟩ := mem c hc
        obtain ⟨a, o, v, b, _⟩ := facts p hp
        exact ⟨o, by rw [e1, liftH_in hc, b]; rfl⟩
    | next => exact False.elim hq
    | brk => exact False.elim hq
    | cont => exact False.elim hq
end
/-- what the captured names stand for -/
def capsD (sg : List Sl) : List Nat → Option (List D)
  | [] => some []
  | j :: js => match sg[j]? with
    | some (.val d) => (capsD sg js).map (d :: ·)
    | _ => none
theorem caps_rep {K : PySem.W.Frag} {B : Addr → Prop} {H0 : Hp} {as : List Addr} {ks : List (D × V)} {ow : List (Option Addr)} {sg : List Sl} {S : List O} {σ : L2.St} {H : Hp} (r : Rl K B H0 as ks ow sg S σ H) :
    ∀ {js : List Nat} {ds : List D}, capsD sg js = some ds → ∃ xs, RepA K as (Bd B ow) H ds xs ∧ js.map (NdefX.slotAt σ) = xs.map some
  | [], ds, h => by cases h; exact ⟨[], rfl, rfl⟩
  | j :: js, ds, h => by
    unfold capsD at h
    cases e : sg[j]? with
    | none => rw [e] at h; cases h
    | some s =>
      rw [e] at h
      cases s with
      | no => cases h
      | own o => cases h
      | val d =>
        simp only [Option.map_eq_some_iff] at h
        obtain ⟨ds', h1, rfl⟩ := h
        obtain ⟨xs, h2, h3⟩ := caps_rep r h1
        obtain ⟨w, x, _, g2, _, v, rfl, g5⟩ := r.sl j _ e
        exact ⟨v :: xs, ⟨v, xs, rfl, g5, h2⟩, by rw [List.map_cons, h3, NdefX.slotAt_of g2]; rfl⟩
def mCallL (F : FD) (t : Lm) (js : List Nat) (m : ME) : ME := fun sg S => (m sg S).bind fun x => match capsD sg js with
  | some caps => if (D.noref x.1 && D.norefA caps) = true then match F [x.1, .fn t caps] [] with
      | .ok (d, []) => if d.nofn = true then .ok (d, x.2) else .bad
      | _ => .bad
    else .bad
  | none => .bad
section
variable {X : Cx} {W : WX2}
theorem e2_callL {F : FD} {m : ME} {c P f : Addr} {fd : FuncData} {ps : List Str} {k : Nat} {x : Str} {e : Expr} {params : Arguments} {body : Expr} {scope : Scope} {lpos p pos : Pos} {fr : List Str} {js : List Nat}
    (G : FnOk X.prog X.w X.K X.mg X.base CX0 k f fd ps (Fn2 X.K 2 F)) (hr : Room k X.A) (hg : Gl X x) (hm : X.mg x = some (.ref f)) (hk : PySem.W.keepIn X.K (.ref f) = true) (hb : Binds X.K fd ps [])
    (TB : LamX.TabB X.base X.mg c P) (hcode : X.env.code = .ref c) (hmT : (P, X.env.qual ++ "<lambda>") ∈ tabsOf X.K) (hu : ∀ p ∈ tabsOf X.K, p.1 = P → p.2 = X.env.qual ++ "<lambda>") (hdef : defaultsOf params X.env = ([], []))
    (hfree : ∀ y ∈ scope.names, y.2 = .free → X.env.scope.names.lookup y.1 = some .cell ∨ X.env.scope.names.lookup y.1 = some .free) (hfr : ∀ y ∈ fr, (y, NameKind.free) ∈ scope.names) (hjs : js.map (fun j => X.N[j]?) = fr.map some) (hfn : ∀ y, X.fn y = true)
    (ha : PE2 X W false e m) (hdb : (x == ("__debug__" : Str)) = false := by decide) (he : starEach (e :: [.Lambda params body scope lpos]) X.env = (false, eval e X.env) :: starEach [.Lambda params body scope lpos] X.env := by rfl) (hpl : (backTo pos (starEach [.Lambda params body scope lpos] X.env)).any (·.1) = false := by rfl) :
    PE2 X W false (.Call (.Name x p) (e :: [.Lambda params body scope lpos]) [] pos) (mCallL F ⟨X.env.qual ++ "<lambda>", params, body, scope, fr⟩ js m) := by
  obtain ⟨ta, a1, a2⟩ := ha
  refine ⟨_, pe_callL G hr hg hm hk hb TB hcode hmT hu hdef hfree hfr hjs hfn a1 hdb he hpl, fun B H0 as ks ow sg S σ H Q r h => ?_⟩
  refine a2 _ _ _ _ _ _ _ _ _ _ r (Den.bind h fun d S1 v1 H1 e0 e1 s1 q1 h1 => ?_)
  refine ⟨s1.tab, fun f c' H2 eN nn T2 f0 lf cf h C cells => ?_⟩
  have r1 := r.step e1 s1
  simp only [] at h1
  cases ec : capsD sg js with
  | none => rw [ec] at h1; exact False.elim h1
  | some caps =>
    rw [ec] at h1
    simp only [] at h1
    obtain ⟨xs, k1, k2⟩ := caps_rep r1 ec
    by_cases hf : (D.noref d && D.norefA caps) = true
    · rw [if_pos hf] at h1
      rw [Bool.and_eq_true] at hf
      have ncs : ∀ c ∈ (cloFrom X.env.cells scope.names []).map (·.2), H2 c = none ∧ ∃ (o : Obj) (v : Option Value), h.get? c = some o ∧ o.data = .cell v := fun c hc => by
        obtain ⟨p, hp, rfl⟩ := List.mem_map.mp hc
        exact cells p hp
      have e12 : Evo X.K (fun _ => False) H1 H2 := ⟨fun a o q _ nt => eN a o q nt, fun a φ q => eN a _ q fun _ z => (nomatch z), fun P q m _ => T2 _ m, fun a u q => eN a _ q fun _ z => (nomatch z), fun a o u q => eN a _ q fun _ z => (nomatch z), fun a q z => q (nn a z)⟩
      have e23 : Evo X.K (fun _ => False) H2 (liftH ((cloFrom X.env.cells scope.names []).map (·.2)) h H2) := evo_lift fun c hc => (ncs c hc).1
      have e13 := e12.trans e23
      have out : ∀ a u, H2 a = some u → liftH ((cloFrom X.env.cells scope.names []).map (·.2)) h H2 a = some u := fun a u q => by
        rw [liftH_out fun z => by rw [(ncs a z).1] at q; cases q]; exact q
      rw [k2] at C
      have lam : LamR (liftH ((cloFrom X.env.cells scope.names []).map (·.2)) h H2) ⟨X.env.qual ++ "<lambda>", params, body, scope, fr⟩ f xs := by
        refine ⟨c', _, out _ _ lf, out _ _ cf, fun p hp => ?_, C.inj, ?_, fun i y hy => ?_⟩
        · obtain ⟨_, o, v, b1, b2⟩ := cells p hp
          exact ⟨o, v, by rw [liftH_in (List.mem_map.mpr ⟨p, hp, rfl⟩), b1]; rfl, b2⟩
        · have := C.len
          rw [List.length_map] at this
          exact this
        · obtain ⟨c, b1, b2⟩ := C.has i y hy
          have hl : i < xs.length := by
            have h1 := C.len
            rw [List.length_map] at h1
            have h2 := (List.getElem?_eq_some_iff.mp hy).1
            omega
          have hx : xs[i]? = some xs[i] := List.getElem?_eq_getElem hl
          obtain ⟨u, b3, o, b4, b5⟩ := b2 xs[i] (by rw [List.getElem?_map, hx]; rfl)
          exact ⟨c, o, u, xs[i], b1, by rw [liftH_in (List.mem_map.mpr ⟨(y, c), PySem.mem_of_lookup b1, rfl⟩), b4]; rfl, b5, hx, b3⟩
      refine ⟨rfl, Bd B ow, [], [], [d, .fn ⟨X.env.qual ++ "<lambda>", params, body, scope, fr⟩ caps], fun a ha => e13.dom a (r1.bdDom a ha), (fun a ha => absurd ha List.not_mem_nil), ⟨rfl, List.nodup_nil, (fun n o z => by simp at z), fun p hp => e13.tabs _ _ hp (s1.tab p hp)⟩, ?_, ?_⟩
      · exact ⟨v1, _, rfl, Rep.noref d v1 hf.1 (Rep.imp e13 (fun _ z => z.elim) (fun _ z => z) d v1 q1), .ref f, [], rfl, ⟨f, xs, rfl, lam, RepA.noref caps xs hf.2 (RepA.imp e13 (fun _ z => z.elim) (fun _ z => z) caps xs k1)⟩, rfl⟩
      · cases eF : F [d, .fn ⟨X.env.qual ++ "<lambda>", params, body, scope, fr⟩ caps] [] with
        | ok z =>
          obtain ⟨d2, S'⟩ := z
          cases S' with
          | nil =>
            simp only [eF] at h1
            by_cases hn : d2.nofn = true
            · rw [if_pos hn] at h1
              intro v H' e s q
              have e' : Evo X.K (fun _ => False) (liftH ((cloFrom X.env.cells scope.names []).map (·.2)) h H2) H' := e.weak fun a z => by cases z
              obtain ⟨b1, b2⟩ := evo_back1 (W := fun _ => False) e' ncs
              refine ⟨fun c hc => ?_, ?_⟩
              · obtain ⟨_, o, v, g1, g2⟩ := ncs c hc
                have := e'.exts c _ (by rw [liftH_in hc, g1]; rfl)
                rw [this, liftH_in hc, g1]
                rfl
              · have e3 := e12.trans b1
                refine h1 v _ e3.any (r1.stoNew e3) ?_
                refine Rep.ofNil d2 v (Rep.dropF (fun a u q nx => ?_) (fun _ z => z) d2 v hn q)
                rw [dropH_out (b2.nx q nx)]
                exact q
            · rw [if_neg hn] at h1; exact False.elim h1
          | cons o S' => simp only [eF] at h1; exact False.elim h1
        | ex => simp only [eF] at h1; exact False.elim h1
        | bad => simp only [eF] at h1; exact False.elim h1
    · rw [if_neg hf] at h1
      exact False.elim h1
end
end D2

namespace D2
open PySem PySem.Spec PyProof.Rows L2

/-! ### what a lambda computes -/
structure LmOk (P : Program) (w : World) (K : PySem.W.Frag) (mg : Str → Option Value) (base : Heap) (k : Nat) (t : Lm) (n : Nat) (F : FD) : Prop where
  run : ∀ (A : Around) (outer : List Env) (s : Shared) (H : Hp) (f c' : Addr) (cl : List (Str × Addr)) (us : List Value) (vs xs : List V) (Q : VK) (pm ctv : Value), Room k A → Env0 P w K mg base A outer s H →
    s.heap.get? f = some (PySem.W.kla_obj "<lambda>" t.qual t.params t.body t.scope cl pm c' ctv) → s.heap.CodeRec (.ref c') t.qual → NdefX.CellsAt cl t.fr (xs.map some) s.heap H → Vals vs us → vs.length = n → Fn2 K (n + t.fr.length) F (vs ++ xs) H Q E0 →
    codeAny (model P w) A (.call (.ref f) ⟨us, []⟩) (CR CX0 outer P w H s Q E0) s
theorem LmOk.mono {P : Program} {w : World} {K : PySem.W.Frag} {mg : Str → Option Value} {base : Heap} {j k n : Nat} {t : Lm} {F : FD} (L : LmOk P w K mg base j t n F) (h : j ≤ k) : LmOk P w K mg base k t n F :=
  ⟨fun A outer s H f c' cl us vs xs Q pm ctv hr => L.run A outer s H f c' cl us vs xs Q pm ctv (hr.mono h)⟩
def lamF (m : ME) : FD := fun ds S => m (ds.map Sl.val) S
abbrev lamNF (t : Lm) (cl : List (Str × Addr)) (c' : Addr) : NdefX.NF := ⟨"<lambda>", t.qual, t.params, [], t.scope, cl, c'⟩
section
variable {P : Program} {w : World} {K : PySem.W.Frag} {mg : Str → Option Value} {base : Heap}
theorem lm_ok {t : Lm} {ps : List Str} {m : ME} {k : Nat} (Sc : NdefX.NScope (ps ++ t.fr) ps t.fr t.scope)
    (hb : ∀ (cl : List (Str × Addr)) (pm cdv ctv : Value) (us : List Value), us.length = ps.length → bindArgs (PySem.W.kla_fn "<lambda>" t.qual t.params t.body t.scope cl pm cdv ctv) ⟨us, []⟩ = pure (ps.zip us))
    (body : ∀ (cl : List (Str × Addr)) (c' f : Addr) (A : Around) (outer : List Env) (s : Shared) (H : Hp), Room k (A.deeper (NdefX.envF (lamNF t cl c') f s.heap.objs.size)) → PE2 (NdefX.ncx CX0 P w K mg base (ps ++ t.fr) (lamNF t cl c') f A outer s H E0).nox W0 false t.body m) :
    LmOk P w K mg base (k + 1) t ps.length (lamF m) := by
  refine ⟨fun A outer s H f c' cl us vs xs Q pm ctv hr e0 ho hcd C r hl h => ?_⟩
  have lim : s.heap.NoLimit := e0.mod.nolimit.keeps fun b o e => (e0.bs b o e).1
  refine PySem.W.kla_callFunE hr.depth ho rfl Sc.co Sc.gen rfl hcd ?_
  rw [hb _ _ _ _ us (by rw [← r.length]; exact hl)]
  refine wpAny_pure (wpAny_newFunctionEnv Sc.nocell (fun ⟨n, _⟩ hy => Sc.par n (List.of_mem_zip hy).1) (fun h₁ hns hsb => ⟨lim.fresh _ hsb, ?_⟩) Sc.kind)
  show codeAny _ _ (.expr t.body (NdefX.envF (lamNF t cl c') f s.heap.objs.size)) _ _
  have kp : ∀ b o, s.heap.get? b = some o → h₁.get? b = some o := fun b o e => hsb.extBut b o (Nat.ne_of_lt (Heap.lt_size e)) (Heap.get?_push_of_some _ e)
  obtain ⟨te, p, sim⟩ := body cl c' f A outer s H (hr.deeper _)
  obtain ⟨hl2, B, as, S, ds, hB, hA, hS, hR, hF⟩ := h
  have clen := C.len
  rw [List.length_map] at clen
  have dlen : ds.length = ps.length + t.fr.length := by rw [hR.length]; exact hl2
  have I : Inv (NdefX.ncx CX0 P w K mg base (ps ++ t.fr) (lamNF t cl c') f A outer s H E0) [] (NdefX.startF (ps ++ t.fr) vs (xs.map some)) H { s with heap := h₁, toks := s.toks + (ps.zip us).length } := NdefX.inv_startN Sc hr.hd e0 hl r C hns kp
  have est : NdefX.startF (ps ++ t.fr) vs (xs.map some) = L2.start (ps ++ t.fr) (vs ++ xs) := by
    unfold NdefX.startF L2.start
    simp only [List.map_append, List.append_assoc, List.length_map, List.length_append, Nat.sub_sub]
  have esg : startS (ps ++ t.fr) ds = ds.map Sl.val := by
    unfold startS
    rw [show (ps ++ t.fr).length - ds.length = 0 by rw [List.length_append]; omega, List.replicate_zero, List.append_nil]
  rw [est] at I
  have q : te (L2.start (ps ++ t.fr) (vs ++ xs)) H Q := by
    refine sim B H as [] _ (startS (ps ++ t.fr) ds) S _ H Q (rl_start hB hA hS hR) ?_
    rw [esg]
    revert hF
    unfold lamF
    cases m (ds.map Sl.val) S with
    | ok z =>
      obtain ⟨d, S'⟩ := z
      exact fun hF v H' e s2 rp => hF v H' e (s2.weak fun b hb => .inl hb) (Rep.imp (W := fun _ => False) Evo.refl (fun _ z => z.elim) (fun b hb => .inl hb) d v rp)
    | ex => exact fun hF => False.elim hF
    | bad => exact fun hF => False.elim hF
  refine PySem.W.kla_codeExpr (wpAny_mono (p.nox.run [] _ _ H Q I q) (fun v s' hq => ?_) fun e s' hq => hq)
  obtain ⟨w', H', J', rv, q⟩ := hq
  exact ⟨w', H', J'.os, J'.bare, J'.base, J'.hok, rv, q⟩
/-- fn2_ok, told of the def's own code object -/
theorem fn2_okC {x qual : Str} {st : Stmt} {f : Addr} {fd : FuncData} {N ps : List Str} {k : Nat} {m : MS} (F : Fun K x qual st f fd) (Sc : FnScope N ps (defScope st))
    (body : ∀ (A : Around) (outer : List Env) (s : Shared) (H : Hp) (E : XK), Room k (A.deeper (envOfC qual (defScope st) s.heap.objs.size f fd.code)) → PSs2 (cxOf CX0 P w K mg base N qual (defScope st) f fd.code A outer s H E).nox W0 (defBody st) m) :
    FnOk P w K mg base CX0 (k + 1) f fd ps (Fn2 K ps.length (fnF N m)) := by
  obtain ⟨oc, od, kV, doc, pm, an, cdv, ct, osl, rfl, lk, hcd⟩ := F.ex
  refine fn_of lk hcd Sc (fun vs H Q E h => h.1) fun A outer s H vs Q E hr h => ?_
  obtain ⟨hl, B, as, S, ds, hB, hA, hS, hR, hF⟩ := h
  obtain ⟨t, p, sim⟩ := body A outer s H E hr
  refine ⟨t, p.nox, sim B H as [] _ (startS N ds) S (L2.start N vs) H _ (rl_start hB hA hS hR) ?_⟩
  unfold fnF at hF
  revert hF
  cases m (startS N ds) S with
  | ok z =>
    obtain ⟨fl, sg', S'⟩ := z
    cases fl with
    | nx => exact fun hF ow' σ' H' r' => hF .non H' r'.evo (r'.sto.weak bdB) rfl
    | bk => exact fun hF => False.elim hF
    | ct => exact fun hF => False.elim hF
    | rt d => exact fun hF v H' e s q => hF v H' e s q
  | ex e sg S' => exact fun hF => False.elim hF
  | bad => exact fun hF => False.elim hF
end
/-! ### f(..) of a name that holds a lambda -/
def FnH (H : Hp) (f : Addr) : Prop := ∃ (t : Lm) (cl : List (Str × Addr)) (c' : Addr), H f = some (LamO f t cl c')
theorem fnH_at {X : Cx} {pins : List (Addr × Obj)} {σ : L2.St} {H : Hp} {s : Shared} {f : Addr} (I : Inv X pins σ H s) (e : FnH H f) : PySem.W.FnAt f s.heap := by
  obtain ⟨t, cl, c', e⟩ := e
  obtain ⟨⟨pm, ctv, h⟩, _, _⟩ := I.hok f _ e
  exact ⟨_, _, _, _, h⟩
def tCallF (K : PySem.W.Frag) (t : Lm) (n i : Nat) (F : FD) (ta : TA) : TE := fun σ H Q => ∃ f, σ[i]? = some (some (.ref f)) ∧ FnH H f ∧ ta σ H fun vs H1 => vs.length = n ∧ ∃ (c' : Addr) (cl : List (Str × Addr)) (xs : List V), H1 f = some (LamO f t cl c') ∧ H1 c' = some (LamX.CodeO c' t.qual) ∧
  (∀ p ∈ cl, ∃ (o : Obj) (v : Option Value), H1 p.2 = some (ObjX p.2 o) ∧ o.data = .cell v) ∧ (∀ x y c, cl.lookup x = some c → cl.lookup y = some c → x = y) ∧ xs.length = t.fr.length ∧
  (∀ (i : Nat) (y : Str), t.fr[i]? = some y → ∃ (c : Addr) (o : Obj) (u : Value) (v : V), cl.lookup y = some c ∧ H1 c = some (ObjX c o) ∧ o.data = .cell (some u) ∧ xs[i]? = some v ∧ RelV v u) ∧
  ∀ h : Heap, CellsT (cl.map (·.2)) h H1 → Fn2 K (n + t.fr.length) F (vs ++ xs) (dropH (cl.map (·.2)) H1) (fun v H' => (∀ c ∈ cl.map (·.2), H' c = none) → Q v (backH (cl.map (·.2)) H1 H')) E0
section
variable {X : Cx} {W : WX2}
theorem pe_callF {t : Lm} {n i k : Nat} {F : FD} {a : Str} {e : Expr} {es : List Expr} {ta : TA} {p pos : Pos} (L : LmOk X.prog X.w X.K X.mg X.base k t n F) (hr : Room k X.A) (hN : X.N[i]? = some a) (hv : Vis X.env.scope a) (ha : PA X (e :: es) ta)
    (hd : (a == ("__debug__" : Str)) = false := by decide) (hcd : (a == ("__classdict__" : Str)) = false := by decide)
    (he : starEach (e :: es) X.env = (false, eval e X.env) :: starEach es X.env := by rfl) (hpl : (backTo pos (starEach es X.env)).any (·.1) = false := by rfl) :
    PE X (.Call (.Name a p) (e :: es) [] pos) (tCallF X.K t n i F ta) := by
  refine ⟨fun pins s σ H Q I h => ?_⟩
  obtain ⟨f, hs, hf, ht⟩ := h
  refine wpAny_Call_Name_kw (thn ((pe_var (pos := p) hN hv hd hcd).run pins s σ H (fun v H1 => v = .ref f ∧ H1 = H) I ⟨.ref f, hs, rfl, rfl⟩) fun u s1 ⟨v, H1, I1, r1, q1⟩ => ?_)
  obtain ⟨ev, eH⟩ := q1
  subst ev
  rw [eH] at I1
  obtain rfl : u = Value.ref f := r1
  refine PySem.W.callWith_F (first := []) (fnH_at I1 hf) (thn (ha.run pos pins s1 σ H _ I1 ht) fun us s2 ⟨vs, H2, I2, r, hl, c', cl, xs, h1, h2, h3, h4, h5, h6, q⟩ => ⟨fnH_at I2 ⟨_, _, _, h1⟩, ?_⟩) he hpl
  show wpAny _ _ (call (.ref f) us) _ _ _
  obtain ⟨⟨pm, ctv, ho⟩, _, _⟩ := I2.hok f _ h1
  have x : CellsT (cl.map (·.2)) s2.heap H2 := fun c hc => by
    obtain ⟨p, hp, rfl⟩ := List.mem_map.mp hc
    obtain ⟨o, v, k1, k2⟩ := h3 p hp
    exact ⟨o, v, k1, objX_at I2.hok k1, k2⟩
  have xo : ∀ c ∈ cl.map (·.2), ∃ o, H2 c = some (ObjX c o) := fun c hc => let ⟨o, _, k, _⟩ := x c hc; ⟨o, k⟩
  have C : NdefX.CellsAt cl t.fr (xs.map some) s2.heap (dropH (cl.map (·.2)) H2) := by
    refine ⟨by rw [List.length_map]; exact h5, fun y c e => ?_, h4, fun j y e => ?_⟩
    · have hm : c ∈ cl.map (·.2) := List.mem_map.mpr ⟨(y, c), PySem.mem_of_lookup e, rfl⟩
      obtain ⟨o, v, k1, k2, k3⟩ := x c hm
      exact ⟨dropH_in hm, v, o, k2, k3⟩
    · obtain ⟨c, o, u, v, k1, k2, k3, k4, k5⟩ := h6 j y e
      refine ⟨c, k1, fun v' e' => ⟨u, ?_, o, objX_at I2.hok k2, k3⟩⟩
      rw [List.getElem?_map, k4] at e'
      have : v' = v := (Option.some.inj (Option.some.inj (show some (some v) = some (some v') from e'))).symm
      rw [this]
      exact k5
  refine wpAny_call (codeAny_mono (L.run X.A X.stack s2 _ f c' cl us vs xs _ pm ctv hr (env0_drop I2.env0 xo) ho (NdefX.codeO_at I2.hok h2) C r hl (q s2.heap x)) fun r s' hq => ?_)
  cases r with
  | error e => exact (show False from hq).elim
  | ok fl =>
    cases fl with
    | ret u =>
      obtain ⟨v, H', os, bare, un, hok, rv, q3⟩ := hq
      obtain ⟨b1, b2, b3⟩ := back_ok I2.env0 un hok xo
      exact I2.after ⟨v, _, os, bare, b1, b2, rv, q3 b3⟩
    | next => exact False.elim hq
    | brk => exact False.elim hq
    | cont => exact False.elim hq
open Classical in
noncomputable def mCallF (i : Nat) (t : Lm) (F : FD) (ms : MA) : ME := fun sg S => match sg[i]? with
  | some (.val (.fn t' caps)) => if t' = t then (ms sg S).bind fun x => if (D.norefA (x.1 ++ caps) && D.nofnA (x.1 ++ caps)) = true then match F (x.1 ++ caps) [] with
      | .ok (d, []) => .ok (d, x.2)
      | _ => .bad
    else .bad
    else .bad
  | _ => .bad
theorem norefA_app : ∀ {xs ys : List D}, D.norefA (xs ++ ys) = (D.norefA xs && D.norefA ys)
  | [], ys => by simp [D.norefA]
  | x :: xs, ys => by rw [List.cons_append, D.norefA, D.norefA, norefA_app, Bool.and_assoc]
theorem nofnA_app : ∀ {xs ys : List D}, D.nofnA (xs ++ ys) = (D.nofnA xs && D.nofnA ys)
  | [], ys => by simp [D.nofnA]
  | x :: xs, ys => by rw [List.cons_append, D.nofnA, D.nofnA, nofnA_app, Bool.and_assoc]
theorem e2_callF {t : Lm} {n k : Nat} {F : FD} {ms : MA} {a : Str} {e : Expr} {es : List Expr} {p pos : Pos} (i : Nat) (L : LmOk X.prog X.w X.K X.mg X.base k t n F) (hr : Room k X.A) (ha : PA2 X W false (e :: es) ms) (hn : ∀ sg S ds S', ms sg S = .ok (ds, S') → ds.length = n)
    (hN : X.N[i]? = some a := by rfl) (hv : Vis X.env.scope a := by first | exact Or.inl rfl | exact Or.inr (Or.inl rfl) | exact Or.inr (Or.inr rfl)) (hd : (a == ("__debug__" : Str)) = false := by decide) (hcd : (a == ("__classdict__" : Str)) = false := by decide)
    (he : starEach (e :: es) X.env = (false, eval e X.env) :: starEach es X.env := by rfl) (hpl : (backTo pos (starEach es X.env)).any (·.1) = false := by rfl) :
    PE2 X W false (.Call (.Name a p) (e :: es) [] pos) (mCallF i t F ms) := by
  obtain ⟨ta, a1, a2⟩ := ha
  refine ⟨_, pe_callF L hr hN hv a1 hd hcd he hpl, fun B H0 as ks ow sg S σ H Q r h => ?_⟩
  unfold mCallF at h
  cases e1 : sg[i]? with
  | none => rw [e1] at h; exact False.elim h
  | some sl =>
    rw [e1] at h
    cases sl with
    | no => exact False.elim h
    | own o => exact False.elim h
    | val d =>
      cases d <;> try exact False.elim h
      rename_i t' caps
      simp only [] at h
      by_cases et : t' = t
      · rw [if_pos et] at h
        subst et
        obtain ⟨w, x, _, g2, _, v, rfl, f, xs0, rfl, g5, g6⟩ := r.sl i _ e1
        obtain ⟨c0, cl0, lf, _⟩ := g5
        refine ⟨f, g2, ⟨_, _, _, lf⟩, a2 _ _ _ _ _ _ _ _ _ _ r (Den.bind h fun ds S1 vs H1 e0 ev s1 q1 h1 => ?_)⟩
        have r1 := r.step ev s1
        obtain ⟨w2, x2, _, k2, _, v2, rfl, f2, xs, rfl, k5, k6⟩ := r1.sl i _ e1
        rw [g2] at k2
        cases k2
        obtain ⟨c', cl, l1, l2, l3, l4, l5, l6⟩ := k5
        refine ⟨by rw [← q1.length]; exact hn _ _ _ _ e0, c', cl, xs, l1, l2, l3, l4, l5, l6, fun h cx => ?_⟩
        simp only [] at h1
        by_cases hf : (D.norefA (ds ++ caps) && D.nofnA (ds ++ caps)) = true
        · rw [if_pos hf] at h1
          rw [Bool.and_eq_true] at hf
          have kd : ∀ a u, H1 a = some u → (∀ φ, u ≠ .ext φ) → dropH (cl.map (·.2)) H1 a = some u := fun a u q nx => by rw [dropH_out (cx.nx q nx)]; exact q
          refine ⟨by rw [List.length_append, ← q1.length, hn _ _ _ _ e0, l5], fun a => Bd B ow a ∧ a ∉ cl.map (·.2), [], [], ds ++ caps, fun a ha => by rw [dropH_out ha.2]; exact r1.bdDom a ha.1, (fun a ha => absurd ha List.not_mem_nil), ⟨rfl, List.nodup_nil, (fun n o z => by simp at z), fun p hp => tabs_drop cx (s1.tab p hp)⟩,
            RepA.noref _ _ hf.1 (RepA.dropF kd (fun a z => z.1) _ _ hf.2 (RepA.append q1 k6)), ?_⟩
          cases eF : F (ds ++ caps) [] with
          | ok z =>
            obtain ⟨d, S'⟩ := z
            cases S' with
            | nil =>
              simp only [eF] at h1
              intro v H' e s q nn
              have e' : Evo X.K (fun _ => False) (dropH (cl.map (·.2)) H1) H' := e.weak fun a z => by cases z
              obtain ⟨b1, b2⟩ := evo_back2 (W := fun _ => False) e' cx nn
              refine h1 v _ b1.any (r1.stoNew b1) (Rep.ofNil d v (Rep.into b2 (fun a ha hb => ⟨hb, fun z => ha (nn a z)⟩) d v q))
            | cons o S' => simp only [eF] at h1; exact False.elim h1
          | ex => simp only [eF] at h1; exact False.elim h1
          | bad => simp only [eF] at h1; exact False.elim h1
        · rw [if_neg hf] at h1
          exact False.elim h1
      · rw [if_neg et] at h
        exact False.elim h
end
end D2

namespace D2
open PySem PySem.Spec PyProof.Rows L2

/-! ### a def that makes a lambda -/
def lamA : Expr → Arguments
  | .Lambda a _ _ _ => a
  | _ => ⟨[], [], none, [], [], none, []⟩
def lamB : Expr → Expr
  | .Lambda _ b _ _ => b
  | e => e
def lamS : Expr → Scope
  | .Lambda _ _ s _ => s
  | _ => defScope (.Pass ⟨0, 0, 0, 0⟩)
def noLam : Expr := .Name "" ⟨0, 0, 0, 0⟩
structure MkL (K : PySem.W.Frag) (mg : Str → Option Value) (base : Heap) (fd : FuncData) (c P : Addr) (q : Str) : Prop where
  tb : LamX.TabB base mg c P
  cd : fd.code = .ref c
  mem : (P, q) ∈ tabsOf K
  un : ∀ p ∈ tabsOf K, p.1 = P → p.2 = q
/-! ### K and K with its tables tell the same -/
section
variable {K : PySem.W.Frag} {T : List (Addr × Str)}
open PySem.W
theorem ownIn_mark : ownIn (markK K T) = ownIn K := by funext x v; cases v <;> simp only [ownIn, lookup_mark, nsIn_mark]
theorem alongIn_mark : alongIn (markK K T) = alongIn K := by
  funext x l
  induction l with
  | nil => rfl
  | cons a l ih => simp only [alongIn, ownIn_mark, ih]
theorem findIn_mark : findIn (markK K T) = findIn K := by funext v x; cases v <;> simp only [findIn, lookup_mark, alongIn_mark]
theorem typeIn_mark : typeIn (markK K T) = typeIn K := by funext v; cases v <;> simp only [typeIn, lookup_mark]
theorem specialIn_mark : specialIn (markK K T) = specialIn K := by funext v x; simp only [specialIn, typeIn_mark, findIn_mark]
theorem clsIn_mark : clsIn (markK K T) = clsIn K := by funext C; simp only [clsIn, lookup_mark]
theorem mroIn_mark : mroIn (markK K T) = mroIn K := by funext C b; simp only [mroIn, clsIn_mark]
theorem subIn_mark : subIn (markK K T) = subIn K := by funext v b; cases v <;> simp only [subIn, mroIn_mark]
theorem hasDictIn_mark : hasDictIn (markK K T) = hasDictIn K := by funext C; simp only [hasDictIn, clsIn_mark]
theorem isClsIn_mark : isClsIn (markK K T) = isClsIn K := by funext C; simp only [isClsIn, clsIn_mark]
theorem keepIn_mark : keepIn (markK K T) = keepIn K := by funext v; cases v <;> simp only [keepIn, lookup_mark, specialIn_mark]
theorem takesIn_mark : takesIn (markK K T) = takesIn K := by funext a; simp only [takesIn, specialIn_mark]
theorem findCls_mark : findCls (markK K T) = findCls K := by funext c m x; simp only [findCls, takesIn_mark, typeIn_mark, findIn_mark, specialIn_mark, clsIn_mark, mroIn_mark, subIn_mark, alongIn_mark, lookup_mark]
theorem readsIn_mark : readsIn (markK K T) = readsIn K := by funext c m; simp only [readsIn, subIn_mark, nsIn_mark, typeIn_mark, findIn_mark, specialIn_mark, clsIn_mark]
end
/-! ### the top -/
theorem walkT {l : PySem.W.OpenLaw} {q : Program} {loose : List Str} {XP : (Str → Option Value) → Heap → Prop} {YP : World → Heap → Prop} {d : DefRec} {K : Params → PySem.W.Frag} {k : Nat} {ts : List Addr} (cv : List Addr) (qs : List Str) (hn : l.most = some 63) (hdf : d.params.defaults = []) (hr : Room k callerA)
    (hY : ∀ (w : World) (h : Heap), YP w h → (K w.params).In h) (hTb : ∀ (w : World) (h : Heap), YP w h → ∀ P ∈ ts, h.get? P = some (PySem.W.tabObj #[]))
    (F : ∀ (w : World) (mg : Str → Option Value) (fa : Addr) (h : Heap), (markK (K w.params) (ts.zip qs)).In h → h.Ns mainGlobals mg → mg d.name = some (.ref fa) →
      ∃ fd : FuncData, (∀ (s : Shared) (u : Value), BindsTo s fd ⟨[u], []⟩ [("script", u)]) ∧ ∀ base : Heap, (markK (K w.params) (ts.zip qs)).In base → base.Ns mainGlobals mg → (∀ p ∈ cv.zip ts, LamX.TabB base mg p.1 p.2) → FnOk l.prog w (markK (K w.params) (ts.zip qs)) mg base CX0 k fa fd ["script"] (spLaw (markK (K w.params) (ts.zip qs))))
    (hne : ∀ w : World, (K w.params).isEmpty = false) (nT : ∀ w : World, ((cv.zip ts).all fun p => ((K w.params).lookup p.2).isNone) = true) (hC : ∀ w : World, ((cv.zip ts).all fun p => PySem.W.codeHdIn (K w.params) p.1 p.2) = true) (hlen : cv.length = ts.length) :
    PySem.W.WalkO q loose XP YP l.row.toRowW d [] (fun f vs => PySem.call f vs) := by
  refine LamX.walk_ofTs (n := 63) (k := k) (x := "script") (CX := fun _ => CX0) (K := fun p => markK (K p) (ts.zip qs)) hn (by decide) hdf hr (fun w h Y => in_mark (hY w h Y)) (fun w mg fa h Y KX G hmg => ?_) fun _ _ _ _ _ z => z
  obtain ⟨fd, hb, hF⟩ := F w mg fa h KX G hmg
  have ne : K w.params ≠ [] := fun z => by have := hne w; rw [z] at this; cases this
  refine ⟨fd, cv.zip ts, spLaw (markK (K w.params) (ts.zip qs)), fun p hp => hTb w h Y p.2 (List.of_mem_zip hp).2, fun p hp => ?_, fun p hp => ?_, hb, fun H a ns hl _ hH hS => ⟨a, ns, rfl, hS, hl, fun p hp => ?_, fun _ => rfl⟩, hF⟩
  · rw [lookup_mark]
    have := List.all_eq_true.mp (nT w) p hp
    exact Option.isNone_iff_eq_none.mp this
  · exact PySem.W.codeHd_of_K (hY w h Y) (List.all_eq_true.mp (hC w) p hp)
  · rw [tabsOf_mark ne] at hp
    have h1 := (List.of_mem_zip hp).1
    obtain ⟨i, hi⟩ := List.getElem?_of_mem h1
    have hl2 : i < cv.length := by have := (List.getElem?_eq_some_iff.mp hi).1; omega
    have hm : (cv[i], p.1) ∈ cv.zip ts := List.mem_iff_getElem?.mpr ⟨i, by rw [List.getElem?_zip_eq_some]; exact ⟨List.getElem?_eq_getElem hl2, hi⟩⟩
    exact LamX.TabS.nil (hH _ hm)
end D2

namespace D2
open PySem PySem.Spec PyProof.Rows L2
/-! ### for x, y in zip(a, b): a tuple and a list -/
section
variable {prog : Program} {w : World} {A : Around}
/-- what a tuple's iterator draws from place i on (n is past its end only at i itself) -/
theorem draws_tupAt (hh : A.handled = none) (it t : Addr) (hne : t ≠ it) (its : Array Value) (i : Nat) :
    ∃ n St, Draws prog w A it [it, t] n (fun j v => its[j]? = some v) St ∧ (∀ h : Heap, h.IsTupleIter it t i → h.IsTuple t its → St i h) ∧ (∀ j (h : Heap), St j h → h.IsTupleIter it t j) ∧ i ≤ n ∧ (i < its.size → i < n) ∧ (its.size ≤ i → i = n) := by
  by_cases hi : i < its.size
  · exact ⟨its.size, _, Draws.tuple hh it t hne its, fun h a b => ⟨a, b⟩, fun j h s => s.1, Nat.le_of_lt hi, fun x => x, fun x => absurd hi (Nat.not_lt.mpr x)⟩
  · refine ⟨i, fun j h => (h.IsTupleIter it t j ∧ h.IsTuple t its) ∧ j = i, ⟨fun _ _ st => let ⟨o, ho, _⟩ := st.1.1; ⟨o, ho⟩, fun _ _ _ st hk => ⟨⟨st.1.1.at fun o e => hk it (by simp) o e, st.1.2.at fun o e => hk t (by simp) o e⟩, st.2⟩, fun j s Q E hj st hQ => absurd st.2 (Nat.ne_of_lt hj), fun s Q E st hE => wpAny_nextOf_tuple_end hh st.1.1 st.1.2 (by simp; omega) hE⟩, fun h a b => ⟨⟨a, b⟩, rfl⟩, fun j h s => s.1.1, Nat.le_refl _, fun x => absurd x hi, fun _ => rfl⟩
theorem draws_lstAt (hh : A.handled = none) (it t : Addr) (hne : t ≠ it) (its : Array Value) (i : Nat) :
    ∃ n St, Draws prog w A it [it, t] n (fun j v => its[j]? = some v) St ∧ (∀ h : Heap, h.IsListIter it t i → h.IsList t its → St i h) ∧ (∀ j (h : Heap), St j h → h.IsListIter it t j) ∧ i ≤ n ∧ (i < its.size → i < n) ∧ (its.size ≤ i → i = n) := by
  by_cases hi : i < its.size
  · exact ⟨its.size, _, Draws.list hh it t hne its, fun h a b => ⟨a, b⟩, fun j h s => s.1, Nat.le_of_lt hi, fun x => x, fun x => absurd hi (Nat.not_lt.mpr x)⟩
  · refine ⟨i, fun j h => (h.IsListIter it t j ∧ h.IsList t its) ∧ j = i, ⟨fun _ _ st => let ⟨o, ho, _⟩ := st.1.1; ⟨o, ho⟩, fun _ _ _ st hk => ⟨⟨st.1.1.at fun o e => hk it (by simp) o e, st.1.2.at fun o e => hk t (by simp) o e⟩, st.2⟩, fun j s Q E hj st hQ => absurd st.2 (Nat.ne_of_lt hj), fun s Q E st hE => wpAny_nextOf_list_end hh st.1.1 st.1.2 (by simp; omega) hE⟩, fun h a b => ⟨⟨a, b⟩, rfl⟩, fun j h s => s.1.1, Nat.le_refl _, fun x => absurd x hi, fun _ => rfl⟩
end
/-- the tuple at a and the list at b as they stand at each turn -/
def ItzM (K : PySem.W.Frag) (a b : Addr) : It :=
  ⟨fun i H => ∃ (xs ys : List V) (x y : V), SqT K H a xs ∧ SqL K H b ys ∧ xs[i]? = some x ∧ ys[i]? = some y,
    fun i H v H' => ∃ T x y, v = .ref T ∧ H T = none ∧ H' = upd H T (.tup [x, y]) ∧ (∀ xs, SqT K H a xs → xs[i]? = some x) ∧ ∀ ys, SqL K H b ys → ys[i]? = some y,
    fun i H => ∃ xs ys : List V, SqT K H a xs ∧ SqL K H b ys ∧ (xs.length ≤ i ∨ ys.length ≤ i)⟩
theorem turn_zipM {P : Program} {w : World} {K : PySem.W.Frag} {elts : List Expr} {kk : Nat} {tpos : Pos} {a b z TI TO i1 i2 : Addr} (D : ZipSep2 z TI TO i1 i2 [i1, a] [i2, b]) :
    Turn P w K (.Tuple elts kk tpos) (ItzM K a b) [z, TI, TO, i1, i2] z (fun i h => IsZip h z TI TO .none ∧ IsTupOf2 h TI (.ref i1) (.ref i2) ∧ (∃ x y, IsTupOf2 h TO x y) ∧ h.IsTupleIter i1 a i ∧ h.IsListIter i2 b i) where
  mem := by simp
  obj := fun i h st c hc => by
    obtain ⟨hz, hTI, ⟨x, y, hTO⟩, ⟨o1, e1, _, d1⟩, ⟨o2, e2, _, d2⟩⟩ := st
    have e' : c = z ∨ c = TI ∨ c = TO ∨ c = i1 ∨ c = i2 := by simpa using hc
    rcases e' with rfl | rfl | rfl | rfl | rfl
    · exact ⟨_, hz, fun v q => nomatch q⟩
    · exact ⟨_, hTI, fun v q => nomatch q⟩
    · exact ⟨_, hTO, fun v q => nomatch q⟩
    · exact ⟨o1, e1, fun v q => by rw [d1] at q; cases q⟩
    · exact ⟨o2, e2, fun v q => by rw [d2] at q; cases q⟩
  keep := fun i h h' st k => by
    obtain ⟨hz, hTI, ⟨x, y, hTO⟩, h1, h2⟩ := st
    exact ⟨k z (by simp) _ hz, k TI (by simp) _ hTI, ⟨x, y, k TO (by simp) _ hTO⟩, h1.at fun o q => k i1 (by simp) o q, h2.at fun o q => k i2 (by simp) o q⟩
  item := by
    intro X hP hw hK hc i pins s σ H E I hf st hg
    subst hP hw hK
    obtain ⟨hz, hTI, ⟨x0, y0, hTO⟩, h1, h2⟩ := st
    obtain ⟨xs, ys, x, y, hqx, hqy, hx, hy⟩ := hg
    obtain ⟨its, rv, p, _⟩ := I.tuple hqx
    obtain ⟨its2, rv2, p2, _⟩ := I.list hqy
    obtain ⟨u, hu, ru⟩ := rv.get hx
    obtain ⟨u2, hu2, ru2⟩ := rv2.get hy
    have hzl : z < s.heap.objs.size := Heap.lt_size hz
    have hd := I.ok.hd hc
    have na : a ≠ i1 := fun e => by
      obtain ⟨o, ho, hcl, _⟩ := id h1
      obtain ⟨o2, ho2, hc2, _⟩ := id p
      rw [e, ho] at ho2; cases ho2
      rw [hc2] at hcl; exact absurd hcl (by simp)
    have nb : b ≠ i2 := fun e => by
      obtain ⟨o, ho, hcl, _⟩ := id h2
      obtain ⟨o2, ho2, hc2, _⟩ := id p2.isList
      rw [e, ho] at ho2; cases ho2
      rw [hc2] at hcl; exact absurd hcl (by simp)
    obtain ⟨n1, St1, D1, s1, r1, _, lt1, _⟩ := draws_tupAt (prog := X.prog) (w := X.w) (A := X.A.in1) hd i1 a na its.toArray i
    obtain ⟨n2, St2, D2, s2, r2, _, lt2, _⟩ := draws_lstAt (prog := X.prog) (w := X.w) (A := X.A.in1) hd i2 b nb its2.toArray i
    have q1 : i < its.toArray.size := by
      have := (List.getElem?_eq_some_iff.1 hu).1
      simpa using this
    have q2 : i < its2.toArray.size := by
      have := (List.getElem?_eq_some_iff.1 hu2).1
      simpa using this
    refine wpAny_pyNext_zipD2_item D D1 D2 hz hTI hTO (s1 _ h1 p) (s2 _ h2 p2.isList) (lt1 q1) (lt2 q2) fun v1 v2 h' tk hv1 hv2 z' TO' t1' t2' hT hsz hk => ?_
    obtain rfl : u = v1 := by
      have e : its[i]? = some v1 := by simpa using hv1
      rw [hu] at e; cases e; rfl
    obtain rfl : u2 = v2 := by
      have e : its2[i]? = some v2 := by simpa using hv2
      rw [hu2] at e; cases e; rfl
    refine ⟨_, rfl, wpAny_letOwnedTupleGo_zip (s := { s with heap := h', toks := tk }) z' fun h'' z'' sb => ?_⟩
    have hT2 : h''.get? s.heap.objs.size = some { cls := .type "tuple", data := .seq #[u, u2] } := (sb.2 _ (Nat.ne_of_gt hzl)).trans hT
    have new : ObjOk X.prog X.w (upd H s.heap.objs.size (.tup [x, y])) h'' s.heap.objs.size (.tup [x, y]) :=
      ⟨by show 2 ≤ sizeLine; decide, [u, u2], .cons ru (.cons ru2 .nil), ⟨_, hT2, rfl, _, rfl⟩⟩
    have I1 : Inv X pins σ (upd H s.heap.objs.size (.tup [x, y])) { s with heap := h'', toks := tk } :=
      I.turnedNew (t' := tk) (ch := [z, TI, TO, i1, i2]) (fun c o hb q => (sb.2 c (fun q' => hb (by simp [q']))).trans (hk c o (fun q' => hb (by simp [q'])) (fun q' => hb (by simp [q'])) (fun q' => hb (by simp [q'])) (fun q' => hb (by simp [q'])) q)) hf (Nat.le_refl _) new
    refine ⟨.ref s.heap.objs.size, _, I1, rfl, ⟨_, x, y, rfl, I.hok.fresh (Nat.le_refl _), rfl, fun l hl => by rw [I.tuple_inj hl hqx]; exact hx, fun l hl => by rw [I.list_inj hl hqy]; exact hy⟩, ⟨z'', ?_, ⟨u, u2, ?_⟩, ?_, ?_⟩, fun c hcm => ?_⟩
    · exact (sb.2 _ D.TIz).trans (hk _ _ D.TIz D.TITO D.TIi1 D.TIi2 hTI)
    · exact (sb.2 _ D.TOz).trans TO'
    · exact (r1 _ _ t1').at fun o q => (sb.2 _ D.zi1.symm).trans q
    · exact (r2 _ _ t2').at fun o q => (sb.2 _ D.zi2.symm).trans q
    · have hlt : c < s.heap.objs.size := by
        have e' : c = z ∨ c = TI ∨ c = TO ∨ c = i1 ∨ c = i2 := by simpa using hcm
        rcases e' with q | q | q | q | q
        · rw [q]; exact hzl
        · rw [q]; exact Heap.lt_size hTI
        · rw [q]; exact Heap.lt_size hTO
        · rw [q]; obtain ⟨_, e1, _⟩ := h1; exact Heap.lt_size e1
        · rw [q]; obtain ⟨_, e2, _⟩ := h2; exact Heap.lt_size e2
      rw [upd_ne (Nat.ne_of_lt hlt)]
      exact (hf c hcm).1
  done := by
    intro X hP hw hK hc i pins s σ H E I hf st hg
    subst hP hw hK
    obtain ⟨hz, hTI, ⟨x0, y0, hTO⟩, h1, h2⟩ := st
    obtain ⟨xs, ys, hqx, hqy, hend⟩ := hg
    obtain ⟨its, rv, p, _⟩ := I.tuple hqx
    obtain ⟨its2, rv2, p2, _⟩ := I.list hqy
    have l1 := rv.length
    have l2 := rv2.length
    have hd := I.ok.hd hc
    have na : a ≠ i1 := fun e => by
      obtain ⟨o, ho, hcl, _⟩ := id h1
      obtain ⟨o2, ho2, hc2, _⟩ := id p
      rw [e, ho] at ho2; cases ho2
      rw [hc2] at hcl; exact absurd hcl (by simp)
    have nb : b ≠ i2 := fun e => by
      obtain ⟨o, ho, hcl, _⟩ := id h2
      obtain ⟨o2, ho2, hc2, _⟩ := id p2.isList
      rw [e, ho] at ho2; cases ho2
      rw [hc2] at hcl; exact absurd hcl (by simp)
    obtain ⟨n1, St1, D1, s1, r1, le1, _, e1⟩ := draws_tupAt (prog := X.prog) (w := X.w) (A := X.A.in1) hd i1 a na its.toArray i
    obtain ⟨n2, St2, D2, s2, r2, le2, _, e2⟩ := draws_lstAt (prog := X.prog) (w := X.w) (A := X.A.in1) hd i2 b nb its2.toArray i
    refine wpAny_pyNext_zipD2_end D D1 D2 hz hTI hTO (s1 _ h1 p) (s2 _ h2 p2.isList) le1 le2 ?_ fun h' tk hk => ⟨rfl, I.turnedL (t' := tk) (ch := [z, TI, TO, i1, i2]) (fun c o hb q =>
      hk c o (fun q' => hb (by simp [q'])) (fun q' => hb (by simp [q'])) (fun q' => hb (by simp [q'])) (fun q' => hb (by simp [q'])) q) hf⟩
    rcases hend with q | q
    · exact .inl (e1 (by simp; omega))
    · exact .inr (e2 (by simp; omega))
  self := fun A i s Q E st h => wpAny_pyIter_zip st.1 h
def iZipM (K : PySem.W.Frag) (ta : TA) : TI := fun σ H R => ta σ H fun vs H1 => ∃ a b xs ys, vs = [.ref a, .ref b] ∧ SqT K H1 a xs ∧ SqL K H1 b ys ∧ R (ItzM K a b) H1
theorem pi_zipM {X : Cx} {e e2 : Expr} {ta : TA} {p pos tpos : Pos} {elts : List Expr} {kk : Nat} (hg : Gl X "zip") (hm : X.mg "zip" = none) (ha : PA X [e, e2] ta)
    (hs : starEach [e, e2] X.env = (false, eval e X.env) :: starEach [e2] X.env := by rfl) (hpl : (backTo pos (starEach [e2] X.env)).any (·.1) = false := by rfl) :
    PI X (.Tuple elts kk tpos) (.Call (.Name "zip" p) [e, e2] [] pos) (iZipM X.K ta) := by
  refine ⟨fun pins s σ H R I h => ?_⟩
  refine Call_ (ld_blt I hg hm PyProof.Rows.boot_zip (PyProof.Rows.callWith_type1 (thn (ha.run pos pins s σ H _ I h) fun us s1 ⟨vs, H1, I1, r1, q1⟩ => ?_) hs hpl))
  obtain ⟨a, b, xs, ys, ex, hqx, hqy, q⟩ := q1
  subst ex
  cases r1 with
  | cons r rr =>
    cases rr with
    | cons r' rr =>
      cases rr
      cases r
      cases r'
      have fresh5 : ∀ c, c ∈ [s1.heap.objs.size + 4, s1.heap.objs.size + 2, s1.heap.objs.size + 3, s1.heap.objs.size, s1.heap.objs.size + 1] → FpOk X pins H1 c := fun c hcm => by
        have hle : s1.heap.objs.size ≤ c := by
          simp only [List.mem_cons, List.not_mem_nil, or_false] at hcm
          rcases hcm with rfl | rfl | rfl | rfl | rfl <;> omega
        exact I1.fpOk hle (I1.hok.fresh hle)
      obtain ⟨its, rv, p1, _⟩ := I1.tuple hqx
      obtain ⟨its2, rv2, p2, _⟩ := I1.list hqy
      obtain ⟨o1, ho1, _⟩ := id p1
      obtain ⟨o2, ho2, _⟩ := id p2.isList
      refine zip_begins2 (begins_tuple a its.toArray) (begins_list b its2.toArray) p1 p2.isList fun h' hz hTI hTO h1 h2 hsz hk => wpAny_pyIter_zip hz ?_
      have I2 : Inv X pins σ H1 { s1 with heap := h' } := I1.kept (t' := s1.toks) hk
      refine ⟨s1.heap.objs.size + 4, [s1.heap.objs.size + 4, s1.heap.objs.size + 2, s1.heap.objs.size + 3, s1.heap.objs.size, s1.heap.objs.size + 1], _, _, H1, rfl, I2, turn_zipM (zip_sep2 (fp1 := [a]) (fp2 := [b]) ?_ ?_), ⟨hz, hTI, ⟨_, _, hTO⟩, ⟨_, h1, rfl, rfl⟩, ⟨_, h2, rfl, rfl⟩⟩, fresh5, q⟩
      · intro x hx; simp only [List.mem_singleton] at hx; subst hx; exact Heap.lt_size ho1
      · intro x hx; simp only [List.mem_singleton] at hx; subst hx; exact Heap.lt_size ho2
/-! ### the same for data -/
def twoZM : List D → Option (List D)
  | [.tup ds, .lst es] => some (zipD ds es)
  | _ => none
def mIzM (ms : MA) : MA := fun sg S => (ms sg S).bind fun x => match twoZM x.1 with
  | some ds => .ok (ds, x.2)
  | none => .bad
section
variable {X : Cx} {W : WX2} {wk : Bool} {pos : Pos}
theorem i2_zipM {e e2 : Expr} {ms : MA} {p tpos : Pos} {elts : List Expr} {kk : Nat} (hg : Gl X "zip") (hm : X.mg "zip" = none) (ha : PA2 X W wk [e, e2] ms) (hs : starEach [e, e2] X.env = (false, eval e X.env) :: starEach [e2] X.env := by rfl) (hpl : (backTo pos (starEach [e2] X.env)).any (·.1) = false := by rfl) :
    PI2 X W wk (.Tuple elts kk tpos) (.Call (.Name "zip" p) [e, e2] [] pos) (mIzM ms) := by
  obtain ⟨t, a1, a2⟩ := ha
  refine ⟨_, pi_zipM hg hm a1 hs hpl, fun B H0 as ks ow sg S σ H R r h => ?_⟩
  refine a2 _ _ _ _ _ _ _ _ _ _ r (Den.bind h fun d S1 v H1 e0 e1 s1 q1 h1 => ?_)
  clear e0
  cases ej : twoZM d with
  | none => simp only [ej] at h1; exact False.elim h1
  | some zs =>
    simp only [ej] at h1
    unfold twoZM at ej
    split at ej
    · rename_i ds es
      cases ej
      obtain ⟨x, xs, ev, k1, x2, xs2, ev2, k2, k3⟩ := q1
      obtain rfl : xs2 = [] := k3
      subst ev2
      subst ev
      obtain ⟨a, ys, ex, g1, g2⟩ := id k1
      obtain ⟨b, ws, ex2, nb, l1, l2⟩ := id k2
      subst ex ex2
      refine ⟨a, b, ys, ws, rfl, g1, SqL.of l1, h1 _ H1 Evo.refl s1 ⟨[(.tup ds, .ref a), (.lst es, .ref b)], fun q hq => ?_, fun B2 H2 kp i => ?_⟩⟩
      · simp only [List.mem_cons, List.not_mem_nil, or_false] at hq
        rcases hq with rfl | rfl
        · exact k1
        · exact k2
      · obtain ⟨a', us, ea, m1, m2⟩ := kp (.tup ds, .ref a) List.mem_cons_self
        obtain ⟨b', vs, eb, nb', n1, n2⟩ := kp (.lst es, .ref b) (List.mem_cons_of_mem _ List.mem_cons_self)
        cases ea
        cases eb
        refine ⟨fun hi => ⟨us, vs, m1, SqL.of n1, by rw [← m2.length, ← n2.length]; exact zipD_end hi⟩, fun z hz => ?_⟩
        obtain ⟨y1, y2, z1, z2, ez⟩ := zipD_get hz
        obtain ⟨w1, o1, o2⟩ := m2.get z1
        obtain ⟨w2, p1, p2⟩ := n2.get z2
        refine ⟨⟨us, vs, w1, w2, m1, SqL.of n1, o1, p1⟩, fun x H3 ⟨T, u1, u2, ey, hT, e3, hx, hy⟩ => ?_⟩
        have f1 := hx us m1
        have f2 := hy vs (SqL.of n1)
        rw [o1] at f1
        rw [p1] at f2
        cases f1
        cases f2
        subst ey e3 ez
        exact ⟨Evo.new hT, repNewT hT (RepA.cons o2 (RepA.one p2))⟩
    · cases ej
end
end D2

namespace D2
open PySem PySem.Spec PyProof.Rows L2
/-! ### is, is not of bools -/
def D.bcmp (g : Bool → Bool → Bool) : D → D → Option D
  | .bl a, .bl b => some (.bl (g a b))
  | _, _ => none
def D.isB : D → D → Option D := D.bcmp fun a b => decide (a = b)
def D.notB : D → D → Option D := D.bcmp fun a b => !decide (a = b)
section
variable {K : PySem.W.Frag} {wk : Bool}
theorem ok_isB : BinOk K wk D.isB rIsB := by
  intro as Bs Bw H x y z v w Q h1 h2 rx ry e q
  unfold D.isB at e
  cases x <;> try (cases e; done)
  case bl a =>
    cases y <;> try (cases e; done)
    case bl b =>
      cases e
      exact ⟨a, b, rx, ry, q _ _ Evo.refl rfl⟩
theorem ok_notB : BinOk K wk D.notB rNotB := by
  intro as Bs Bw H x y z v w Q h1 h2 rx ry e q
  unfold D.notB at e
  cases x <;> try (cases e; done)
  case bl a =>
    cases y <;> try (cases e; done)
    case bl b =>
      cases e
      exact ⟨a, b, rx, ry, q _ _ Evo.refl rfl⟩
end
/-! ### sum of a tuple of ints -/
section
variable {prog : Program} {w : World} {A : Around} {E : Value → Shared → Prop} {s : Shared} {l : Addr} {its : List Value} {ns : List Int} {Q : Value → Shared → Prop}
theorem sumT_raw (hh : A.handled = none) (hl : s.heap.IsTuple l its.toArray) (hi : IntsAre its ns)
    (h : ∀ h' tk t', (∀ b o, s.heap.get? b = some o → h'.get? b = some o) → Q (.int ns.sum t') { s with heap := h', toks := tk }) : wpAny (model prog w) A (call (.builtin "sum") [.ref l]) Q E s := by
  obtain ⟨xs, e⟩ := hi.allInts.items
  have hn : numsOf (intItems xs).toList = ns := by rw [← e]; exact hi.numsOf
  rw [nums_intItems] at hn
  rw [e] at hl
  refine PySem.W.ktm_sumG hh hl fun h' tk t' hk => ?_
  have := h h' tk t' hk
  rw [preSum_eq, List.take_of_length_le (by simp), hn]
  exact this
end
def rSumT (K : PySem.W.Frag) : List V → Hp → VK → Prop := fun vs H Q => ∃ (a : Addr) (ns : List Int), vs = [V.ref a] ∧ SqT K H a (ns.map V.int) ∧ Q (.int ns.sum) H
theorem cr_sumT {X : Cx} (hc : X.calm = true) : CallR X (.builtin "sum") (rSumT X.K) := by
  intro pins s σ H vs us Q I r h
  obtain ⟨a, ns, rfl, hs, q⟩ := h
  obtain ⟨its, rv, hl, _⟩ := I.tuple hs
  rw [Vals.ref1 r]
  exact sumT_raw (I.ok.hd hc) hl rv.ints fun h' tk t' hk => ⟨.int _, H, I.kept hk, ⟨_, rfl⟩, q⟩
def D.sumT : D → Option D
  | .tup ds => (D.ints ds).map fun ns => .int ns.sum
  | _ => none
theorem ok_sumT {K : PySem.W.Frag} {wk : Bool} : CallOk K wk (on1 D.sumT) (rSumT K) := by
  refine ok_on1 fun as Bs Bw H d z v Q h1 h2 hr e q => ?_
  cases d <;> try (cases e; done)
  rename_i ds
  simp only [D.sumT, Option.map_eq_some_iff] at e
  obtain ⟨ns, hn, rfl⟩ := e
  obtain ⟨a, xs, ev, g1, g2⟩ := hr
  exact ⟨a, ns, by rw [ev], by rw [← ints_rep g2 hn]; exact g1, q _ _ Evo.refl rfl⟩
end D2

namespace D2
open PySem PySem.Spec PyProof.Rows L2
/-! ### sets of at most four tuples whose items are carried by value (texts, numbers, None) -/
section
variable {κ : Type} [DecidableEq κ] {Pg : Program} {u : World} {kd : KeyKind Pg u κ} {Ar : Around} {Ex : Value → Shared → Prop} {sh : Shared}
theorem byv_ref (b : Addr) : carriedByValue (.ref b) = false := rfl
theorem cls_byv {v : Value} (h : carriedByValue v = true) (n : Nat) : ofAClassStatement n v = pure false := by
  cases v <;> first
    | (cases n <;> rfl)
    | (rw [byv_ref] at h; cases h)
theorem hbv_byv {v : Value} (h : carriedByValue v = true) (n : Nat) : ∃ bb, hashByValue n v = pure bb := by
  cases v <;> first
    | (rw [byv_ref] at h; cases h)
    | (cases n <;> exact ⟨_, rfl⟩)
theorem cls_tk {k : List κ} {b : Addr} {Qq : Bool → Shared → Prop} (hk : IsTupleKey kd sh.heap k b) (q : Qq false sh) : wpAny (model Pg u) Ar (ofAClassStatement 8 (.ref b)) Qq Ex sh := by
  have ty := hk.typeIs
  obtain ⟨ob, vs, m, g0, _, d0, its⟩ := hk
  have bv := its.byValue
  unfold ofAClassStatement
  refine wpAny_bind (wpAny_typeOf ty ?_)
  dsimp only
  have tt : (("tuple" : String) == "tuple") = true := by decide
  simp only [tt, if_true, Bool.not_true, Bool.false_eq_true, if_false]
  try refine wpAny_bind (wpAny_pure ?_)
  try simp only [Bool.not_true, Bool.false_eq_true, if_false]
  show wpAny _ _ (seqItems? (.ref b) >>= _) _ _ sh
  refine wpAny_bind (wpAny_seqItems g0 d0 ?_)
  dsimp only
  refine wpAny_bind ?_
  show wpAny _ _ (forIn vs _ _) _ _ sh
  rw [← Array.forIn_toList]
  refine wpAny_forIn_list _ (fun left acc sx => acc.1 = none ∧ sx = sh ∧ ∀ v ∈ left, carriedByValue v = true) _ (fun v left acc sx hI => ?_) (fun acc sx hI => ?_) _ _ ⟨rfl, rfl, bv⟩
  · obtain ⟨h1, h2, h3⟩ := hI
    rw [cls_byv (h3 v List.mem_cons_self)]
    refine wpAny_bind (wpAny_pure ?_)
    simp only [Bool.false_eq_true, if_false]
    exact wpAny_pure ⟨rfl, h2, fun y hy => h3 y (List.mem_cons_of_mem _ hy)⟩
  · obtain ⟨a1, a2⟩ := acc
    obtain ⟨h1, h2, _⟩ := hI
    simp only at h1
    subst h1 h2
    exact wpAny_pure q
theorem hbv_tk {k : List κ} {b : Addr} {Qq : Bool → Shared → Prop} (hk : IsTupleKey kd sh.heap k b) (q : ∀ bb, Qq bb sh) : wpAny (model Pg u) Ar (hashByValue 8 (.ref b)) Qq Ex sh := by
  have ty := hk.typeIs
  obtain ⟨ob, vs, m, g0, _, d0, its⟩ := hk
  have bv := its.byValue
  unfold hashByValue
  refine wpAny_bind (wpAny_specialOf ty F.slot_tuple_hash.lookup ?_)
  show wpAny _ _ (seqItems? (.ref b) >>= _) _ _ sh
  refine wpAny_bind (wpAny_seqItems g0 d0 ?_)
  refine wpAny_bind ?_
  show wpAny _ _ (forIn vs _ _) _ _ sh
  rw [← Array.forIn_toList]
  refine wpAny_forIn_list _ (fun left acc sx => acc.1 = none ∧ sx = sh ∧ ∀ v ∈ left, carriedByValue v = true) _ (fun v left acc sx hI => ?_) (fun acc sx hI => ?_) _ _ ⟨rfl, rfl, bv⟩
  · obtain ⟨h1, h2, h3⟩ := hI
    obtain ⟨bb, eb⟩ := hbv_byv (h3 v List.mem_cons_self) 7
    rw [eb]
    refine wpAny_bind (wpAny_pure ?_)
    cases bb with
    | true =>
      refine wp_if_neg (by decide) ?_
      exact wpAny_pure ⟨rfl, h2, fun y hy => h3 y (List.mem_cons_of_mem _ hy)⟩
    | false =>
      refine wp_if_pos (by decide) ?_
      subst h2
      exact wpAny_pure (wpAny_pure (q false))
  · obtain ⟨a1, a2⟩ := acc
    obtain ⟨h1, h2, _⟩ := hI
    simp only at h1
    subst h1 h2
    exact wpAny_pure (q true)
/-- asking which of the stored is the key shows nothing -/
theorem seen_tk {k : List κ} {b : Addr} {Qq : Bool → Shared → Prop} (hk : IsTupleKey kd sh.heap k b) {olds : List Value} (ho : ∀ y ∈ olds, ∃ k2 c, y = Value.ref c ∧ IsTupleKey kd sh.heap k2 c) (q : Qq false sh) :
    wpAny (model Pg u) Ar (searchCouldBeSeen (.ref b) olds) Qq Ex sh := by
  unfold searchCouldBeSeen
  refine wpAny_bind ?_
  refine wpAny_forIn_list _ (fun left acc sx => acc.1 = none ∧ sx = sh ∧ ∀ y ∈ left, ∃ k2 c, y = Value.ref c ∧ IsTupleKey kd sh.heap k2 c) _ (fun v left acc sx hI => ?_) (fun acc sx hI => ?_) _ _ ⟨rfl, rfl, ho⟩
  · obtain ⟨h1, h2, h3⟩ := hI
    subst h2
    obtain ⟨k2, c, e, hc⟩ := h3 v List.mem_cons_self
    subst e
    have go : wpAny (model Pg u) Ar (pure (ForInStep.yield ((none : Option Bool), PUnit.unit)) : Sem _) (fun r s' => match r with | .yield b' => b'.1 = none ∧ s' = sx ∧ ∀ y ∈ left, ∃ k2 c, y = Value.ref c ∧ IsTupleKey kd sx.heap k2 c | .done _ => False) Ex sx :=
      wpAny_pure ⟨rfl, rfl, fun y hy => h3 y (List.mem_cons_of_mem _ hy)⟩
    dsimp only
    by_cases same : (b == c || (carriedByValue (.ref b) && carriedByValue (.ref c))) = true
    · refine wp_if_pos same ?_
      exact wpAny_pure ⟨rfl, rfl, fun y hy => h3 y (List.mem_cons_of_mem _ hy)⟩
    · refine wp_if_neg same (wpAny_bind (wpAny_eqIsQuiet_tuple hk ?_))
      simp only [Bool.not_true, Bool.false_eq_true, if_false]
      refine wpAny_bind (wpAny_eqIsQuiet_tuple hc ?_)
      simp only [Bool.not_true, Bool.false_eq_true, if_false]
      refine wpAny_bind (cls_tk hk ?_)
      simp only [Bool.false_eq_true, if_false]
      refine wpAny_bind (cls_tk hc ?_)
      simp only [Bool.false_eq_true, if_false]
      exact wpAny_pure ⟨rfl, rfl, fun y hy => h3 y (List.mem_cons_of_mem _ hy)⟩
  · obtain ⟨a1, a2⟩ := acc
    obtain ⟨h1, h2, _⟩ := hI
    simp only at h1
    subst h1 h2
    exact wpAny_pure q

/-! the set -/
abbrev tkh (kd : KeyKind Pg u κ) (k : List κ) : Int := tupleKeyHash kd k
def memsK (kd : KeyKind Pg u κ) (L : List (Addr × List κ)) : List (Int × Value) := L.map fun q => (tkh kd q.2, Value.ref q.1)
/-- a set of at most four tuples, in its first table -/
structure FewK (kd : KeyKind Pg u κ) (h : Heap) (S : Addr) (L : List (Addr × List κ)) (es : Array (Int × Value)) (ep : Nat) (t : SetTable) : Prop where
  ob : ∃ o, h.get? S = some o ∧ o.ExactSet ∧ o.data = .set es ep t
  mems : es.toList = memsK kd L
  tab : TabOk t (L.map fun q => tkh kd q.2)
  diff : (L.map (·.2)).Nodup
  tups : ∀ q ∈ L, IsTupleKey kd h q.2 q.1
  led : u.params.followText "set-order" = true ∨ t.led = true
  mask : t.mask = 7
  few : L.length ≤ 4
variable {S : Addr} {L : List (Addr × List κ)} {es : Array (Int × Value)} {ep : Nat} {t : SetTable}
theorem FewK.len (F : FewK kd sh.heap S L es ep t) : es.size = L.length := by
  rw [← Array.length_toList, F.mems]
  exact List.length_map _
theorem FewK.fits (F : FewK kd sh.heap S L es ep t) : t.fits es.size = true := by
  have z1 := F.tab.sz
  rw [List.length_map] at z1
  have z2 := F.len
  have z3 := F.few
  have z4 := F.mask
  unfold SetTable.fits SetTable.fill
  rw [F.tab.dm, Bool.and_eq_true, beq_iff_eq, decide_eq_true_eq]
  refine ⟨by omega, ?_⟩
  show t.place.size + 0 ≤ t.mask
  omega
theorem FewK.mem (F : FewK kd sh.heap S L es ep t) {i : Nat} {q : Addr × List κ} (h : L[i]? = some q) : es[i]? = some (tkh kd q.2, Value.ref q.1) := by
  rw [← Array.getElem?_toList, F.mems]
  unfold memsK
  rw [List.getElem?_map, h]
  rfl
theorem FewK.straight (F : FewK kd sh.heap S L es ep t) : ¬ t.gaveWay = true := by
  unfold SetTable.gaveWay
  rw [F.mask]
  decide
theorem no_dummy {m : Nat} : ∀ (n : Nat) (p : SetTable.Probe), p.dummy = none → (nth m p n).dummy = none
  | 0, _, h => h
  | n + 1, p, h => no_dummy n (adv m p) (by unfold adv; split <;> exact h)
/-- the probe as it stands after c steps -/
abbrev prb (m : Nat) (h : Int) (c : Nat) : SetTable.Probe := nth m (runAt m (SetTable.bits h % (m + 1)) (SetTable.bits h)) c
theorem prb_add (m : Nat) (h : Int) (c d : Nat) : nth m (prb m h c) d = prb m h (c + d) := (nth_add m c _ d).symm
/-- the search for a key, from the c-th step of its way on -/
theorem few_search (F : FewK kd sh.heap S L es ep t) {x : Addr} {k : List κ} (hx : IsTupleKey kd sh.heap k x) (room : Ar.units < cLine) {K : Nat} (lim : K < 10 * SetTable.turns t.mask)
    (empty : way t.mask (tkh kd k) K ∉ t.place.toList) (taken : ∀ c, c < K → way t.mask (tkh kd k) c ∈ t.place.toList) {Qq : SetFound → Shared → Prop}
    (yes : k ∈ L.map (·.2) → Qq (.there none) sh) (no : k ∉ L.map (·.2) → Qq (.free (way t.mask (tkh kd k) K) false) sh) :
    ∀ (fuel c : Nat) (stand : Option SetTable.Probe), stand.getD (t.probeStart (tkh kd k)) = prb t.mask (tkh kd k) c → c ≤ K → K - c < fuel →
      (∀ (i : Nat) (q : Addr × List κ), L[i]? = some q → q.2 = k → ∃ c', c ≤ c' ∧ c' < K ∧ t.place.toList[i]? = some (way t.mask (tkh kd k) c')) →
      wpAny (model Pg u) Ar (setSearchFrom S (.ref x) (tkh kd k) true fuel stand) Qq Ex sh
  | 0, _, _, _, _, hf, _ => absurd hf (Nat.not_lt_zero _)
  | fuel + 1, c, stand, st, cK, hf, ahead => by
    obtain ⟨ob, g0, ex0, d0⟩ := F.ob
    have wj : ∀ d, (nth t.mask (prb t.mask (tkh kd k) c) d).j = way t.mask (tkh kd k) (c + d) := fun d => congrArg SetTable.Probe.j (prb_add _ _ c d)
    have hsh : ∀ (i : Nat) (q : Addr × List κ), L[i]? = some q → (es[i]?.map (·.1)).getD 0 = tkh kd q.2 := fun i q hq => by rw [F.mem hq]; rfl
    have last : c + (K - c) = K := by omega
    -- a key that is a member is met before the empty slot
    have met : ∀ (i : Nat) (q : Addr × List κ), L[i]? = some q → q.2 = k → ∀ b : Nat, (∀ (d i' : Nat), d < b → t.place.toList[i']? = some (nth t.mask (prb t.mask (tkh kd k) c) d).j → (es[i']?.map (·.1)).getD 0 ≠ tkh kd k) → ∃ c', c + b ≤ c' ∧ c' < K ∧ t.place.toList[i]? = some (way t.mask (tkh kd k) c') := by
      intro i q hq e b hb
      obtain ⟨c', z1, z2, z3⟩ := ahead i q hq e
      refine ⟨c', ?_, z2, z3⟩
      rcases Nat.lt_or_ge c' (c + b) with y | y
      · refine absurd ((hsh i q hq).trans (congrArg (tkh kd) e)) (hb (c' - c) i (by omega) ?_)
        rw [wj, show c + (c' - c) = c' by omega]
        exact z3
      · exact y
    rw [setSearchFrom_succ]
    refine wpAny_bind (wpAny_setState_of g0 d0 F.fits ?_)
    dsimp only
    refine wp_if_neg F.straight ?_
    try refine wpAny_bind (wpAny_pure ?_)
    rw [st]
    rcases go_spec t F.tab.ris F.tab.dm (fun i => (es[i]?.map (·.1)).getD 0) (tkh kd k) (10 * SetTable.turns t.mask) (K - c) (prb t.mask (tkh kd k) c) (no_dummy c _ rfl) (by omega)
      (fun d hd => by rw [wj]; exact taken _ (by omega)) (by rw [wj, last]; exact empty) with ⟨d, i, hd, hi, he, hno, hp⟩ | ⟨hno, hp⟩
    · have hp' : t.probe (fun i => (es[i]?.map (·.1)).getD 0) (tkh kd k) (prb t.mask (tkh kd k) c) = some (.candidate (way t.mask (tkh kd k) (c + d)) i (prb t.mask (tkh kd k) (c + (d + 1)))) := by
        rw [← wj, ← prb_add]
        exact hp
      rw [hp']
      dsimp only
      rw [wj] at hi
      have il : i < L.length := by
        have z1 := (List.getElem?_eq_some_iff.mp hi).1
        have z2 := F.tab.sz
        rw [List.length_map] at z2
        rw [Array.length_toList] at z1
        omega
      obtain ⟨q, hq⟩ : ∃ q, L[i]? = some q := ⟨_, List.getElem?_eq_getElem il⟩
      have qm := List.mem_of_getElem? hq
      have slot := slot_live F.tab.ris hi
      have tell : wpAny (model Pg u) Ar (searchRest S (.ref x) (tkh kd k) true fuel es t (way t.mask (tkh kd k) (c + d)) i (prb t.mask (tkh kd k) (c + (d + 1)))) Qq Ex sh := by
        unfold searchRest
        rw [F.mem hq]
        dsimp only
        refine wpAny_bind (wpAny_holding (wpAny_eqBool_tuple room (F.tups q qm) hx ?_))
        refine wpAny_bind (wpAny_setState_of g0 d0 F.fits ?_)
        dsimp only
        by_cases e : q.2 = k
        · refine wp_if_pos (by simp [e]) (wpAny_pure (yes ?_))
          exact List.mem_map.mpr ⟨q, qm, e⟩
        · refine wp_if_neg (by simp [e]) ?_
          try refine wpAny_bind (wpAny_pure ?_)
          rw [sameMem]
          dsimp only
          simp only [if_true, slot, F.mem hq]
          refine wpAny_bind (wpAny_isSame_ref_self (wpAny_bind (wpAny_pure ?_)))
          simp only [if_true]
          refine wp_if_neg (by simp [e]) ?_
          refine few_search F hx room lim empty taken yes no fuel (c + (d + 1)) _ rfl (by omega) (by omega) fun i0 q0 h0 e0 => ?_
          obtain ⟨c', z1, z2, z3⟩ := met i0 q0 h0 e0 d hno
          refine ⟨c', ?_, z2, z3⟩
          rcases Nat.lt_or_ge (c + d) c' with y | y
          · omega
          · obtain rfl : c' = c + d := by omega
            have s0 := slot_live F.tab.ris z3
            rw [slot] at s0
            injection s0 with s0
            rw [← s0, hq] at h0
            cases h0
            exact absurd e0 e
      by_cases hl : t.led = true
      · refine wp_if_neg (by simp [hl]) ?_
        try refine wpAny_bind (wpAny_pure ?_)
        exact tell
      · refine wp_if_pos (by simp [hl]) (wpAny_bind (seen_tk hx (fun y hy => ?_) ?_))
        · obtain ⟨m, hm, em⟩ := List.mem_map.mp hy
          have hm2 : m ∈ es ∧ m.1 = tkh kd k := by simpa using hm
          have hm3 : m ∈ es.toList := by simpa using hm2.1
          rw [F.mems] at hm3
          obtain ⟨q2, hq2, e2⟩ := List.mem_map.mp hm3
          exact ⟨q2.2, q2.1, by rw [← em, ← e2], F.tups q2 hq2⟩
        · refine wp_if_neg (by decide) ?_
          try refine wpAny_bind (wpAny_pure ?_)
          exact tell
    · have hp' : t.probe (fun i => (es[i]?.map (·.1)).getD 0) (tkh kd k) (prb t.mask (tkh kd k) c) = some (.empty (way t.mask (tkh kd k) K) none) := by
        have e1 : way t.mask (tkh kd k) K = (nth t.mask (prb t.mask (tkh kd k) c) (K - c)).j := by rw [wj, last]
        rw [e1]
        exact hp
      rw [hp']
      dsimp only
      refine wpAny_pure (no fun hm => ?_)
      obtain ⟨q, hq, e⟩ := List.mem_map.mp hm
      obtain ⟨i, hi, ei⟩ := List.getElem_of_mem hq
      obtain ⟨c', z1, z2, _⟩ := met i q (by rw [List.getElem?_eq_getElem hi, ei]) e (K - c) hno
      omega
theorem few_find (F : FewK kd sh.heap S L es ep t) {x : Addr} {k : List κ} (hx : IsTupleKey kd sh.heap k x) (room : Ar.units < cLine) {Qq : SetFound → Shared → Prop} (yes : k ∈ L.map (·.2) → Qq (.there none) sh)
    (no : ∀ K, k ∉ L.map (·.2) → way t.mask (tkh kd k) K ∉ t.place.toList → (∀ c, c < K → way t.mask (tkh kd k) c ∈ t.place.toList) → Qq (.free (way t.mask (tkh kd k) K) false) sh) :
    wpAny (model Pg u) Ar (setSearch S (.ref x) (tkh kd k) true) Qq Ex sh := by
  have z1 := F.few
  have z2 := F.mask
  obtain ⟨K, lim, empty, taken⟩ := F.tab.first (by rw [List.length_map]; omega) (tkh kd k)
  have small : K < 100000 := by
    rw [z2] at lim
    unfold SetTable.turns at lim
    omega
  unfold setSearch
  refine few_search F hx room lim empty taken yes (fun hn => no K hn empty taken) 100000 0 none rfl (Nat.zero_le _) (by omega) fun i q hq e => ?_
  have hi : (L.map fun q => tkh kd q.2)[i]? = some (tkh kd k) := by rw [List.getElem?_map, hq, ← e]; rfl
  have il : i < t.place.toList.length := by
    have y1 := (List.getElem?_eq_some_iff.mp hq).1
    have y2 := F.tab.sz
    rw [List.length_map] at y2
    rw [Array.length_toList]
    omega
  obtain ⟨c, hc, ec⟩ := F.tab.before empty hi (List.getElem?_eq_getElem il)
  exact ⟨c, Nat.zero_le _, hc, by rw [List.getElem?_eq_getElem il, ec]⟩
theorem tk_same {h h' : Heap} {k : List κ} {b : Addr} {ob : Obj} (hb : IsTupleKey kd h k b) (g0 : h.get? S = some ob) (d0 : ob.data = .set es ep t) (sb : Heap.SameBut S h h') : IsTupleKey kd h' k b := by
  obtain ⟨o2, vs, m, g2, c2, d2, its⟩ := hb
  refine ⟨o2, vs, m, (sb.2 b fun e => ?_).trans g2, c2, d2, its⟩
  subst e
  rw [g0] at g2
  cases g2
  rw [d0] at d2
  cases d2
theorem tk_keep {h h' : Heap} {k : List κ} {b : Addr} (hb : IsTupleKey kd h k b) (kp : ∀ c o, h.get? c = some o → h'.get? c = some o) : IsTupleKey kd h' k b := by
  obtain ⟨o2, vs, m, g2, r⟩ := hb
  exact ⟨o2, vs, m, kp b o2 g2, r⟩
/-- one more -/
theorem few_add (F : FewK kd sh.heap S L es ep t) {x : Addr} {k : List κ} (hx : IsTupleKey kd sh.heap k x) (room : Ar.units < cLine) (lt4 : L.length < 4) {Qq : Bool → Shared → Prop}
    (go : ∀ bb h' L' es' ep' t', Heap.SameBut S sh.heap h' → FewK kd h' S L' es' ep' t' → (k ∈ L.map (·.2) → L' = L) → (k ∉ L.map (·.2) → L'.Perm ((x, k) :: L)) → Qq bb { sh with heap := h' }) :
    wpAny (model Pg u) Ar (setAddHashed S (.ref x) (tkh kd k)) Qq Ex sh := by
  obtain ⟨ob, g0, ex0, d0⟩ := F.ob
  have sz := F.len
  unfold setAddHashed
  refine wpAny_holding ?_
  rw [show (100000 : Nat) = 99999 + 1 from rfl, setAddHashedIn_succ]
  refine wpAny_bind (wpAny_setState_of g0 d0 F.fits ?_)
  dsimp only
  refine wp_if_neg (by simp [byScan, Value.scannable]) ?_
  try refine wpAny_bind (wpAny_pure ?_)
  refine wpAny_bind (few_find F hx room (fun hm => ?_) fun K hm empty taken => ?_)
  · dsimp only
    exact wpAny_pure (go false sh.heap L es ep t (Heap.SameBut.refl S sh.heap) F (fun _ => rfl) fun z => absurd hm z)
  · dsimp only
    refine wpAny_bind (wpAny_setState_of g0 d0 F.fits ?_)
    dsimp only
    obtain ⟨q1, q2, q3, q4, q5, q6, q7, q8, q9⟩ := F.tab.put empty taken
    generalize t.put (way t.mask (tkh kd k) K) = pt at q1 q3 q4 q5 q6 q7 q8 q9 ⊢
    obtain ⟨t1, p⟩ := pt
    dsimp only at q1 q3 q4 q5 q6 q7 q8 q9 ⊢
    subst q1
    have z3 := F.few
    have z4 := F.mask
    generalize SetTable.below t.place (way t.mask (tkh kd k) K) = p at q2 q3 ⊢
    have ins : (SetTable.insertAt es p (tkh kd k, Value.ref x)).toList = memsK kd (L.take p ++ (x, k) :: L.drop p) := by
      rw [SetTable.toList_insertAt, F.mems]
      unfold memsK
      rw [List.map_append, List.map_cons, List.map_take, List.map_drop]
    have pm := put_perm L p (x, k)
    have hmap : (L.map fun q => tkh kd q.2).take p ++ tkh kd k :: (L.map fun q => tkh kd q.2).drop p = (L.take p ++ (x, k) :: L.drop p).map fun q => tkh kd q.2 := by
      rw [List.map_append, List.map_cons, List.map_take, List.map_drop]
    rw [hmap] at q3
    have size1 : (SetTable.insertAt es p (tkh kd k, Value.ref x)).size = L.length + 1 := by
      rw [← Array.length_toList, ins]
      unfold memsK
      rw [List.length_map, pm.length_eq, List.length_cons]
    generalize SetTable.insertAt es p (tkh kd k, Value.ref x) = es1 at ins size1 ⊢
    generalize L.take p ++ (x, k) :: L.drop p = L1 at pm q3 ins
    have diff1 : (L1.map (·.2)).Nodup := (pm.map (·.2)).nodup_iff.mpr (List.nodup_cons.mpr ⟨hm, F.diff⟩)
    have few1 : L1.length ≤ 4 := by rw [pm.length_eq, List.length_cons]; omega
    -- whatever the flag for hashes by value
    have fin : ∀ t2 : SetTable, t2.place = t1.place → t2.dummies = t1.dummies → t2.mask = t1.mask → t2.led = t1.led → wpAny (model Pg u) Ar (storeSet S es1 t2 >>= fun _ => if (!false && t2.tooFull) = true then (setRelay S (SetTable.grown (es.size + 1)) >>= fun _ => pure true) else pure true : Sem Bool) Qq Ex sh := by
      intro t2 e1 e2 e3 e4
      have tf : t2.tooFull = false := by
        unfold SetTable.tooFull SetTable.fill
        unfold SetTable.fill at q9
        rw [e1, e2, e3, q4, z4, q9, List.length_map]
        rw [decide_eq_false_iff_not]
        omega
      refine wpAny_bind (wpAny_storeSet_of g0 d0 ?_ (by rw [size1, sizeLine_eq]; omega))
      have sb : Heap.SameBut S sh.heap (sh.heap.update S (Obj.putSet es1 t2)) := Heap.SameBut.update ..
      have g1 := store_at (es' := es1) (t' := t2) g0 d0
      generalize sh.heap.update S (Obj.putSet es1 t2) = h1 at sb g1 ⊢
      refine wp_if_neg (by simp [tf]) ?_
      refine wpAny_pure (go true h1 L1 es1 (ep + 1) t2 sb ⟨⟨_, g1, ⟨ex0.1, ex0.2.1, ex0.2.2⟩, rfl⟩, ins, ⟨?_, ?_, ?_, ?_, ?_, ?_⟩, diff1, fun q hq => ?_, ?_, ?_, few1⟩ (fun z => absurd z hm) fun _ => pm)
      · rw [e1]; exact q3.ris
      · rw [e2]; exact q3.dm
      · rw [e1]; exact q3.sz
      · rw [e3]; exact q3.mok
      · rw [e1, e3]; exact q3.bd
      · rw [e1, e3]; exact q3.reach
      · rcases List.mem_cons.mp (pm.mem_iff.mp hq) with e | hq
        · rw [e]; exact tk_same hx g0 d0 sb
        · exact tk_same (F.tups q hq) g0 d0 sb
      · rw [e4, q5]; exact F.led
      · rw [e3, q4]; exact z4
    by_cases hp : t1.plain = true
    · refine wp_if_pos hp (wpAny_bind (hbv_tk hx fun bb => ?_))
      cases bb with
      | true =>
        simp only [if_true]
        exact fin t1 rfl rfl rfl rfl
      | false =>
        simp only [Bool.false_eq_true, if_false]
        exact fin { t1 with plain := false } rfl rfl rfl rfl
    · refine wp_if_neg hp (wpAny_bind (wpAny_pure ?_))
      simp only [if_true]
      exact fin t1 rfl rfl rfl rfl
/-- what the set has of the first n of the items -/
structure HasK (kk : List (Addr × List κ)) (n : Nat) (L : List (Addr × List κ)) : Prop where
  own : ∀ q ∈ L, q ∈ kk.take n
  all : ∀ q ∈ kk.take n, q.2 ∈ L.map (·.2)
  len : L.length ≤ n
theorem HasK.none (kk : List (Addr × List κ)) : HasK kk 0 [] := ⟨fun q h => (by cases h), fun q h => (by simp at h), Nat.le_refl _⟩
theorem HasK.again {kk : List (Addr × List κ)} {n : Nat} {q : Addr × List κ} (H : HasK kk n L) (h : kk[n]? = some q) (hm : q.2 ∈ L.map (·.2)) : HasK kk (n + 1) L := by
  have e : kk.take (n + 1) = kk.take n ++ [q] := by rw [List.take_add_one, h]; rfl
  refine ⟨fun r hr => by rw [e]; exact List.mem_append_left _ (H.own r hr), fun r hr => ?_, Nat.le_succ_of_le H.len⟩
  rw [e] at hr
  rcases List.mem_append.mp hr with z | z
  · exact H.all r z
  · rw [List.mem_singleton.mp z]
    exact hm
theorem HasK.new {kk L2 : List (Addr × List κ)} {n : Nat} {q : Addr × List κ} (H : HasK kk n L) (h : kk[n]? = some q) (pm : L2.Perm (q :: L)) : HasK kk (n + 1) L2 := by
  have e : kk.take (n + 1) = kk.take n ++ [q] := by rw [List.take_add_one, h]; rfl
  refine ⟨fun r hr => ?_, fun r hr => ?_, by rw [pm.length_eq, List.length_cons]; exact Nat.succ_le_succ H.len⟩
  · rw [e]
    rcases List.mem_cons.mp (pm.mem_iff.mp hr) with z | z
    · rw [z]; exact List.mem_append_right _ List.mem_cons_self
    · exact List.mem_append_left _ (H.own r z)
  · rw [(pm.map (·.2)).mem_iff, List.map_cons]
    rw [e] at hr
    rcases List.mem_append.mp hr with z | z
    · exact List.mem_cons_of_mem _ (H.all r z)
    · rw [List.mem_singleton.mp z]; exact List.mem_cons_self
theorem FewK.keep {h h' : Heap} (F : FewK kd h S L es ep t) (hs : ∀ o, h.get? S = some o → h'.get? S = some o) (ht : ∀ q ∈ L, IsTupleKey kd h' q.2 q.1) : FewK kd h' S L es ep t := by
  obtain ⟨o, g, r⟩ := F.ob
  exact ⟨⟨o, hs o g, r⟩, F.mems, F.tab, F.diff, ht, F.led, F.mask, F.few⟩
theorem few_none {h : Heap} (g : h.get? S = some { cls := .type "set", dict := none, data := .set #[] 0 (.fresh 0 0 (!u.params.followText "set-order")) }) : FewK kd h S [] #[] 0 (.fresh 0 0 (!u.params.followText "set-order")) := by
  refine ⟨⟨_, g, ⟨rfl, rfl, rfl⟩, rfl⟩, rfl, ⟨List.Pairwise.nil, rfl, rfl, .inl rfl, fun x hx => (by cases hx), fun i h j hi => (by simp at hi)⟩, List.nodup_nil, fun q hq => (by cases hq), ?_, rfl, Nat.zero_le _⟩
  show _ ∨ (!u.params.followText "set-order") = true
  cases u.params.followText "set-order" <;> simp
theorem few_loop {It : Addr} {fp wr : List Addr} {G : Array GenState → Array GenState → Prop} {n : Nat} {Pv : Nat → Value → Prop} {St : Nat → Shared → Prop} {R : Result → Shared → Prop} (W : WalksS Pg u Ar.in1 It fp wr G n Pv St) (S : Addr) (out : S ∉ fp)
    (kk : List (Addr × List κ)) (hn : n = kk.length) (few : kk.length ≤ 4) (val : ∀ i v, Pv i v → ∃ q, kk[i]? = some q ∧ v = .ref q.1) (h0 : Heap) (hk : ∀ q ∈ kk, IsTupleKey kd h0 q.2 q.1) (newS : h0.get? S = none) (newW : ∀ b ∈ wr, h0.get? b = none) (room : Ar.in1.units < cLine) :
    ∀ (m i : Nat) (sh : Shared), n - i = m → i ≤ n → St i sh → (∀ b o, h0.get? b = some o → sh.heap.get? b = some o) → (∃ L es ep t, FewK kd sh.heap S L es ep t ∧ HasK kk i L) →
      (∀ s' L es ep t, Moved (S :: wr) G sh s' → FewK kd s'.heap S L es ep t → HasK kk n L → (∀ b o, h0.get? b = some o → s'.heap.get? b = some o) → R (.ok (.ret .none)) s') →
      codeAny (model Pg u) Ar (.builtin "set.update.loop" ⟨[.ref S, .ref It], []⟩) R sh := by
  have outW : S ∉ wr := fun h => out (W.sub _ h)
  have up : ∀ b ∈ wr, b ∈ S :: wr := fun b hb => List.mem_cons_of_mem _ hb
  have stay : ∀ {s1 s2 : Shared}, Moved wr G s1 s2 → (∀ b o, h0.get? b = some o → s1.heap.get? b = some o) → ∀ b o, h0.get? b = some o → s2.heap.get? b = some o := fun mv kp b o e => mv.heap b o (fun hb => by rw [newW b hb] at e; cases e) (kp b o e)
  intro m
  induction m with
  | zero =>
    intro i sh hm hi st kp hS hR
    obtain ⟨L, es, ep, t, K0, H⟩ := hS
    obtain rfl : i = n := by omega
    refine codeAny_builtin F.entry_set_update_loop ?_
    rw [Around.under_plainId F.plain_set_update_loop _]
    show wpAny _ Ar.in1 (pyNext (.ref It) >>= _) _ _ sh
    refine wpAny_bind (W.done sh _ _ st fun s2 mv => ?_)
    show wpAny _ Ar.in1 (ret Value.none) _ _ s2
    have kp2 := stay mv kp
    exact wpAny_pure (hR s2 L es ep t (mv.mono up) (K0.keep (fun o e => mv.heap S o outW e) fun q hq => tk_keep (hk q (List.mem_of_mem_take (H.own q hq))) kp2) H kp2)
  | succ m ih =>
    intro i sh hm hi st kp hS hR
    obtain ⟨L, es, ep, t, K0, H⟩ := hS
    have lt : i < n := by omega
    refine codeAny_builtin F.entry_set_update_loop ?_
    rw [Around.under_plainId F.plain_set_update_loop _]
    show wpAny _ Ar.in1 (pyNext (.ref It) >>= _) _ _ sh
    refine wpAny_bind (W.item i sh _ _ lt st fun v s2 pv st2 mv => ?_)
    obtain ⟨q, hq, ev⟩ := val i v pv
    subst ev
    have kp2 := stay mv kp
    have K2 : FewK kd s2.heap S L es ep t := K0.keep (fun o e => mv.heap S o outW e) fun r hr => tk_keep (hk r (List.mem_of_mem_take (H.own r hr))) kp2
    have hx : IsTupleKey kd s2.heap q.2 q.1 := tk_keep (hk q (List.mem_of_getElem? hq)) kp2
    show wpAny _ Ar.in1 (holding [Value.ref q.1] (setAdd S (.ref q.1)) >>= _) _ _ s2
    refine wpAny_bind (wpAny_holding ?_)
    unfold setAdd
    refine wpAny_holding (wpAny_bind (wpAny_pyHash_tuple room hx ?_))
    refine few_add (sh := { s2 with toks := s2.toks + (q.2.length + 1) }) K2 hx room (by have := H.len; omega) fun bb h3 L3 es3 ep3 t3 sb K3 c1 c2 => ?_
    have H3 : HasK kk (i + 1) L3 := by
      by_cases c : q.2 ∈ L.map (·.2)
      · rw [c1 c]; exact H.again hq c
      · exact H.new hq (c2 c)
    have kp3 : ∀ b o, h0.get? b = some o → h3.get? b = some o := fun b o e => (sb.2 b fun z => by rw [z, newS] at e; cases e).trans (kp2 b o e)
    refine wpAny_pure ⟨plainId_quiet F.plain_set_update_loop _, ih (i + 1) _ (by omega) lt (W.frame _ s2 _ _ st2 (Nat.le_add_right _ _) fun b hb o e => ?_) kp3 ⟨L3, es3, ep3, t3, K3, H3⟩ fun s4 L4 es4 ep4 t4 mv4 K4 H4 kp4 => ?_⟩
    · rw [sb.2 b fun z : b = S => out (z ▸ hb)]
      exact e
    · refine hR s4 L4 es4 ep4 t4 (Moved.trans W.gtrans ((mv.mono up).then_heap (Nat.le_add_right _ _) fun b o hb e => ?_) mv4) K4 H4 kp4
      rw [sb.2 b fun z : b = S => hb (by rw [z]; exact List.mem_cons_self)]
      exact e
theorem few_of_tup {al : Addr} {its : Array Value} (kk : List (Addr × List κ)) {Qq : Value → Shared → Prop} (un : Ar.handled = none) (li : sh.heap.IsTuple al its) (hit : its.toList = kk.map fun p => Value.ref p.1) (hk : ∀ p ∈ kk, IsTupleKey kd sh.heap p.2 p.1) (few : kk.length ≤ 4) (rm : Ar.units + 3 < cLine)
    (go : ∀ (hp : Heap) (tk : Nat) L es ep t, FewK kd hp sh.heap.objs.size L es ep t → HasK kk kk.length L → (∀ b o, sh.heap.get? b = some o → hp.get? b = some o) → Qq (.ref sh.heap.objs.size) { sh with heap := hp, toks := tk }) :
    wpAny (model Pg u) Ar (call (.type "set") [.ref al]) Qq Ex sh := by
  have sz : its.size = kk.length := by
    have z := congrArg List.length hit
    rw [Array.length_toList, List.length_map] at z
    exact z
  have vals : ∀ (i : Nat) (v : Value), its[i]? = some v → ∃ p, kk[i]? = some p ∧ v = .ref p.1 := fun i v hv => by
    have z : its.toList[i]? = some v := by rw [Array.getElem?_toList]; exact hv
    rw [hit, List.getElem?_map] at z
    cases zq : kk[i]? with
    | none => rw [zq] at z; cases z
    | some p =>
      rw [zq] at z
      exact ⟨p, rfl, (Option.some.inj z).symm⟩
  obtain ⟨cc, rest, mro0⟩ := F.called_set.mro
  have k1 := F.called_set.made; have k2 := F.called_set.sub; have k3 := F.called_set.notType; have k4 := F.called_set.canCreate; have k5 := F.typeCall_set_1 (.ref al)
  refine wpAny_call (codeAny_of_tree (?_ : wpAny _ _ (callAny (.type "set") _) _ _ _))
  refine wpAny_pure ⟨Code.quiet_builtin _ (by decide +kernel), codeAny_builtin F.entry_type_call (?_)⟩
  rw [Around.under_plain (weight_type_call_type "set" [Value.ref al] []) rfl]
  repeat (any_goals (first | assumption | wp_step; done | wp_step))
  refine codeAny_mono (code_set_led1 (.ref al) (E := Ex) (Q₁ := fun ob s1 => ob = .ref sh.heap.objs.size ∧ s1 = { sh with heap := sh.heap.push (set0 u) }) ⟨rfl, rfl⟩) fun r0 s1 hr0 => ?_
  match r0, hr0 with
  | .error e0, hr0 => exact hr0
  | .ok (.ret ob), hr0 =>
    obtain ⟨rfl, rfl⟩ := hr0
    have at0 : (sh.heap.push (set0 u)).get? sh.heap.objs.size = some (set0 u) := Heap.get?_push_size _ rfl
    have ty0 : Shared.TypeIs { sh with heap := sh.heap.push (set0 u) } (.ref sh.heap.objs.size) "set" := ⟨_, at0, rfl⟩
    have k6 := F.called_set.init.lookup; have k7 := F.called_set.init.bind (.ref sh.heap.objs.size)
    repeat (any_goals (first | assumption | wp_step; done | wp_step))
    refine codeAny_mono (codeAny_call_builtin (R := wants (fun r2 s2 => r2 = .none ∧ ∃ hp tk L es ep t, s2 = { sh with heap := hp, toks := tk } ∧ FewK kd hp sh.heap.objs.size L es ep t ∧ HasK kk kk.length L ∧ (∀ b o, sh.heap.get? b = some o → hp.get? b = some o)) Ex)
      F.called_set.init.plain F.entry_set_init (check_set_init_1 ty0 ?inn)) fun r2 s2 hr2 => ?outt
    case outt =>
      match r2, hr2 with
      | .error e2, hr2 => exact hr2
      | .ok (.ret v2), hr2 =>
        obtain ⟨rfl, hp, tk, L, es, ep, t, rfl, y1, y2, y3⟩ := hr2
        repeat (any_goals (first | assumption | wp_step; done | wp_step))
        exact go _ _ _ _ _ _ y1 y2 y3
    case inn =>
      obtain ⟨⟨oc, od, ot, os⟩, g0, c0, nn, d0⟩ := li
      simp only at c0 d0
      subst c0 d0
      have g1 : (sh.heap.push (set0 u)).get? al = some { cls := .type "tuple", dict := od, data := .seq its nn, slots := os } := Heap.get?_push_of_some _ g0
      have li1 : (sh.heap.push (set0 u)).IsTuple al its := ⟨_, g1, rfl, nn, rfl⟩
      have q1 := F.sub_tuple_set; have q2 := F.sub_tuple_frozenset; have q3 : (Value.type "tuple" == Value.type "dict") = false := by decide
      unfold Builtin.«set.__init__» noKeywords Builtin.Frozenset.updateFrom
      generalize eP : pyIter = PP
      wp_walk
      subst eP
      refine wpAny_pyIter_tuple li1 (wpAny_bind (wpAny_runValue ?_))
      have below : al < sh.heap.objs.size := Heap.lt_size g0
      have un3 : Ar.in1.in1.in1.handled = none := by simp only [un, Around.in1]
      have sz1 : (sh.heap.push (set0 u)).objs.size = sh.heap.objs.size + 1 := Heap.size_push ..
      have far : al ≠ (sh.heap.push (set0 u)).objs.size := by rw [sz1]; exact Nat.ne_of_lt (Nat.lt_succ_of_lt below)
      have out0 : sh.heap.objs.size ∉ [(sh.heap.push (set0 u)).objs.size, al] := by
        rw [sz1]
        simp only [List.mem_cons, List.not_mem_nil, or_false, not_or]
        exact And.intro (Nat.ne_of_lt (Nat.lt_succ_self _)) (Nat.ne_of_gt below)
      refine few_loop ((Walks.tuple un3 _ al far its).toS) sh.heap.objs.size out0 kk sz few vals sh.heap hk (no_obj (Nat.le_refl _)) (fun b hb => no_obj (by rw [List.mem_singleton.mp hb, sz1]; exact Nat.le_succ _)) rm (its.size - 0) 0 _ (by omega) (Nat.zero_le _) ⟨⟨_, Heap.get?_push_size _ rfl, rfl, rfl⟩, (li1.push _)⟩
        (fun b o e => Heap.get?_push_of_some _ (Heap.get?_push_of_some _ e)) ⟨[], #[], 0, _, few_none (Heap.get?_push_of_some _ at0), HasK.none kk⟩ fun s9 L es ep t mv sr gt kp => ?_
      obtain ⟨hp9, gn9, dr9, tk9, os9⟩ := s9
      obtain rfl : gn9 = sh.gens := mv.gens
      obtain rfl : dr9 = sh.drawn := mv.drawn
      obtain rfl : os9 = sh.os := mv.os
      refine wpAny_pure (?_ : wpAny _ _ (ret Value.none) _ _ _)
      rw [sz] at gt
      exact wpAny_pure ⟨rfl, hp9, tk9, L, es, ep, t, rfl, sr, gt, kp⟩
theorem few_of_lst {al : Addr} {its : Array Value} (kk : List (Addr × List κ)) {Qq : Value → Shared → Prop} (un : Ar.handled = none) (li : sh.heap.IsList al its) (hit : its.toList = kk.map fun p => Value.ref p.1) (hk : ∀ p ∈ kk, IsTupleKey kd sh.heap p.2 p.1) (few : kk.length ≤ 4) (rm : Ar.units + 3 < cLine)
    (go : ∀ (hp : Heap) (tk : Nat) L es ep t, FewK kd hp sh.heap.objs.size L es ep t → HasK kk kk.length L → (∀ b o, sh.heap.get? b = some o → hp.get? b = some o) → Qq (.ref sh.heap.objs.size) { sh with heap := hp, toks := tk }) :
    wpAny (model Pg u) Ar (call (.type "set") [.ref al]) Qq Ex sh := by
  have sz : its.size = kk.length := by
    have z := congrArg List.length hit
    rw [Array.length_toList, List.length_map] at z
    exact z
  have vals : ∀ (i : Nat) (v : Value), its[i]? = some v → ∃ p, kk[i]? = some p ∧ v = .ref p.1 := fun i v hv => by
    have z : its.toList[i]? = some v := by rw [Array.getElem?_toList]; exact hv
    rw [hit, List.getElem?_map] at z
    cases zq : kk[i]? with
    | none => rw [zq] at z; cases z
    | some p =>
      rw [zq] at z
      exact ⟨p, rfl, (Option.some.inj z).symm⟩
  obtain ⟨cc, rest, mro0⟩ := F.called_set.mro
  have k1 := F.called_set.made; have k2 := F.called_set.sub; have k3 := F.called_set.notType; have k4 := F.called_set.canCreate; have k5 := F.typeCall_set_1 (.ref al)
  refine wpAny_call (codeAny_of_tree (?_ : wpAny _ _ (callAny (.type "set") _) _ _ _))
  refine wpAny_pure ⟨Code.quiet_builtin _ (by decide +kernel), codeAny_builtin F.entry_type_call (?_)⟩
  rw [Around.under_plain (weight_type_call_type "set" [Value.ref al] []) rfl]
  repeat (any_goals (first | assumption | wp_step; done | wp_step))
  refine codeAny_mono (code_set_led1 (.ref al) (E := Ex) (Q₁ := fun ob s1 => ob = .ref sh.heap.objs.size ∧ s1 = { sh with heap := sh.heap.push (set0 u) }) ⟨rfl, rfl⟩) fun r0 s1 hr0 => ?_
  match r0, hr0 with
  | .error e0, hr0 => exact hr0
  | .ok (.ret ob), hr0 =>
    obtain ⟨rfl, rfl⟩ := hr0
    have at0 : (sh.heap.push (set0 u)).get? sh.heap.objs.size = some (set0 u) := Heap.get?_push_size _ rfl
    have ty0 : Shared.TypeIs { sh with heap := sh.heap.push (set0 u) } (.ref sh.heap.objs.size) "set" := ⟨_, at0, rfl⟩
    have k6 := F.called_set.init.lookup; have k7 := F.called_set.init.bind (.ref sh.heap.objs.size)
    repeat (any_goals (first | assumption | wp_step; done | wp_step))
    refine codeAny_mono (codeAny_call_builtin (R := wants (fun r2 s2 => r2 = .none ∧ ∃ hp tk L es ep t, s2 = { sh with heap := hp, toks := tk } ∧ FewK kd hp sh.heap.objs.size L es ep t ∧ HasK kk kk.length L ∧ (∀ b o, sh.heap.get? b = some o → hp.get? b = some o)) Ex)
      F.called_set.init.plain F.entry_set_init (check_set_init_1 ty0 ?inn)) fun r2 s2 hr2 => ?outt
    case outt =>
      match r2, hr2 with
      | .error e2, hr2 => exact hr2
      | .ok (.ret v2), hr2 =>
        obtain ⟨rfl, hp, tk, L, es, ep, t, rfl, y1, y2, y3⟩ := hr2
        repeat (any_goals (first | assumption | wp_step; done | wp_step))
        exact go _ _ _ _ _ _ y1 y2 y3
    case inn =>
      obtain ⟨⟨oc, od, ot, os⟩, g0, c0, nn, d0⟩ := li
      simp only at c0 d0
      subst c0 d0
      have g1 : (sh.heap.push (set0 u)).get? al = some { cls := .type "list", dict := od, data := .seq its nn, slots := os } := Heap.get?_push_of_some _ g0
      have li1 : (sh.heap.push (set0 u)).IsList al its := ⟨_, g1, rfl, nn, rfl⟩
      have q1 := F.sub_list_set; have q2 := F.sub_list_frozenset; have q3 : (Value.type "list" == Value.type "dict") = false := by decide
      unfold Builtin.«set.__init__» noKeywords Builtin.Frozenset.updateFrom
      generalize eP : pyIter = PP
      wp_walk
      subst eP
      refine wpAny_pyIter_list li1 (wpAny_bind (wpAny_runValue ?_))
      have below : al < sh.heap.objs.size := Heap.lt_size g0
      have un3 : Ar.in1.in1.in1.handled = none := by simp only [un, Around.in1]
      have sz1 : (sh.heap.push (set0 u)).objs.size = sh.heap.objs.size + 1 := Heap.size_push ..
      have far : al ≠ (sh.heap.push (set0 u)).objs.size := by rw [sz1]; exact Nat.ne_of_lt (Nat.lt_succ_of_lt below)
      have out0 : sh.heap.objs.size ∉ [(sh.heap.push (set0 u)).objs.size, al] := by
        rw [sz1]
        simp only [List.mem_cons, List.not_mem_nil, or_false, not_or]
        exact And.intro (Nat.ne_of_lt (Nat.lt_succ_self _)) (Nat.ne_of_gt below)
      refine few_loop ((Walks.list un3 _ al far its).toS) sh.heap.objs.size out0 kk sz few vals sh.heap hk (no_obj (Nat.le_refl _)) (fun b hb => no_obj (by rw [List.mem_singleton.mp hb, sz1]; exact Nat.le_succ _)) rm (its.size - 0) 0 _ (by omega) (Nat.zero_le _) ⟨⟨_, Heap.get?_push_size _ rfl, rfl, rfl⟩, (li1.push _)⟩
        (fun b o e => Heap.get?_push_of_some _ (Heap.get?_push_of_some _ e)) ⟨[], #[], 0, _, few_none (Heap.get?_push_of_some _ at0), HasK.none kk⟩ fun s9 L es ep t mv sr gt kp => ?_
      obtain ⟨hp9, gn9, dr9, tk9, os9⟩ := s9
      obtain rfl : gn9 = sh.gens := mv.gens
      obtain rfl : dr9 = sh.drawn := mv.drawn
      obtain rfl : os9 = sh.os := mv.os
      refine wpAny_pure (?_ : wpAny _ _ (ret Value.none) _ _ _)
      rw [sz] at gt
      exact wpAny_pure ⟨rfl, hp9, tk9, L, es, ep, t, rfl, sr, gt, kp⟩
end
end D2

namespace D2
open PySem PySem.Spec PyProof.Rows L2
/-! ### tuples of texts and numbers -/
def leafV : Leaf → V
  | .none => .non
  | .num i => .int i
  | .text x => .str x
/-- the tuple at b, by its very items -/
def IsL (h : Heap) (k : List Leaf) (b : Addr) : Prop := ∃ its, IsTup h b its ∧ Vals (k.map leafV) its.toList
theorem items_leaf {P : Program} {w : World} : ∀ {k : List Leaf} {us : List Value}, Vals (k.map leafV) us → ItemsAre (leafKind P w) k us
  | [], _, .nil => .nil
  | l :: k, _, .cons r t => by
    refine .cons ?_ (items_leaf t)
    cases l with
    | none =>
      have e : _ = Value.none := r
      subst e
      exact leaf_none
    | num i =>
      obtain ⟨tk, e⟩ := r
      subst e
      exact leaf_int i tk
    | text x =>
      obtain ⟨tk, e⟩ := r
      subst e
      exact leaf_str x tk
theorem IsL.key {P : Program} {w : World} {h : Heap} {k : List Leaf} {b : Addr} (x : IsL h k b) : IsTupleKey (leafKind P w) h k b := by
  obtain ⟨its, ⟨o, g, c, n, d⟩, r⟩ := x
  exact ⟨o, its, n, g, c, d, items_leaf r⟩
theorem IsL.keep {h h' : Heap} {k : List Leaf} {b : Addr} (x : IsL h k b) (kp : ∀ c o, h.get? c = some o → h'.get? c = some o) : IsL h' k b := by
  obtain ⟨its, ⟨o, g, r⟩, v⟩ := x
  exact ⟨its, ⟨o, kp _ _ g, r⟩, v⟩
def kdat (k : List Leaf) : PyData := .tuple (k.map Leaf.data)
theorem leaf_reads {h : Heap} : ∀ {k : List Leaf} {us : List Value}, Vals (k.map leafV) us → ReadsAll h us (k.map Leaf.data) []
  | [], _, .nil => .nil
  | l :: k, _, .cons r t => by
    have tl := leaf_reads (h := h) t
    cases l with
    | none =>
      have e : _ = Value.none := r
      subst e
      exact ReadsAll.cons Reads.none tl
    | num i =>
      obtain ⟨tk, e⟩ := r
      subst e
      exact ReadsAll.cons (Reads.int i tk) tl
    | text x =>
      obtain ⟨tk, e⟩ := r
      subst e
      exact ReadsAll.cons (Reads.str x tk) tl
theorem IsL.reads {h : Heap} {k : List Leaf} {b : Addr} (x : IsL h k b) : Reads h (.ref b) (kdat k) [] := by
  obtain ⟨its, ⟨o, g, c, n, d⟩, r⟩ := x
  exact .tuple g c d (leaf_reads r)
theorem each_same {κ : Type} : ∀ L : List (Addr × κ), PySem.W.EachIs (fun (v : Value) (q : Addr × κ) => v = .ref q.1) (L.map fun q => Value.ref q.1) L
  | [] => .nil
  | q :: L => .cons rfl (each_same L)
theorem same_each {κ : Type} : ∀ {out : List Value} {L : List (Addr × κ)}, PySem.W.EachIs (fun (v : Value) (q : Addr × κ) => v = .ref q.1) out L → out = L.map fun q => Value.ref q.1
  | _, _, .nil => rfl
  | _, _, .cons e t => by rw [e, same_each t, List.map_cons]
theorem each_readL {h : Heap} {n : Addr} : ∀ {L : List (Addr × List Leaf)}, (∀ q ∈ L, IsL h q.2 q.1) → PySem.W.EachIs (fun (v : Value) (q : Addr × List Leaf) => ∃ as, Reads h v (kdat q.2) as ∧ n ∉ as) (L.map fun q => Value.ref q.1) L
  | [], _ => .nil
  | q :: L, hq => .cons ⟨[], (hq q List.mem_cons_self).reads, by simp⟩ (each_readL fun r hr => hq r (List.mem_cons_of_mem _ hr))
theorem depth_leafs : ∀ k : List Leaf, PyData.depthAll (k.map Leaf.data) = 0
  | [] => by simp [PyData.depthAll]
  | l :: k => by
    have ih := depth_leafs k
    cases l <;> simp [Leaf.data, PyData.depthAll, PyData.depth, ih]
/-- the order of keys -/
def leK (a b : List Leaf) : Bool := !PySem.W.dataLt (kdat b) (kdat a)
theorem dataLe_leK : (PySem.W.dataLe false fun q : Addr × List Leaf => kdat q.2) = fun p q => leK p.2 q.2 := rfl
theorem toks_inj : ∀ {a b : List Leaf}, (∀ l ∈ a, l ≠ .none) → (∀ l ∈ b, l ≠ .none) → PySem.W.keyToksAll (a.map Leaf.data) = PySem.W.keyToksAll (b.map Leaf.data) → a = b
  | [], [], _, _, _ => rfl
  | [], l :: b, _, _, e => by
    simp only [List.map_nil, List.map_cons, PySem.W.keyToksAll] at e
    injection e with e1 _
    injection e1 with e1
    cases e1
  | l :: a, [], _, _, e => by
    simp only [List.map_nil, List.map_cons, PySem.W.keyToksAll] at e
    injection e with e1 _
    injection e1 with e1
    cases e1
  | l :: a, m :: b, ha, hb, e => by
    have ih := toks_inj (a := a) (b := b) (fun x hx => ha x (List.mem_cons_of_mem _ hx)) fun x hx => hb x (List.mem_cons_of_mem _ hx)
    have h1 := ha l List.mem_cons_self
    have h2 := hb m List.mem_cons_self
    simp only [List.map_cons, PySem.W.keyToksAll] at e
    injection e with _ e
    cases l <;> cases m <;> simp only [Leaf.data, PySem.W.keyToks, List.cons_append, List.nil_append] at e <;> first
      | exact absurd rfl h1
      | exact absurd rfl h2
      | (injection e with e1 e2
         first
          | (injection e1 with e1; subst e1; rw [ih e2])
          | (injection e1 with e1; rw [PySem.W.str_of_cps e1, ih e2])
          | (cases e1))
def toldK (k : List Leaf) : Bool := decide (k ≠ []) && k.all fun l => decide (l ≠ .none)
theorem told_ne {k : List Leaf} (h : toldK k = true) : k ≠ [] ∧ ∀ l ∈ k, l ≠ .none := by
  unfold toldK at h
  rw [Bool.and_eq_true, decide_eq_true_eq, List.all_eq_true] at h
  exact ⟨h.1, fun l hl => of_decide_eq_true (h.2 l hl)⟩
theorem leK_anti {a b : List Leaf} (ha : toldK a = true) (hb : toldK b = true) (h1 : leK a b = true) (h2 : leK b a = true) : a = b := by
  unfold leK at h1 h2
  simp only [Bool.not_eq_true'] at h1 h2
  unfold kdat at h1 h2
  rw [PySem.W.dataLt_tuple] at h1 h2
  exact toks_inj (told_ne ha).2 (told_ne hb).2 (lex_total (O := itemOrd) _ _ h2 h1)
theorem sort_leK (L : List (Addr × List Leaf)) : (L.mergeSort (PySem.W.dataLe false fun q : Addr × List Leaf => kdat q.2)).Pairwise fun q r => leK q.2 r.2 = true := by
  have tot := PySem.W.sortLe_total (listOrd itemOrd) false fun q : Addr × List Leaf => PySem.W.keyToks (kdat q.2)
  rw [dataLe_leK]
  exact List.pairwise_mergeSort (fun a b c => tot.trans a b c) (fun a b => by rw [Bool.or_eq_true]; exact tot.total a b) L
section
variable {Pg : Program} {u : World} {Ar : Around} {Ex : Value → Shared → Prop} {sh : Shared}
theorem sorted_few {a : Addr} {L : List (Addr × List Leaf)} {es : Array (Int × Value)} {ep : Nat} {t : SetTable} {Qq : Value → Shared → Prop} (R : FewK (leafKind Pg u) sh.heap a L es ep t) (un : Ar.handled = none) (ne : ∀ p ∈ L, p.2 ≠ []) (itL : ∀ p ∈ L, IsL sh.heap p.2 p.1) (al : ∀ p ∈ L, ∀ q ∈ L, PySem.W.alike (kdat p.2) (kdat q.2) = true) (rm : Ar.units + 10 < cLine)
    (go : ∀ s' p (out : Array Value) (c : Nat) (L' : List (Addr × List Leaf)), (∀ b o, sh.heap.get? b = some o → s'.heap.get? b = some o) → s'.gens = sh.gens → s'.os = sh.os → sh.heap.objs.size ≤ p →
      s'.heap.get? p = some (seqObj "list" out c) → out.toList = L'.map (fun q => Value.ref q.1) → L'.Perm L → L'.Pairwise (fun q r => leK q.2 r.2 = true) → Qq (.ref p) s') :
    wpAny (model Pg u) Ar (call (.builtin "sorted") [.ref a]) Qq Ex sh := by
  obtain ⟨ob, at0, ex0, dt0⟩ := R.ob
  have ez := R.len
  have few := R.few
  refine Calls.call_function_entry kind_sorted plain_sorted entry_sorted (args_sorted1 _) ?_
  unfold Builtin.«sorted»
  refine wpAny_bind (m := checkCount "sorted" 1 1 _) (wpAny_pure ?_)
  refine wpAny_bind (collect_set (A := Ar.in1) un ⟨ob, at0, ex0.1, dt0⟩ R.fits (by unfold scanBound; omega) R.tab.ris R.led fun s1 vs kp1 zz g1 o1 pm => ?_)
  have er : es.toList.map (·.2) = L.map fun q => Value.ref q.1 := by
    rw [R.mems]
    unfold memsK
    rw [List.map_map] <;> rfl
  rw [er] at pm
  obtain ⟨L1, pL1, eL1⟩ : ∃ L1 : List (Addr × List Leaf), L1.Perm L ∧ vs = L1.map fun q => Value.ref q.1 := by
    exact perm_lift (f := fun q : Addr × List Leaf => Value.ref q.1) pm.symm rfl
  have vl : vs.length < 64 := by rw [pm.length_eq, List.length_map]; omega
  refine wpAny_bind (wpAny_newList ?_ (by rw [sizeLine_eq]; omega))
  have atL : (s1.heap.push (seqObj "list" vs.toArray 0)).get? s1.heap.objs.size = some (seqObj "list" vs.toArray 0) := Heap.get?_push_size _ rfl
  have tk : ∀ q ∈ L, IsL (s1.heap.push (seqObj "list" vs.toArray 0)) q.2 q.1 := fun q hq => (itL q hq).keep fun b o e => Heap.get?_push_of_some _ (kp1 b o e)
  have inL : ∀ q ∈ L1, q ∈ L := fun q hq => pL1.mem_iff.mp hq
  have ea : PySem.W.EachIs (fun (v : Value) (q : Addr × List Leaf) => v = .ref q.1) vs L1 := by
    rw [eL1]
    exact each_same L1
  have rd : PySem.W.EachIs (fun (v : Value) (q : Addr × List Leaf) => ∃ as, Reads (s1.heap.push (seqObj "list" vs.toArray 0)) v (kdat q.2) as ∧ s1.heap.objs.size ∉ as) vs L1 := by
    have z := each_readL (n := s1.heap.objs.size) (fun q hq => tk q (inL q hq))
    rw [← eL1] at z
    exact z
  refine wpAny_bind (wpAny_holding (PySem.W.list_sort_data (s := { s1 with heap := s1.heap.push (seqObj "list" vs.toArray 0) }) (enc := fun q : Addr × List Leaf => kdat q.2) atL ea rd ?_ ?_ (by rw [pL1.length_eq, sizeLine_eq]; omega) (fun q hq => ?_) fun out ho eo => ?_))
  · intro d hd d' hd'
    obtain ⟨q, hq, e⟩ := List.mem_map.mp hd
    obtain ⟨q', hq', e'⟩ := List.mem_map.mp hd'
    rw [← e, ← e']
    exact al q (inL q hq) q' (inL q' hq')
  · refine .inl fun d hd => ?_
    obtain ⟨q, hq, rfl⟩ := List.mem_map.mp hd
    cases e : q.2 with
    | nil => exact absurd e (ne q (inL q hq))
    | cons x xs => exact ⟨_, _, rfl⟩
  · show Ar.in1.units + 1 + (kdat q.2).depth < cLine
    unfold kdat
    rw [PyData.depth, depth_leafs]
    show Ar.units + 1 + 1 + _ < cLine
    omega
  obtain ⟨c, hc⟩ := sortedHeap_at (vs := vs) (out := out.toArray) atL
  have eout : out = (L1.mergeSort (PySem.W.dataLe false fun q : Addr × List Leaf => kdat q.2)).map fun q => Value.ref q.1 := same_each eo
  refine wpAny_pure ⟨_, rfl, go _ s1.heap.objs.size out.toArray c _ (fun b o e => ?_) g1 o1 zz hc (by simpa using eout) ((List.mergeSort_perm _ _).trans pL1) ?_⟩
  · have q := kp1 b o e
    have hlt := Heap.lt_size q
    show (sortedHeap (s1.heap.push (seqObj "list" vs.toArray 0)) s1.heap.objs.size vs out.toArray).get? b = some o
    rw [sortedHeap_old (Nat.ne_of_lt hlt) (by rw [size_push']; exact Nat.lt_succ_of_lt hlt)]
    exact Heap.get?_push_of_some _ q
  · exact sort_leK L1
end
end D2

namespace D2
open PySem PySem.Spec PyProof.Rows L2
/-! ### the set as an object of the hand layer, without the tuples themselves -/
structure FewS (P : Program) (w : World) (h : Heap) (a : Addr) (L : List (Addr × List Leaf)) : Prop where
  ex : ∃ (es : Array (Int × Value)) (ep : Nat) (t : SetTable), (∃ o, h.get? a = some o ∧ o.ExactSet ∧ o.data = .set es ep t) ∧ es.toList = memsK (leafKind P w) L ∧ TabOk t (L.map fun q => tkh (leafKind P w) q.2) ∧ (L.map (·.2)).Nodup ∧
    (w.params.followText "set-order" = true ∨ t.led = true) ∧ t.mask = 7 ∧ L.length ≤ 4
def FewO (P : Program) (w : World) (a : Addr) (L : List (Addr × List Leaf)) : HO := .ext fun h => FewS P w h a L
theorem few_shell {P : Program} {w : World} {h : Heap} {a : Addr} {L : List (Addr × List Leaf)} {es : Array (Int × Value)} {ep : Nat} {t : SetTable} (R : FewK (leafKind P w) h a L es ep t) : FewS P w h a L :=
  ⟨es, ep, t, R.ob, R.mems, R.tab, R.diff, R.led, R.mask, R.few⟩
theorem FewS.fill {P : Program} {w : World} {h : Heap} {a : Addr} {L : List (Addr × List Leaf)} (R : FewS P w h a L) (ht : ∀ q ∈ L, IsL h q.2 q.1) : ∃ es ep t, FewK (leafKind P w) h a L es ep t := by
  obtain ⟨es, ep, t, h1, h2, h3, h4, h5, h6, h7⟩ := R.ex
  exact ⟨es, ep, t, h1, h2, h3, h4, fun q hq => (ht q hq).key, h5, h6, h7⟩
theorem few_obj {P : Program} {w : World} {H : Hp} {h : Heap} {a : Addr} {L : List (Addr × List Leaf)} (R : FewS P w h a L) : ObjOk P w H h a (FewO P w a L) := by
  have ⟨es, ep, t, ⟨o, ho, r⟩, q⟩ := R.ex
  refine ⟨R, ⟨o, ho⟩, fun h1 h2 p k => ?_⟩
  have ⟨es', ep', t', ⟨o', ho', r'⟩, q'⟩ := FewS.ex p
  exact ⟨es', ep', t', ⟨o', k o' ho', r'⟩, q'⟩
theorem refs_vals {κ : Type} : ∀ {ks : List (Addr × κ)} {us : List Value}, Vals (ks.map fun p => V.ref p.1) us → us = ks.map fun p => Value.ref p.1
  | [], _, .nil => rfl
  | p :: ks, _, .cons r t => by
    have e : _ = Value.ref p.1 := r
    rw [e, refs_vals t]
    rfl
theorem vals_refs {κ : Type} : ∀ (ks : List (Addr × κ)), Vals (ks.map fun p => V.ref p.1) (ks.map fun p => Value.ref p.1)
  | [] => .nil
  | p :: ks => .cons rfl (vals_refs ks)
section
variable {X : Cx}
theorem inv_leaf {pins : List (Addr × Obj)} {σ : L2.St} {H : Hp} {s : Shared} {b : Addr} {k : List Leaf} (I : Inv X pins σ H s) (h : SqT X.K H b (k.map leafV)) : IsL s.heap k b := by
  obtain ⟨its, r, p, _⟩ := I.tuple h
  exact ⟨its.toArray, p, by simpa using r⟩
def rSetF (K : PySem.W.Frag) (P : Program) (w : World) : List V → Hp → VK → Prop := fun xs H Q => ∃ (l : Addr) (kk : List (Addr × List Leaf)), xs = [V.ref l] ∧ (SqT K H l (kk.map fun p => V.ref p.1) ∨ SqL K H l (kk.map fun p => V.ref p.1)) ∧ (∀ p ∈ kk, SqT K H p.1 (p.2.map leafV)) ∧ kk.length ≤ 4 ∧
  ∀ a L, H a = none → (∀ p ∈ L, p ∈ kk) → (∀ p ∈ kk, p.2 ∈ L.map (·.2)) → Q (.ref a) (upd H a (FewO P w a L))
theorem cr_setF (calm : X.calm = true) (hu : X.A.units + 64 < cLine) : CallR X (.type "set") (rSetF X.K X.prog X.w) := by
  intro pz sz τ Hz xs us Qz J r h
  obtain ⟨l, kk, rfl, hl, hk, hf, q⟩ := h
  rw [Vals.ref1 r]
  have fin : ∀ (h' : Heap) (tk : Nat) L es ep t, FewK (leafKind X.prog X.w) h' sz.heap.objs.size L es ep t → HasK kk kk.length L → (∀ b o, sz.heap.get? b = some o → h'.get? b = some o) →
      ∃ x H1, Inv X pz τ H1 { sz with heap := h', toks := tk } ∧ RelV x (Value.ref sz.heap.objs.size) ∧ Qz x H1 := fun h' tk L es ep t R g k =>
    ⟨.ref sz.heap.objs.size, upd Hz sz.heap.objs.size (FewO X.prog X.w sz.heap.objs.size L), J.laid (t' := tk) k (Nat.le_refl _) (few_obj (few_shell R)), rfl, q _ L (J.hok.fresh (Nat.le_refl _)) (fun p hp => List.mem_of_mem_take (g.own p hp)) fun p hp => g.all p (by rw [List.take_length]; exact hp)⟩
  rcases hl with hl | hl
  · obtain ⟨its, rv, pl, hz⟩ := J.tuple hl
    exact few_of_tup (Pg := X.prog) (u := X.w) (kd := leafKind X.prog X.w) kk (J.ok.hd calm) pl (by simpa using refs_vals rv) (fun p hp => (inv_leaf J (hk p hp)).key) hf (by omega) fin
  · obtain ⟨its, rv, pl, hz⟩ := J.list hl
    exact few_of_lst (Pg := X.prog) (u := X.w) (kd := leafKind X.prog X.w) kk (J.ok.hd calm) pl.isList (by simpa using refs_vals rv) (fun p hp => (inv_leaf J (hk p hp)).key) hf (by omega) fin
def rSortF (K : PySem.W.Frag) (P : Program) (w : World) : List V → Hp → VK → Prop := fun vs H Q => ∃ (a : Addr) (L : List (Addr × List Leaf)), vs = [V.ref a] ∧ H a = some (FewO P w a L) ∧ (∀ p ∈ L, SqT K H p.1 (p.2.map leafV)) ∧ (∀ p ∈ L, p.2 ≠ []) ∧ (∀ p ∈ L, ∀ q ∈ L, PySem.W.alike (kdat p.2) (kdat q.2) = true) ∧
  ∀ (L' : List (Addr × List Leaf)) (p : Addr), L'.Perm L → (L'.map (·.2)).Nodup → L'.Pairwise (fun q r => leK q.2 r.2 = true) → H p = none → Q (.ref p) (upd H p (.lst (L'.map fun q => V.ref q.1)))
theorem cr_sortF (calm : X.calm = true) (hu : X.A.units + 64 < cLine) : CallR X (.builtin "sorted") (rSortF X.K X.prog X.w) := by
  intro pz sz τ Hz vs us Qz J r h
  obtain ⟨a, L, rfl, ha, hk, hn, hal, q⟩ := h
  have R0 : FewS X.prog X.w sz.heap a L := (J.hok a _ ha).1
  obtain ⟨es, ep, t, R⟩ := R0.fill fun p hp => inv_leaf J (hk p hp)
  rw [Vals.ref1 r]
  refine sorted_few R (J.ok.hd calm) hn (fun p hp => inv_leaf J (hk p hp)) hal (by omega) fun s' p out c L' k g o hp hg hout pm pw => ?_
  have few : L'.length ≤ 4 := by rw [pm.length_eq]; exact R.few
  have len : (L'.map fun q => V.ref q.1).length ≤ sizeLine := by rw [List.length_map, sizeLine_eq]; omega
  have fr : Hz p = none := J.hok.fresh hp
  have hv : Vals (L'.map fun q => V.ref q.1) out.toList := by rw [hout]; exact vals_refs L'
  have J2 : Inv X pz τ (upd Hz p (.lst (L'.map fun q => V.ref q.1))) { sz with heap := s'.heap, gens := s'.gens, drawn := s'.drawn, toks := s'.toks } :=
    J.call (ch := []) (Un.laid k hp fr) (J.hok.laid k hp ⟨len, out.toList, c, hv, hg⟩) (by rw [g]; exact J.bare) (fun _ z => nomatch z)
  have e : s' = { sz with heap := s'.heap, gens := s'.gens, drawn := s'.drawn, toks := s'.toks } := by
    cases s'; cases sz; cases o
    rfl
  rw [e]
  exact ⟨.ref p, _, J2, rfl, q L' p pm ((pm.map (·.2)).nodup_iff.mpr R.diff) pw fr⟩
end
end D2

namespace D2
open PySem PySem.Spec PyProof.Rows L2
/-! ### those that differ, ascending -/
def ddK : List (List Leaf) → List (List Leaf)
  | [] => []
  | x :: xs => if x ∈ xs then ddK xs else x :: ddK xs
theorem mem_ddK {x : List Leaf} : ∀ {l : List (List Leaf)}, x ∈ ddK l ↔ x ∈ l
  | [] => by simp [ddK]
  | y :: l => by
    have ih := mem_ddK (x := x) (l := l)
    unfold ddK
    by_cases h : y ∈ l
    · rw [if_pos h, ih, List.mem_cons]
      exact ⟨.inr, fun z => z.elim (fun e => e ▸ h) id⟩
    · rw [if_neg h, List.mem_cons, List.mem_cons, ih]
theorem nodup_ddK : ∀ l : List (List Leaf), (ddK l).Nodup
  | [] => List.nodup_nil
  | y :: l => by
    unfold ddK
    by_cases h : y ∈ l
    · rw [if_pos h]; exact nodup_ddK l
    · rw [if_neg h]; exact List.nodup_cons.mpr ⟨fun z => h (mem_ddK.mp z), nodup_ddK l⟩
def sortK (l : List (List Leaf)) : List (List Leaf) := (ddK l).mergeSort leK
theorem mem_sortK {x : List Leaf} {l : List (List Leaf)} : x ∈ sortK l ↔ x ∈ l := (List.mergeSort_perm _ _).mem_iff.trans mem_ddK
theorem nodup_sortK (l : List (List Leaf)) : (sortK l).Nodup := (List.mergeSort_perm _ _).nodup_iff.mpr (nodup_ddK l)
theorem leK_tot : PySem.W.TotalLe leK := by
  have tot := PySem.W.sortLe_total (listOrd itemOrd) false fun k : List Leaf => PySem.W.keyToks (kdat k)
  exact tot
theorem sorted_sortK (l : List (List Leaf)) : (sortK l).Pairwise fun a b => leK a b = true :=
  List.pairwise_mergeSort (fun a b c => leK_tot.trans a b c) (fun a b => by rw [Bool.or_eq_true]; exact leK_tot.total a b) _
theorem only_sortK {l m : List (List Leaf)} (hl : ∀ k ∈ l, toldK k = true) (hm : ∀ k ∈ m, toldK k = true) (h1 : l.Pairwise fun a b => leK a b = true) (h2 : m.Pairwise fun a b => leK a b = true) (n1 : l.Nodup) (n2 : m.Nodup) (h : ∀ x, x ∈ l ↔ x ∈ m) : l = m :=
  List.Perm.eq_of_pairwise (le := fun a b => leK a b = true) (fun a b ha hb x y => leK_anti (hl a ha) (hm b hb) x y) h1 h2 ((List.perm_ext_iff_of_nodup n1 n2).mpr h)
/-! ### as data -/
def leafD : Leaf → D
  | .none => .non
  | .num i => .int i
  | .text x => .str x
def keyD (k : List Leaf) : D := .tup (k.map leafD)
def leafOf : D → Option Leaf
  | .non => some .none
  | .int i => some (.num i)
  | .str x => some (.text x)
  | _ => none
def leafsOf : List D → Option (List Leaf)
  | [] => some []
  | d :: r => match leafOf d, leafsOf r with
    | some l, some k => some (l :: k)
    | _, _ => none
def keysOf : List D → Option (List (List Leaf))
  | [] => some []
  | .tup ds :: r => match leafsOf ds, keysOf r with
    | some k, some m => some (k :: m)
    | _, _ => none
  | _ => none
theorem leafsOf_map : ∀ k : List Leaf, leafsOf (k.map leafD) = some k
  | [] => rfl
  | l :: k => by
    rw [List.map_cons, leafsOf, leafsOf_map k]
    cases l <;> rfl
theorem keysOf_map : ∀ l : List (List Leaf), keysOf (l.map keyD) = some l
  | [] => rfl
  | k :: l => by rw [List.map_cons, keyD, keysOf, leafsOf_map, keysOf_map l]
def okK (l : List (List Leaf)) : Bool := decide (l.length ≤ 4) && (l.all toldK && l.all fun a => l.all fun b => PySem.W.alike (kdat a) (kdat b))
def D.ssetK : D → Option D
  | .lst ds => match keysOf ds with
    | some l => if okK l = true then some (.lst ((sortK l).map keyD)) else none
    | none => none
  | .tup ds => match keysOf ds with
    | some l => if okK l = true then some (.lst ((sortK l).map keyD)) else none
    | none => none
  | _ => none
def D.lenK : D → Option D
  | .lst ds => match keysOf ds with
    | some l => if l.length ≤ 4 then some (.int (((ddK l).length : Nat) : Int)) else none
    | none => none
  | .tup ds => match keysOf ds with
    | some l => if l.length ≤ 4 then some (.int (((ddK l).length : Nat) : Int)) else none
    | none => none
  | _ => none
section
variable {K : PySem.W.Frag} {as : List Addr} {B : Addr → Prop} {H : Hp}
theorem leafs_rep : ∀ {ds : List D} {vs : List V} {k : List Leaf}, RepA K as B H ds vs → leafsOf ds = some k → vs = k.map leafV
  | [], vs, k, h, e => by
    have e' : vs = [] := h
    subst e'
    cases e
    rfl
  | d :: ds, vs, k, h, e => by
    obtain ⟨v, ws, e1, h1, h2⟩ := h
    subst e1
    simp only [leafsOf] at e
    split at e
    · rename_i l m hl hm
      cases e
      rw [List.map_cons, leafs_rep h2 hm]
      congr 1
      cases d <;> try (cases hl; done)
      all_goals (cases hl; exact h1)
    · cases e
theorem rep_leafs : ∀ k : List Leaf, RepA K as B H (k.map leafD) (k.map leafV)
  | [] => rfl
  | l :: k => by
    refine RepA.cons ?_ (rep_leafs k)
    cases l <;> exact rfl
theorem keys_rep : ∀ {ds : List D} {vs : List V} {l : List (List Leaf)}, RepA K as B H ds vs → keysOf ds = some l → ∃ ks : List (Addr × List Leaf), vs = (ks.map fun p => V.ref p.1) ∧ ks.map (·.2) = l ∧ ∀ p ∈ ks, SqT K H p.1 (p.2.map leafV)
  | [], vs, l, h, e => by
    have e' : vs = [] := h
    subst e'
    cases e
    exact ⟨[], rfl, rfl, fun p hp => by cases hp⟩
  | d :: ds, vs, l, h, e => by
    obtain ⟨v, ws, e1, h1, h2⟩ := h
    subst e1
    cases d <;> try (cases e; done)
    rename_i es
    simp only [keysOf] at e
    split at e
    · rename_i n m hn hm
      cases e
      obtain ⟨ks, k1, k2, k3⟩ := keys_rep h2 hm
      obtain ⟨a, xs, ev, g1, g2⟩ := h1
      subst ev k1
      rw [leafs_rep g2 hn] at g1
      refine ⟨(a, n) :: ks, rfl, by rw [List.map_cons, k2], fun p hp => ?_⟩
      rcases List.mem_cons.mp hp with e | hp
      · subst e; exact g1
      · exact k3 p hp
    · cases e
theorem rep_keys : ∀ {ks : List (Addr × List Leaf)}, (∀ p ∈ ks, SqT K H p.1 (p.2.map leafV)) → RepA K as B H ((ks.map (·.2)).map keyD) (ks.map fun p => V.ref p.1)
  | [], _ => rfl
  | p :: ks, h => RepA.cons ⟨p.1, p.2.map leafV, rfl, h p List.mem_cons_self, rep_leafs _⟩ (rep_keys fun q hq => h q (List.mem_cons_of_mem _ hq))
end
section
variable {X : Cx} {W : WX2} {wk : Bool} {pos : Pos}
theorem e2_ssetK {e : Expr} {m : ME} {p p2 q : Pos} (hc : X.calm = true) (hu : X.A.units + 64 < cLine) (hg : Gl X "sorted") (hm : X.mg "sorted" = none) (hg2 : Gl X "set") (hm2 : X.mg "set" = none) (he : PE2 X W wk e m)
    (v1 : bootBuiltins "sorted" = some (.builtin "sorted") := by decide +kernel) (v2 : bootBuiltins "set" = some (.type "set") := by decide +kernel)
    (n1 : starEach [e] X.env = (false, eval e X.env) :: starEach [] X.env := by rfl) (n2 : starEach [.Call (.Name "set" p2) [e] [] q] X.env = (false, eval (.Call (.Name "set" p2) [e] [] q) X.env) :: starEach [] X.env := by rfl)
    (pl1 : (backTo q (starEach [] X.env)).any (·.1) = false := by rfl) (pl2 : (backTo pos (starEach [] X.env)).any (·.1) = false := by rfl) :
    PE2 X W wk (.Call (.Name "sorted" p) [.Call (.Name "set" p2) [e] [] q] [] pos) (mUn D.ssetK m) := by
  obtain ⟨t, a1, a2⟩ := he
  refine ⟨_, pe_callB (cr_sortF hc hu) hg hm v1 (pa_cons (pe_callTy (cr_setF hc hu) hg2 hm2 v2 (pa_cons a1 pa_nil n1) (by decide) (by decide) n1 pl1) pa_nil n2) (by decide) (by decide) n2 pl2, fun B H0 as ks ow sg S σ H Q r h => ?_⟩
  refine a2 _ _ _ _ _ _ _ _ _ _ r (Den.bind h fun d S1 v H1 e0 e1 s1 q1 h1 => ?_)
  clear e0
  have r1 := r.step e1 s1
  have rest : ∀ (l : List (List Leaf)) (kk : List (Addr × List Leaf)), okK l = true → kk.map (·.2) = l → (∀ p ∈ kk, SqT X.K H1 p.1 (p.2.map leafV)) → (∀ (v : V) (H' : Hp), Evo X.K (· ∈ as) H1 H' → Sto X.K as (Bd B ow) H' S1 → (ctOf X W B H0 as ks).rp ow wk H' (.lst ((sortK l).map keyD)) v → Q v H') →
      kk.length ≤ 4 ∧ ∀ b L, H1 b = none → (∀ p ∈ L, p ∈ kk) → (∀ p ∈ kk, p.2 ∈ L.map (·.2)) → rSortF X.K X.prog X.w [V.ref b] (upd H1 b (FewO X.prog X.w b L)) Q := by
    intro l kk hok k2 k3 fin
    unfold okK at hok
    simp only [Bool.and_eq_true, decide_eq_true_eq, List.all_eq_true] at hok
    obtain ⟨o1, o2, o3⟩ := hok
    have inl : ∀ p ∈ kk, p.2 ∈ l := fun p hp => by rw [← k2]; exact List.mem_map.mpr ⟨p, hp, rfl⟩
    refine ⟨by rw [← k2, List.length_map] at o1; exact o1, fun b L hb l1 l2 => ?_⟩
    have k3' : ∀ p ∈ L, SqT X.K (upd H1 b (FewO X.prog X.w b L)) p.1 (p.2.map leafV) := fun p hp => (Evo.new (W := fun _ => False) hb).sqT (k3 p (l1 p hp))
    refine ⟨b, L, rfl, upd_same, k3', fun p hp => (told_ne (o2 p.2 (inl p (l1 p hp)))).1, fun p hp q hq => o3 p.2 (inl p (l1 p hp)) q.2 (inl q (l1 q hq)), fun L' c pm nd pw hcn => ?_⟩
    have hcb : c ≠ b := fun z => by subst z; rw [upd_same] at hcn; cases hcn
    have hc1 : H1 c = none := by rw [upd_ne hcb] at hcn; exact hcn
    have mem : ∀ x, x ∈ L'.map (·.2) ↔ x ∈ l := fun x => by
      rw [← k2, List.mem_map, List.mem_map]
      constructor
      · rintro ⟨p, hp, e⟩
        exact ⟨p, l1 p (pm.mem_iff.mp hp), e⟩
      · rintro ⟨p, hp, e⟩
        obtain ⟨p', hp', e'⟩ := List.mem_map.mp (l2 p hp)
        exact ⟨p', pm.mem_iff.mpr hp', e'.trans e⟩
    have eL : L'.map (·.2) = sortK l := by
      refine only_sortK (fun k hk => o2 k ((mem k).mp hk)) (fun k hk => o2 k (mem_sortK.mp hk)) ?_ (sorted_sortK l) nd (nodup_sortK l) fun x => by rw [mem, mem_sortK]
      rw [List.pairwise_map]
      exact pw
    have ev3 : Evo X.K (fun _ => False) H1 (upd (upd H1 b (FewO X.prog X.w b L)) c (.lst (L'.map fun q => V.ref q.1))) := (Evo.new hb).trans (Evo.new hcn)
    refine fin _ _ ev3.any (r1.stoNew ev3) ⟨c, _, rfl, newB r1.asBd r1.bdDom hc1, upd_same, ?_⟩
    rw [← eL]
    exact RepA.new hcn (rep_keys fun p hp => k3' p (pm.mem_iff.mp hp))
  cases es : D.ssetK d with
  | none => simp only [es] at h1; exact False.elim h1
  | some z =>
    simp only [es] at h1
    cases d <;> try (cases es; done)
    · rename_i ds
      simp only [D.ssetK] at es
      split at es
      · rename_i l hl
        split at es
        · rename_i hok
          cases es
          obtain ⟨a, xs, ev, g1, g2⟩ := q1
          subst ev
          obtain ⟨kk, k1, k2, k3⟩ := keys_rep g2 hl
          subst k1
          obtain ⟨f1, f2⟩ := rest l kk hok k2 k3 h1
          exact ⟨a, kk, rfl, .inl g1, k3, f1, f2⟩
        · cases es
      · cases es
    · rename_i ds
      simp only [D.ssetK] at es
      split at es
      · rename_i l hl
        split at es
        · rename_i hok
          cases es
          obtain ⟨a, xs, ev, nb, g1, g2⟩ := q1
          subst ev
          obtain ⟨kk, k1, k2, k3⟩ := keys_rep g2 hl
          subst k1
          obtain ⟨f1, f2⟩ := rest l kk hok k2 k3 h1
          exact ⟨a, kk, rfl, .inr (SqL.of g1), k3, f1, f2⟩
        · cases es
      · cases es
end
/-! ### len(set(x)) -/
theorem ddK_len {L : List (Addr × List Leaf)} {l : List (List Leaf)} (h1 : (L.map (·.2)).Nodup) (h2 : ∀ x, x ∈ L.map (·.2) ↔ x ∈ l) : L.length = (ddK l).length := by
  have p : (L.map (·.2)).Perm (ddK l) := (List.perm_ext_iff_of_nodup h1 (nodup_ddK l)).mpr fun x => by rw [h2, mem_ddK]
  rw [← List.length_map (f := (·.2)), p.length_eq]
def tLenF (K : PySem.W.Frag) (ta : TE) : TE := fun σz Hz Qz => ta σz Hz fun xz H1z => ∃ (l : Addr) (kk : List (Addr × List Leaf)), xz = .ref l ∧ (SqT K H1z l (kk.map fun p => V.ref p.1) ∨ SqL K H1z l (kk.map fun p => V.ref p.1)) ∧ (∀ p ∈ kk, SqT K H1z p.1 (p.2.map leafV)) ∧ kk.length ≤ 4 ∧ Qz (.int (((ddK (kk.map (·.2))).length : Nat) : Int)) H1z
theorem pe_lenF {X : Cx} {a : Expr} {ta : TE} {p p2 q pos : Pos} (gl : Gl X "len") (ml : X.mg "len" = none) (gs : Gl X "set") (ms : X.mg "set" = none) (ha : PE X a ta) (calm : X.calm = true) (hu : X.A.units + 64 < cLine)
    (one : starEach [a] X.env = (false, eval a X.env) :: starEach [] X.env := by rfl) : PE X (.Call (.Name "len" p) [.Call (.Name "set" p2) [a] [] q] [] pos) (tLenF X.K ta) := by
  refine ⟨fun pinsz sz σz Hz Qz Iz hz => ?_⟩
  refine Call_ (ld_blt Iz gl ml boot_len ?_)
  refine PyProof.Rows.callWith_builtin1 (PyProof.Rows.args_cons ?_ rfl) rfl rfl
  refine Call_ (ld_blt Iz gs ms PyProof.Rows.boot_set ?_)
  refine PyProof.Rows.callWith_type1 (PyProof.Rows.args_cons (thn (ha.run pinsz sz σz Hz _ Iz hz) fun vz s1z ⟨xz, H1z, I1z, r1z, q1z⟩ => PyProof.Rows.args_nil ?_) one) one rfl
  obtain ⟨l, kk, rfl, hq, hk, hl, q1z⟩ := q1z
  cases r1z
  rcases hq with hq | hq
  · obtain ⟨its, rv, pl, _⟩ := I1z.tuple hq
    refine few_of_tup (Pg := X.prog) (u := X.w) (kd := leafKind X.prog X.w) kk (I1z.ok.hd calm) pl (by simpa using refs_vals rv) (fun p hp => (inv_leaf I1z (hk p hp)).key) hl ?_ fun h' tkz L es ep t R g k => ?_
    · omega
    · refine PyProof.Rows.args_nil ?_
      obtain ⟨oz, hoz, hexz, hdz⟩ := R.ob
      have hL := ddK_len (l := kk.map (·.2)) R.diff fun x => ⟨fun hx => by
        obtain ⟨p, hp, e⟩ := List.mem_map.mp hx
        exact List.mem_map.mpr ⟨p, List.mem_of_mem_take (g.own p hp), e⟩, fun hx => by
        obtain ⟨p, hp, e⟩ := List.mem_map.mp hx
        rw [← e]
        exact g.all p (by rw [List.take_length]; exact hp)⟩
      have sz1 := R.len (sh := { s1z with heap := h', toks := tkz })
      have fit1 := R.fits (sh := { s1z with heap := h', toks := tkz })
      have few1 := R.few
      have I2z : Inv X pinsz σz H1z { s1z with heap := h', toks := tkz } := I1z.kept fun b oz e => k b oz e
      exact call_len_set hoz hexz hdz fit1 (by omega) ⟨.int (((ddK (kk.map (·.2))).length : Nat) : Int), H1z, I2z.tok _, ⟨_, by rw [sz1, hL]⟩, q1z⟩
  · obtain ⟨its, rv, pl, _⟩ := I1z.list hq
    refine few_of_lst (Pg := X.prog) (u := X.w) (kd := leafKind X.prog X.w) kk (I1z.ok.hd calm) pl.isList (by simpa using refs_vals rv) (fun p hp => (inv_leaf I1z (hk p hp)).key) hl ?_ fun h' tkz L es ep t R g k => ?_
    · omega
    · refine PyProof.Rows.args_nil ?_
      obtain ⟨oz, hoz, hexz, hdz⟩ := R.ob
      have hL := ddK_len (l := kk.map (·.2)) R.diff fun x => ⟨fun hx => by
        obtain ⟨p, hp, e⟩ := List.mem_map.mp hx
        exact List.mem_map.mpr ⟨p, List.mem_of_mem_take (g.own p hp), e⟩, fun hx => by
        obtain ⟨p, hp, e⟩ := List.mem_map.mp hx
        rw [← e]
        exact g.all p (by rw [List.take_length]; exact hp)⟩
      have sz1 := R.len (sh := { s1z with heap := h', toks := tkz })
      have fit1 := R.fits (sh := { s1z with heap := h', toks := tkz })
      have few1 := R.few
      have I2z : Inv X pinsz σz H1z { s1z with heap := h', toks := tkz } := I1z.kept fun b oz e => k b oz e
      exact call_len_set hoz hexz hdz fit1 (by omega) ⟨.int (((ddK (kk.map (·.2))).length : Nat) : Int), H1z, I2z.tok _, ⟨_, by rw [sz1, hL]⟩, q1z⟩
section
variable {X : Cx} {W : WX2} {wk : Bool} {pos : Pos}
theorem e2_lenK {e : Expr} {m : ME} {p p2 q : Pos} (hc : X.calm = true) (hu : X.A.units + 64 < cLine) (hg : Gl X "len") (hm : X.mg "len" = none) (hg2 : Gl X "set") (hm2 : X.mg "set" = none) (he : PE2 X W wk e m)
    (n1 : starEach [e] X.env = (false, eval e X.env) :: starEach [] X.env := by rfl) :
    PE2 X W wk (.Call (.Name "len" p) [.Call (.Name "set" p2) [e] [] q] [] pos) (mUn D.lenK m) := by
  obtain ⟨t, a1, a2⟩ := he
  refine ⟨_, pe_lenF hg hm hg2 hm2 a1 hc hu n1, fun B H0 as ks ow sg S σ H Q r h => ?_⟩
  refine a2 _ _ _ _ _ _ _ _ _ _ r (Den.bind h fun d S1 v H1 e0 e1 s1 q1 h1 => ?_)
  clear e0
  cases es : D.lenK d with
  | none => simp only [es] at h1; exact False.elim h1
  | some z =>
    simp only [es] at h1
    cases d <;> try (cases es; done)
    · rename_i ds
      simp only [D.lenK] at es
      split at es
      · rename_i l hl
        split at es
        · rename_i hok
          cases es
          obtain ⟨a, xs, ev, g1, g2⟩ := q1
          subst ev
          obtain ⟨kk, k1, k2, k3⟩ := keys_rep g2 hl
          subst k1 k2
          exact ⟨a, kk, rfl, .inl g1, k3, by rw [List.length_map] at hok; exact hok, h1 _ H1 Evo.refl s1 rfl⟩
        · cases es
      · cases es
    · rename_i ds
      simp only [D.lenK] at es
      split at es
      · rename_i l hl
        split at es
        · rename_i hok
          cases es
          obtain ⟨a, xs, ev, nb, g1, g2⟩ := q1
          subst ev
          obtain ⟨kk, k1, k2, k3⟩ := keys_rep g2 hl
          subst k1 k2
          exact ⟨a, kk, rfl, .inr (SqL.of g1), k3, by rw [List.length_map] at hok; exact hok, h1 _ H1 Evo.refl s1 rfl⟩
        · cases es
      · cases es
end
theorem ssetK_tup {l : List (List Leaf)} (h : okK l = true) : D.ssetK (.tup (l.map keyD)) = some (.lst ((sortK l).map keyD)) := by
  simp only [D.ssetK, keysOf_map, h, if_true]
theorem lenK_lst {l : List (List Leaf)} (h : l.length ≤ 4) : D.lenK (.lst (l.map keyD)) = some (.int (((ddK l).length : Nat) : Int)) := by
  simp only [D.lenK, keysOf_map, h, if_true]
end D2

namespace D2
open PySem PySem.Spec PyProof.Rows L2

/-! ### reading what a def computes: r is an answer with P, or an exception with E -/
abbrev EP' := Exn → List Sl → List O → Prop
@[irreducible] def Wp {α : Type} (r : R α) (P : α → Prop) (E : EP') : Prop := match r with
  | .ok a => P a
  | .ex e sg S => E e sg S
  | .bad => False
def noE : EP' := fun _ _ _ => False
theorem wp_ok {α : Type} {a : α} {P : α → Prop} {E : EP'} : Wp (.ok a) P E = P a := by unfold Wp; rfl
theorem wp_ex {α : Type} {e : Exn} {sg : List Sl} {S : List O} {P : α → Prop} {E : EP'} : Wp (.ex e sg S) P E = E e sg S := by unfold Wp; rfl
theorem wp_bad {α : Type} {P : α → Prop} {E : EP'} : Wp .bad P E = False := by unfold Wp; rfl
theorem wp_okI {α : Type} {a : α} {P : α → Prop} {E : EP'} (h : P a) : Wp (.ok a) P E := by rw [wp_ok]; exact h
theorem wp_okE {α : Type} {a : α} {P : α → Prop} {E : EP'} (h : Wp (.ok a) P E) : P a := by rw [wp_ok] at h; exact h
theorem wp_exE {α : Type} {e : Exn} {sg : List Sl} {S : List O} {P : α → Prop} {E : EP'} (h : Wp (.ex e sg S) P E) : E e sg S := by rw [wp_ex] at h; exact h
theorem wp_badE {α : Type} {P : α → Prop} {E : EP'} (h : Wp .bad P E) : False := by rw [wp_bad] at h; exact h
theorem Wp.mono {α : Type} {r : R α} {P P' : α → Prop} {E E' : EP'} (h : Wp r P E) (hP : ∀ a, P a → P' a) (hE : ∀ e sg S, E e sg S → E' e sg S) : Wp r P' E' := by
  cases r with
  | ok a => rw [wp_ok] at h ⊢; exact hP a h
  | ex e sg S => rw [wp_ex] at h ⊢; exact hE e sg S h
  | bad => rw [wp_bad] at h ⊢; exact h
theorem Wp.imp {α : Type} {r : R α} {P P' : α → Prop} {E : EP'} (h : Wp r P E) (hP : ∀ a, P a → P' a) : Wp r P' E := h.mono hP fun _ _ _ z => z
theorem Wp.no {α : Type} {r : R α} {P P' : α → Prop} {E : EP'} (h : Wp r P noE) (hP : ∀ a, P a → P' a) : Wp r P' E := h.mono hP fun _ _ _ z => z.elim
theorem Wp.ok {α : Type} {r : R α} {P : α → Prop} (h : Wp r P noE) : ∃ a, r = .ok a ∧ P a := by
  cases r with
  | ok a => rw [wp_ok] at h; exact ⟨a, rfl, h⟩
  | ex e sg S => rw [wp_ex] at h; exact False.elim h
  | bad => rw [wp_bad] at h; exact False.elim h
theorem wp_eq {α : Type} {r : R α} {a : α} {P : α → Prop} {E : EP'} (h : r = .ok a) : Wp r P E = P a := by rw [h, wp_ok]
theorem wp_bind {α β : Type} {r : R α} {f : α → R β} {P : β → Prop} {E : EP'} : Wp (r.bind f) P E = Wp r (fun x => Wp (f x) P E) E := by
  cases r with
  | ok a => rw [wp_ok]; rfl
  | ex e sg S => rw [wp_ex, show (R.ex e sg S : R α).bind f = .ex e sg S from rfl, wp_ex]
  | bad => rw [wp_bad, show (R.bad : R α).bind f = .bad from rfl, wp_bad]
/-- an option that must be there -/
def kO (o : Option D) (S : List O) (P : D × List O → Prop) : Prop := match o with
  | some z => P (z, S)
  | none => False
theorem kO_some {z : D} {S : List O} {P : D × List O → Prop} : kO (some z) S P = P (z, S) := by with_unfolding_all rfl
theorem wp_of {o : Option D} {S : List O} {P : D × List O → Prop} {E : EP'} : Wp (R.of (o.map fun z => (z, S))) P E = kO o S P := by
  cases o <;> (with_unfolding_all rfl)
theorem kO_eq {o : Option D} {z : D} {S : List O} {P : D × List O → Prop} (h : o = some z) : kO o S P = P (z, S) := by rw [h]; rfl
section
variable {P : D × List O → Prop} {Pb : Bool × List O → Prop} {Ps : Fl × List Sl × List O → Prop} {Pa : List D × List O → Prop} {Po : O × List O → Prop} {E : EP'} {sg : List Sl} {S : List O} {m ma mb mc : ME} {ms : MA} {mt mu : MT} {f g : D → D → Option D} {h : D → Option D}

/-! expressions -/
def kVar (s : Option Sl) (S : List O) (P : D × List O → Prop) : Prop := match s with
  | some (.val d) => P (d, S)
  | _ => False
def kVarW (s : Option Sl) (S : List O) (P : D × List O → Prop) : Prop := match s with
  | some (.val d) => P (d, S)
  | some (.own (.lst ds)) => P (.lst ds, S)
  | some (.own (.dic ks ds)) => P (.dic ks ds, S)
  | _ => False
theorem w_C {d : D} : Wp (mC d sg S) P E = P (d, S) := by with_unfolding_all rfl
theorem w_Var {i : Nat} : Wp (mVar i sg S) P E = kVar sg[i]? S P := by
  unfold mVar kVar
  cases sg[i]? with
  | none => with_unfolding_all rfl
  | some s => cases s <;> (with_unfolding_all rfl)
theorem w_VarW {i : Nat} : Wp (mVarW i sg S) P E = kVarW sg[i]? S P := by
  unfold mVarW kVarW
  cases sg[i]? with
  | none => with_unfolding_all rfl
  | some s =>
    cases s with
    | no => with_unfolding_all rfl
    | val d => with_unfolding_all rfl
    | own o => cases o <;> (with_unfolding_all rfl)
theorem kVar_val {d : D} : kVar (some (.val d)) S P = P (d, S) := by with_unfolding_all rfl
theorem kVarW_val {d : D} : kVarW (some (.val d)) S P = P (d, S) := by with_unfolding_all rfl
theorem kVarW_lst {ds : List D} : kVarW (some (.own (.lst ds))) S P = P (.lst ds, S) := by with_unfolding_all rfl
theorem kVarW_dic {ks : List Key} {ds : List D} : kVarW (some (.own (.dic ks ds))) S P = P (.dic ks ds, S) := by with_unfolding_all rfl
def kFlat (P : D × List O → Prop) : D × List O → Prop := fun x => x.1.flat = true ∧ P x
theorem w_Flat : Wp (mFlat m sg S) P E = Wp (m sg S) (kFlat P) E := by
  unfold mFlat
  rw [wp_bind]
  congr 1
  funext x
  by_cases hx : x.1.flat = true
  · simp [hx, kFlat, wp_ok]
  · simp [hx, kFlat, Wp]
theorem kFlat_eq {x : D × List O} : kFlat P x = (x.1.flat = true ∧ P x) := by with_unfolding_all rfl
def kBin2 (f : D → D → Option D) (x : D) (P : D × List O → Prop) : D × List O → Prop := fun y => kO (f x y.1) y.2 P
def kBin (f : D → D → Option D) (mb : ME) (sg : List Sl) (P : D × List O → Prop) (E : EP') : D × List O → Prop := fun x => Wp (mb sg x.2) (kBin2 f x.1 P) E
theorem w_Bin : Wp (mBin f ma mb sg S) P E = Wp (ma sg S) (kBin f mb sg P E) E := by
  unfold mBin kBin kBin2
  simp only [wp_bind, wp_of]
theorem kBin_eq {x : D} : kBin f mb sg P E (x, S) = Wp (mb sg S) (kBin2 f x P) E := by with_unfolding_all rfl
theorem kBin2_eq {x y : D} : kBin2 f x P (y, S) = kO (f x y) S P := by with_unfolding_all rfl
def kUn (h : D → Option D) (P : D × List O → Prop) : D × List O → Prop := fun x => kO (h x.1) x.2 P
theorem w_Un : Wp (mUn h m sg S) P E = Wp (m sg S) (kUn h P) E := by
  unfold mUn kUn
  simp only [wp_bind, wp_of]
theorem kUn_eq {x : D} : kUn h P (x, S) = kO (h x) S P := by with_unfolding_all rfl
def kTup (P : D × List O → Prop) : List D × List O → Prop := fun x => x.1.length ≤ 16777216 ∧ P (.tup x.1, x.2)
theorem w_Tup : Wp (mTup ms sg S) P E = Wp (ms sg S) (kTup P) E := by
  unfold mTup
  rw [wp_bind]
  congr 1
  funext x
  by_cases hx : x.1.length ≤ 16777216
  · simp [hx, kTup, wp_ok]
  · simp [hx, kTup, Wp]
theorem kTup_eq {ds : List D} : kTup P (ds, S) = (ds.length ≤ 16777216 ∧ P (.tup ds, S)) := by with_unfolding_all rfl
def kLst (P : D × List O → Prop) : List D × List O → Prop := fun x => x.1.length ≤ 16777216 ∧ P (.lst x.1, x.2)
theorem w_Lst : Wp (mLst ms sg S) P E = Wp (ms sg S) (kLst P) E := by
  unfold mLst
  rw [wp_bind]
  congr 1
  funext x
  by_cases hx : x.1.length ≤ 16777216
  · simp [hx, kLst, wp_ok]
  · simp [hx, kLst, Wp]
theorem kLst_eq {ds : List D} : kLst P (ds, S) = (ds.length ≤ 16777216 ∧ P (.lst ds, S)) := by with_unfolding_all rfl
theorem w_Nil : Wp (mNil sg S) Pa E = Pa ([], S) := by with_unfolding_all rfl
def kCons2 (x : D) (P : List D × List O → Prop) : List D × List O → Prop := fun y => P (x :: y.1, y.2)
def kCons (ms : MA) (sg : List Sl) (P : List D × List O → Prop) (E : EP') : D × List O → Prop := fun x => Wp (ms sg x.2) (kCons2 x.1 P) E
theorem w_Cons : Wp (mCons m ms sg S) Pa E = Wp (m sg S) (kCons ms sg Pa E) E := by
  unfold mCons kCons kCons2
  simp only [wp_bind, wp_ok]
theorem kCons_eq {x : D} : kCons ms sg Pa E (x, S) = Wp (ms sg S) (kCons2 x Pa) E := by with_unfolding_all rfl
theorem kCons2_eq {x : D} {ys : List D} : kCons2 x Pa (ys, S) = Pa (x :: ys, S) := by with_unfolding_all rfl
def kAnd (mb : ME) (sg : List Sl) (P : D × List O → Prop) (E : EP') : D × List O → Prop := fun x => match x.1 with
  | .bl b => if b = true then Wp (mb sg x.2) P E else P (.bl false, x.2)
  | _ => False
theorem w_And : Wp (mAnd ma mb sg S) P E = Wp (ma sg S) (kAnd mb sg P E) E := by
  unfold mAnd
  rw [wp_bind]
  congr 1
  funext x
  obtain ⟨d, T⟩ := x
  cases d <;> try (with_unfolding_all rfl)
  rename_i b
  cases b <;> (with_unfolding_all rfl)
theorem kAnd_eq {b : Bool} : kAnd mb sg P E (.bl b, S) = if b = true then Wp (mb sg S) P E else P (.bl false, S) := by with_unfolding_all rfl
def kOr (mb : ME) (sg : List Sl) (P : D × List O → Prop) (E : EP') : D × List O → Prop := fun x => match x.1 with
  | .bl b => if b = true then P (.bl true, x.2) else Wp (mb sg x.2) P E
  | _ => False
theorem w_Or : Wp (mOr ma mb sg S) P E = Wp (ma sg S) (kOr mb sg P E) E := by
  unfold mOr
  rw [wp_bind]
  congr 1
  funext x
  obtain ⟨d, T⟩ := x
  cases d <;> try (with_unfolding_all rfl)
  rename_i b
  cases b <;> (with_unfolding_all rfl)
theorem kOr_eq {b : Bool} : kOr mb sg P E (.bl b, S) = if b = true then P (.bl true, S) else Wp (mb sg S) P E := by with_unfolding_all rfl
/-! tests -/
def kTst (P : Bool × List O → Prop) : D × List O → Prop := fun x => match x.1 with
  | .bl b => P (b, x.2)
  | _ => False
theorem w_Tst : Wp (mTst m sg S) Pb E = Wp (m sg S) (kTst Pb) E := by
  unfold mTst
  rw [wp_bind]
  congr 1
  funext x
  obtain ⟨d, T⟩ := x
  cases d <;> (with_unfolding_all rfl)
theorem kTst_eq {b : Bool} : kTst Pb (.bl b, S) = Pb (b, S) := by with_unfolding_all rfl
def kTru (P : Bool × List O → Prop) : D × List O → Prop := fun x => match x.1.truth with
  | some b => P (b, x.2)
  | none => False
theorem w_Tru : Wp (mTru m sg S) Pb E = Wp (m sg S) (kTru Pb) E := by
  unfold mTru
  rw [wp_bind]
  congr 1
  funext x
  obtain ⟨d, T⟩ := x
  unfold kTru
  cases d.truth <;> (with_unfolding_all rfl)
theorem kTru_bl {b : Bool} : kTru Pb (.bl b, S) = Pb (b, S) := by with_unfolding_all rfl
theorem kTru_int {i : Int} : kTru Pb (.int i, S) = Pb (i != 0, S) := by with_unfolding_all rfl
theorem kTru_tup {ds : List D} : kTru Pb (.tup ds, S) = Pb (!ds.isEmpty, S) := by with_unfolding_all rfl
theorem kTru_lst {ds : List D} : kTru Pb (.lst ds, S) = Pb (!ds.isEmpty, S) := by with_unfolding_all rfl
theorem kTru_non : kTru Pb (.non, S) = Pb (false, S) := by with_unfolding_all rfl
theorem kTru_str {x : Str} (hx : x.length ≤ 16777216) : kTru Pb (.str x, S) = Pb ((x.length : Int) != 0, S) := by
  simp [kTru, D.truth, hx]
def kNotT (P : Bool × List O → Prop) : Bool × List O → Prop := fun x => P (!x.1, x.2)
theorem w_NotT : Wp (mNotT mt sg S) Pb E = Wp (mt sg S) (kNotT Pb) E := by
  unfold mNotT
  rw [wp_bind]
  with_unfolding_all rfl
theorem kNotT_eq {b : Bool} : kNotT Pb (b, S) = Pb (!b, S) := by with_unfolding_all rfl
def kAndT (mu : MT) (sg : List Sl) (P : Bool × List O → Prop) (E : EP') : Bool × List O → Prop := fun x => if x.1 = true then Wp (mu sg x.2) P E else P (false, x.2)
theorem w_AndT : Wp (mAndT mt mu sg S) Pb E = Wp (mt sg S) (kAndT mu sg Pb E) E := by
  unfold mAndT
  rw [wp_bind]
  congr 1
  funext x
  obtain ⟨b, T⟩ := x
  cases b <;> (with_unfolding_all rfl)
theorem kAndT_eq {b : Bool} : kAndT mu sg Pb E (b, S) = if b = true then Wp (mu sg S) Pb E else Pb (false, S) := by with_unfolding_all rfl
def kOrT (mu : MT) (sg : List Sl) (P : Bool × List O → Prop) (E : EP') : Bool × List O → Prop := fun x => if x.1 = true then P (true, x.2) else Wp (mu sg x.2) P E
theorem w_OrT : Wp (mOrT mt mu sg S) Pb E = Wp (mt sg S) (kOrT mu sg Pb E) E := by
  unfold mOrT
  rw [wp_bind]
  congr 1
  funext x
  obtain ⟨b, T⟩ := x
  cases b <;> (with_unfolding_all rfl)
theorem kOrT_eq {b : Bool} : kOrT mu sg Pb E (b, S) = if b = true then Pb (true, S) else Wp (mu sg S) Pb E := by with_unfolding_all rfl
def isNon : D → Bool
  | .non => true
  | _ => false
def kIsN (neg : Bool) (P : D × List O → Prop) : D × List O → Prop := fun x => P (.bl (if isNon x.1 = true then !neg else neg), x.2)
theorem w_IsN {neg : Bool} : Wp (mIsN neg m sg S) P E = Wp (m sg S) (kIsN neg P) E := by
  unfold mIsN
  rw [wp_bind]
  congr 1
  funext x
  obtain ⟨d, T⟩ := x
  cases d <;> (with_unfolding_all rfl)
theorem kIsN_eq {neg : Bool} {d : D} : kIsN neg P (d, S) = P (.bl (if isNon d = true then !neg else neg), S) := by with_unfolding_all rfl
def kIf (ma mb : ME) (sg : List Sl) (P : D × List O → Prop) (E : EP') : Bool × List O → Prop := fun x => if x.1 = true then Wp (ma sg x.2) P E else Wp (mb sg x.2) P E
theorem w_If : Wp (mIf mt ma mb sg S) P E = Wp (mt sg S) (kIf ma mb sg P E) E := by
  unfold mIf
  rw [wp_bind]
  congr 1
  funext x
  obtain ⟨b, T⟩ := x
  cases b <;> (with_unfolding_all rfl)
theorem kIf_eq {b : Bool} : kIf ma mb sg P E (b, S) = if b = true then Wp (ma sg S) P E else Wp (mb sg S) P E := by with_unfolding_all rfl
def kCh3 (o : Option D) (g : D → D → Option D) (y : D) (mc : ME) (sg : List Sl) (S : List O) (P : D × List O → Prop) (E : EP') : Prop := match o with
  | some (.bl b) => if b = true then Wp (mc sg S) (kBin2 g y P) E else P (.bl false, S)
  | _ => False
def kCh2 (f g : D → D → Option D) (x : D) (mc : ME) (sg : List Sl) (P : D × List O → Prop) (E : EP') : D × List O → Prop := fun y => kCh3 (f x y.1) g y.1 mc sg y.2 P E
def kCh1 (f g : D → D → Option D) (mb mc : ME) (sg : List Sl) (P : D × List O → Prop) (E : EP') : D × List O → Prop := fun x => Wp (mb sg x.2) (kCh2 f g x.1 mc sg P E) E
theorem w_Chain : Wp (mChain f g ma mb mc sg S) P E = Wp (ma sg S) (kCh1 f g mb mc sg P E) E := by
  unfold mChain kCh1
  rw [wp_bind]
  congr 1
  funext x
  rw [wp_bind]
  congr 1
  funext y
  unfold kCh2 kCh3
  cases e : f x.1 y.1 with
  | none => with_unfolding_all rfl
  | some d =>
    cases d <;> try (with_unfolding_all rfl)
    rename_i b
    cases b
    · with_unfolding_all rfl
    · simp only [if_true, wp_bind, wp_of]
      with_unfolding_all rfl
theorem kCh1_eq {x : D} : kCh1 f g mb mc sg P E (x, S) = Wp (mb sg S) (kCh2 f g x mc sg P E) E := by with_unfolding_all rfl
theorem kCh2_eq {x y : D} : kCh2 f g x mc sg P E (y, S) = kCh3 (f x y) g y mc sg S P E := by with_unfolding_all rfl
theorem kCh3_eq {b : Bool} {y : D} : kCh3 (some (.bl b)) g y mc sg S P E = if b = true then Wp (mc sg S) (kBin2 g y P) E else P (.bl false, S) := by with_unfolding_all rfl
/-! calls -/
def kBi (fl : List D → Option D) (P : D × List O → Prop) : List D × List O → Prop := fun x => kO (fl x.1) x.2 P
theorem w_Bi {fl : List D → Option D} : Wp (mBi fl ms sg S) P E = Wp (ms sg S) (kBi fl P) E := by
  unfold mBi kBi
  simp only [wp_bind, wp_of]
theorem kBi_eq {fl : List D → Option D} {ds : List D} : kBi fl P (ds, S) = kO (fl ds) S P := by with_unfolding_all rfl
theorem on1_eq {gg : D → Option D} {x : D} : on1 gg [x] = gg x := by with_unfolding_all rfl
theorem on2_eq {gg : D → D → Option D} {x y : D} : on2 gg [x, y] = gg x y := by with_unfolding_all rfl
def kMeth2 (fm : D → List D → Option D) (x : D) (P : D × List O → Prop) : List D × List O → Prop := fun y => kO (fm x y.1) y.2 P
def kMeth (c : D → Bool) (fm : D → List D → Option D) (ms : MA) (sg : List Sl) (P : D × List O → Prop) (E : EP') : D × List O → Prop := fun x => c x.1 = true ∧ Wp (ms sg x.2) (kMeth2 fm x.1 P) E
theorem w_Meth {c : D → Bool} {fm : D → List D → Option D} : Wp (mMeth c fm m ms sg S) P E = Wp (m sg S) (kMeth c fm ms sg P E) E := by
  unfold mMeth
  rw [wp_bind]
  congr 1
  funext x
  by_cases hx : c x.1 = true
  · simp only [hx, kMeth, if_true, true_and, wp_bind, wp_of]
    with_unfolding_all rfl
  · simp [hx, kMeth, Wp]
theorem kMeth_eq {c : D → Bool} {fm : D → List D → Option D} {x : D} : kMeth c fm ms sg P E (x, S) = (c x = true ∧ Wp (ms sg S) (kMeth2 fm x P) E) := by with_unfolding_all rfl
theorem kMeth2_eq {fm : D → List D → Option D} {x : D} {ys : List D} : kMeth2 fm x P (ys, S) = kO (fm x ys) S P := by with_unfolding_all rfl
def kIx2 (x : D) (P : D × List O → Prop) : D × List O → Prop := fun y => kO (ixS y.2 x y.1) y.2 P
def kIx (mb : ME) (sg : List Sl) (P : D × List O → Prop) (E : EP') : D × List O → Prop := fun x => Wp (mb sg x.2) (kIx2 x.1 P) E
theorem w_Ix : Wp (mIx ma mb sg S) P E = Wp (ma sg S) (kIx mb sg P E) E := by
  unfold mIx kIx kIx2
  simp only [wp_bind, wp_of]
theorem kIx_eq {x : D} : kIx mb sg P E (x, S) = Wp (mb sg S) (kIx2 x P) E := by with_unfolding_all rfl
theorem kIx2_eq {x y : D} : kIx2 x P (y, S) = kO (ixS S x y) S P := by with_unfolding_all rfl
def kGet3 (ks : List Key) (ds : List D) (k : D) (P : D × List O → Prop) : D × List O → Prop := fun x => kO (dGet2 (.dic ks ds) k x.1) x.2 P
def kGet2 (ks : List Key) (ds : List D) (mx : ME) (sg : List Sl) (P : D × List O → Prop) (E : EP') : D × List O → Prop := fun k => Wp (mx sg k.2) (kGet3 ks ds k.1 P) E
def kGet1 (mk mx : ME) (sg : List Sl) (P : D × List O → Prop) (E : EP') : D × List O → Prop := fun d => match d.1 with
  | .dic ks ds => Wp (mk sg d.2) (kGet2 ks ds mx sg P E) E
  | _ => False
theorem w_Get2 : Wp (mGet2 ma mb mc sg S) P E = Wp (ma sg S) (kGet1 mb mc sg P E) E := by
  unfold mGet2
  rw [wp_bind]
  congr 1
  funext x
  obtain ⟨d, T⟩ := x
  cases d <;> try (with_unfolding_all rfl)
  unfold kGet1 kGet2 kGet3
  simp only [wp_bind, wp_of]
theorem kGet1_eq {ks : List Key} {ds : List D} : kGet1 mb mc sg P E (.dic ks ds, S) = Wp (mb sg S) (kGet2 ks ds mc sg P E) E := by with_unfolding_all rfl
theorem kGet2_eq {ks : List Key} {ds : List D} {k : D} : kGet2 ks ds mc sg P E (k, S) = Wp (mc sg S) (kGet3 ks ds k P) E := by with_unfolding_all rfl
theorem kGet3_eq {ks : List Key} {ds : List D} {k x : D} : kGet3 ks ds k P (x, S) = kO (dGet2 (.dic ks ds) k x) S P := by with_unfolding_all rfl
def kPart (P : Option Int × List O → Prop) : D × List O → Prop := fun x => match x.1 with
  | .int i => P (some i, x.2)
  | _ => False
theorem w_NoP {Pp : Option Int × List O → Prop} : Wp (mNoP sg S) Pp E = Pp (none, S) := by with_unfolding_all rfl
theorem w_Part {Pp : Option Int × List O → Prop} : Wp (mPart m sg S) Pp E = Wp (m sg S) (kPart Pp) E := by
  unfold mPart
  rw [wp_bind]
  congr 1
  funext x
  obtain ⟨d, T⟩ := x
  cases d <;> (with_unfolding_all rfl)
theorem kPart_eq {Pp : Option Int × List O → Prop} {i : Int} : kPart Pp (.int i, S) = Pp (some i, S) := by with_unfolding_all rfl
def kSl3 (x : D) (lo : Option Int) (P : D × List O → Prop) : Option Int × List O → Prop := fun u => kO (D.slo lo u.1 x) u.2 P
def kSl2 (x : D) (mh : MOp) (sg : List Sl) (P : D × List O → Prop) (E : EP') : Option Int × List O → Prop := fun l => Wp (mh sg l.2) (kSl3 x l.1 P) E
def kSl1 (ml mh : MOp) (sg : List Sl) (P : D × List O → Prop) (E : EP') : D × List O → Prop := fun x => Wp (ml sg x.2) (kSl2 x.1 mh sg P E) E
theorem w_Sl {ml mh : MOp} : Wp (mSl m ml mh sg S) P E = Wp (m sg S) (kSl1 ml mh sg P E) E := by
  unfold mSl kSl1 kSl2 kSl3
  simp only [wp_bind, wp_of]
theorem kSl1_eq {ml mh : MOp} {x : D} : kSl1 ml mh sg P E (x, S) = Wp (ml sg S) (kSl2 x mh sg P E) E := by with_unfolding_all rfl
theorem kSl2_eq {mh : MOp} {x : D} {l : Option Int} : kSl2 x mh sg P E (l, S) = Wp (mh sg S) (kSl3 x l P) E := by with_unfolding_all rfl
theorem kSl3_eq {x : D} {l u : Option Int} : kSl3 x l P (u, S) = kO (D.slo l u x) S P := by with_unfolding_all rfl
def kCall (F : FD) (P : D × List O → Prop) : List D × List O → Prop := fun x => Wp (F x.1 x.2) P noE
theorem w_Call {F : FD} : Wp (mCall F ms sg S) P E = Wp (ms sg S) (kCall F P) E := by
  unfold mCall kCall
  rw [wp_bind]
  congr 1
  funext x
  cases F x.1 x.2 <;> (with_unfolding_all rfl)
theorem kCall_eq {F : FD} {ds : List D} : kCall F P (ds, S) = Wp (F ds S) P noE := by with_unfolding_all rfl
def kCallP (F : FD) (P : D × List O → Prop) : List D × List O → Prop := fun x => D.norefA x.1 = true ∧ Wp (F x.1 []) (fun y => y.2 = [] ∧ P (y.1, x.2)) noE
theorem w_CallP {F : FD} : Wp (mCallP F ms sg S) P E = Wp (ms sg S) (kCallP F P) E := by
  unfold mCallP
  rw [wp_bind]
  congr 1
  funext x
  by_cases hx : D.norefA x.1 = true
  · simp only [hx, kCallP, if_true, true_and]
    cases F x.1 [] with
    | ok y =>
      obtain ⟨d, T⟩ := y
      cases T <;> simp [Wp]
    | ex => with_unfolding_all rfl
    | bad => with_unfolding_all rfl
  · simp [hx, kCallP, Wp]
theorem kCallP_eq {F : FD} {ds : List D} : kCallP F P (ds, S) = (D.norefA ds = true ∧ Wp (F ds []) (fun y => y.2 = [] ∧ P (y.1, S)) noE) := by with_unfolding_all rfl
/-! new lists -/
variable {mo : MO}
def kOfO (P : D × List O → Prop) : O × List O → Prop := fun x => P (x.1.toD, x.2)
theorem w_OfO : Wp (mOfO mo sg S) P E = Wp (mo sg S) (kOfO P) E := by
  unfold mOfO
  rw [wp_bind]
  with_unfolding_all rfl
theorem kOfO_eq {o : O} : kOfO P (o, S) = P (o.toD, S) := by with_unfolding_all rfl
theorem toD_lst {ds : List D} : (O.lst ds).toD = .lst ds := by with_unfolding_all rfl
theorem toD_dic {ks : List Key} {ds : List D} : (O.dic ks ds).toD = .dic ks ds := by with_unfolding_all rfl
def kLstO (P : O × List O → Prop) : List D × List O → Prop := fun x => x.1.length ≤ 16777216 ∧ P (.lst x.1, x.2)
theorem w_LstO : Wp (oLst ms sg S) Po E = Wp (ms sg S) (kLstO Po) E := by
  unfold oLst
  rw [wp_bind]
  congr 1
  funext x
  by_cases hx : x.1.length ≤ 16777216
  · simp [hx, kLstO, wp_ok]
  · simp [hx, kLstO, Wp]
theorem kLstO_eq {ds : List D} : kLstO Po (ds, S) = (ds.length ≤ 16777216 ∧ Po (.lst ds, S)) := by with_unfolding_all rfl
theorem w_DicO : Wp (oDic sg S) Po E = Po (.dic [] [], S) := by with_unfolding_all rfl
def kRep2 (x : D) (P : O × List O → Prop) : D × List O → Prop := fun y => match x, y.1 with
  | .lst xs, .int k => decide (-4611686018427387904 ≤ k ∧ k < 4611686018427387904 ∧ xs.length * k.toNat ≤ 16777216) = true ∧ P (.lst (List.replicate k.toNat xs).flatten, y.2)
  | _, _ => False
def kRep (mb : ME) (sg : List Sl) (P : O × List O → Prop) (E : EP') : D × List O → Prop := fun x => Wp (mb sg x.2) (kRep2 x.1 P) E
theorem w_Rep : Wp (oRep ma mb sg S) Po E = Wp (ma sg S) (kRep mb sg Po E) E := by
  unfold oRep kRep
  rw [wp_bind]
  congr 1
  funext x
  rw [wp_bind]
  congr 1
  funext y
  obtain ⟨d, T⟩ := x
  obtain ⟨d', T'⟩ := y
  cases d <;> try (with_unfolding_all rfl)
  cases d' <;> try (with_unfolding_all rfl)
  unfold kRep2
  simp only []
  split
  · rename_i hd
    simp only [hd, wp_ok, true_and]
  · rename_i hd
    simp [hd, Wp]
theorem kRep_eq {x : D} : kRep mb sg Po E (x, S) = Wp (mb sg S) (kRep2 x Po) E := by with_unfolding_all rfl
theorem kRep2_eq {xs : List D} {k : Int} : kRep2 (.lst xs) Po (.int k, S) = (decide (-4611686018427387904 ≤ k ∧ k < 4611686018427387904 ∧ xs.length * k.toNat ≤ 16777216) = true ∧ Po (.lst (List.replicate k.toNat xs).flatten, S)) := by with_unfolding_all rfl
theorem w_Pn {Pp : List (D × D) × List O → Prop} : Wp (mPn sg S) Pp E = Pp ([], S) := by with_unfolding_all rfl
def kPc3 (k v : D) (P : List (D × D) × List O → Prop) : List (D × D) × List O → Prop := fun p => P ((k, v) :: p.1, p.2)
def kPc2 (k : D) (mp : MP) (sg : List Sl) (P : List (D × D) × List O → Prop) (E : EP') : D × List O → Prop := fun v => Wp (mp sg v.2) (kPc3 k v.1 P) E
def kPc1 (mv : ME) (mp : MP) (sg : List Sl) (P : List (D × D) × List O → Prop) (E : EP') : D × List O → Prop := fun k => Wp (mv sg k.2) (kPc2 k.1 mp sg P E) E
theorem w_Pc {mp : MP} {Pp : List (D × D) × List O → Prop} : Wp (mPc ma mb mp sg S) Pp E = Wp (ma sg S) (kPc1 mb mp sg Pp E) E := by
  unfold mPc kPc1 kPc2 kPc3
  simp only [wp_bind, wp_ok]
theorem kPc1_eq {mp : MP} {Pp : List (D × D) × List O → Prop} {k : D} : kPc1 mb mp sg Pp E (k, S) = Wp (mb sg S) (kPc2 k mp sg Pp E) E := by with_unfolding_all rfl
theorem kPc2_eq {mp : MP} {Pp : List (D × D) × List O → Prop} {k v : D} : kPc2 k mp sg Pp E (v, S) = Wp (mp sg S) (kPc3 k v Pp) E := by with_unfolding_all rfl
theorem kPc3_eq {Pp : List (D × D) × List O → Prop} {k v : D} {ps : List (D × D)} : kPc3 k v Pp (ps, S) = Pp ((k, v) :: ps, S) := by with_unfolding_all rfl
def kDisp2 (o : Option (List (Key × D))) (S : List O) (P : O × List O → Prop) : Prop := match o with
  | some ps => ps.length ≤ 15 ∧ P (.dic (dicMerge ps [] []).1 (dicMerge ps [] []).2, S)
  | none => False
def kDisp (P : O × List O → Prop) : List (D × D) × List O → Prop := fun x => kDisp2 (keyed x.1) x.2 P
theorem w_Disp {mp : MP} : Wp (oDisp mp sg S) Po E = Wp (mp sg S) (kDisp Po) E := by
  unfold oDisp
  rw [wp_bind]
  congr 1
  funext x
  unfold kDisp kDisp2
  cases keyed x.1 with
  | none => with_unfolding_all rfl
  | some ps =>
    by_cases hx : ps.length ≤ 15
    · simp [hx, wp_ok]
    · simp [hx, Wp]
theorem kDisp_eq {ps : List (D × D)} : kDisp Po (ps, S) = kDisp2 (keyed ps) S Po := by with_unfolding_all rfl
theorem kDisp2_eq {ps : List (Key × D)} : kDisp2 (some ps) S Po = (ps.length ≤ 15 ∧ Po (.dic (dicMerge ps [] []).1 (dicMerge ps [] []).2, S)) := by with_unfolding_all rfl
theorem keyed_nil : keyed [] = some [] := by with_unfolding_all rfl
theorem keyed_S {x : Str} {d : D} {r : List (D × D)} : keyed ((.str x, d) :: r) = (keyed r).map fun q => (.inr x, d) :: q := by
  simp only [keyed, D.key?]
  cases keyed r <;> (with_unfolding_all rfl)
theorem keyed_I {x : Int} {d : D} {r : List (D × D)} : keyed ((.int x, d) :: r) = (keyed r).map fun q => (.inl x, d) :: q := by
  simp only [keyed, D.key?]
  cases keyed r <;> (with_unfolding_all rfl)
def kLc2 (P : O × List O → Prop) : List D × List O → Prop := fun y => P (.lst y.1, y.2)
def kLc (wk : Bool) (g : D → List Sl → Option (List Sl)) (mt : MT) (me : ME) (vs : List Nat) (sg : List Sl) (P : O × List O → Prop) (E : EP') : List D × List O → Prop := fun x =>
  x.1.length ≤ 16777216 ∧ (!wk || D.flatA x.1) = true ∧ (vs.all fun v => !isOwn sg[v]?) = true ∧ Wp (lcR g mt me (wipeS sg vs) x.1 x.2) (kLc2 P) E
theorem w_Lc {wk : Bool} {mi : MA} {gg : D → List Sl → Option (List Sl)} {vs : List Nat} : Wp (oLc wk mi gg mt m vs sg S) Po E = Wp (mi sg S) (kLc wk gg mt m vs sg Po E) E := by
  unfold oLc
  rw [wp_bind]
  congr 1
  funext x
  unfold kLc
  by_cases hx : (decide (x.1.length ≤ 16777216) && (!wk || D.flatA x.1) && vs.all fun v => !isOwn sg[v]?) = true
  · rw [if_pos hx, wp_bind]
    simp only [Bool.and_eq_true, decide_eq_true_eq] at hx
    simp only [hx, true_and]
    with_unfolding_all rfl
  · rw [if_neg hx]
    simp only [Bool.and_eq_true, decide_eq_true_eq] at hx
    apply propext
    constructor
    · intro z; exact (wp_badE z).elim
    · intro ⟨z1, z2, z3, _⟩; exact absurd ⟨⟨z1, z2⟩, z3⟩ hx
theorem kLc_eq {wk : Bool} {gg : D → List Sl → Option (List Sl)} {vs : List Nat} {ds : List D} : kLc wk gg mt m vs sg Po E (ds, S) =
  (ds.length ≤ 16777216 ∧ (!wk || D.flatA ds) = true ∧ (vs.all fun v => !isOwn sg[v]?) = true ∧ Wp (lcR gg mt m (wipeS sg vs) ds S) (kLc2 Po) E) := by with_unfolding_all rfl
theorem kLc2_eq {ds : List D} : kLc2 Po (ds, S) = Po (.lst ds, S) := by with_unfolding_all rfl
/-! what is walked -/
def kIl (P : List D × List O → Prop) : D × List O → Prop := fun x => match x.1 with
  | .lst ds => P (ds, x.2)
  | _ => False
theorem w_Il : Wp (mIl m sg S) Pa E = Wp (m sg S) (kIl Pa) E := by
  unfold mIl
  rw [wp_bind]
  congr 1
  funext x
  obtain ⟨d, T⟩ := x
  cases d <;> (with_unfolding_all rfl)
theorem kIl_eq {ds : List D} : kIl Pa (.lst ds, S) = Pa (ds, S) := by with_unfolding_all rfl
def kIt (P : List D × List O → Prop) : D × List O → Prop := fun x => match x.1 with
  | .tup ds => P (ds, x.2)
  | _ => False
theorem w_It : Wp (mIt m sg S) Pa E = Wp (m sg S) (kIt Pa) E := by
  unfold mIt
  rw [wp_bind]
  congr 1
  funext x
  obtain ⟨d, T⟩ := x
  cases d <;> (with_unfolding_all rfl)
theorem kIt_eq {ds : List D} : kIt Pa (.tup ds, S) = Pa (ds, S) := by with_unfolding_all rfl
def kIr1 (P : List D × List O → Prop) : List D × List O → Prop := fun x => match one1 x.1 with
  | some j => lim62 j = true ∧ P (rngD 0 j.toNat, x.2)
  | none => False
theorem w_Ir1 : Wp (mIr1 ms sg S) Pa E = Wp (ms sg S) (kIr1 Pa) E := by
  unfold mIr1
  rw [wp_bind]
  congr 1
  funext x
  unfold kIr1
  cases one1 x.1 with
  | none => with_unfolding_all rfl
  | some j =>
    by_cases hx : lim62 j = true
    · simp [hx, wp_ok]
    · simp [hx, Wp]
theorem kIr1_eq {j : Int} : kIr1 Pa ([.int j], S) = (lim62 j = true ∧ Pa (rngD 0 j.toNat, S)) := by with_unfolding_all rfl
def kIr2 (P : List D × List O → Prop) : List D × List O → Prop := fun x => match two2 x.1 with
  | some (i, j) => (lim62 i && lim62 j) = true ∧ P (rngD i (j - i).toNat, x.2)
  | none => False
theorem w_Ir2 : Wp (mIr2 ms sg S) Pa E = Wp (ms sg S) (kIr2 Pa) E := by
  unfold mIr2
  rw [wp_bind]
  congr 1
  funext x
  unfold kIr2
  cases two2 x.1 with
  | none => with_unfolding_all rfl
  | some p =>
    obtain ⟨i, j⟩ := p
    by_cases hx : (lim62 i && lim62 j) = true
    · simp [hx, wp_ok]
    · simp [hx, Wp]
theorem kIr2_eq {i j : Int} : kIr2 Pa ([.int i, .int j], S) = ((lim62 i && lim62 j) = true ∧ Pa (rngD i (j - i).toNat, S)) := by with_unfolding_all rfl
def kIe (P : List D × List O → Prop) : List D × List O → Prop := fun x => match oneL x.1 with
  | some ds => P (enumD 0 ds, x.2)
  | none => False
theorem w_Ie : Wp (mIe ms sg S) Pa E = Wp (ms sg S) (kIe Pa) E := by
  unfold mIe
  rw [wp_bind]
  congr 1
  funext x
  unfold kIe
  cases oneL x.1 <;> (with_unfolding_all rfl)
theorem kIe_eq {ds : List D} : kIe Pa ([.lst ds], S) = Pa (enumD 0 ds, S) := by with_unfolding_all rfl
def kIeT (P : List D × List O → Prop) : List D × List O → Prop := fun x => match oneT x.1 with
  | some ds => P (enumD 0 ds, x.2)
  | none => False
theorem w_IeT : Wp (mIeT ms sg S) Pa E = Wp (ms sg S) (kIeT Pa) E := by
  unfold mIeT
  rw [wp_bind]
  congr 1
  funext x
  unfold kIeT
  cases oneT x.1 <;> (with_unfolding_all rfl)
theorem kIeT_eq {ds : List D} : kIeT Pa ([.tup ds], S) = Pa (enumD 0 ds, S) := by with_unfolding_all rfl
theorem w_Yes : Wp (mYes sg S) Pb E = Pb (true, S) := by with_unfolding_all rfl
/-! statements -/
variable {m1 m2 : MS}
def kSeq (m2 : MS) (P : Fl × List Sl × List O → Prop) (E : EP') : Fl × List Sl × List O → Prop := fun x => match x.1 with
  | .nx => Wp (m2 x.2.1 x.2.2) P E
  | f => P (f, x.2)
theorem w_Seq : Wp (mSeq m1 m2 sg S) Ps E = Wp (m1 sg S) (kSeq m2 Ps E) E := by
  unfold mSeq
  rw [wp_bind]
  congr 1
  funext x
  obtain ⟨fl, T⟩ := x
  cases fl <;> (with_unfolding_all rfl)
theorem kSeq_nx : kSeq m2 Ps E (.nx, sg, S) = Wp (m2 sg S) Ps E := by with_unfolding_all rfl
theorem kSeq_bk : kSeq m2 Ps E (.bk, sg, S) = Ps (.bk, sg, S) := by with_unfolding_all rfl
theorem kSeq_ct : kSeq m2 Ps E (.ct, sg, S) = Ps (.ct, sg, S) := by with_unfolding_all rfl
theorem kSeq_rt {d : D} : kSeq m2 Ps E (.rt d, sg, S) = Ps (.rt d, sg, S) := by with_unfolding_all rfl
theorem w_Nx : Wp (mNx sg S) Ps E = Ps (.nx, sg, S) := by with_unfolding_all rfl
theorem w_Bk : Wp (mBk sg S) Ps E = Ps (.bk, sg, S) := by with_unfolding_all rfl
theorem w_Ct : Wp (mCt sg S) Ps E = Ps (.ct, sg, S) := by with_unfolding_all rfl
theorem w_RetN : Wp (mRetN sg S) Ps E = Ps (.rt .non, sg, S) := by with_unfolding_all rfl
def kRet (sg : List Sl) (P : Fl × List Sl × List O → Prop) : D × List O → Prop := fun x => P (.rt x.1, sg, x.2)
theorem w_Ret : Wp (mRet m sg S) Ps E = Wp (m sg S) (kRet sg Ps) E := by
  unfold mRet
  rw [wp_bind]
  with_unfolding_all rfl
theorem kRet_eq {d : D} : kRet sg Ps (d, S) = Ps (.rt d, sg, S) := by with_unfolding_all rfl
def kDrop (sg : List Sl) (P : Fl × List Sl × List O → Prop) : D × List O → Prop := fun x => P (.nx, sg, x.2)
theorem w_Drop : Wp (mDrop m sg S) Ps E = Wp (m sg S) (kDrop sg Ps) E := by
  unfold mDrop
  rw [wp_bind]
  with_unfolding_all rfl
theorem kDrop_eq {d : D} : kDrop sg Ps (d, S) = Ps (.nx, sg, S) := by with_unfolding_all rfl
def kIfS (m1 m2 : MS) (sg : List Sl) (P : Fl × List Sl × List O → Prop) (E : EP') : Bool × List O → Prop := fun x => if x.1 = true then Wp (m1 sg x.2) P E else Wp (m2 sg x.2) P E
theorem w_IfS : Wp (mIfS mt m1 m2 sg S) Ps E = Wp (mt sg S) (kIfS m1 m2 sg Ps E) E := by
  unfold mIfS
  rw [wp_bind]
  congr 1
  funext x
  obtain ⟨b, T⟩ := x
  cases b <;> (with_unfolding_all rfl)
theorem kIfS_eq {b : Bool} : kIfS m1 m2 sg Ps E (b, S) = if b = true then Wp (m1 sg S) Ps E else Wp (m2 sg S) Ps E := by with_unfolding_all rfl
theorem w_Frz {i : Nat} : Wp (mFrz i m1 sg S) Ps E = Wp (m1 (frz i sg) S) Ps E := by with_unfolding_all rfl
def kSet (i : Nat) (sg : List Sl) (P : Fl × List Sl × List O → Prop) : D × List O → Prop := fun x => P (.nx, sg.set i (.val x.1), x.2)
theorem w_Set {i : Nat} : Wp (mSet i m sg S) Ps E = Wp (m sg S) (kSet i sg Ps) E := by
  unfold mSet
  rw [wp_bind]
  with_unfolding_all rfl
theorem kSet_eq {i : Nat} {d : D} : kSet i sg Ps (d, S) = Ps (.nx, sg.set i (.val d), S) := by with_unfolding_all rfl
def kSetO (i : Nat) (sg : List Sl) (P : Fl × List Sl × List O → Prop) : O × List O → Prop := fun x => i < sg.length ∧ P (.nx, sg.set i (.own x.1), x.2)
theorem w_SetO {i : Nat} : Wp (mSetO i mo sg S) Ps E = Wp (mo sg S) (kSetO i sg Ps) E := by
  unfold mSetO
  rw [wp_bind]
  congr 1
  funext x
  unfold kSetO
  by_cases hx : i < sg.length
  · simp [hx, wp_ok]
  · simp [hx, Wp]
theorem kSetO_eq {i : Nat} {o : O} : kSetO i sg Ps (o, S) = (i < sg.length ∧ Ps (.nx, sg.set i (.own o), S)) := by with_unfolding_all rfl
def kAft (i : Nat) (P : Fl × List Sl × List O → Prop) : Fl × List Sl × List O → Prop := fun x => P (x.1, frz i x.2.1, x.2.2)
theorem w_Aft {i : Nat} : Wp (mAft i m1 sg S) Ps E = Wp (m1 sg S) (kAft i Ps) E := by
  unfold mAft
  rw [wp_bind]
  with_unfolding_all rfl
theorem kAft_eq {i : Nat} {fl : Fl} : kAft i Ps (fl, sg, S) = Ps (fl, frz i sg, S) := by with_unfolding_all rfl
def kAsg2 (o : Option (List Sl)) (S : List O) (P : Fl × List Sl × List O → Prop) : Prop := match o with
  | some sg1 => P (.nx, sg1, S)
  | none => False
def kAsg (gg : D → List Sl → Option (List Sl)) (sg : List Sl) (P : Fl × List Sl × List O → Prop) : D × List O → Prop := fun x => kAsg2 (gg x.1 sg) x.2 P
theorem w_Asg {gg : D → List Sl → Option (List Sl)} : Wp (mAsg m gg sg S) Ps E = Wp (m sg S) (kAsg gg sg Ps) E := by
  unfold mAsg
  rw [wp_bind]
  congr 1
  funext x
  unfold kAsg kAsg2
  cases gg x.1 sg <;> (with_unfolding_all rfl)
theorem kAsg_eq {gg : D → List Sl → Option (List Sl)} {d : D} : kAsg gg sg Ps (d, S) = kAsg2 (gg d sg) S Ps := by with_unfolding_all rfl
theorem kAsg2_eq {sg1 : List Sl} : kAsg2 (some sg1) S Ps = Ps (.nx, sg1, S) := by with_unfolding_all rfl
def kFor (gg : D → List Sl → Option (List Sl)) (body : MS) (sg : List Sl) (P : Fl × List Sl × List O → Prop) (E : EP') : List D × List O → Prop := fun x => Wp (loopM gg body x.1 sg x.2) P E
theorem w_For {mi : MA} {gg : D → List Sl → Option (List Sl)} : Wp (mFor mi gg m1 sg S) Ps E = Wp (mi sg S) (kFor gg m1 sg Ps E) E := by
  unfold mFor kFor
  rw [wp_bind]
theorem kFor_eq {gg : D → List Sl → Option (List Sl)} {ds : List D} : kFor gg m1 sg Ps E (ds, S) = Wp (loopM gg m1 ds sg S) Ps E := by with_unfolding_all rfl
theorem w_While {n : Nat} : Wp (mWhile n mt m1 sg S) Ps E = Wp (whileM mt m1 n sg S) Ps E := by with_unfolding_all rfl
/-! a change of an object -/
def kPutO (i : Nat) (o : O) (sg : List Sl) (d : D) (P : Fl × List Sl × List O → Prop) : D × List O → Prop := fun k => match o.put k.1 d with
  | some o' => P (.nx, sg.set i (.own o'), k.2)
  | none => False
def kPutR2 (o : Option O) (n : Nat) (sg : List Sl) (d k : D) (S : List O) (P : Fl × List Sl × List O → Prop) : Prop := match o with
  | some o => match o.put k d with
    | some o' => P (.nx, sg, S.set n o')
    | none => False
  | none => False
def kPutR (n : Nat) (sg : List Sl) (d : D) (P : Fl × List Sl × List O → Prop) : D × List O → Prop := fun k => kPutR2 k.2[n]? n sg d k.1 k.2 P
def kPut2 (s : Option Sl) (i : Nat) (mk : ME) (sg : List Sl) (d : D) (S : List O) (P : Fl × List Sl × List O → Prop) (E : EP') : Prop := match s with
  | some (.own o) => Wp (mk sg S) (kPutO i o sg d P) E
  | some (.val (.ref n)) => Wp (mk sg S) (kPutR n sg d P) E
  | _ => False
def kPut (i : Nat) (mk : ME) (sg : List Sl) (P : Fl × List Sl × List O → Prop) (E : EP') : D × List O → Prop := fun x => kPut2 sg[i]? i mk sg x.1 x.2 P E
theorem w_Put {i : Nat} : Wp (mPut i ma mb sg S) Ps E = Wp (ma sg S) (kPut i mb sg Ps E) E := by
  unfold mPut
  rw [wp_bind]
  congr 1
  funext x
  unfold kPut kPut2
  cases sg[i]? with
  | none => with_unfolding_all rfl
  | some s =>
    cases s with
    | no => with_unfolding_all rfl
    | own o =>
      simp only [wp_bind]
      congr 1
      funext y
      unfold kPutO
      cases o.put y.1 x.1 <;> (with_unfolding_all rfl)
    | val d =>
      cases d <;> try (with_unfolding_all rfl)
      rename_i n
      simp only [wp_bind]
      congr 1
      funext y
      unfold kPutR kPutR2
      cases y.2[n]? with
      | none => with_unfolding_all rfl
      | some o =>
        simp only []
        cases o.put y.1 x.1 <;> (with_unfolding_all rfl)
theorem kPut_eq {i : Nat} {d : D} : kPut i mb sg Ps E (d, S) = kPut2 sg[i]? i mb sg d S Ps E := by with_unfolding_all rfl
theorem kPut2_own {i : Nat} {o : O} {d : D} : kPut2 (some (.own o)) i mb sg d S Ps E = Wp (mb sg S) (kPutO i o sg d Ps) E := by with_unfolding_all rfl
theorem kPut2_ref {i n : Nat} {d : D} : kPut2 (some (.val (.ref n))) i mb sg d S Ps E = Wp (mb sg S) (kPutR n sg d Ps) E := by with_unfolding_all rfl
theorem kPutO_eq {i : Nat} {o o' : O} {d k : D} (e : o.put k d = some o') : kPutO i o sg d Ps (k, S) = Ps (.nx, sg.set i (.own o'), S) := by
  simp [kPutO, e]
theorem kPutR_eq {n : Nat} {d k : D} : kPutR n sg d Ps (k, S) = kPutR2 S[n]? n sg d k S Ps := by with_unfolding_all rfl
theorem kPutR2_eq {n : Nat} {o o' : O} {d k : D} (e : o.put k d = some o') : kPutR2 (some o) n sg d k S Ps = Ps (.nx, sg, S.set n o') := by
  simp [kPutR2, e]
def kOwn2 (i : Nat) (fo : O → List D → Option (O × D)) (o : O) (sg : List Sl) (P : D × List Sl × List O → Prop) : List D × List O → Prop := fun x => match fo o x.1 with
  | some (o', z) => P (z, sg.set i (.own o'), x.2)
  | none => False
def kOwn (s : Option Sl) (i : Nat) (c : O → Bool) (fo : O → List D → Option (O × D)) (ms : MA) (sg : List Sl) (S : List O) (P : D × List Sl × List O → Prop) (E : EP') : Prop := match s with
  | some (.own o) => c o = true ∧ Wp (ms sg S) (kOwn2 i fo o sg P) E
  | _ => False
theorem w_Own {i : Nat} {c : O → Bool} {fo : O → List D → Option (O × D)} {Pw : D × List Sl × List O → Prop} : Wp (mOwn i c fo ms sg S) Pw E = kOwn sg[i]? i c fo ms sg S Pw E := by
  unfold mOwn kOwn
  cases sg[i]? with
  | none => with_unfolding_all rfl
  | some s =>
    cases s with
    | no => with_unfolding_all rfl
    | val d => with_unfolding_all rfl
    | own o =>
      by_cases hx : c o = true
      · simp only [hx, if_true, true_and, wp_bind]
        congr 1
        funext x
        unfold kOwn2
        cases fo o x.1 <;> (with_unfolding_all rfl)
      · simp [hx, Wp]
def kOwnE (P : Fl × List Sl × List O → Prop) : D × List Sl × List O → Prop := fun x => P (.nx, x.2)
def kOwnS (j : Nat) (P : Fl × List Sl × List O → Prop) : D × List Sl × List O → Prop := fun x => P (.nx, x.2.1.set j (.val x.1), x.2.2)
theorem w_OwnE {i : Nat} {c : O → Bool} {fo : O → List D → Option (O × D)} : Wp (mOwnE i c fo ms sg S) Ps E = kOwn sg[i]? i c fo ms sg S (kOwnE Ps) E := by
  unfold mOwnE
  rw [wp_bind, ← w_Own]
  with_unfolding_all rfl
theorem w_OwnS {i j : Nat} {c : O → Bool} {fo : O → List D → Option (O × D)} : Wp (mOwnS i j c fo ms sg S) Ps E = kOwn sg[i]? i c fo ms sg S (kOwnS j Ps) E := by
  unfold mOwnS
  rw [wp_bind, ← w_Own]
  with_unfolding_all rfl
theorem kOwn_eq {i : Nat} {c : O → Bool} {fo : O → List D → Option (O × D)} {o : O} {Pw : D × List Sl × List O → Prop} : kOwn (some (.own o)) i c fo ms sg S Pw E = (c o = true ∧ Wp (ms sg S) (kOwn2 i fo o sg Pw) E) := by with_unfolding_all rfl
theorem kOwn2_eq {i : Nat} {fo : O → List D → Option (O × D)} {o o' : O} {ds : List D} {z : D} {Pw : D × List Sl × List O → Prop} (e : fo o ds = some (o', z)) : kOwn2 i fo o sg Pw (ds, S) = Pw (z, sg.set i (.own o'), S) := by
  simp [kOwn2, e]
theorem kOwnE_eq {d : D} : kOwnE Ps (d, sg, S) = Ps (.nx, sg, S) := by with_unfolding_all rfl
theorem kOwnS_eq {j : Nat} {d : D} : kOwnS j Ps (d, sg, S) = Ps (.nx, sg.set j (.val d), S) := by with_unfolding_all rfl
/-! defs -/
def kFn (P : D × List O → Prop) : Fl × List Sl × List O → Prop := fun x => match x.1 with
  | .nx => P (.non, x.2.2)
  | .rt d => P (d, x.2.2)
  | _ => False
theorem w_Fn {N : List Str} {ds : List D} : Wp (fnF N m1 ds S) P E = Wp (m1 (startS N ds) S) (kFn P) E := by
  unfold fnF
  cases m1 (startS N ds) S with
  | ok x =>
    obtain ⟨fl, sg', S'⟩ := x
    cases fl <;> (with_unfolding_all rfl)
  | ex => with_unfolding_all rfl
  | bad => with_unfolding_all rfl
theorem kFn_nx : kFn P (.nx, sg, S) = P (.non, S) := by with_unfolding_all rfl
theorem kFn_rt {d : D} : kFn P (.rt d, sg, S) = P (d, S) := by with_unfolding_all rfl
/-! ### loops -/
def kLoop (J : List Sl → List O → Prop) (P : Fl × List Sl × List O → Prop) : Fl × List Sl × List O → Prop := fun x => match x.1 with
  | .nx => J x.2.1 x.2.2
  | .ct => J x.2.1 x.2.2
  | .bk => P (.nx, x.2)
  | .rt v => P (.rt v, x.2)
variable {J : List Sl → List O → Prop}
theorem kLoop_nx : kLoop J Ps (.nx, sg, S) = J sg S := by with_unfolding_all rfl
theorem kLoop_ct : kLoop J Ps (.ct, sg, S) = J sg S := by with_unfolding_all rfl
theorem kLoop_bk : kLoop J Ps (.bk, sg, S) = Ps (.nx, sg, S) := by with_unfolding_all rfl
theorem kLoop_rt {d : D} : kLoop J Ps (.rt d, sg, S) = Ps (.rt d, sg, S) := by with_unfolding_all rfl
theorem loopAux {gg : D → List Sl → Option (List Sl)} {body : MS} {P : Fl × List Sl × List O → Prop} {E : EP'} (Inv : Nat → List Sl → List O → Prop) : ∀ {ds : List D} {k : Nat} {sg : List Sl} {S : List O}, Inv k sg S →
    (∀ i d sg S, ds[i]? = some d → Inv (k + i) sg S → ∃ sg1, gg d sg = some sg1 ∧ Wp (body sg1 S) (kLoop (Inv (k + i + 1)) P) E) →
    (∀ sg S, Inv (k + ds.length) sg S → P (.nx, sg, S)) → Wp (loopM gg body ds sg S) P E
  | [], k, sg, S, h0, _, h2 => wp_okI (h2 sg S h0)
  | d :: ds, k, sg, S, h0, h1, h2 => by
    obtain ⟨sg1, e, q⟩ := h1 0 d sg S rfl h0
    unfold loopM
    simp only [e]
    rw [wp_bind]
    refine q.imp fun x hx => ?_
    obtain ⟨fl, sg2, S2⟩ := x
    have go : Inv (k + 1) sg2 S2 → Wp (loopM gg body ds sg2 S2) P E := fun hi => by
      refine loopAux Inv (k := k + 1) hi (fun i d sg S hd hk => ?_) (fun sg S hk => h2 sg S ?_)
      · have := h1 (i + 1) d sg S (by simpa using hd) (by rw [show k + (i + 1) = k + 1 + i by omega]; exact hk)
        rw [show k + (i + 1) + 1 = k + 1 + i + 1 by omega] at this
        exact this
      · rw [List.length_cons, show k + (ds.length + 1) = k + 1 + ds.length by omega]; exact hk
    cases fl with
    | nx => exact go hx
    | ct => exact go hx
    | bk => exact wp_okI hx
    | rt v => exact wp_okI hx
theorem Wp.loop {gg : D → List Sl → Option (List Sl)} {body : MS} {P : Fl × List Sl × List O → Prop} {E : EP'} (Inv : Nat → List Sl → List O → Prop) {ds : List D} {sg : List Sl} {S : List O} (h0 : Inv 0 sg S)
    (h1 : ∀ i d sg S, ds[i]? = some d → Inv i sg S → ∃ sg1, gg d sg = some sg1 ∧ Wp (body sg1 S) (kLoop (Inv (i + 1)) P) E)
    (h2 : ∀ sg S, Inv ds.length sg S → P (.nx, sg, S)) : Wp (loopM gg body ds sg S) P E :=
  loopAux Inv (k := 0) h0 (fun i d sg S hd hk => by rw [Nat.zero_add] at hk ⊢; exact h1 i d sg S hd hk) (fun sg S hk => h2 sg S (by rw [Nat.zero_add] at hk; exact hk))
theorem gNm_ok {i : Nat} {d : D} {sg : List Sl} (h : isOwn sg[i]? = false) : gNm i d sg = some (sg.set i (.val d)) := by
  unfold gNm
  rw [if_neg (by rw [h]; decide)]
def kWh (J : List Sl → List O → Prop) (P : Fl × List Sl × List O → Prop) : Fl × List Sl × List O → Prop := kLoop J P
/-- while: at most n turns are left -/
theorem Wp.wh {mt : MT} {body : MS} {P : Fl × List Sl × List O → Prop} {E : EP'} (Inv : Nat → List Sl → List O → Prop)
    (h1 : ∀ n sg S, Inv n sg S → Wp (mt sg S) (fun t => if t.1 = true then 0 < n ∧ Wp (body sg t.2) (kLoop (fun sg S => ∃ m, m < n ∧ Inv m sg S) P) E else P (.nx, sg, t.2)) E) : ∀ {N n : Nat} {sg : List Sl} {S : List O}, Inv n sg S → n < N → Wp (whileM mt body N sg S) P E
  | 0, n, sg, S, _, hn => absurd hn (by omega)
  | N + 1, n, sg, S, h0, hn => by
    unfold whileM
    rw [wp_bind]
    refine (h1 n sg S h0).imp fun t ht => ?_
    split
    · rename_i ct
      rw [if_pos ct] at ht
      rw [wp_bind]
      refine ht.2.imp fun x hx => ?_
      obtain ⟨fl, sg2, S2⟩ := x
      cases fl with
      | nx => obtain ⟨m, hm, hi⟩ := hx; exact Wp.wh Inv h1 hi (by omega)
      | ct => obtain ⟨m, hm, hi⟩ := hx; exact Wp.wh Inv h1 hi (by omega)
      | bk => exact wp_okI hx
      | rt v => exact wp_okI hx
    · rename_i ct
      rw [if_neg ct] at ht
      exact wp_okI ht
theorem lcAux {gg : D → List Sl → Option (List Sl)} {mt : MT} {me : ME} {P : List D × List O → Prop} {sg : List Sl} {E : EP'} (Inv : Nat → List D → List O → Prop) : ∀ {ds : List D} {k : Nat} {acc : List D} {S : List O}, Inv k acc S →
    (∀ i d acc S, ds[i]? = some d → Inv (k + i) acc S → ∃ sg1, gg d sg = some sg1 ∧ Wp (mt sg1 S) (fun t => if t.1 = true then Wp (me sg1 t.2) (fun x => Inv (k + i + 1) (acc ++ [x.1]) x.2) noE else Inv (k + i + 1) acc t.2) noE) →
    (∀ acc' S, Inv (k + ds.length) acc' S → P (acc', S)) → Wp (lcR gg mt me sg ds S) (fun y => P (acc ++ y.1, y.2)) E
  | [], k, acc, S, h0, _, h2 => by
    refine wp_okI ?_
    rw [List.append_nil]
    exact h2 acc S h0
  | d :: ds, k, acc, S, h0, h1, h2 => by
    obtain ⟨sg1, e, q⟩ := h1 0 d acc S rfl h0
    unfold lcR
    simp only [e]
    have step : ∀ {acc' : List D} {S' : List O}, Inv (k + 1) acc' S' → Wp (lcR gg mt me sg ds S') (fun y => P (acc' ++ y.1, y.2)) E := fun hi => by
      refine lcAux Inv (k := k + 1) hi (fun i d acc S hd hk => ?_) (fun acc' S hk => h2 acc' S ?_)
      · have := h1 (i + 1) d acc S (by simpa using hd) (by rw [show k + (i + 1) = k + 1 + i by omega]; exact hk)
        rw [show k + (i + 1) + 1 = k + 1 + i + 1 by omega] at this
        exact this
      · rw [List.length_cons, show k + (ds.length + 1) = k + 1 + ds.length by omega]; exact hk
    cases et : mt sg1 S with
    | ex => rw [et] at q; exact (wp_exE q).elim
    | bad => rw [et] at q; exact (wp_badE q).elim
    | ok t =>
      obtain ⟨b, S1⟩ := t
      rw [et] at q
      cases b with
      | false =>
        have q0 := wp_okE q
        have q' : Inv (k + 0 + 1) acc S1 := by simpa using q0
        exact step q'
      | true =>
        have q0 := wp_okE q
        have q' : Wp (me sg1 S1) (fun x => Inv (k + 0 + 1) (acc ++ [x.1]) x.2) noE := by simpa using q0
        simp only []
        cases ee : me sg1 S1 with
        | ex => rw [ee] at q'; exact (wp_exE q').elim
        | bad => rw [ee] at q'; exact (wp_badE q').elim
        | ok x =>
          obtain ⟨v, S2⟩ := x
          rw [ee] at q'
          simp only []
          rw [wp_bind]
          have q3 := wp_okE q'
          have q2 : Inv (k + 1) (acc ++ [v]) S2 := q3
          have r := step q2
          refine r.imp fun y hy => ?_
          refine wp_okI ?_
          rw [List.append_assoc] at hy
          exact hy
theorem Wp.lc {gg : D → List Sl → Option (List Sl)} {mt : MT} {me : ME} {P : List D × List O → Prop} {sg : List Sl} {E : EP'} (Inv : Nat → List D → List O → Prop) {ds : List D} {S : List O} (h0 : Inv 0 [] S)
    (h1 : ∀ i d acc S, ds[i]? = some d → Inv i acc S → ∃ sg1, gg d sg = some sg1 ∧ Wp (mt sg1 S) (fun t => if t.1 = true then Wp (me sg1 t.2) (fun x => Inv (i + 1) (acc ++ [x.1]) x.2) noE else Inv (i + 1) acc t.2) noE)
    (h2 : ∀ acc S, Inv ds.length acc S → P (acc, S)) : Wp (lcR gg mt me sg ds S) P E :=
  lcAux Inv (k := 0) (acc := []) h0 (fun i d acc S hd hk => by rw [Nat.zero_add] at hk ⊢; exact h1 i d acc S hd hk) (fun acc S hk => h2 acc S (by rw [Nat.zero_add] at hk; exact hk))
/-- a comprehension that changes nothing: as a list -/
theorem lc_pure {gg : D → List Sl → Option (List Sl)} {mt : MT} {me : ME} {sg : List Sl} {S : List O} {α : Type} {en : α → D} {p : α → Bool} {f : α → D} : ∀ {xs : List α},
    (∀ x, x ∈ xs → ∃ sg1, gg (en x) sg = some sg1 ∧ mt sg1 S = .ok (p x, S) ∧ (p x = true → me sg1 S = .ok (f x, S))) → lcR gg mt me sg (xs.map en) S = .ok ((xs.filter p).map f, S)
  | [], _ => rfl
  | x :: xs, h => by
    obtain ⟨sg1, e1, e2, e3⟩ := h x List.mem_cons_self
    have ih := lc_pure (xs := xs) fun y hy => h y (List.mem_cons_of_mem _ hy)
    rw [List.map_cons, lcR]
    simp only [e1, e2]
    cases hp : p x with
    | true =>
      simp only [e3 hp, ih, List.filter_cons, hp, if_true, List.map_cons]
      rfl
    | false =>
      simp only [ih, List.filter_cons, hp]
      rfl
end
end D2

namespace D2
open PySem PySem.Spec PyProof.Rows L2

/-! ### values of operators -/
section
variable {P : D × List O → Prop} {S : List O}
theorem o_addI {i j : Int} : kO (D.add (.int i) (.int j)) S P = P (.int (i + j), S) := by with_unfolding_all rfl
theorem ok_ite {c : Prop} [Decidable c] {d : D} : kO (if c then some d else none) S P = (c ∧ P (d, S)) := by
  by_cases h : c
  · simp [h, kO]
  · simp [h, kO]
theorem o_addS {x y : Str} : kO (D.add (.str x) (.str y)) S P = (x.length + y.length ≤ 16777216 ∧ P (.str (x ++ y), S)) := ok_ite
theorem o_addT {x y : List D} : kO (D.add (.tup x) (.tup y)) S P = (x.length + y.length ≤ 16777216 ∧ P (.tup (x ++ y), S)) := ok_ite
theorem o_addL {x y : List D} : kO (D.add (.lst x) (.lst y)) S P = (x.length + y.length ≤ 16777216 ∧ P (.lst (x ++ y), S)) := ok_ite
theorem o_sub {i j : Int} : kO (D.sub (.int i) (.int j)) S P = P (.int (i - j), S) := by with_unfolding_all rfl
theorem o_iop {C : Int → Int → Bool} {g : Int → Int → Int} {i j : Int} : kO (D.iop C g (.int i) (.int j)) S P = (C i j = true ∧ P (.int (g i j), S)) := ok_ite
theorem o_fdiv {i j : Int} : kO (D.fdiv (.int i) (.int j)) S P = ((0 < j ∧ j < 1073741824) ∧ P (.int (i / j), S)) := by
  rw [o_iop, decide_eq_true_eq]
theorem o_mod {i j : Int} : kO (D.mod (.int i) (.int j)) S P = (0 < j ∧ P (.int (i % j), S)) := by
  rw [o_iop, decide_eq_true_eq]
theorem o_pow {i j : Int} : kO (D.powI (.int i) (.int j)) S P = ((0 ≤ j ∧ j ≤ 1000000 ∧ -18446744073709551616 < i ∧ i < 18446744073709551616) ∧ P (.int (i ^ j.toNat), S)) := by
  rw [o_iop, decide_eq_true_eq, show (i.natAbs < 18446744073709551616) = (-18446744073709551616 < i ∧ i < 18446744073709551616) from propext (by omega)]
theorem o_shl {i j : Int} : kO (D.shl (.int i) (.int j)) S P = ((0 ≤ j ∧ j ≤ 1000000 ∧ -18446744073709551616 < i ∧ i < 18446744073709551616) ∧ P (.int (i * 2 ^ j.toNat), S)) := by
  rw [o_iop, decide_eq_true_eq, show (i.natAbs < 18446744073709551616) = (-18446744073709551616 < i ∧ i < 18446744073709551616) from propext (by omega)]
theorem o_shr {i j : Int} : kO (D.shr (.int i) (.int j)) S P = (0 ≤ j ∧ P (.int (i / 2 ^ j.toNat), S)) := by
  rw [o_iop, decide_eq_true_eq]
theorem o_and {i j : Int} : kO (D.and (.int i) (.int j)) S P = P (.int (Builtin.bitAnd i j), S) := by with_unfolding_all rfl
theorem o_or {i j : Int} : kO (D.or (.int i) (.int j)) S P = P (.int (Builtin.bitOr i j), S) := by with_unfolding_all rfl
theorem o_mul {i j : Int} : kO (D.mul (.int i) (.int j)) S P = (((-18446744073709551616 < i ∧ i < 18446744073709551616) ∨ (-18446744073709551616 < j ∧ j < 18446744073709551616)) ∧ P (.int (i * j), S)) := by
  unfold D.mul
  rw [ok_ite, decide_eq_true_eq]
theorem o_lt {i j : Int} : kO (D.lt (.int i) (.int j)) S P = P (.bl (decide (i < j)), S) := by with_unfolding_all rfl
theorem o_le {i j : Int} : kO (D.le (.int i) (.int j)) S P = P (.bl (decide (i ≤ j)), S) := by with_unfolding_all rfl
theorem o_gt {i j : Int} : kO (D.gt (.int i) (.int j)) S P = P (.bl (decide (j < i)), S) := by with_unfolding_all rfl
theorem o_ge {i j : Int} : kO (D.ge (.int i) (.int j)) S P = P (.bl (decide (j ≤ i)), S) := by with_unfolding_all rfl
theorem lt_eq {i j : Int} : D.lt (.int i) (.int j) = some (.bl (decide (i < j))) := by with_unfolding_all rfl
theorem le_eq {i j : Int} : D.le (.int i) (.int j) = some (.bl (decide (i ≤ j))) := by with_unfolding_all rfl
theorem gt_eq {i j : Int} : D.gt (.int i) (.int j) = some (.bl (decide (j < i))) := by with_unfolding_all rfl
theorem ge_eq {i j : Int} : D.ge (.int i) (.int j) = some (.bl (decide (j ≤ i))) := by with_unfolding_all rfl
theorem o_neg {i : Int} : kO (D.neg (.int i)) S P = P (.int (-i), S) := by with_unfolding_all rfl
theorem o_nob {b : Bool} : kO (D.nob (.bl b)) S P = P (.bl (!b), S) := by with_unfolding_all rfl
theorem eqv_int {i j : Int} : D.eqv (.int i) (.int j) = decide (i = j) := by
  simp only [D.eqv, D.pd, PyData.eqv]
  try rfl
theorem eqv_str {i j : Str} : D.eqv (.str i) (.str j) = decide (i = j) := by
  simp only [D.eqv, D.pd, PyData.eqv]
  try rfl
theorem eqv_bl {i j : Bool} : D.eqv (.bl i) (.bl j) = decide (i = j) := by
  simp only [D.eqv, D.pd, PyData.eqv]
  try rfl
theorem o_eqG {x y : D} : kO (D.eqo x y) S P = (x.okq 50 = true ∧ y.okq 50 = true ∧ P (.bl (D.eqv x y), S)) := by
  unfold D.eqo
  by_cases h : x.okq 50 = true
  · rw [if_pos h, ok_ite]
    simp [h]
  · simp [h, kO]
theorem o_neG {x y : D} : kO (D.neo x y) S P = (x.okq 50 = true ∧ y.okq 50 = true ∧ P (.bl (!D.eqv x y), S)) := by
  unfold D.neo
  by_cases h : x.okq 50 = true
  · rw [if_pos h, ok_ite]
    simp [h]
  · simp [h, kO]
theorem o_eqI {i j : Int} : kO (D.eqo (.int i) (.int j)) S P = P (.bl (decide (i = j)), S) := by
  rw [o_eqG, eqv_int]
  simp [D.okq]
theorem o_eqS {i j : Str} : kO (D.eqo (.str i) (.str j)) S P = P (.bl (decide (i = j)), S) := by
  rw [o_eqG, eqv_str]
  simp [D.okq]
theorem o_neI {i j : Int} : kO (D.neo (.int i) (.int j)) S P = P (.bl (!decide (i = j)), S) := by
  rw [o_neG, eqv_int]
  simp [D.okq]
theorem o_neS {i j : Str} : kO (D.neo (.str i) (.str j)) S P = P (.bl (!decide (i = j)), S) := by
  rw [o_neG, eqv_str]
  simp [D.okq]
theorem eqo_int {i j : Int} : D.eqo (.int i) (.int j) = some (.bl (decide (i = j))) := by
  simp [D.eqo, D.okq, eqv_int]
/-! parts -/
theorem ixS_tup {ds : List D} {i : Int} : ixS S (.tup ds) (.int i) = atI ds i := by with_unfolding_all rfl
theorem ixS_lst {ds : List D} {i : Int} : ixS S (.lst ds) (.int i) = atI ds i := by with_unfolding_all rfl
theorem ixS_dic {ks : List Key} {ds : List D} {y : D} : ixS S (.dic ks ds) y = D.ixo (.dic ks ds) y := by with_unfolding_all rfl
theorem ixS_ref0 {o : O} {y : D} : ixS (o :: S) (.ref 0) y = D.ixo o.toD y := by with_unfolding_all rfl
theorem ixS_ref1 {o p : O} {y : D} : ixS (o :: p :: S) (.ref 1) y = D.ixo p.toD y := by with_unfolding_all rfl
theorem ixo_tup {ds : List D} {i : Int} : D.ixo (.tup ds) (.int i) = atI ds i := by with_unfolding_all rfl
theorem ixo_lst {ds : List D} {i : Int} : D.ixo (.lst ds) (.int i) = atI ds i := by with_unfolding_all rfl
theorem ixo_dicI {ks : List Key} {ds : List D} {i : Int} : D.ixo (.dic ks ds) (.int i) = dicGet ks ds (.inl i) := by with_unfolding_all rfl
theorem ixo_dicS {ks : List Key} {ds : List D} {x : Str} : D.ixo (.dic ks ds) (.str x) = dicGet ks ds (.inr x) := by with_unfolding_all rfl
variable {α : Type} {x0 x1 x2 x3 x4 x5 x6 x7 x8 x9 : α} {xs : List α}
theorem atI_0 : atI (x0 :: xs) 0 = some x0 := atI_nat (j := 0) rfl
theorem atI_1 : atI (x0 :: x1 :: xs) 1 = some x1 := atI_nat (j := 1) rfl
theorem atI_2 : atI (x0 :: x1 :: x2 :: xs) 2 = some x2 := atI_nat (j := 2) rfl
theorem atI_3 : atI (x0 :: x1 :: x2 :: x3 :: xs) 3 = some x3 := atI_nat (j := 3) rfl
theorem atI_4 : atI (x0 :: x1 :: x2 :: x3 :: x4 :: xs) 4 = some x4 := atI_nat (j := 4) rfl
theorem atI_5 : atI (x0 :: x1 :: x2 :: x3 :: x4 :: x5 :: xs) 5 = some x5 := atI_nat (j := 5) rfl
theorem atI_6 : atI (x0 :: x1 :: x2 :: x3 :: x4 :: x5 :: x6 :: xs) 6 = some x6 := atI_nat (j := 6) rfl
theorem atI_7 : atI (x0 :: x1 :: x2 :: x3 :: x4 :: x5 :: x6 :: x7 :: xs) 7 = some x7 := atI_nat (j := 7) rfl
theorem atI_8 : atI (x0 :: x1 :: x2 :: x3 :: x4 :: x5 :: x6 :: x7 :: x8 :: xs) 8 = some x8 := atI_nat (j := 8) rfl
/-! places written -/
section
variable {Ps : Fl × List Sl × List O → Prop} {sg : List Sl} {d y0 y1 y2 y3 : D} {ys : List D} {n : Nat} {i : Nat}
theorem put_at {ds : List D} {j : Nat} {d : D} (h : j < ds.length) : O.put (.lst ds) (.int (j : Int)) d = some (.lst (ds.set j d)) := by
  unfold O.put
  have e : ixN ds.length (j : Int) = some j := by
    unfold ixN
    rw [if_pos (by omega), if_pos (by omega)]
    simp
  simp [e]
theorem pr_0 : kPutR2 (some (.lst (y0 :: ys))) n sg d (.int 0) S Ps = Ps (.nx, sg, S.set n (.lst (d :: ys))) := kPutR2_eq (put_at (j := 0) (by simp))
theorem pr_1 : kPutR2 (some (.lst (y0 :: y1 :: ys))) n sg d (.int 1) S Ps = Ps (.nx, sg, S.set n (.lst (y0 :: d :: ys))) := kPutR2_eq (put_at (j := 1) (by simp))
theorem pr_2 : kPutR2 (some (.lst (y0 :: y1 :: y2 :: ys))) n sg d (.int 2) S Ps = Ps (.nx, sg, S.set n (.lst (y0 :: y1 :: d :: ys))) := kPutR2_eq (put_at (j := 2) (by simp))
theorem pr_3 : kPutR2 (some (.lst (y0 :: y1 :: y2 :: y3 :: ys))) n sg d (.int 3) S Ps = Ps (.nx, sg, S.set n (.lst (y0 :: y1 :: y2 :: d :: ys))) := kPutR2_eq (put_at (j := 3) (by simp))
/-- a dict that a name owns -/
theorem po_dicI {ks : List Key} {ds : List D} {k : Int} : kPutO i (.dic ks ds) sg d Ps (.int k, S) = (ks.length < 16777216 ∧ Ps (.nx, sg.set i (.own (.dic (dicPut ks ds (.inl k) d).1 (dicPut ks ds (.inl k) d).2)), S)) := by
  unfold kPutO O.put
  simp only [D.key?]
  by_cases h : ks.length < 16777216
  · simp [h]
  · simp [h]
theorem po_dicS {ks : List Key} {ds : List D} {k : Str} : kPutO i (.dic ks ds) sg d Ps (.str k, S) = (ks.length < 16777216 ∧ Ps (.nx, sg.set i (.own (.dic (dicPut ks ds (.inr k) d).1 (dicPut ks ds (.inr k) d).2)), S)) := by
  unfold kPutO O.put
  simp only [D.key?]
  by_cases h : ks.length < 16777216
  · simp [h]
  · simp [h]
theorem po_lst {ds : List D} {j : Nat} (h : j < ds.length) : kPutO i (.lst ds) sg d Ps (.int (j : Int), S) = Ps (.nx, sg.set i (.own (.lst (ds.set j d))), S) := kPutO_eq (put_at h)
/-- a list that a name owns -/
theorem app_eq {ds : List D} {Pw : D × List Sl × List O → Prop} : kOwn2 i O.append (.lst ds) sg Pw ([d], S) = (ds.length < 16777216 ∧ Pw (.non, sg.set i (.own (.lst (ds ++ [d]))), S)) := by
  unfold kOwn2 O.append
  by_cases h : ds.length < 16777216
  · simp [h]
  · simp [h]
theorem ext_eq {ds es : List D} {Pw : D × List Sl × List O → Prop} : kOwn2 i O.extend (.lst ds) sg Pw ([.lst es], S) = (ds.length + es.length ≤ 16777216 ∧ Pw (.non, sg.set i (.own (.lst (ds ++ es))), S)) := by
  unfold kOwn2 O.extend
  by_cases h : ds.length + es.length ≤ 16777216
  · simp [h]
  · simp [h]
theorem isL_eq {ds : List D} : O.isL (.lst ds) = true := rfl
theorem isD_eq {ks : List Key} {ds : List D} : O.isD (.dic ks ds) = true := rfl
theorem DisL_eq {ds : List D} : D.isL (.lst ds) = true := rfl
end
/-! built-ins -/
theorem o_lenL {ds : List D} : kO (D.len (.lst ds)) S P = P (.int (ds.length : Int), S) := by with_unfolding_all rfl
theorem o_lenT {ds : List D} : kO (D.len (.tup ds)) S P = P (.int (ds.length : Int), S) := by with_unfolding_all rfl
theorem o_lenD {ks : List Key} {ds : List D} : kO (D.len (.dic ks ds)) S P = P (.int (ks.length : Int), S) := by with_unfolding_all rfl
theorem o_lenS {x : Str} : kO (D.len (.str x)) S P = (x.length ≤ 16777216 ∧ P (.int (x.length : Int), S)) := ok_ite
theorem o_toI {i : Int} : kO (D.toInt (.int i)) S P = P (.int i, S) := by with_unfolding_all rfl
theorem o_abs {i : Int} : kO (D.abs (.int i)) S P = P (.int (if i < 0 then -i else i), S) := by with_unfolding_all rfl
theorem o_strI {i : Int} : kO (D.toStrI (.int i)) S P = (i.natAbs.log2 < 1920 ∧ P (.str (Str.ofString (toString i)), S)) := ok_ite
theorem o_max2 {i j : Int} : kO (D.max2 (.int i) (.int j)) S P = P (.int (if j > i then j else i), S) := by with_unfolding_all rfl
theorem o_min2 {i j : Int} : kO (D.min2 (.int i) (.int j)) S P = P (.int (if j < i then j else i), S) := by with_unfolding_all rfl
theorem o_toT {ds : List D} : kO (D.toTup (.lst ds)) S P = P (.tup ds, S) := by with_unfolding_all rfl
theorem o_toTT {ds : List D} : kO (D.toTup (.tup ds)) S P = P (.tup ds, S) := by with_unfolding_all rfl
theorem o_toL {ds : List D} : kO (D.toLst (.lst ds)) S P = P (.lst ds, S) := by with_unfolding_all rfl
theorem o_toLT {ds : List D} : kO (D.toLst (.tup ds)) S P = P (.lst ds, S) := by with_unfolding_all rfl
theorem o_intsL {f : List Int → Option D} {ds : List D} {ns : List Int} (h : D.ints ds = some ns) : kO (D.intsL f (.lst ds)) S P = kO (f ns) S P := by
  simp only [D.intsL, h]
theorem o_sloT {lo hi : Option Int} {ds : List D} : kO (D.slo lo hi (.tup ds)) S P = P (.tup (D2.cutD ds lo hi), S) := by with_unfolding_all rfl
theorem o_sloL {lo hi : Option Int} {ds : List D} : kO (D.slo lo hi (.lst ds)) S P = P (.lst (D2.cutD ds lo hi), S) := by with_unfolding_all rfl
theorem o_sloS {lo hi : Option Int} {x : Str} : kO (D.slo lo hi (.str x)) S P = (x.length ≤ 16777216 ∧ P (.str (L2.cutS x lo hi), S)) := ok_ite
/-! targets -/
theorem g_Nm {i : Nat} {d : D} {sg : List Sl} : gNm i d sg = if isOwn sg[i]? = true then none else some (sg.set i (.val d)) := rfl
theorem g_Tu {n : Nat} {gs : List D → List Sl → Option (List Sl)} {ds : List D} {sg : List Sl} : gTu n gs (.tup ds) sg = if ds.length = n then gs ds sg else none := rfl
theorem g_Cons {g : D → List Sl → Option (List Sl)} {gs : List D → List Sl → Option (List Sl)} {d : D} {ds : List D} {sg : List Sl} : gsCons g gs (d :: ds) sg = (g d sg).bind fun sg1 => gs ds sg1 := rfl
theorem g_Nil {sg : List Sl} : gsNil [] sg = some sg := rfl
theorem own_val {d : D} : isOwn (some (.val d)) = false := rfl
theorem own_no : isOwn (some .no) = false := rfl
theorem frz_own {i : Nat} {sg : List Sl} {o : O} (h : sg[i]? = some (.own o)) : frz i sg = sg.set i (.val o.toD) := by
  simp [frz, h]
/-! dicts of unlike keys -/
theorem merge_app : ∀ (ps : List (Key × D)) (ks : List Key) (ds : List D), ks.length = ds.length → (ks ++ ps.map (·.1)).Nodup → dicMerge ps ks ds = (ks ++ ps.map (·.1), ds ++ ps.map (·.2))
  | [], ks, ds, _, _ => by simp [dicMerge]
  | (k, d) :: ps, ks, ds, hl, h => by
    have hk : (ks.any fun j => decide (j = k)) = false := by
      rw [List.any_eq_false]
      intro j hj e
      have e' : j = k := of_decide_eq_true e
      subst e'
      rw [List.nodup_append] at h
      exact h.2.2 j hj j (by simp) rfl
    have ep : dicPut ks ds k d = (ks ++ [k], ds ++ [d]) := by
      unfold dicPut
      rw [hk]
      rfl
    rw [dicMerge, ep]
    rw [merge_app ps (ks ++ [k]) (ds ++ [d]) (by simp [hl]) (by simpa using h)]
    simp
theorem merge_new {ps : List (Key × D)} (h : (ps.map (·.1)).Nodup) : dicMerge ps [] [] = (ps.map (·.1), ps.map (·.2)) := by
  have := merge_app ps [] [] rfl (by simpa using h)
  simpa using this
theorem dGet_cons {k j : Key} {ks : List Key} {d : D} {ds : List D} : dicGet (k :: ks) (d :: ds) j = if k = j then some d else dicGet ks ds j := rfl
theorem dGet_nil {j : Key} {ds : List D} : dicGet [] ds j = none := rfl
theorem dGet2_S {ks : List Key} {ds : List D} {x : Str} {z : D} : dGet2 (.dic ks ds) (.str x) z = some ((dicGet ks ds (.inr x)).getD z) := rfl
theorem dGet2_I {ks : List Key} {ds : List D} {x : Int} {z : D} : dGet2 (.dic ks ds) (.int x) z = some ((dicGet ks ds (.inl x)).getD z) := rfl
theorem idxD_str (f : Str) : ∀ l : List Str, idxD (.str f) (l.map D.str) = idxS f l
  | [] => rfl
  | y :: ys => by
    rw [List.map_cons, idxD, idxS, eqv_str, idxD_str f ys]
    by_cases h : y = f
    · simp [h]
    · simp [h]
theorem flat_strs : ∀ l : List Str, (l.map D.str).all flatD = true
  | [] => rfl
  | y :: ys => by
    rw [List.map_cons, List.all_cons, flat_strs ys]
    rfl
theorem index_str {f : Str} {l : List Str} {k : Nat} (h : idxS f l = some k) : D.index (.lst (l.map D.str)) [.str f] = some (.int (k : Int)) := by
  unfold D.index
  simp only [flat_strs, idxD_str, h]
  rfl
theorem cut_lo {ds : List D} {k : Nat} (h : k ≤ ds.length) : D2.cutD ds none (some (k : Int)) = ds.take k := by
  unfold D2.cutD HT.sIx
  simp only []
  rw [if_neg (by omega)]
  rw [Int.toNat_natCast, Nat.min_eq_left h]
  simp
theorem cut_hi {ds : List D} {k : Nat} (h : k ≤ ds.length) : D2.cutD ds (some (k : Int)) none = ds.drop k := by
  unfold D2.cutD HT.sIx
  simp only []
  rw [if_neg (by omega)]
  rw [Int.toNat_natCast, Nat.min_eq_left h]
  rw [List.take_of_length_le (by rw [List.length_drop]; exact Nat.le_refl _)]
theorem okqA_ints (n : Nat) : ∀ ns : List Int, D.okqA (ns.map D.int) n = true
  | [] => rfl
  | x :: ns => by
    rw [List.map_cons, D.okqA, okqA_ints n ns]
    cases n <;> rfl
theorem okqA_bls (n : Nat) : ∀ ns : List Bool, D.okqA (ns.map D.bl) n = true
  | [] => rfl
  | x :: ns => by
    rw [List.map_cons, D.okqA, okqA_bls n ns]
    cases n <;> rfl
/-! equal data -/
mutual
theorem eqv_refl : ∀ (d : D), D.eqv d d = true
  | .non => by simp [D.eqv, D.pd, PyData.eqv]
  | .bl b => by simp [D.eqv, D.pd, PyData.eqv]
  | .int b => by simp [D.eqv, D.pd, PyData.eqv]
  | .str b => by simp [D.eqv, D.pd, PyData.eqv]
  | .tup ds => by
    have := eqvA_refl ds
    simp only [D.eqv, D.pd, PyData.eqv]
    exact this
  | .lst ds => by
    have := eqvA_refl ds
    simp only [D.eqv, D.pd, PyData.eqv]
    exact this
  | .dic _ _ => by simp [D.eqv, D.pd, PyData.eqv]
  | .rng _ _ => by simp [D.eqv, D.pd, PyData.eqv]
  | .xd _ _ => by simp [D.eqv, D.pd, PyData.eqv]
  | .ref _ => by simp [D.eqv, D.pd, PyData.eqv]
  | .fn _ _ => by simp [D.eqv, D.pd, PyData.eqv]
theorem eqvA_refl : ∀ (ds : List D), PyData.eqvAll (D.pdA ds) (D.pdA ds) = true
  | [] => by simp [D.pdA, PyData.eqvAll]
  | d :: ds => by
    have h1 := eqv_refl d
    have h2 := eqvA_refl ds
    simp only [D.pdA, PyData.eqvAll, Bool.and_eq_true]
    exact ⟨h1, h2⟩
end
theorem o_eqR {x : D} : kO (D.eqo x x) S P = (x.okq 50 = true ∧ P (.bl true, S)) := by
  rw [o_eqG, eqv_refl]
  simp
theorem o_neR {x : D} : kO (D.neo x x) S P = (x.okq 50 = true ∧ P (.bl false, S)) := by
  rw [o_neG, eqv_refl]
  simp
end
end D2

namespace D2
open PySem PySem.Spec PyProof.Rows L2
section
variable {P : D × List O → Prop} {Ps : Fl × List Sl × List O → Prop} {Pa : List D × List O → Prop} {Po : O × List O → Prop} {E : EP'} {sg : List Sl} {S : List O} {m : ME} {ms : MA}
def kIr3 (P : List D × List O → Prop) : List D × List O → Prop := fun x => match thr3 x.1 with
  | some (i, j, c) => rgOk i j c = true ∧ P (rngC i c (Builtin.Range.rangeSize i j c).toNat, x.2)
  | none => False
theorem w_Ir3 : Wp (mIr3 ms sg S) Pa E = Wp (ms sg S) (kIr3 Pa) E := by
  unfold mIr3
  rw [wp_bind]
  congr 1
  funext x
  unfold kIr3
  cases h : thr3 x.1 with
  | none => with_unfolding_all rfl
  | some p =>
    obtain ⟨i, j, c⟩ := p
    by_cases hx : rgOk i j c = true
    · simp [hx, wp_ok]
    · simp [hx, Wp]
theorem kIr3_eq {i j c : Int} : kIr3 Pa ([.int i, .int j, .int c], S) = (rgOk i j c = true ∧ Pa (rngC i c (Builtin.Range.rangeSize i j c).toNat, S)) := by with_unfolding_all rfl
def kLrg (P : O × List O → Prop) : D × List O → Prop := fun x => match x.1 with
  | .int n => (0 ≤ n ∧ n ≤ 16777216) ∧ P (.lst (rngD 0 n.toNat), x.2)
  | _ => False
theorem w_Lrg : Wp (oLrg m sg S) Po E = Wp (m sg S) (kLrg Po) E := by
  unfold oLrg
  rw [wp_bind]
  congr 1
  funext x
  obtain ⟨d, T⟩ := x
  unfold kLrg
  cases d <;> try (with_unfolding_all rfl)
  rename_i n
  by_cases hx : 0 ≤ n ∧ n ≤ 16777216
  · simp [hx, wp_ok]
  · simp [hx, Wp]
theorem kLrg_eq {n : Int} : kLrg Po (.int n, S) = ((0 ≤ n ∧ n ≤ 16777216) ∧ Po (.lst (rngD 0 n.toNat), S)) := by with_unfolding_all rfl
def kApp1 (i j : Nat) (xs ys : List D) (sg : List Sl) (P : Fl × List Sl × List O → Prop) : D × List O → Prop := fun z => match z.1 with
  | .int k => match popAt ys k with
    | some (ys', d) => xs.length < 16777216 ∧ P (.nx, (sg.set j (.own (.lst ys'))).set i (.own (.lst (xs ++ [d]))), z.2)
    | none => False
  | _ => False
def kApp0 (s t : Option Sl) (i j : Nat) (m : ME) (sg : List Sl) (S : List O) (P : Fl × List Sl × List O → Prop) (E : EP') : Prop := match s, t with
  | some (.own (.lst xs)), some (.own (.lst ys)) => Wp (m sg S) (kApp1 i j xs ys sg P) E
  | _, _ => False
theorem w_AppPop {i j : Nat} : Wp (mAppPop i j m sg S) Ps E = kApp0 sg[i]? sg[j]? i j m sg S Ps E := by
  unfold mAppPop kApp0
  generalize sg[i]? = s
  generalize sg[j]? = t
  rcases s with _ | s
  · with_unfolding_all rfl
  rcases s with _ | _ | s
  · with_unfolding_all rfl
  · with_unfolding_all rfl
  rcases t with _ | t
  · cases s <;> (with_unfolding_all rfl)
  rcases t with _ | _ | t
  · cases s <;> (with_unfolding_all rfl)
  · cases s <;> (with_unfolding_all rfl)
  rcases s with xs | ⟨xk, xs⟩
  · rcases t with ys | ⟨yk, ys⟩
    · simp only []
      rw [wp_bind]
      congr 1
      funext z
      obtain ⟨d, T⟩ := z
      unfold kApp1
      cases d <;> try (with_unfolding_all rfl)
      rename_i k
      simp only []
      cases popAt ys k with
      | none => with_unfolding_all rfl
      | some p =>
        obtain ⟨ys', d⟩ := p
        by_cases hx : xs.length < 16777216
        · simp [hx, wp_ok]
        · simp [hx, Wp]
    · with_unfolding_all rfl
  · cases t <;> (with_unfolding_all rfl)
theorem kApp0_eq {i j : Nat} {xs ys : List D} : kApp0 (some (.own (.lst xs))) (some (.own (.lst ys))) i j m sg S Ps E = Wp (m sg S) (kApp1 i j xs ys sg Ps) E := by with_unfolding_all rfl
theorem kApp1_eq {i j : Nat} {xs ys ys' : List D} {k : Int} {d : D} (h : popAt ys k = some (ys', d)) : kApp1 i j xs ys sg Ps (.int k, S) = (xs.length < 16777216 ∧ Ps (.nx, (sg.set j (.own (.lst ys'))).set i (.own (.lst (xs ++ [d]))), S)) := by
  simp [kApp1, h]
theorem o_sset {l : List (List Int)} : kO (D.sset (.lst (l.map tupI))) S P = (okU l = true ∧ P (.lst ((sortU l).map tupI), S)) := by
  simp only [D.sset, tupsOf_map]
  exact ok_ite
theorem o_ssetI {ns : List Int} : kO (D.ssetI (.lst (ns.map D.int))) S P = (ns.length < 64 ∧ P (.lst ((sortS ns).map D.int), S)) := by
  unfold D.ssetI
  rw [o_intsL (D2.ints_map ns)]
  exact ok_ite
theorem o_toIb {b : Bool} : kO (D.toInt (.bl b)) S P = P (.int (if b then 1 else 0), S) := by with_unfolding_all rfl
theorem fl_int {i : Int} : ((D.int i).flat = true) = True := eq_true rfl
theorem fl_bl {i : Bool} : ((D.bl i).flat = true) = True := eq_true rfl
theorem fl_str {i : Str} : ((D.str i).flat = true) = True := eq_true rfl
theorem fl_non : (D.non.flat = true) = True := eq_true rfl
theorem isNon_non : isNon .non = true := by with_unfolding_all rfl
theorem isNon_int {i : Int} : isNon (.int i) = false := by with_unfolding_all rfl
theorem isNon_tup {ds : List D} : isNon (.tup ds) = false := by with_unfolding_all rfl
theorem any_ints (i : Int) : ∀ ns : List Int, ((ns.map D.int).any fun y => D.eqv y (.int i)) = decide (i ∈ ns)
  | [] => by simp
  | n :: ns => by
    rw [List.map_cons, List.any_cons, any_ints i ns, eqv_int]
    by_cases h : n = i
    · simp [h]
    · simp [h, Ne.symm h]
theorem o_inI {i : Int} {ns : List Int} : kO (D.ino (.int i) (.tup (ns.map D.int))) S P = P (.bl (decide (i ∈ ns)), S) := by
  have h1 : D.okq (.int i) 50 = true := rfl
  simp only [D.ino, D.inB, h1, if_true, okqA_ints, any_ints]
  rfl
theorem o_ninI {i : Int} {ns : List Int} : kO (D.nino (.int i) (.tup (ns.map D.int))) S P = P (.bl (!decide (i ∈ ns)), S) := by
  have h1 : D.okq (.int i) 50 = true := rfl
  simp only [D.nino, D.inB, h1, if_true, okqA_ints, any_ints]
  rfl
theorem o_ninE {i : Int} : kO (D.nino (.int i) (.tup [])) S P = P (.bl true, S) := by
  have := o_ninI (i := i) (ns := []) (S := S) (P := P)
  simpa using this
end
end D2

namespace D2
open PySem PySem.Spec PyProof.Rows L2
section
variable {P : D × List O → Prop} {Ps : Fl × List Sl × List O → Prop} {Pa : List D × List O → Prop} {Po : O × List O → Prop} {E : EP'} {sg : List Sl} {S : List O} {m : ME} {ms : MA}
theorem w_Never : Wp (mNever sg S) Ps E = False := by with_unfolding_all rfl
def kIrv (P : List D × List O → Prop) : D × List O → Prop := fun x => match x.1 with
  | .rng lo hi => (lim62 lo && lim62 hi) = true ∧ P (rngD lo (hi - lo).toNat, x.2)
  | _ => False
theorem w_Irv : Wp (mIrv m sg S) Pa E = Wp (m sg S) (kIrv Pa) E := by
  unfold mIrv
  rw [wp_bind]
  congr 1
  funext x
  obtain ⟨d, T⟩ := x
  unfold kIrv
  cases d <;> try (with_unfolding_all rfl)
  rename_i lo hi
  by_cases hx : (lim62 lo && lim62 hi) = true
  · simp only [hx, if_true, wp_ok, true_and]
  · have : (lim62 lo && lim62 hi) = false := by simpa using hx
    simp [this, Wp]
theorem kIrv_eq {lo hi : Int} : kIrv Pa (.rng lo hi, S) = ((lim62 lo && lim62 hi) = true ∧ Pa (rngD lo (hi - lo).toNat, S)) := by with_unfolding_all rfl
def kStar2 (ds : List D) (P : List D × List O → Prop) : List D × List O → Prop := fun y => P (ds ++ y.1, y.2)
def kStar (ms : MA) (sg : List Sl) (P : List D × List O → Prop) (E : EP') : D × List O → Prop := fun x => match unroll x.1 with
  | some ds => Wp (ms sg x.2) (kStar2 ds P) E
  | none => False
theorem w_Star : Wp (mStar m ms sg S) Pa E = Wp (m sg S) (kStar ms sg Pa E) E := by
  unfold mStar
  rw [wp_bind]
  congr 1
  funext x
  unfold kStar
  cases unroll x.1 with
  | none => with_unfolding_all rfl
  | some ds =>
    simp only [wp_bind, wp_ok]
    rfl
theorem kStar_tup {ds : List D} : kStar ms sg Pa E (.tup ds, S) = Wp (ms sg S) (kStar2 ds Pa) E := by with_unfolding_all rfl
theorem kStar_lst {ds : List D} : kStar ms sg Pa E (.lst ds, S) = Wp (ms sg S) (kStar2 ds Pa) E := by with_unfolding_all rfl
theorem kStar2_eq {ds ys : List D} : kStar2 ds Pa (ys, S) = Pa (ds ++ ys, S) := by with_unfolding_all rfl
theorem o_mkRng {j : Int} : kO (D.mkRng (.int j)) S P = (lim62 j = true ∧ P (.rng 0 j, S)) := ok_ite
theorem isNon_bl {b : Bool} : isNon (.bl b) = false := by with_unfolding_all rfl
theorem o_eqB {a b : Bool} : kO (D.eqo (.bl a) (.bl b)) S P = P (.bl (decide (a = b)), S) := by
  rw [o_eqG, eqv_bl]
  simp [D.okq]
end
end D2

namespace D2
open PySem PySem.Spec PyProof.Rows L2
section
variable {P : D × List O → Prop} {Ps : Fl × List Sl × List O → Prop} {Pa : List D × List O → Prop} {E : EP'} {sg : List Sl} {S : List O} {m : ME} {ms : MA}
def kCallX (F : FD) (sg : List Sl) (P : D × List O → Prop) (E : EP') : List D × List O → Prop := fun x => Wp (F x.1 x.2) P (fun e _ S' => E e sg S')
theorem w_CallX {F : FD} : Wp (mCallX F ms sg S) P E = Wp (ms sg S) (kCallX F sg P E) E := by
  unfold mCallX
  rw [wp_bind]
  congr 1
  funext x
  unfold kCallX
  cases F x.1 x.2 with
  | ok a => simp only [wp_ok]
  | ex e s2 S2 => simp only [wp_ex]
  | bad => simp only [wp_bad]
theorem kCallX_eq {F : FD} {ds : List D} : kCallX F sg P E (ds, S) = Wp (F ds S) P (fun e _ S' => E e sg S') := by with_unfolding_all rfl
def kRaise (c : Str) (ns : List Str) (sg : List Sl) (E : EP') : List D × List O → Prop := fun x => x.1.length = ns.length ∧ E ⟨c, ns, x.1.reverse⟩ sg x.2
theorem w_Raise {c : Str} {ns : List Str} : Wp (mRaise c ns ms sg S) Ps E = Wp (ms sg S) (kRaise c ns sg E) E := by
  unfold mRaise
  rw [wp_bind]
  congr 1
  funext x
  unfold kRaise
  by_cases h : x.1.length = ns.length
  · simp only [h, if_true, wp_ex, true_and]
  · simp only [h, if_false, wp_bad, false_and]
theorem kRaise_eq {c : Str} {ns : List Str} {ds : List D} : kRaise c ns sg E (ds, S) = (ds.length = ns.length ∧ E ⟨c, ns, ds.reverse⟩ sg S) := by with_unfolding_all rfl
def kDone (i : Nat) (Ps : Fl × List Sl × List O → Prop) : Fl × List Sl × List O → Prop := fun x => x.2.1[i]? = some .no ∧ Ps x
theorem w_Done {i : Nat} {r : R (Fl × List Sl × List O)} : Wp (r.done i) Ps E = Wp r (kDone i Ps) E := by
  cases r with
  | ok a =>
    obtain ⟨fl, sg, S⟩ := a
    unfold R.done
    rw [wp_ok]
    unfold kDone
    simp only []
    cases h : sg[i]? with
    | none => simp [wp_bad]
    | some s => cases s <;> simp [wp_bad, wp_ok]
  | ex e s2 S2 => simp only [R.done, wp_ex]
  | bad => simp only [R.done, wp_bad]
theorem kDone_eq {i : Nat} {fl : Fl} : kDone i Ps (fl, sg, S) = (sg[i]? = some .no ∧ Ps (fl, sg, S)) := by with_unfolding_all rfl
def kTry (i : Nat) (c : Str) (mh : Exn → MS) (Ps : Fl × List Sl × List O → Prop) (E : EP') : EP' := fun e sg S => e.cls = c ∧ sg[i]? = some .no ∧ Wp (mh e sg S) (kDone i Ps) E
theorem w_Try {i : Nat} {c : Str} {mb : MS} {mh : Exn → MS} : Wp (mTry i c mb mh sg S) Ps E = Wp (mb sg S) Ps (kTry i c mh Ps E) := by
  unfold mTry
  cases mb sg S with
  | ok a => simp only [wp_ok]
  | bad => simp only [wp_bad]
  | ex e sg1 S1 =>
    simp only [wp_ex]
    unfold kTry
    by_cases h : e.cls = c
    · rw [if_pos h]
      cases h2 : sg1[i]? with
      | none => simp [wp_bad]
      | some s =>
        cases s with
        | no => simp only [w_Done, h, true_and]
        | val d => simp [wp_bad]
        | own o => simp [wp_bad]
    · rw [if_neg h]
      simp [wp_bad, h]
theorem kTry_eq {i : Nat} {c : Str} {mh : Exn → MS} {e : Exn} : kTry i c mh Ps E e sg S = (e.cls = c ∧ sg[i]? = some .no ∧ Wp (mh e sg S) (kDone i Ps) E) := by with_unfolding_all rfl
def kFld (o : Option D) (sg : List Sl) (S : List O) (Ps : Fl × List Sl × List O → Prop) : Prop := match o with
  | some z => Ps (.rt z, sg, S)
  | none => False
theorem w_msRetF {f : Str} {e : Exn} : Wp (msRetF f e sg S) Ps E = kFld (fld e f) sg S Ps := by
  unfold msRetF kFld
  cases fld e f with
  | none => simp only [wp_bad]
  | some z => simp only [wp_ok]
theorem kFld_some {z : D} : kFld (some z) sg S Ps = Ps (.rt z, sg, S) := by with_unfolding_all rfl
theorem w_msRetC {z : D} {e : Exn} : Wp (msRetC z e sg S) Ps E = Ps (.rt z, sg, S) := by with_unfolding_all rfl
def kFld2 (o p : Option D) (sg : List Sl) (S : List O) (Ps : Fl × List Sl × List O → Prop) : Prop := match o, p with
  | some z, some y => Ps (.rt (.tup [z, y]), sg, S)
  | _, _ => False
theorem w_msRetP {f g : Str} {e : Exn} : Wp (msRetP f g e sg S) Ps E = kFld2 (fld e f) (fld e g) sg S Ps := by
  unfold msRetP kFld2
  cases fld e f with
  | none => simp only [wp_bad]
  | some z =>
    cases fld e g with
    | none => simp only [wp_bad]
    | some y => simp only [wp_ok]
theorem kFld2_some {z y : D} : kFld2 (some z) (some y) sg S Ps = Ps (.rt (.tup [z, y]), sg, S) := by with_unfolding_all rfl
variable {Po : O × List O → Prop}
def kToL (P : O × List O → Prop) : D × List O → Prop := fun x => match x.1 with
  | .tup ds => P (.lst ds, x.2)
  | .lst ds => P (.lst ds, x.2)
  | _ => False
theorem w_ToL : Wp (oToL m sg S) Po E = Wp (m sg S) (kToL Po) E := by
  unfold oToL
  rw [wp_bind]
  congr 1
  funext x
  obtain ⟨d, T⟩ := x
  unfold kToL
  cases d <;> simp only [wp_ok, wp_bad]
theorem kToL_tup {ds : List D} : kToL Po (.tup ds, S) = Po (.lst ds, S) := by with_unfolding_all rfl
theorem kToL_lst {ds : List D} : kToL Po (.lst ds, S) = Po (.lst ds, S) := by with_unfolding_all rfl
/-- the exceptions of a def, told: as an answer to a call in a try -/
theorem Wp.both {α : Type} {r : R α} {P P' : α → Prop} {E E' : EP'} (h : Wp r P E) (hP : ∀ a, P a → P' a) (hE : ∀ e sg S, E e sg S → E' e sg S) : Wp r P' E' := h.mono hP hE
end
end D2

namespace D2
open PySem PySem.Spec PyProof.Rows L2
section
variable {P : D × List O → Prop} {Ps : Fl × List Sl × List O → Prop} {Pa : List D × List O → Prop} {Po : O × List O → Prop} {E : EP'} {sg : List Sl} {S : List O} {m ma mb mc md : ME} {ms : MA}
/-! values -/
theorem o_mulI {i j : Int} : kO (D.mulT (.int i) (.int j)) S P = (((-18446744073709551616 < i ∧ i < 18446744073709551616) ∨ (-18446744073709551616 < j ∧ j < 18446744073709551616)) ∧ P (.int (i * j), S)) := o_mul
theorem o_mulTup {xs : List D} {k : Int} : kO (D.mulT (.tup xs) (.int k)) S P = (decide (-4611686018427387904 ≤ k ∧ k < 4611686018427387904 ∧ xs.length * k.toNat ≤ 16777216) = true ∧ P (.tup (List.replicate k.toNat xs).flatten, S)) := ok_ite
theorem o_mulLst {xs : List D} {k : Int} : kO (D.mulT (.lst xs) (.int k)) S P = (decide (-4611686018427387904 ≤ k ∧ k < 4611686018427387904 ∧ xs.length * k.toNat ≤ 16777216) = true ∧ P (.lst (List.replicate k.toNat xs).flatten, S)) := ok_ite
theorem o_revT {xs : List D} : kO (D.revT (.tup xs)) S P = P (.tup xs.reverse, S) := by with_unfolding_all rfl
theorem o_isStrS {x : Str} : kO (D.isStr (.str x)) S P = P (.bl true, S) := by with_unfolding_all rfl
theorem o_isStrT {xs : List D} : kO (D.isStr (.tup xs)) S P = P (.bl false, S) := by with_unfolding_all rfl
theorem o_isStrN : kO (D.isStr .non) S P = P (.bl false, S) := by with_unfolding_all rfl
theorem o_ltG {x y : D} : kO (D.ltG x y) S P = (x.cmpOk y = true ∧ P (.bl (x.ltb y), S)) := ok_ite
theorem o_sortG {ds : List D} : kO (D.sortG (.lst ds)) S P = (D.sortOk ds = true ∧ P (.lst (ds.mergeSort D.leS), S)) := ok_ite
/-! chains of three -/
def kD5 (h : D → D → Option D) (z : D) (P : D × List O → Prop) : D × List O → Prop := fun w => kO (h z w.1) w.2 P
def kD4 (o : Option D) (h : D → D → Option D) (z : D) (md : ME) (sg : List Sl) (S : List O) (P : D × List O → Prop) (E : EP') : Prop := match o with
  | some (.bl b) => if b = true then Wp (md sg S) (kBin2 h z P) E else P (.bl false, S)
  | _ => False
def kD3 (g h : D → D → Option D) (y : D) (md : ME) (sg : List Sl) (P : D × List O → Prop) (E : EP') : D × List O → Prop := fun z => kD4 (g y z.1) h z.1 md sg z.2 P E
def kD2 (o : Option D) (g h : D → D → Option D) (y : D) (mc md : ME) (sg : List Sl) (S : List O) (P : D × List O → Prop) (E : EP') : Prop := match o with
  | some (.bl b) => if b = true then Wp (mc sg S) (kD3 g h y md sg P E) E else P (.bl false, S)
  | _ => False
def kD1 (f g h : D → D → Option D) (x : D) (mc md : ME) (sg : List Sl) (P : D × List O → Prop) (E : EP') : D × List O → Prop := fun y => kD2 (f x y.1) g h y.1 mc md sg y.2 P E
def kD0 (f g h : D → D → Option D) (mb mc md : ME) (sg : List Sl) (P : D × List O → Prop) (E : EP') : D × List O → Prop := fun x => Wp (mb sg x.2) (kD1 f g h x.1 mc md sg P E) E
theorem w_Chain3 {f g h : D → D → Option D} : Wp (mChain3 f g h ma mb mc md sg S) P E = Wp (ma sg S) (kD0 f g h mb mc md sg P E) E := by
  unfold mChain3 kD0
  rw [wp_bind]
  congr 1
  funext x
  rw [wp_bind]
  congr 1
  funext y
  unfold kD1 kD2
  cases e : f x.1 y.1 with
  | none => with_unfolding_all rfl
  | some d =>
    cases d <;> try (with_unfolding_all rfl)
    rename_i b
    cases b
    · with_unfolding_all rfl
    · simp only [if_true]
      unfold mChT
      rw [wp_bind]
      congr 1
      funext z
      unfold kD3 kD4
      cases e2 : g y.1 z.1 with
      | none => with_unfolding_all rfl
      | some d2 =>
        cases d2 <;> try (with_unfolding_all rfl)
        rename_i b2
        cases b2
        · with_unfolding_all rfl
        · simp only [if_true, wp_bind, wp_of]
          with_unfolding_all rfl
theorem kD0_eq {f g h : D → D → Option D} {x : D} : kD0 f g h mb mc md sg P E (x, S) = Wp (mb sg S) (kD1 f g h x mc md sg P E) E := by with_unfolding_all rfl
theorem kD1_eq {f g h : D → D → Option D} {x y : D} : kD1 f g h x mc md sg P E (y, S) = kD2 (f x y) g h y mc md sg S P E := by with_unfolding_all rfl
theorem kD2_eq {g h : D → D → Option D} {b : Bool} {y : D} : kD2 (some (.bl b)) g h y mc md sg S P E = if b = true then Wp (mc sg S) (kD3 g h y md sg P E) E else P (.bl false, S) := by with_unfolding_all rfl
theorem kD3_eq {g h : D → D → Option D} {y z : D} : kD3 g h y md sg P E (z, S) = kD4 (g y z) h z md sg S P E := by with_unfolding_all rfl
theorem kD4_eq {h : D → D → Option D} {b : Bool} {z : D} : kD4 (some (.bl b)) h z md sg S P E = if b = true then Wp (md sg S) (kBin2 h z P) E else P (.bl false, S) := by with_unfolding_all rfl
/-! a new list x + y -/
def kAdd2 (wk : Bool) (x : D) (P : O × List O → Prop) : D × List O → Prop := fun y => match x, y.1 with
  | .lst xs, .lst ys => (decide (xs.length + ys.length ≤ 16777216) && (!wk || (D.flatA xs && D.flatA ys))) = true ∧ P (.lst (xs ++ ys), y.2)
  | _, _ => False
def kAdd (wk : Bool) (mb : ME) (sg : List Sl) (P : O × List O → Prop) (E : EP') : D × List O → Prop := fun x => Wp (mb sg x.2) (kAdd2 wk x.1 P) E
theorem w_Add {wk : Bool} : Wp (oAdd wk ma mb sg S) Po E = Wp (ma sg S) (kAdd wk mb sg Po E) E := by
  unfold oAdd kAdd
  rw [wp_bind]
  congr 1
  funext x
  rw [wp_bind]
  congr 1
  funext y
  obtain ⟨x, T⟩ := x
  obtain ⟨y, T2⟩ := y
  cases x <;> try (with_unfolding_all rfl)
  cases y <;> try (with_unfolding_all rfl)
  rename_i xs ys
  unfold kAdd2
  simp only []
  by_cases h : (decide (xs.length + ys.length ≤ 16777216) && (!wk || (D.flatA xs && D.flatA ys))) = true
  · rw [if_pos h, wp_ok]
    simp only [h, true_and]
  · rw [if_neg h, wp_bad]
    simp [h]
theorem kAdd_eq {wk : Bool} {x : D} : kAdd wk mb sg Po E (x, S) = Wp (mb sg S) (kAdd2 wk x Po) E := by with_unfolding_all rfl
theorem kAdd2_eq {wk : Bool} {xs ys : List D} : kAdd2 wk (.lst xs) Po (.lst ys, S) = ((decide (xs.length + ys.length ≤ 16777216) && (!wk || (D.flatA xs && D.flatA ys))) = true ∧ Po (.lst (xs ++ ys), S)) := by with_unfolding_all rfl
/-! several clauses -/
theorem w_msRet {me : Exn → ME} {e : Exn} : Wp (msRet me e sg S) Ps E = Wp (me e sg S) (kRet sg Ps) E := by
  unfold msRet
  rw [w_Ret]
def kFldE (o : Option D) (S : List O) (P : D × List O → Prop) : Prop := match o with
  | some z => P (z, S)
  | none => False
theorem w_xF {f : Str} {e : Exn} : Wp (mxF f e sg S) P E = kFldE (fld e f) S P := by
  unfold mxF kFldE
  cases fld e f with
  | none => simp only [wp_bad]
  | some z => simp only [wp_ok]
theorem kFldE_some {z : D} : kFldE (some z) S P = P (z, S) := by with_unfolding_all rfl
theorem w_xBin {f : D → D → Option D} {xa xb : Exn → ME} {e : Exn} : Wp (mxBin f xa xb e sg S) P E = Wp (mBin f (xa e) (xb e) sg S) P E := by with_unfolding_all rfl
def kHd (z : Option (Option Nat × (Exn → MS))) (e : Exn) (sg : List Sl) (S : List O) (Ps : Fl × List Sl × List O → Prop) (E : EP') : Prop := match z with
  | some (some i, ms) => sg[i]? = some .no ∧ Wp (ms e sg S) (kDone i Ps) E
  | some (none, ms) => Wp (ms e sg S) Ps E
  | none => False
def kTryN (hs : List Hd) (Ps : Fl × List Sl × List O → Prop) (E : EP') : EP' := fun e sg S => kHd (hdOf hs e.cls) e sg S Ps E
theorem w_Hd {z : Option (Option Nat × (Exn → MS))} {e : Exn} : Wp (mHd z e sg S) Ps E = kHd z e sg S Ps E := by
  unfold mHd kHd
  cases z with
  | none => simp only [wp_bad]
  | some z =>
    obtain ⟨oi, ms⟩ := z
    cases oi with
    | none => rfl
    | some i =>
      simp only []
      cases h2 : sg[i]? with
      | none => simp [wp_bad]
      | some s =>
        cases s with
        | no => simp only [w_Done, true_and]
        | val d => simp [wp_bad]
        | own o => simp [wp_bad]
theorem w_TryN {hs : List Hd} {mb : MS} : Wp (mTryN hs mb sg S) Ps E = Wp (mb sg S) Ps (kTryN hs Ps E) := by
  unfold mTryN
  cases mb sg S with
  | ok a => simp only [wp_ok]
  | bad => simp only [wp_bad]
  | ex e sg1 S1 =>
    simp only [wp_ex, w_Hd]
    rfl
theorem kTryN_eq {hs : List Hd} {e : Exn} : kTryN hs Ps E e sg S = kHd (hdOf hs e.cls) e sg S Ps E := by with_unfolding_all rfl
theorem kHd_some {i : Nat} {xs : Exn → MS} {e : Exn} : kHd (some (some i, xs)) e sg S Ps E = (sg[i]? = some .no ∧ Wp (xs e sg S) (kDone i Ps) E) := by with_unfolding_all rfl
theorem kHd_only {xs : Exn → MS} {e : Exn} : kHd (some (none, xs)) e sg S Ps E = Wp (xs e sg S) Ps E := by with_unfolding_all rfl
theorem hdOf_cons {h : Hd} {r : List Hd} {c : Str} : hdOf (h :: r) c = if c = h.1 then some h.2 else hdOf r c := by with_unfolding_all rfl
variable {Pb : Bool × List O → Prop} {mt mu mv : MT}
def kIfT (mu mv : MT) (sg : List Sl) (P : Bool × List O → Prop) (E : EP') : Bool × List O → Prop := fun x => if x.1 = true then Wp (mu sg x.2) P E else Wp (mv sg x.2) P E
theorem w_IfT : Wp (mIfT mt mu mv sg S) Pb E = Wp (mt sg S) (kIfT mu mv sg Pb E) E := by
  unfold mIfT
  rw [wp_bind]
  congr 1
  funext x
  obtain ⟨b, T⟩ := x
  cases b <;> (with_unfolding_all rfl)
theorem kIfT_eq {b : Bool} : kIfT mu mv sg Pb E (b, S) = if b = true then Wp (mu sg S) Pb E else Wp (mv sg S) Pb E := by with_unfolding_all rfl
theorem o_ssetL {l : List (List Int)} : kO (D.ssetL (.lst (l.map tupI))) S P = (okL l = true ∧ P (.lst ((sortL l).map tupI), S)) := by
  by_cases h : okL l = true
  · simp [ssetL_lst h, h, kO_some]
  · simp only [D.ssetL, tupsOf_map, h]
    simp [kO]
theorem o_ssetLt {l : List (List Int)} : kO (D.ssetL (.tup (l.map tupI))) S P = (okL l = true ∧ P (.lst ((sortL l).map tupI), S)) := by
  by_cases h : okL l = true
  · simp [ssetL_tup h, h, kO_some]
  · simp only [D.ssetL, tupsOf_map, h]
    simp [kO]
theorem o_lenSetI {ns : List Int} : kO (D.lenSetI (.lst (ns.map D.int))) S P = (ns.length ≤ 4000 ∧ P (.int ((sortS ns).length : Int), S)) := by
  unfold D.lenSetI
  rw [o_intsL (ints_map ns)]
  exact ok_ite
theorem o_tupRg {n : Int} : kO (D.tupRg (.int n)) S P = ((0 ≤ n ∧ n ≤ 16777216) ∧ P (.tup (rngD 0 n.toNat), S)) := by
  unfold D.tupRg
  rw [ok_ite, decide_eq_true_eq]
end
end D2

namespace D2
open PySem PySem.Spec PyProof.Rows L2
section
variable {P : D × List O → Prop} {Ps : Fl × List Sl × List O → Prop} {Pa : List D × List O → Prop} {Po : O × List O → Prop} {E : EP'} {sg : List Sl} {S : List O} {m ma mb mc md : ME} {ms : MA}
/-! zip -/
def kIz (P : List D × List O → Prop) : List D × List O → Prop := fun x => match twoZ x.1 with
  | some ds => P (ds, x.2)
  | none => False
theorem w_Iz : Wp (mIz ms sg S) Pa E = Wp (ms sg S) (kIz Pa) E := by
  unfold mIz
  rw [wp_bind]
  congr 1
  funext x
  unfold kIz
  cases twoZ x.1 <;> (with_unfolding_all rfl)
theorem kIz_tup {ds es : List D} : kIz Pa ([.tup ds, .tup es], S) = Pa (zipD ds es, S) := by with_unfolding_all rfl
theorem kIz_lst {ds es : List D} : kIz Pa ([.lst ds, .lst es], S) = Pa (zipD ds es, S) := by with_unfolding_all rfl
/-! the least and the greatest -/
theorem o_minGl {d : D} {ds : List D} : kO (D.minG (.lst (d :: ds))) S P = (D.bestOk (d :: ds) = true ∧ P (D.minF d ds, S)) := ok_ite
theorem o_minGt {d : D} {ds : List D} : kO (D.minG (.tup (d :: ds))) S P = (D.bestOk (d :: ds) = true ∧ P (D.minF d ds, S)) := ok_ite
theorem o_maxGl {d : D} {ds : List D} : kO (D.maxG (.lst (d :: ds))) S P = (D.bestOk (d :: ds) = true ∧ P (D.maxF d ds, S)) := ok_ite
theorem o_maxGt {d : D} {ds : List D} : kO (D.maxG (.tup (d :: ds))) S P = (D.bestOk (d :: ds) = true ∧ P (D.maxF d ds, S)) := ok_ite
theorem o_bestDl {g : D → List D → D} {d z : D} {ds : List D} : kO (D.bestD g (.lst (d :: ds)) z) S P = (D.bestOk (d :: ds) = true ∧ P (g d ds, S)) := ok_ite
theorem o_bestDt {g : D → List D → D} {d z : D} {ds : List D} : kO (D.bestD g (.tup (d :: ds)) z) S P = (D.bestOk (d :: ds) = true ∧ P (g d ds, S)) := ok_ite
theorem o_bestDln {g : D → List D → D} {z : D} : kO (D.bestD g (.lst []) z) S P = P (z, S) := by with_unfolding_all rfl
theorem o_bestDtn {g : D → List D → D} {z : D} : kO (D.bestD g (.tup []) z) S P = P (z, S) := by with_unfolding_all rfl
theorem o_lenSetT {ns : List Int} : kO (D.lenSetT (.tup (ns.map D.int))) S P = (ns.length ≤ 4000 ∧ P (.int ((sortS ns).length : Int), S)) := by
  unfold D.lenSetT
  simp only [ints_map]
  exact ok_ite
theorem o_sortT {ns : List Int} : kO (D.sortT (.tup (ns.map D.int))) S P = (ns.length ≤ 16777216 ∧ P (.lst ((sortI ns).map D.int), S)) := by
  unfold D.sortT
  simp only [ints_map]
  exact ok_ite
/-! suites that append -/
theorem w_xOwnE {j : Nat} {c : O → Bool} {f : O → List D → Option (O × D)} {mx : Exn → MA} {e : Exn} : Wp (mxOwnE j c f mx e sg S) Ps E = Wp (mOwnE j c f (mx e) sg S) Ps E := by with_unfolding_all rfl
theorem w_xOne {mx : Exn → ME} {e : Exn} : Wp (mxOne mx e sg S) Pa E = Wp (mCons (mx e) mNil sg S) Pa E := by with_unfolding_all rfl
end
/-! ### of ints -/
theorem okqA_i (n : Nat) (ns : List Int) : D.okqA (ns.map D.int) n = true := okqA_ints n ns
theorem alk_ints (i j : Int) : D.alk (.int i) (.int j) = true := by
  unfold D.alk
  simp only [D.pd, PySem.W.alike]
theorem best_ints (ns : List Int) : D.bestOk (ns.map D.int) = true := by
  unfold D.bestOk
  rw [okqA_ints, Bool.true_and, Bool.and_eq_true, List.all_eq_true, List.all_eq_true]
  refine ⟨fun x hx => ?_, fun x hx => ?_⟩
  · obtain ⟨i, _, rfl⟩ := List.mem_map.mp hx
    rw [List.all_eq_true]
    intro y hy
    obtain ⟨j, _, rfl⟩ := List.mem_map.mp hy
    exact alk_ints i j
  · obtain ⟨i, _, rfl⟩ := List.mem_map.mp hx
    rfl
theorem minF_ints (n : Int) (ns : List Int) : D.minF (.int n) (ns.map D.int) = .int (ns.foldl min n) := by
  refine pd_inj _ _ 50 50 (okqA_mem (ds := (n :: ns).map D.int) (okqA_ints 50 _) (minF_mem (ns.map D.int) (.int n))) rfl ?_
  rw [minF_pd]
  have e : D.pdA (ns.map D.int) = ns.map PyData.int := by
    rw [pdA_map, List.map_map]
    rfl
  rw [e]
  exact PySem.W.minD_ints n ns
theorem maxF_ints (n : Int) (ns : List Int) : D.maxF (.int n) (ns.map D.int) = .int (ns.foldl max n) := by
  refine pd_inj _ _ 50 50 (okqA_mem (ds := (n :: ns).map D.int) (okqA_ints 50 _) (maxF_mem (ns.map D.int) (.int n))) rfl ?_
  rw [maxF_pd]
  have e : D.pdA (ns.map D.int) = ns.map PyData.int := by
    rw [pdA_map, List.map_map]
    rfl
  rw [e]
  exact PySem.W.maxD_ints n ns
end D2

namespace D2
open PySem PySem.Spec PyProof.Rows L2
section
variable {P : D × List O → Prop} {E : EP'} {sg : List Sl} {S : List O} {m : ME} {ms : MA}
def capC (s : Option Sl) (o : Option (List D)) : Option (List D) := match s with
  | some (.val d) => o.map (d :: ·)
  | _ => none
theorem o_capsN : capsD sg [] = some [] := by with_unfolding_all rfl
theorem o_capsC {j : Nat} {js : List Nat} : capsD sg (j :: js) = capC sg[j]? (capsD sg js) := by
  rw [capsD]
  unfold capC
  cases sg[j]? with
  | none => rfl
  | some s => cases s <;> rfl
theorem o_capV {d : D} {o : Option (List D)} : capC (some (.val d)) o = o.map (d :: ·) := by with_unfolding_all rfl
def kCallL (F : FD) (t : Lm) (caps : Option (List D)) (P : D × List O → Prop) : D × List O → Prop := fun x => match caps with
  | some cs => (D.noref x.1 && D.norefA cs) = true ∧ Wp (F [x.1, .fn t cs] []) (fun y => y.2 = [] ∧ y.1.nofn = true ∧ P (y.1, x.2)) noE
  | none => False
theorem w_CallL {F : FD} {t : Lm} {js : List Nat} : Wp (mCallL F t js m sg S) P E = Wp (m sg S) (kCallL F t (capsD sg js) P) E := by
  unfold mCallL
  rw [wp_bind]
  congr 1
  funext x
  unfold kCallL
  cases capsD sg js with
  | none => simp [Wp]
  | some cs =>
    by_cases hx : (D.noref x.1 && D.norefA cs) = true
    · simp only [hx, if_true, true_and]
      cases F [x.1, .fn t cs] [] with
      | ok y =>
        obtain ⟨d, T⟩ := y
        cases T with
        | nil =>
          by_cases hn : d.nofn = true
          · simp [hn, wp_ok]
          · simp [hn, Wp]
        | cons o T => simp [Wp]
      | ex => with_unfolding_all rfl
      | bad => with_unfolding_all rfl
    · simp [hx, Wp]
theorem kCallL_eq {F : FD} {t : Lm} {cs : List D} {x : D} : kCallL F t (some cs) P (x, S) = ((D.noref x && D.norefA cs) = true ∧ Wp (F [x, .fn t cs] []) (fun y => y.2 = [] ∧ y.1.nofn = true ∧ P (y.1, S)) noE) := by with_unfolding_all rfl
def kCF2 (F : FD) (caps : List D) (P : D × List O → Prop) : List D × List O → Prop := fun x => (D.norefA (x.1 ++ caps) && D.nofnA (x.1 ++ caps)) = true ∧ Wp (F (x.1 ++ caps) []) (fun y => y.2 = [] ∧ P (y.1, x.2)) noE
def kCF (s : Option Sl) (t : Lm) (F : FD) (ms : MA) (sg : List Sl) (S : List O) (P : D × List O → Prop) (E : EP') : Prop := match s with
  | some (.val (.fn t' caps)) => t' = t ∧ Wp (ms sg S) (kCF2 F caps P) E
  | _ => False
theorem w_CallF {i : Nat} {t : Lm} {F : FD} : Wp (mCallF i t F ms sg S) P E = kCF sg[i]? t F ms sg S P E := by
  unfold mCallF kCF
  cases sg[i]? with
  | none => simp [Wp]
  | some s =>
    cases s with
    | no => simp [Wp]
    | own o => simp [Wp]
    | val d =>
      cases d <;> try (simp [Wp]; done)
      rename_i t' caps
      simp only []
      by_cases ht : t' = t
      · simp only [ht, if_true, true_and, wp_bind]
        congr 1
        funext x
        unfold kCF2
        by_cases hx : (D.norefA (x.1 ++ caps) && D.nofnA (x.1 ++ caps)) = true
        · simp only [hx, if_true, true_and]
          cases F (x.1 ++ caps) [] with
          | ok y =>
            obtain ⟨d, T⟩ := y
            cases T with
            | nil => simp [wp_ok]
            | cons o T => simp [Wp]
          | ex => with_unfolding_all rfl
          | bad => with_unfolding_all rfl
        · simp [hx, Wp]
      · simp [ht, Wp]
theorem kCF_fn {t : Lm} {caps : List D} {F : FD} : kCF (some (.val (.fn t caps))) t F ms sg S P E = Wp (ms sg S) (kCF2 F caps P) E := by
  show (t = t ∧ _) = _
  rw [eq_self, true_and]
theorem kCF2_eq {F : FD} {caps ds : List D} : kCF2 F caps P (ds, S) = ((D.norefA (ds ++ caps) && D.nofnA (ds ++ caps)) = true ∧ Wp (F (ds ++ caps) []) (fun y => y.2 = [] ∧ P (y.1, S)) noE) := by with_unfolding_all rfl
theorem w_lamF {ds : List D} : Wp (lamF m ds S) P E = Wp (m (ds.map Sl.val) S) P E := by with_unfolding_all rfl
theorem nofn_ints : ∀ ns : List Int, D.nofnA (ns.map D.int) = true
  | [] => rfl
  | n :: ns => by rw [List.map_cons, D.nofnA, nofn_ints ns]; rfl
end
end D2

namespace D2
open PySem PySem.Spec PyProof.Rows L2
section
variable {Pa : List D × List O → Prop} {E : EP'} {sg : List Sl} {S : List O} {ms : MA}
/-! zip of a tuple and a list -/
def kIzM (P : List D × List O → Prop) : List D × List O → Prop := fun x => match twoZM x.1 with
  | some ds => P (ds, x.2)
  | none => False
theorem w_IzM : Wp (mIzM ms sg S) Pa E = Wp (ms sg S) (kIzM Pa) E := by
  unfold mIzM
  rw [wp_bind]
  congr 1
  funext x
  unfold kIzM
  cases twoZM x.1 <;> (with_unfolding_all rfl)
theorem kIzM_tl {ds es : List D} : kIzM Pa ([.tup ds, .lst es], S) = Pa (zipD ds es, S) := by with_unfolding_all rfl
end
end D2

namespace D2
open PySem PySem.Spec PyProof.Rows L2
section
variable {P : D × List O → Prop} {S : List O}
theorem o_isB {a b : Bool} : kO (D.isB (.bl a) (.bl b)) S P = P (.bl (decide (a = b)), S) := by with_unfolding_all rfl
theorem o_notB {a b : Bool} : kO (D.notB (.bl a) (.bl b)) S P = P (.bl (!decide (a = b)), S) := by with_unfolding_all rfl
theorem o_sumT {ns : List Int} : kO (D.sumT (.tup (ns.map D.int))) S P = P (.int ns.sum, S) := by
  refine kO_eq ?_
  simp only [D.sumT, ints_map, Option.map_some]
end
end D2

namespace D2
open PySem PySem.Spec PyProof.Rows L2
section
variable {P : D × List O → Prop} {S : List O}
theorem r_ssetK {l : List (List Leaf)} : kO (D.ssetK (.tup (l.map keyD))) S P = (okK l = true ∧ P (.lst ((sortK l).map keyD), S)) := by
  by_cases h : okK l = true
  · rw [kO_eq (ssetK_tup h)]
    simp [h]
  · have e : D.ssetK (.tup (l.map keyD)) = none := by simp only [D.ssetK, keysOf_map, h, if_false]; rfl
    rw [e]
    simp [h, kO]
theorem r_lenK {l : List (List Leaf)} : kO (D.lenK (.lst (l.map keyD))) S P = (l.length ≤ 4 ∧ P (.int (((ddK l).length : Nat) : Int), S)) := by
  by_cases h : l.length ≤ 4
  · rw [kO_eq (lenK_lst h)]
    simp [h]
  · have e : D.lenK (.lst (l.map keyD)) = none := by simp only [D.lenK, keysOf_map, h, if_false]
    rw [e]
    simp [h, kO]
end
end D2

namespace Law
noncomputable section
open PySem PySem.Spec PyProof.Rows L2 D2
local macro_rules | `(tactic| walk_at "ev") => `(tactic| simp (decide := true) only [kO_some, w_C, w_Var, w_VarW, kVar_val, kVarW_val, kVarW_lst, kVarW_dic, w_Flat, kFlat_eq, w_Bin, kBin_eq, kBin2_eq, w_Un, kUn_eq, w_Tup, kTup_eq, w_Lst, kLst_eq, w_Nil, w_Cons, kCons_eq, kCons2_eq, w_And, kAnd_eq, w_Or, kOr_eq, w_Tst, kTst_eq, w_Tru, kTru_bl, kTru_int, kTru_tup, kTru_lst, kTru_non, w_NotT, kNotT_eq, w_AndT, kAndT_eq, w_OrT, kOrT_eq, w_IsN, kIsN_eq, w_If, kIf_eq, w_Chain, kCh1_eq, kCh2_eq, kCh3_eq, w_Bi, kBi_eq, on1_eq, on2_eq, w_Meth, kMeth_eq, kMeth2_eq, w_Ix, kIx_eq, kIx2_eq, w_Get2, kGet1_eq, kGet2_eq, kGet3_eq, w_NoP, w_Part, kPart_eq, w_Sl, kSl1_eq, kSl2_eq, kSl3_eq, w_Call, kCall_eq, w_CallP, kCallP_eq, w_OfO, kOfO_eq, toD_lst, toD_dic, w_LstO, kLstO_eq, w_DicO, w_Rep, kRep_eq, kRep2_eq, w_Pn, w_Pc, kPc1_eq, kPc2_eq, kPc3_eq, w_Disp, kDisp_eq, kDisp2_eq, keyed_nil, keyed_S, keyed_I, w_Lc, kLc_eq, kLc2_eq, w_Il, kIl_eq, w_It, kIt_eq, w_Ir1, kIr1_eq, w_Ir2, kIr2_eq, w_Ie, kIe_eq, w_IeT, kIeT_eq, w_Yes, w_Seq, kSeq_nx, kSeq_bk, kSeq_ct, kSeq_rt, w_Nx, w_Bk, w_Ct, w_RetN, w_Ret, kRet_eq, w_Drop, kDrop_eq, w_IfS, kIfS_eq, w_Frz, w_Set, kSet_eq, w_SetO, kSetO_eq, w_Aft, kAft_eq, w_Asg, kAsg_eq, kAsg2_eq, w_For, kFor_eq, w_While, w_Put, kPut_eq, kPut2_own, kPut2_ref, kPutR_eq, w_Own, w_OwnE, w_OwnS, kOwn_eq, kOwnE_eq, kOwnS_eq, w_Fn, kFn_nx, kFn_rt, kLoop_nx, kLoop_ct, kLoop_bk, kLoop_rt, w_Ir3, kIr3_eq, w_Lrg, kLrg_eq, w_AppPop, kApp0_eq, w_Never, w_Irv, kIrv_eq, w_Star, kStar_tup, kStar_lst, kStar2_eq, w_CallX, kCallX_eq, w_Raise, kRaise_eq, w_Done, kDone_eq, w_Try, kTry_eq, w_msRetF, kFld_some, w_msRetC, w_msRetP, kFld2_some, w_ToL, kToL_tup, kToL_lst, w_Chain3, kD0_eq, kD1_eq, kD2_eq, kD3_eq, kD4_eq, w_Add, kAdd_eq, kAdd2_eq, w_msRet, w_xF, kFldE_some, w_xBin, w_Hd, w_TryN, kTryN_eq, kHd_some, kHd_only, w_IfT, kIfT_eq, w_Iz, kIz_tup, kIz_lst, w_xOwnE, w_xOne, w_CallL, kCallL_eq, w_CallF, kCF_fn, kCF2_eq, w_lamF, w_IzM, kIzM_tl, o_addI, o_addS, o_addT, o_addL, o_sub, o_fdiv, o_mod, o_pow, o_shl, o_shr, o_and, o_or, o_mul, o_lt, o_le, o_gt, o_ge, lt_eq, le_eq, gt_eq, ge_eq, o_neg, o_nob, o_eqI, o_eqS, o_neI, o_neS, eqo_int, ixS_tup, ixS_lst, ixS_dic, ixS_ref0, ixS_ref1, ixo_tup, ixo_lst, ixo_dicI, ixo_dicS, atI_0, atI_1, atI_2, atI_3, atI_4, atI_5, atI_6, atI_7, atI_8, pr_0, pr_1, pr_2, pr_3, po_dicI, po_dicS, app_eq, ext_eq, isL_eq, isD_eq, DisL_eq, o_lenL, o_lenT, o_lenD, o_lenS, o_toI, o_abs, o_strI, o_max2, o_min2, o_toT, o_toTT, o_toL, o_toLT, o_sloT, o_sloL, o_sloS, g_Nm, g_Tu, g_Cons, g_Nil, own_val, own_no, merge_new, dGet_cons, dGet_nil, dGet2_S, dGet2_I, o_sset, o_ssetI, o_toIb, fl_int, fl_bl, fl_str, fl_non, isNon_non, isNon_int, isNon_tup, o_inI, o_ninI, o_ninE, o_mkRng, isNon_bl, o_eqB, o_mulI, o_mulTup, o_mulLst, o_revT, o_isStrS, o_isStrT, o_isStrN, o_ltG, o_sortG, o_ssetL, o_ssetLt, o_lenSetI, o_tupRg, o_minGl, o_minGt, o_maxGl, o_maxGt, o_bestDl, o_bestDt, o_bestDln, o_bestDtn, o_lenSetT, o_sortT, o_capsN, o_capsC, o_capV, o_isB, o_notB, o_sumT, List.getElem?_cons_zero, List.getElem?_cons_succ, List.set_cons_zero, List.set_cons_succ, List.length_cons, List.length_nil, List.map_cons, List.map_nil, List.cons_append, List.nil_append, List.replicate_succ, List.replicate_zero, if_true, if_false, decide_eq_true_eq, decide_eq_false_iff_not, Bool.false_eq_true, and_true, true_and, Bool.not_true, Bool.not_false, reduceIte, Option.bind_some, Option.map_some, Option.getD_some, Option.getD_none, Sum.inr.injEq, Sum.inl.injEq, Nat.reduceAdd, Nat.reduceSub, Nat.reduceLeDiff, Nat.reduceLT, Nat.reduceEqDiff, reduceCtorEq, Int.reduceLT, Int.reduceLE, Int.reduceEq, Int.reduceAdd, Int.reduceSub, Int.reduceMul, Int.reduceNeg, Int.cast_ofNat_Int, Int.natCast_zero, Int.reduceToNat, Int.reducePow, or_true, true_or, String.reduceEq, decide_true, decide_false, Bool.not_eq_true', Bool.not_eq_false', List.all_cons, List.all_nil, Bool.and_true, Bool.true_and, Bool.true_or, Bool.or_true, wipeS, startS, hdOf_cons])
abbrev n__law_take : List Str := ["d", "many", "small", "digit"]
def m__law_take : MS :=
  (mSeq (mIfS (mAndT (mTst (mBin D.eqo (mIx (mVar 0) (mC (.int 2))) (mC (.int 0)))) (mTst (mBin D.lt (mIx (mVar 0) (mC (.int 1))) (mBi (on1 D.len) (mCons (mIx (mVar 0) (mC (.int 0))) mNil))))) (mSeq (mPut 0 (mBi (on1 D.abs) (mCons (mBi (on1 D.toInt) (mCons (mIx (mIx (mVar 0) (mC (.int 0))) (mIx (mVar 0) (mC (.int 1)))) mNil)) mNil)) (mC (.int 2)))
  (mSeq (mPut 0 (mBin D.add (mIx (mVar 0) (mC (.int 1))) (mC (.int 1))) (mC (.int 1)))
  (mIfS (mTst (mBin D.lt (mIx (mVar 0) (mC (.int 2))) (mBin D.powI (mC (.int 10)) (mC (.int 18))))) (mSeq (mSet 2 (mBi (on1 D.toInt) (mCons (mIx (mVar 0) (mC (.int 2))) mNil)))
  (mSeq (mPut 0 (mC (.int 0)) (mC (.int 2)))
  (mRet (mBin D.mod (mVar 2) (mVar 1))))) mNx))) mNx)
  (mSeq (mIfS (mTst (mBin D.gt (mIx (mVar 0) (mC (.int 2))) (mC (.int 0)))) (mSeq (mSet 3 (mBin D.mod (mBi (on1 D.toInt) (mCons (mIx (mVar 0) (mC (.int 2))) mNil)) (mVar 1)))
  (mSeq (mPut 0 (mBin D.fdiv (mBi (on1 D.toInt) (mCons (mIx (mVar 0) (mC (.int 2))) mNil)) (mVar 1)) (mC (.int 2)))
  (mRet (mVar 3)))) mNx)
  (mSeq (mPut 0 (mBin D.mod (mBi (on1 D.toInt) (mCons (mBin D.add (mBin D.mul (mIx (mVar 0) (mC (.int 3))) (mC (.int 48271))) (mC (.int 11))) mNil)) (mC (.int 2147483647))) (mC (.int 3)))
  (mRet (mBin D.mod (mBi (on1 D.toInt) (mCons (mBin D.fdiv (mIx (mVar 0) (mC (.int 3))) (mC (.int 3))) mNil)) (mVar 1))))))
def F__law_take : FD := fnF n__law_take m__law_take
abbrev n__law_some : List Str := ["d", "many", "k"]
def m__law_some : MS :=
  (mRet (mBi (on1 D.toTup) (mCons (mOfO (oLc false (mIr1 (mCons (mVar 1) mNil)) (gNm 2) (mTst (mBin D.eqo (mCall F__law_take (mCons (mVar 0) (mCons (mC (.int 2)) mNil))) (mC (.int 0)))) (mVar 2) [2])) mNil)))
def F__law_some : FD := fnF n__law_some m__law_some
def dOk (o : O) : Prop := ∃ (ns : List Int) (i big seed : Int), o = .lst [.lst (ns.map D.int), .int i, .int big, .int seed] ∧ ns.length ≤ 63 ∧ 0 ≤ i ∧ 0 ≤ big ∧ 0 ≤ seed
theorem dOk.mk {ns : List Int} {i big seed : Int} (h1 : ns.length ≤ 63) (h2 : 0 ≤ i) (h3 : 0 ≤ big) (h4 : 0 ≤ seed) : dOk (.lst [.lst (ns.map D.int), .int i, .int big, .int seed]) := ⟨ns, i, big, seed, rfl, h1, h2, h3, h4⟩
theorem pow1018 : (10 : Int) ^ (18 : Int).toNat = 1000000000000000000 := by decide +kernel
theorem atI_map {ns : List Int} {i : Int} (h0 : 0 ≤ i) (h : i < (ns.length : Int)) : ∃ x : Int, atI (ns.map D.int) i = some (.int x) := by
  obtain ⟨k, rfl⟩ : ∃ k : Nat, i = (k : Int) := ⟨i.toNat, by omega⟩
  have hk : k < ns.length := by omega
  exact ⟨ns[k], atI_nat (by rw [List.getElem?_map, List.getElem?_eq_getElem hk]; rfl)⟩
theorem take_ok {o : O} (h : dOk o) (many : Int) (h0 : 0 < many) (h1 : many < 1073741824) : Wp (F__law_take [.ref 0, .int many] [o]) (fun y => ∃ r o', y = (.int r, [o']) ∧ 0 ≤ r ∧ r < many ∧ dOk o') noE := by
  obtain ⟨ns, i, big, seed, rfl, hl, hi, hb, hs⟩ := h
  have m0 : ∀ x : Int, 0 ≤ x % many := fun x => Int.emod_nonneg _ (by omega)
  have m1 : ∀ x : Int, x % many < many := fun x => Int.emod_lt_of_pos _ h0
  have hd : 0 ≤ big / many := Int.ediv_nonneg hb (by omega)
  have fin : ∀ {r i big seed : Int}, 0 ≤ r → r < many → 0 ≤ i → 0 ≤ big → 0 ≤ seed → ∃ r' o', ((D.int r, [O.lst [.lst (ns.map D.int), .int i, .int big, .int seed]]) : D × List O) = (.int r', [o']) ∧ 0 ≤ r' ∧ r' < many ∧ dOk o' :=
    fun a b c d e => ⟨_, _, rfl, a, b, .mk hl c d e⟩
  unfold F__law_take m__law_take
  walk_at "ev"
  have hm : 0 < many ∧ many < 1073741824 := ⟨h0, h1⟩
  have hq : ∀ x : Int, 0 ≤ (x * 48271 + 11) % 2147483647 := fun _ => Int.emod_nonneg _ (by decide)
  have ab : ∀ x : Int, 0 ≤ (if x < 0 then -x else x) := fun x => by split <;> omega
  have dv : ∀ x : Int, 0 ≤ x → 0 ≤ x / many := fun x hx => Int.ediv_nonneg hx (by omega)
  simp only [h0, hm, true_and]
  by_cases c2 : i < (((ns.map D.int).length : Nat) : Int)
  · have c3 := c2
    rw [List.length_map] at c3
    obtain ⟨x, hx⟩ := atI_map hi c3
    simp only [kO_eq hx, if_pos c2]
    walk_at "ev"
    simp only [h0, hm, true_and]
    repeat' split
    all_goals refine fin (m0 _) (m1 _) ?_ ?_ ?_ <;> first | omega | exact dv _ (by omega) | exact hq _
  · simp only [if_neg c2]
    repeat' split
    all_goals refine fin (m0 _) (m1 _) ?_ ?_ ?_ <;> first | omega | exact dv _ (by omega) | exact hq _

/-- names that the law makes -/
def nm (c : Str) (k : Nat) : Str := c ++ Str.ofString (toString (k : Int))
theorem small_log {k : Nat} (h : k < 1000000) : ((k : Int)).natAbs.log2 < 1920 := by
  rw [Int.natAbs_natCast]
  by_cases h0 : k = 0
  · subst h0; decide
  · rw [Nat.log2_lt h0]
    exact Nat.lt_of_lt_of_le h (Nat.le_trans (by decide : (1000000 : Nat) ≤ 2 ^ 20) (Nat.pow_le_pow_right (by decide) (by decide)))
theorem len13 : ∀ k : Nat, k < 13 → (Str.ofString (toString (k : Int))).length ≤ 2 := by decide +kernel
def nD (k : Nat) : D := .int (k : Int)
theorem rng_at {lo : Int} {n i : Nat} {d : D} (h : (rngD lo n)[i]? = some d) : i < n ∧ d = .int (lo + i) := rngD_get h
theorem lim_small {j : Int} (h0 : -1000000 ≤ j) (h1 : j ≤ 1000000) : lim62 j = true := by
  unfold lim62
  rw [decide_eq_true_eq]
  omega
theorem len_app (x y : Str) : (x ++ y).length = x.length + y.length := by
  show (x.cps ++ y.cps).size = _
  rw [Array.size_append]
  rfl
theorem nm_len {c : Str} {k : Nat} (hc : c.length ≤ 1) (hk : k < 13) : c.length + (Str.ofString (toString (k : Int))).length ≤ 16777216 := by
  have := len13 k hk
  omega
theorem pw_snoc {α : Type} {R : α → α → Prop} {xs : List α} {y : α} (h : xs.Pairwise R) (hy : ∀ x ∈ xs, R x y) : (xs ++ [y]).Pairwise R := by
  rw [List.pairwise_append]
  refine ⟨h, List.pairwise_singleton _ _, fun x hx z hz => ?_⟩
  rw [List.mem_singleton.mp hz]
  exact hy x hx
theorem nD_eq (k : Nat) : D.int (k : Int) = nD k := rfl
theorem any_nD (i : Int) : ∀ ns : List Nat, ((ns.map nD).any fun y => D.eqv y (.int i)) = decide (∃ a ∈ ns, (a : Int) = i)
  | [] => by simp
  | n :: ns => by
    rw [List.map_cons, List.any_cons, any_nD i ns, show nD n = .int (n : Int) from rfl, eqv_int]
    by_cases h : (n : Int) = i
    · simp [h]
    · simp [h]
theorem okqA_nDs (n : Nat) (ns : List Nat) : D.okqA (ns.map nD) n = true := by
  have := okqA_ints n (ns.map fun (k : Nat) => (k : Int))
  rw [List.map_map] at this
  exact this
theorem ino_nD {i : Int} {ns : List Nat} : D.ino (.int i) (.tup (ns.map nD)) = some (.bl (decide (∃ a ∈ ns, (a : Int) = i))) := by
  have h1 : D.okq (.int i) 50 = true := rfl
  simp only [D.ino, D.inB, h1, if_true, okqA_nDs, any_nD]
  rfl
theorem wp_is {α : Type} {r : R α} {a : α} (h : Wp r (fun y => y = a) noE) : r = .ok a := by
  obtain ⟨b, e, h2⟩ := h.ok
  rw [e, h2]

/-! ### drawn lists -/
theorem draw_lc {α : Type} {en : α → D} {Q : Nat → α → Prop} {g : D → List Sl → Option (List Sl)} {me : ME} {sg : List Sl} {ds : List D} {o : O} {P : List D × List O → Prop} {E : EP'} (h : dOk o)
    (h1 : ∀ i d o, ds[i]? = some d → dOk o → ∃ sg1, g d sg = some sg1 ∧ Wp (me sg1 [o]) (fun y => ∃ a o', y = (en a, [o']) ∧ Q i a ∧ dOk o') noE)
    (h2 : ∀ (l : List α) o', l.length = ds.length → (∀ i a, l[i]? = some a → Q i a) → dOk o' → P (l.map en, [o'])) : Wp (lcR g mYes me sg ds [o]) P E := by
  refine Wp.lc (fun i acc S => ∃ (l : List α) (o' : O), acc = l.map en ∧ l.length = i ∧ (∀ i a, l[i]? = some a → Q i a) ∧ S = [o'] ∧ dOk o') ⟨[], o, rfl, rfl, fun i a e => by simp at e, rfl, h⟩ ?_ ?_
  · rintro i d acc S hd ⟨l, o1, rfl, hl, hq, rfl, ho⟩
    obtain ⟨sg1, e1, w1⟩ := h1 i d o1 hd ho
    refine ⟨sg1, e1, ?_⟩
    rw [w_Yes]
    simp only [if_true]
    refine w1.imp ?_
    rintro _ ⟨a, o2, rfl, qa, h2'⟩
    refine ⟨l ++ [a], o2, by simp, by simp [hl], fun j b e => ?_, rfl, h2'⟩
    rw [List.getElem?_append] at e
    split at e
    · exact hq j b e
    · rename_i hk
      cases hkk : j - l.length with
      | zero =>
        rw [hkk] at e
        cases e
        have : j = i := by omega
        subst this
        exact qa
      | succ n => rw [hkk] at e; cases e
  · rintro acc S ⟨l, o1, rfl, hl, hq, rfl, ho⟩
    exact h2 l o1 hl hq ho
/-- some of the numbers below n -/
structure SomeOk (n : Nat) (c : List Nat) : Prop where
  asc : c.Pairwise (· < ·)
  lt : ∀ a ∈ c, a < n
theorem SomeOk.len {n : Nat} {c : List Nat} (h : SomeOk n c) : c.length ≤ n := by
  have hn : c.Nodup := h.asc.imp fun h => by omega
  have : c.length ≤ (List.range n).length := by
    refine L2.nat_nodup_len c (List.range n) hn fun x hx => List.mem_range.mpr (h.lt x hx)
  simpa using this
theorem some_ok {o : O} (h : dOk o) (n : Nat) (hn : n < 1000) : Wp (F__law_some [.ref 0, nD n] [o]) (fun y => ∃ c o', y = (.tup (c.map nD), [o']) ∧ SomeOk n c ∧ dOk o') noE := by
  unfold F__law_some m__law_some nD
  walk_at "ev"
  refine ⟨lim_small (by omega) (by omega), by rw [rngD_len]; omega, ?_⟩
  refine Wp.lc (fun i acc S => ∃ (c : List Nat) (o' : O), acc = c.map nD ∧ SomeOk i c ∧ S = [o'] ∧ dOk o') ⟨[], o, rfl, ⟨List.Pairwise.nil, fun a ha => by simp at ha⟩, rfl, h⟩ ?_ ?_
  · rintro i d acc S hd ⟨c, o1, rfl, hc, rfl, ho⟩
    obtain ⟨hi, rfl⟩ := rng_at hd
    refine ⟨_, rfl, ?_⟩
    walk_at "ev"
    refine (take_ok ho 2 (by decide) (by decide)).imp ?_
    rintro _ ⟨r, o2, rfl, r0, r1, h2⟩
    walk_at "ev"
    rw [Int.zero_add]
    split
    · exact ⟨c ++ [i], o2, by rw [List.map_append]; rfl, ⟨pw_snoc hc.asc hc.lt, fun a ha => by
        rcases List.mem_append.mp ha with ha | ha
        · have := hc.lt a ha; omega
        · rw [List.mem_singleton.mp ha]; omega⟩, rfl, h2⟩
    · exact ⟨c, o2, rfl, ⟨hc.asc, fun a ha => Nat.lt_succ_of_lt (hc.lt a ha)⟩, rfl, h2⟩
  · rintro acc S ⟨c, o1, rfl, hc, rfl, ho⟩
    rw [rngD_len] at hc
    walk_at "ev"
    exact ⟨c, o1, rfl, hc, ho⟩

end
end Law

namespace Law
noncomputable section
open PySem PySem.Spec PyProof.Rows L2 D2
local macro_rules | `(tactic| walk_at "ev") => `(tactic| simp (decide := true) only [kO_some, w_C, w_Var, w_VarW, kVar_val, kVarW_val, kVarW_lst, kVarW_dic, w_Flat, kFlat_eq, w_Bin, kBin_eq, kBin2_eq, w_Un, kUn_eq, w_Tup, kTup_eq, w_Lst, kLst_eq, w_Nil, w_Cons, kCons_eq, kCons2_eq, w_And, kAnd_eq, w_Or, kOr_eq, w_Tst, kTst_eq, w_Tru, kTru_bl, kTru_int, kTru_tup, kTru_lst, kTru_non, w_NotT, kNotT_eq, w_AndT, kAndT_eq, w_OrT, kOrT_eq, w_IsN, kIsN_eq, w_If, kIf_eq, w_Chain, kCh1_eq, kCh2_eq, kCh3_eq, w_Bi, kBi_eq, on1_eq, on2_eq, w_Meth, kMeth_eq, kMeth2_eq, w_Ix, kIx_eq, kIx2_eq, w_Get2, kGet1_eq, kGet2_eq, kGet3_eq, w_NoP, w_Part, kPart_eq, w_Sl, kSl1_eq, kSl2_eq, kSl3_eq, w_Call, kCall_eq, w_CallP, kCallP_eq, w_OfO, kOfO_eq, toD_lst, toD_dic, w_LstO, kLstO_eq, w_DicO, w_Rep, kRep_eq, kRep2_eq, w_Pn, w_Pc, kPc1_eq, kPc2_eq, kPc3_eq, w_Disp, kDisp_eq, kDisp2_eq, keyed_nil, keyed_S, keyed_I, w_Lc, kLc_eq, kLc2_eq, w_Il, kIl_eq, w_It, kIt_eq, w_Ir1, kIr1_eq, w_Ir2, kIr2_eq, w_Ie, kIe_eq, w_IeT, kIeT_eq, w_Yes, w_Seq, kSeq_nx, kSeq_bk, kSeq_ct, kSeq_rt, w_Nx, w_Bk, w_Ct, w_RetN, w_Ret, kRet_eq, w_Drop, kDrop_eq, w_IfS, kIfS_eq, w_Frz, w_Set, kSet_eq, w_SetO, kSetO_eq, w_Aft, kAft_eq, w_Asg, kAsg_eq, kAsg2_eq, w_For, kFor_eq, w_While, w_Put, kPut_eq, kPut2_own, kPut2_ref, kPutR_eq, w_Own, w_OwnE, w_OwnS, kOwn_eq, kOwnE_eq, kOwnS_eq, w_Fn, kFn_nx, kFn_rt, kLoop_nx, kLoop_ct, kLoop_bk, kLoop_rt, w_Ir3, kIr3_eq, w_Lrg, kLrg_eq, w_AppPop, kApp0_eq, w_Never, w_Irv, kIrv_eq, w_Star, kStar_tup, kStar_lst, kStar2_eq, w_CallX, kCallX_eq, w_Raise, kRaise_eq, w_Done, kDone_eq, w_Try, kTry_eq, w_msRetF, kFld_some, w_msRetC, w_msRetP, kFld2_some, w_ToL, kToL_tup, kToL_lst, w_Chain3, kD0_eq, kD1_eq, kD2_eq, kD3_eq, kD4_eq, w_Add, kAdd_eq, kAdd2_eq, w_msRet, w_xF, kFldE_some, w_xBin, w_Hd, w_TryN, kTryN_eq, kHd_some, kHd_only, w_IfT, kIfT_eq, w_Iz, kIz_tup, kIz_lst, w_xOwnE, w_xOne, w_CallL, kCallL_eq, w_CallF, kCF_fn, kCF2_eq, w_lamF, w_IzM, kIzM_tl, o_addI, o_addS, o_addT, o_addL, o_sub, o_fdiv, o_mod, o_pow, o_shl, o_shr, o_and, o_or, o_mul, o_lt, o_le, o_gt, o_ge, lt_eq, le_eq, gt_eq, ge_eq, o_neg, o_nob, o_eqI, o_eqS, o_neI, o_neS, eqo_int, ixS_tup, ixS_lst, ixS_dic, ixS_ref0, ixS_ref1, ixo_tup, ixo_lst, ixo_dicI, ixo_dicS, atI_0, atI_1, atI_2, atI_3, atI_4, atI_5, atI_6, atI_7, atI_8, pr_0, pr_1, pr_2, pr_3, po_dicI, po_dicS, app_eq, ext_eq, isL_eq, isD_eq, DisL_eq, o_lenL, o_lenT, o_lenD, o_lenS, o_toI, o_abs, o_strI, o_max2, o_min2, o_toT, o_toTT, o_toL, o_toLT, o_sloT, o_sloL, o_sloS, g_Nm, g_Tu, g_Cons, g_Nil, own_val, own_no, merge_new, dGet_cons, dGet_nil, dGet2_S, dGet2_I, o_sset, o_ssetI, o_toIb, fl_int, fl_bl, fl_str, fl_non, isNon_non, isNon_int, isNon_tup, o_inI, o_ninI, o_ninE, o_mkRng, isNon_bl, o_eqB, o_mulI, o_mulTup, o_mulLst, o_revT, o_isStrS, o_isStrT, o_isStrN, o_ltG, o_sortG, o_ssetL, o_ssetLt, o_lenSetI, o_tupRg, o_minGl, o_minGt, o_maxGl, o_maxGt, o_bestDl, o_bestDt, o_bestDln, o_bestDtn, o_lenSetT, o_sortT, o_capsN, o_capsC, o_capV, o_isB, o_notB, o_sumT, List.getElem?_cons_zero, List.getElem?_cons_succ, List.set_cons_zero, List.set_cons_succ, List.length_cons, List.length_nil, List.map_cons, List.map_nil, List.cons_append, List.nil_append, List.replicate_succ, List.replicate_zero, if_true, if_false, decide_eq_true_eq, decide_eq_false_iff_not, Bool.false_eq_true, and_true, true_and, Bool.not_true, Bool.not_false, reduceIte, Option.bind_some, Option.map_some, Option.getD_some, Option.getD_none, Sum.inr.injEq, Sum.inl.injEq, Nat.reduceAdd, Nat.reduceSub, Nat.reduceLeDiff, Nat.reduceLT, Nat.reduceEqDiff, reduceCtorEq, Int.reduceLT, Int.reduceLE, Int.reduceEq, Int.reduceAdd, Int.reduceSub, Int.reduceMul, Int.reduceNeg, Int.cast_ofNat_Int, Int.natCast_zero, Int.reduceToNat, Int.reducePow, or_true, true_or, String.reduceEq, decide_true, decide_false, Bool.not_eq_true', Bool.not_eq_false', List.all_cons, List.all_nil, Bool.and_true, Bool.true_and, Bool.true_or, Bool.or_true, wipeS, startS, hdOf_cons])
abbrev n__law_film : List Str := ["d", "scenes", "actors", "places", "rows", "k", "orders"]
def m__law_film_b1 : MS :=
  (mOwnE 4 O.isL O.append (mCons (mTup (mCons (mBin D.add (mC (.str "s")) (mBi (on1 D.toStrI) (mCons (mVar 5) mNil))) (mCons (mCall F__law_take (mCons (mVar 0) (mCons (mVar 3) mNil))) (mCons (mC (.str "any")) (mCons (mBin D.add (mC (.int 30)) (mBin D.mul (mC (.int 5)) (mCall F__law_take (mCons (mVar 0) (mCons (mC (.int 12)) mNil))))) (mCons (mC (.bl false)) (mCons (mCall F__law_some (mCons (mVar 0) (mCons (mVar 2) mNil))) mNil))))))) mNil))
def m__law_film : MS :=
  (mSeq (mSet 2 (mBin D.add (mC (.int 1)) (mCall F__law_take (mCons (mVar 0) (mCons (mC (.int 2)) mNil)))))
  (mSeq (mSet 3 (mBin D.add (mC (.int 1)) (mCall F__law_take (mCons (mVar 0) (mCons (mC (.int 2)) mNil)))))
  (mSeq (mSetO 4 (oLst mNil))
  (mSeq (mFor (mIr1 (mCons (mVar 1) mNil)) (gNm 5) (m__law_film_b1))
  (mSeq (mSet 6 (mBi (on1 D.toTup) (mCons (mOfO (oLc false (mIr1 (mCons (mBin D.sub (mVar 1) (mC (.int 1))) mNil)) (gNm 5) (mTst (mBin D.eqo (mCall F__law_take (mCons (mVar 0) (mCons (mC (.int 3)) mNil))) (mC (.int 0)))) (mTup (mCons (mVar 5) (mCons (mBin D.add (mVar 5) (mC (.int 1))) mNil))) [5])) mNil)))
  (mFrz 4 (mRet (mTup (mCons (mBi (on1 D.toTup) (mCons (mOfO (oLc false (mIr1 (mCons (mVar 3) mNil)) (gNm 5) mYes (mTup (mCons (mBin D.add (mC (.str "p")) (mBi (on1 D.toStrI) (mCons (mVar 5) mNil))) (mCons (mC (.bl false)) mNil))) [5])) mNil)) (mCons (mBi (on1 D.toTup) (mCons (mOfO (oLc false (mIr1 (mCons (mVar 2) mNil)) (gNm 5) mYes (mTup (mCons (mBin D.add (mC (.str "a")) (mBi (on1 D.toStrI) (mCons (mVar 5) mNil))) (mCons (mC (.bl false)) mNil))) [5])) mNil)) (mCons (mBi (on1 D.toTup) (mCons (mVar 4) mNil)) (mCons (mVar 6) (mCons (mTup (mCons (mC (.int 10)) (mCons (mC (.int 20)) (mCons (mC (.int 30)) mNil)))) mNil)))))))))))))
def F__law_film : FD := fnF n__law_film m__law_film
abbrev n__law_sheet : List Str := ["d", "scenes", "whole", "full", "dry", "rain"]
def m__law_sheet : MS :=
  (mSeq (mSet 3 (mUn D.tupRg (mVar 1)))
  (mSeq (mSet 4 (mIf (mOrT (mTru (mVar 2)) (mTst (mBin D.gt (mCall F__law_take (mCons (mVar 0) (mCons (mC (.int 3)) mNil))) (mC (.int 0))))) (mVar 3) (mCall F__law_some (mCons (mVar 0) (mCons (mVar 1) mNil)))))
  (mSeq (mSet 5 (mIf (mOrT (mTru (mVar 2)) (mTst (mBin D.gt (mCall F__law_take (mCons (mVar 0) (mCons (mC (.int 3)) mNil))) (mC (.int 0))))) (mVar 3) (mCall F__law_some (mCons (mVar 0) (mCons (mVar 1) mNil)))))
  (mSeq (mIfS (mTst (mBin D.eqo (mCall F__law_take (mCons (mVar 0) (mCons (mC (.int 4)) mNil))) (mC (.int 0)))) (mSeq (mSet 4 (mBin D.add (mBin D.add (mSl (mVar 4) mNoP (mPart (mC (.int 1)))) (mTup (mCons (mUn D.neg (mC (.int 1))) mNil))) (mSl (mVar 4) (mPart (mC (.int 1))) mNoP)))
  (mSet 5 (mBin D.add (mTup (mCons (mUn D.neg (mC (.int 1))) mNil)) (mVar 5)))) mNx)
  (mRet (mTup (mCons (mIx (mLst (mCons (mC (.int 0)) (mCons (mC (.int 15)) (mCons (mBin D.add (mC (.int 420)) (mBin D.mul (mC (.int 30)) (mCall F__law_take (mCons (mVar 0) (mCons (mC (.int 6)) mNil))))) (mCons (mC (.int 420)) mNil))))) (mCall F__law_take (mCons (mVar 0) (mCons (mC (.int 4)) mNil)))) (mCons (mVar 4) (mCons (mVar 5) mNil)))))))))
def F__law_sheet : FD := fnF n__law_sheet m__law_sheet
abbrev n__law_case : List Str := ["d", "days", "scenes", "film", "menu", "k", "rows", "bounds", "fees", "j"]
def m__law_case_b1 : MS :=
  (mSeq (mSet 6 (mBin D.add (mTup (mCons (mCall F__law_sheet (mCons (mVar 0) (mCons (mVar 2) (mCons (mC (.bl true)) mNil)))) mNil)) (mBi (on1 D.toTup) (mCons (mOfO (oLc false (mIr1 (mCons (mCall F__law_take (mCons (mVar 0) (mCons (mC (.int 3)) mNil))) mNil)) (gNm 9) mYes (mCall F__law_sheet (mCons (mVar 0) (mCons (mVar 2) (mCons (mC (.bl false)) mNil)))) [9])) mNil))))
  (mOwnE 4 O.isL O.append (mCons (mIf (mTst (mBin D.eqo (mCall F__law_take (mCons (mVar 0) (mCons (mC (.int 4)) mNil))) (mC (.int 0)))) (mUn D.revT (mVar 6)) (mVar 6)) mNil)))
def m__law_case : MS :=
  (mSeq (mSet 2 (mBin D.add (mC (.int 1)) (mCall F__law_take (mCons (mVar 0) (mCons (mC (.int 3)) mNil)))))
  (mSeq (mSet 3 (mCall F__law_film (mCons (mVar 0) (mCons (mVar 2) mNil))))
  (mSeq (mSetO 4 (oLst mNil))
  (mSeq (mFor (mIr1 (mCons (mVar 1) mNil)) (gNm 5) (m__law_case_b1))
  (mSeq (mSet 7 (mTup (mCons (mCall F__law_take (mCons (mVar 0) (mCons (mC (.int 2)) mNil))) (mCons (mCall F__law_take (mCons (mVar 0) (mCons (mC (.int 2)) mNil))) (mCons (mCall F__law_take (mCons (mVar 0) (mCons (mC (.int 2)) mNil))) (mCons (mC (.int 60)) mNil))))))
  (mSeq (mSet 8 (mBi (on1 D.toTup) (mCons (mOfO (oLc false (mIr1 (mCons (mBi (on1 D.len) (mCons (mIx (mVar 3) (mC (.int 1))) mNil)) mNil)) (gNm 5) mYes (mTup (mCons (mCall F__law_take (mCons (mVar 0) (mCons (mC (.int 50)) mNil))) (mCons (mTup mNil) mNil))) [5])) mNil)))
  (mFrz 4 (mRet (mTup (mCons (mVar 3) (mCons (mTup (mCons (mBin D.mulT (mTup (mCons (mTup (mCons (mC (.int 360)) (mCons (mC (.int 1080)) mNil))) mNil)) (mVar 1)) (mCons (mTup mNil) (mCons (mTup mNil) mNil)))) (mCons (mTup mNil) (mCons (mBi (on1 D.toTup) (mCons (mVar 4) mNil)) (mCons (mVar 7) (mCons (mVar 8) mNil)))))))))))))))
def F__law_case : FD := fnF n__law_case m__law_case
/-! ### the films, sheets and cases of the laws on news, mends, notices, cuts -/
structure NSc where
  name : Str
  place : Nat
  len : Int
  cast : List Nat
def NSc.d (s : NSc) : D := .tup [.str s.name, nD s.place, .str "any", .int s.len, .bl false, .tup (s.cast.map nD)]
def nmD (x : Str) : D := .tup [.str x, .bl false]
def sucD (k : Nat) : D := .tup [nD k, nD (k + 1)]
structure NFilm where
  places : List Str
  actors : List Str
  scenes : List NSc
  orders : List Nat
def NFilm.d (f : NFilm) : D := .tup [.tup (f.places.map nmD), .tup (f.actors.map nmD), .tup (f.scenes.map NSc.d), .tup (f.orders.map sucD), .tup [.int 10, .int 20, .int 30]]
structure NScOk (np na : Nat) (k : Nat) (s : NSc) : Prop where
  name : s.name = nm "s" k
  place : s.place < np
  len : ∃ t : Nat, t < 12 ∧ s.len = 30 + 5 * (t : Int)
  cast : SomeOk na s.cast
structure NFilmOk (n : Nat) (f : NFilm) : Prop where
  np : 0 < f.places.length ∧ f.places.length < 3
  na : 0 < f.actors.length ∧ f.actors.length < 3
  ns : f.scenes.length = n
  pn : ∀ k p, f.places[k]? = some p → p = nm "p" k
  an : ∀ k p, f.actors[k]? = some p → p = nm "a" k
  sc : ∀ k s, f.scenes[k]? = some s → NScOk f.places.length f.actors.length k s
  od : SomeOk (n - 1) f.orders
theorem names_pure {c : Str} {sg : List Sl} {S : List O} {n : Nat} (hc : c.length ≤ 1) (hn : n < 13) (h5 : isOwn sg[5]? = false) (h5l : 5 < sg.length) :
    lcR (gNm 5) mYes (mTup (mCons (mBin D.add (mC (.str c)) (mBi (on1 D.toStrI) (mCons (mVar 5) mNil))) (mCons (mC (.bl false)) mNil))) sg (rngD 0 n) S = .ok (((List.range n).map fun k => nm c k).map nmD, S) := by
  have e0 : rngD 0 n = (List.range n).map fun (k : Nat) => D.int (0 + (k : Int)) := rfl
  rw [e0]
  have := lc_pure (gg := gNm 5) (mt := mYes) (me := mTup (mCons (mBin D.add (mC (.str c)) (mBi (on1 D.toStrI) (mCons (mVar 5) mNil))) (mCons (mC (.bl false)) mNil))) (sg := sg) (S := S) (en := fun k : Nat => D.int (0 + (k : Int))) (p := fun _ => true) (f := fun k => nmD (nm c k)) (xs := List.range n) fun k hk => ?_
  · rw [this, List.filter_eq_self.mpr fun _ _ => rfl, List.map_map]
    rfl
  · have hkn := List.mem_range.mp hk
    refine ⟨_, gNm_ok h5, rfl, fun _ => wp_is ?_⟩
    simp only [w_Tup, w_Cons, kCons_eq, kCons2_eq, w_Nil, w_Bin, kBin_eq, kBin2_eq, w_C, w_Bi, kBi_eq, w_Var, on1_eq, kTup_eq]
    rw [List.getElem?_set, if_pos rfl, if_pos h5l]
    simp only [kVar_val, w_Cons, kCons_eq, kCons2_eq, w_Nil, kBi_eq, on1_eq, o_strI, o_addS, kBin_eq, kBin2_eq, w_C, kTup_eq, Int.zero_add]
    refine ⟨small_log (by omega), nm_len hc (by omega), by simp, rfl⟩
theorem film_ok {o : O} (h : dOk o) (n : Nat) (h1 : n < 13) : Wp (F__law_film [.ref 0, nD n] [o]) (fun y => ∃ f o', y = (NFilm.d f, [o']) ∧ NFilmOk n f ∧ dOk o') noE := by
  unfold F__law_film m__law_film nD
  walk_at "ev"
  refine (take_ok h 2 (by decide) (by decide)).imp ?_
  rintro _ ⟨r, o1, rfl, r0, r1, hd1⟩
  obtain ⟨na, rfl⟩ : ∃ k : Nat, r = (k : Int) := ⟨r.toNat, by omega⟩
  walk_at "ev"
  refine (take_ok hd1 2 (by decide) (by decide)).imp ?_
  rintro _ ⟨r, o2, rfl, q0, q1, hd2⟩
  obtain ⟨np, rfl⟩ : ∃ k : Nat, r = (k : Int) := ⟨r.toNat, by omega⟩
  walk_at "ev"
  refine ⟨lim_small (by omega) (by omega), ?_⟩
  rw [Int.toNat_natCast]
  refine Wp.loop (fun i sg S => ∃ (sc : List NSc) (x5 : Sl) (o' : O), sg = [.val (.ref 0), .val (.int n), .val (.int (1 + (na : Int))), .val (.int (1 + (np : Int))), .own (.lst (sc.map NSc.d)), x5, .no] ∧ S = [o'] ∧ dOk o' ∧
      isOwn (some x5) = false ∧ sc.length = i ∧ ∀ k s, sc[k]? = some s → NScOk (1 + np) (1 + na) k s) ⟨[], .no, o2, rfl, rfl, hd2, rfl, rfl, fun k s e => by simp at e⟩ ?_ ?_
  · rintro i d sg S hd ⟨sc, x5, o3, rfl, rfl, ho, hx5, hl, hs⟩
    obtain ⟨hi, rfl⟩ := rng_at hd
    refine ⟨_, gNm_ok hx5, ?_⟩
    unfold m__law_film_b1
    walk_at "ev"
    rw [Int.zero_add]
    refine ⟨small_log (by omega), nm_len (by decide) (by omega), ?_⟩
    refine (take_ok ho (1 + (np : Int)) (by omega) (by omega)).imp ?_
    rintro _ ⟨pl, o4, rfl, p0, p1, hd4⟩
    obtain ⟨pl, rfl⟩ : ∃ k : Nat, pl = (k : Int) := ⟨pl.toNat, by omega⟩
    walk_at "ev"
    refine (take_ok hd4 12 (by decide) (by decide)).imp ?_
    rintro _ ⟨t, o5, rfl, t0, t1, hd5⟩
    obtain ⟨t, rfl⟩ : ∃ k : Nat, t = (k : Int) := ⟨t.toNat, by omega⟩
    walk_at "ev"
    rw [show D.int (1 + (na : Int)) = nD (1 + na) from by unfold nD; congr 1]
    refine (some_ok hd5 (1 + na) (by omega)).imp ?_
    rintro _ ⟨cast, o6, rfl, hc, hd6⟩
    walk_at "ev"
    refine ⟨by rw [List.length_map]; omega, sc ++ [⟨nm "s" i, pl, 30 + 5 * (t : Int), cast⟩], .val (.int i), o6, ?_, rfl, hd6, rfl, by simp [hl], fun k s e => ?_⟩
    · rw [List.map_append]
      rfl
    · rw [List.getElem?_append] at e
      split at e
      · exact hs k s e
      · rename_i hk
        cases hkk : k - sc.length with
        | zero =>
          rw [hkk] at e
          cases e
          have : k = i := by omega
          subst this
          exact ⟨rfl, by show pl < _; omega, ⟨t, by omega, rfl⟩, hc⟩
        | succ j => rw [hkk] at e; cases e
  · intro sg S hI
    obtain ⟨sc, x5, o3, e1, e2, hd3, hx5, hsl, hsc⟩ := hI
    subst e1
    subst e2
    rw [rngD_len] at hsl
    walk_at "ev"
    refine ⟨lim_small (by omega) (by omega), by rw [rngD_len]; omega, by simpa using hx5, ?_⟩
    rw [show ((n : Int) - 1).toNat = n - 1 by omega]
    refine Wp.lc (fun i acc S => ∃ (c : List Nat) (o' : O), acc = c.map sucD ∧ SomeOk i c ∧ S = [o'] ∧ dOk o') ⟨[], o3, rfl, ⟨List.Pairwise.nil, fun a ha => by simp at ha⟩, rfl, hd3⟩ ?_ ?_
    · rintro i d acc S hd ⟨c, o4, rfl, hc, rfl, ho⟩
      obtain ⟨hi, rfl⟩ := rng_at hd
      refine ⟨_, rfl, ?_⟩
      walk_at "ev"
      refine (take_ok ho 3 (by decide) (by decide)).imp ?_
      rintro _ ⟨r, o5, rfl, r0, r1, h2⟩
      walk_at "ev"
      rw [Int.zero_add]
      split
      · exact ⟨c ++ [i], o5, by rw [List.map_append]; rfl, ⟨pw_snoc hc.asc hc.lt, fun a ha => by
          rcases List.mem_append.mp ha with ha | ha
          · have := hc.lt a ha; omega
          · rw [List.mem_singleton.mp ha]; omega⟩, rfl, h2⟩
      · exact ⟨c, o5, rfl, ⟨hc.asc, fun a ha => Nat.lt_succ_of_lt (hc.lt a ha)⟩, rfl, h2⟩
    · rintro acc S ⟨od, o4, rfl, hod, rfl, ho⟩
      rw [rngD_len] at hod
      walk_at "ev"
      simp only [frz, List.getElem?_cons_succ, List.getElem?_cons_zero, List.set_cons_succ, List.set_cons_zero, toD_lst]
      walk_at "ev"
      refine ⟨lim_small (by omega) (by omega), by rw [rngD_len]; omega, hx5, ?_⟩
      rw [show (1 + (np : Int)).toNat = 1 + np by omega, wp_eq (names_pure (by decide) (by omega) (by simp [isOwn]) (by simp))]
      walk_at "ev"
      refine ⟨lim_small (by omega) (by omega), by rw [rngD_len]; omega, hx5, ?_⟩
      rw [show (1 + (na : Int)).toNat = 1 + na by omega, wp_eq (names_pure (by decide) (by omega) (by simp [isOwn]) (by simp))]
      walk_at "ev"
      refine ⟨⟨(List.range (1 + np)).map fun k => nm "p" k, (List.range (1 + na)).map fun k => nm "a" k, sc, od⟩, o4, rfl, ⟨by simp; omega, by simp; omega, hsl, fun k p e => ?_, fun k p e => ?_, by simpa using hsc, hod⟩, ho⟩
      · simp only [List.getElem?_map, Option.map_eq_some_iff] at e
        obtain ⟨j, hj, rfl⟩ := e
        obtain ⟨hj1, hj2⟩ := List.getElem?_eq_some_iff.mp hj
        rw [List.getElem_range] at hj2
        rw [hj2]
      · simp only [List.getElem?_map, Option.map_eq_some_iff] at e
        obtain ⟨j, hj, rfl⟩ := e
        obtain ⟨hj1, hj2⟩ := List.getElem?_eq_some_iff.mp hj
        rw [List.getElem_range] at hj2
        rw [hj2]

structure NSheet where
  call : Int
  dry : List Int
  rain : List Int
def intsD (l : List Int) : D := .tup (l.map D.int)
def NSheet.d (s : NSheet) : D := .tup [.int s.call, intsD s.dry, intsD s.rain]
/-- a list: scenes ascending, with meals among them -/
structure NListOk (n : Nat) (l : List Int) : Prop where
  it : ∀ x ∈ l, x = -1 ∨ (0 ≤ x ∧ x < (n : Int))
  asc : (l.filter (fun x => !decide (x = -1))).Pairwise (· < ·)
  len : l.length ≤ n + 1
structure NSheetOk (n : Nat) (s : NSheet) : Prop where
  call : 0 ≤ s.call ∧ s.call ≤ 570
  dry : NListOk n s.dry
  rain : NListOk n s.rain
theorem nD_ints (c : List Nat) : c.map nD = (c.map fun (k : Nat) => (k : Int)).map D.int := by rw [List.map_map]; rfl
theorem some_list {n : Nat} {c : List Nat} (h : SomeOk n c) : (∀ x ∈ c.map (fun (k : Nat) => (k : Int)), 0 ≤ x ∧ x < (n : Int)) ∧ (c.map fun (k : Nat) => (k : Int)).Pairwise (· < ·) ∧ (c.map fun (k : Nat) => (k : Int)).length ≤ n := by
  refine ⟨fun x hx => ?_, ?_, by rw [List.length_map]; exact h.len⟩
  · obtain ⟨k, hk, rfl⟩ := List.mem_map.mp hx
    have := h.lt k hk
    omega
  · rw [List.pairwise_map]
    exact h.asc.imp fun h => by omega
theorem filt_all {l : List Int} (h : ∀ x ∈ l, 0 ≤ x) : l.filter (fun x => !decide (x = -1)) = l := by
  refine List.filter_eq_self.mpr fun x hx => ?_
  have := h x hx
  have : ¬ x = -1 := by omega
  simp [this]
theorem plain_list {n : Nat} {l : List Int} (h1 : ∀ x ∈ l, 0 ≤ x ∧ x < (n : Int)) (h2 : l.Pairwise (· < ·)) (h3 : l.length ≤ n) : NListOk n l :=
  ⟨fun x hx => .inr (h1 x hx), by rw [filt_all fun x hx => (h1 x hx).1]; exact h2, by omega⟩
theorem meal_list {n : Nat} {a b : List Int} (h1 : ∀ x ∈ a ++ b, 0 ≤ x ∧ x < (n : Int)) (h2 : (a ++ b).Pairwise (· < ·)) (h3 : (a ++ b).length ≤ n) : NListOk n (a ++ -1 :: b) := by
  refine ⟨fun x hx => ?_, ?_, ?_⟩
  · rcases List.mem_append.mp hx with hx | hx
    · exact .inr (h1 x (List.mem_append_left _ hx))
    · rcases List.mem_cons.mp hx with hx | hx
      · exact .inl hx
      · exact .inr (h1 x (List.mem_append_right _ hx))
  · rw [List.filter_append, List.filter_cons]
    have e : (!decide ((-1 : Int) = -1)) = false := by simp
    rw [e]
    simp only [Bool.false_eq_true, if_false]
    rw [filt_all fun x hx => (h1 x (List.mem_append_left _ hx)).1, filt_all fun x hx => (h1 x (List.mem_append_right _ hx)).1]
    exact h2
  · simp only [List.length_append, List.length_cons] at h3 ⊢
    omega
theorem rng_ints (n : Nat) : rngD 0 n = ((List.range n).map fun (k : Nat) => (k : Int)).map D.int := by
  unfold rngD
  rw [List.map_map]
  refine List.map_congr_left fun k _ => ?_
  show D.int (0 + (k : Int)) = D.int (k : Int)
  rw [Int.zero_add]
theorem range_some (n : Nat) : SomeOk n (List.range n) := ⟨by first | exact List.pairwise_lt_range | exact List.pairwise_lt_range _, fun a ha => List.mem_range.mp ha⟩
structure Plain (n : Nat) (l : List Int) : Prop where
  it : ∀ x ∈ l, 0 ≤ x ∧ x < (n : Int)
  asc : l.Pairwise (· < ·)
  len : l.length ≤ n
theorem SomeOk.plain {n : Nat} {c : List Nat} (h : SomeOk n c) : Plain n (c.map fun (k : Nat) => (k : Int)) := let ⟨a, b, c⟩ := some_list h; ⟨a, b, c⟩
theorem half_ok {o : O} (h : dOk o) (n : Nat) (h1 : n < 13) {wh : D} {x4 x5 : Sl} {P : D × List O → Prop} {E : EP'}
    (hP : ∀ (l : List Int) o', Plain n l → dOk o' → P (intsD l, [o'])) :
    Wp (F__law_take [.ref 0, .int 3] [o]) (kBin D.gt (mC (.int 0)) [.val (.ref 0), .val (.int n), .val wh, .val (.tup (rngD 0 n)), x4, x5]
      (kTst (kIf (mVar 3) (mCall F__law_some (mCons (mVar 0) (mCons (mVar 1) mNil))) [.val (.ref 0), .val (.int n), .val wh, .val (.tup (rngD 0 n)), x4, x5] P E)) E) E := by
  have full : ∀ o', dOk o' → P (.tup (rngD 0 n), [o']) := fun o' ho => by
    have := hP _ o' (range_some n).plain ho
    unfold intsD at this
    rw [← rng_ints] at this
    exact this
  refine (take_ok h 3 (by decide) (by decide)).no ?_
  rintro _ ⟨r, o1, rfl, r0, r1, hd1⟩
  walk_at "ev"
  split
  · exact full o1 hd1
  · refine (some_ok hd1 n (by omega)).no ?_
    rintro _ ⟨c, o2, rfl, hc, hd2⟩
    have := hP _ o2 hc.plain hd2
    unfold intsD at this
    rw [← nD_ints] at this
    exact this
theorem cut1 (l : List Int) : ∃ a b, l = a ++ b ∧ D2.cutD (l.map D.int) none (some 1) = a.map D.int ∧ D2.cutD (l.map D.int) (some 1) none = b.map D.int := by
  refine ⟨l.take 1, l.drop 1, (List.take_append_drop 1 l).symm, ?_, ?_⟩
  · unfold D2.cutD
    rw [show HT.sIx (l.map D.int).length 0 none = 0 from rfl, show HT.sIx (l.map D.int).length (l.map D.int).length (some 1) = min 1 (l.map D.int).length from HT.sIx_nat _ _ 1]
    rw [List.drop_zero, Nat.sub_zero, ← List.map_take, List.length_map]
    congr 1
    cases l <;> simp
  · unfold D2.cutD
    rw [show HT.sIx (l.map D.int).length 0 (some 1) = min 1 (l.map D.int).length from HT.sIx_nat _ _ 1, show HT.sIx (l.map D.int).length (l.map D.int).length none = (l.map D.int).length from rfl]
    rw [List.length_map]
    cases l with
    | nil => rfl
    | cons x l => 
      simp
      exact List.take_of_length_le (by simp)
def sheetEnd : MS := mRet (mTup (mCons (mIx (mLst (mCons (mC (.int 0)) (mCons (mC (.int 15)) (mCons (mBin D.add (mC (.int 420)) (mBin D.mul (mC (.int 30)) (mCall F__law_take (mCons (mVar 0) (mCons (mC (.int 6)) mNil))))) (mCons (mC (.int 420)) mNil))))) (mCall F__law_take (mCons (mVar 0) (mCons (mC (.int 4)) mNil)))) (mCons (mVar 4) (mCons (mVar 5) mNil))))
theorem tail_ok {o2 : O} (n : Nat) (wh : D) {dry rain : List Int} (hp1 : Plain n dry) (hp2 : Plain n rain) (h1 : n < 13) (hd2 : dOk o2) :
    Wp (F__law_take [.ref 0, .int 4] [o2]) (kBin D.eqo (mC (.int 0)) [.val (.ref 0), .val (.int n), .val wh, .val (.tup (rngD 0 n)), .val (intsD dry), .val (intsD rain)]
      (kTst (kIfS (mSeq (mSet 4 (mBin D.add (mBin D.add (mSl (mVar 4) mNoP (mPart (mC (.int 1)))) (mTup (mCons (mUn D.neg (mC (.int 1))) mNil))) (mSl (mVar 4) (mPart (mC (.int 1))) mNoP)))
        (mSet 5 (mBin D.add (mTup (mCons (mUn D.neg (mC (.int 1))) mNil)) (mVar 5)))) mNx [.val (.ref 0), .val (.int n), .val wh, .val (.tup (rngD 0 n)), .val (intsD dry), .val (intsD rain)]
        (kSeq sheetEnd
          (kFn fun y => ∃ s o', y = (NSheet.d s, [o']) ∧ NSheetOk n s ∧ dOk o') noE) noE)) noE) noE := by
  refine (take_ok hd2 4 (by decide) (by decide)).imp ?_
  rintro _ ⟨r, o3, rfl, r0, r1, hd3⟩
  -- the rest: the call
  have rest : ∀ (dry rain : List Int) (o3 : O), NListOk n dry → NListOk n rain → dOk o3 → Wp (sheetEnd
      [.val (.ref 0), .val (.int n), .val wh, .val (.tup (rngD 0 n)), .val (intsD dry), .val (intsD rain)] [o3]) (kFn fun y => ∃ s o', y = (NSheet.d s, [o']) ∧ NSheetOk n s ∧ dOk o') noE := by
    intro dry rain o3 hdr hra hd3
    unfold sheetEnd
    walk_at "ev"
    refine (take_ok hd3 6 (by decide) (by decide)).imp ?_
    rintro _ ⟨c, o4, rfl, c0, c1, hd4⟩
    walk_at "ev"
    refine (take_ok hd4 4 (by decide) (by decide)).imp ?_
    rintro _ ⟨k, o5, rfl, k0, k1, hd5⟩
    rcases (by omega : k = 0 ∨ k = 1 ∨ k = 2 ∨ k = 3) with rfl | rfl | rfl | rfl <;> (walk_at "ev")
    · exact ⟨⟨0, dry, rain⟩, o5, rfl, ⟨by simp, hdr, hra⟩, hd5⟩
    · exact ⟨⟨15, dry, rain⟩, o5, rfl, ⟨by simp, hdr, hra⟩, hd5⟩
    · exact ⟨⟨420 + 30 * c, dry, rain⟩, o5, rfl, ⟨⟨by show (0 : Int) ≤ 420 + 30 * c; omega, by show (420 + 30 * c : Int) ≤ 570; omega⟩, hdr, hra⟩, hd5⟩
    · exact ⟨⟨420, dry, rain⟩, o5, rfl, ⟨by simp, hdr, hra⟩, hd5⟩
  have r1 := rest dry rain o3 (plain_list hp1.it hp1.asc hp1.len) (plain_list hp2.it hp2.asc hp2.len) hd3
  walk_at "ev"
  split
  · obtain ⟨a, b, e1, e2, e3⟩ := cut1 dry
    unfold intsD
    try walk_at "ev"
    rw [e2, e3]
    have hl : a.length + b.length ≤ n := by
      have := hp1.len
      rw [e1, List.length_append] at this
      exact this
    have hr := hp2.len
    refine ⟨by simp; omega, ?_⟩
    try walk_at "ev"
    refine ⟨by simp; omega, ?_⟩
    try walk_at "ev"
    refine ⟨by simp; omega, ?_⟩
    have q1 : NListOk n (a ++ -1 :: b) := meal_list (by rw [← e1]; exact hp1.it) (by rw [← e1]; exact hp1.asc) (by rw [← e1]; exact hp1.len)
    have q2 : NListOk n ([] ++ -1 :: rain) := meal_list hp2.it hp2.asc hp2.len
    have := rest _ _ o3 q1 q2 hd3
    unfold intsD at this
    try walk_at "ev"
    simp only [List.map_append, List.map_cons, List.nil_append, List.cons_append, List.append_assoc] at this ⊢
    exact this
  · exact r1
theorem sheet_ok {o : O} (h : dOk o) (n : Nat) (h1 : n < 13) (whole : Bool) : Wp (F__law_sheet [.ref 0, nD n, .bl whole] [o]) (fun y => ∃ s o', y = (NSheet.d s, [o']) ∧ NSheetOk n s ∧ dOk o') noE := by
  unfold F__law_sheet m__law_sheet
  walk_at "ev"
  unfold nD
  have e1 := Int.toNat_natCast n
  have e2 : D.tup (rngD 0 n) = intsD ((List.range n).map fun (k : Nat) => (k : Int)) := by unfold intsD; rw [rng_ints]
  have hp := (range_some n).plain
  cases whole with
  | true =>
    walk_at "ev"
    refine ⟨⟨by omega, by omega⟩, ?_⟩
    rw [e1]
    have := tail_ok n (.bl true) hp hp h1 h
    rw [← e2] at this
    unfold sheetEnd at this
    exact this
  | false =>
    walk_at "ev"
    refine ⟨⟨by omega, by omega⟩, ?_⟩
    rw [e1]
    refine half_ok h n h1 fun dry o1 hp1 hd1 => ?_
    walk_at "ev"
    refine half_ok hd1 n h1 fun rain o2 hp2 hd2 => ?_
    walk_at "ev"
    have := tail_ok n (.bl false) hp1 hp2 h1 hd2
    unfold sheetEnd at this
    exact this
/-! ### cases -/
def rowD (r : List NSheet) : D := .tup (r.map NSheet.d)
def feeD (x : Int) : D := .tup [.int x, .tup []]
def dayD : D := .tup [.int 360, .int 1080]
structure NCase where
  film : NFilm
  days : Nat
  away : List (List Int)
  closed : List (List Int)
  menu : List (List NSheet)
  b0 : Int
  b1 : Int
  b2 : Int
  fees : List Int
def NCase.d (c : NCase) : D := .tup [c.film.d, .tup [.tup (List.replicate c.days dayD), .tup (c.away.map tupI), .tup (c.closed.map tupI)], .tup [], .tup (c.menu.map rowD), .tup [.int c.b0, .int c.b1, .int c.b2, .int 60], .tup (c.fees.map feeD)]
structure NRowOk (n : Nat) (r : List NSheet) : Prop where
  len : 0 < r.length ∧ r.length ≤ 3
  sh : ∀ s ∈ r, NSheetOk n s
structure NCaseOk (m : Nat) (c : NCase) : Prop where
  film : ∃ n : Nat, 0 < n ∧ n < 4 ∧ NFilmOk n c.film ∧ ∀ r ∈ c.menu, NRowOk n r
  dy : c.days = m
  menu : c.menu.length = m
  b0 : 0 ≤ c.b0 ∧ c.b0 < 2
  b1 : 0 ≤ c.b1 ∧ c.b1 < 2
  b2 : 0 ≤ c.b2 ∧ c.b2 < 2
  fl : c.fees.length = c.film.actors.length
  fees : ∀ x ∈ c.fees, 0 ≤ x ∧ x < 50
theorem flat1 {x : D} : ∀ n : Nat, (List.replicate n [x]).flatten = List.replicate n x
  | 0 => rfl
  | n + 1 => by rw [List.replicate_succ, List.flatten_cons, flat1 n]; rfl
theorem all_get {α : Type} {Q : α → Prop} {l : List α} (h : ∀ (i : Nat) (a : α), l[i]? = some a → Q a) : ∀ a ∈ l, Q a := fun a ha => by
  obtain ⟨i, hi⟩ := List.getElem?_of_mem ha
  exact h i a hi
theorem case_ok {o : O} (h : dOk o) (days : Nat) (h1 : days < 100) : Wp (F__law_case [.ref 0, nD days] [o]) (fun y => ∃ c o', y = (NCase.d c, [o']) ∧ NCaseOk days c ∧ c.away = [] ∧ c.closed = [] ∧ dOk o') noE := by
  unfold F__law_case m__law_case nD
  walk_at "ev"
  refine (take_ok h 3 (by decide) (by decide)).imp ?_
  rintro _ ⟨r, o1, rfl, r0, r1, hd1⟩
  obtain ⟨n, hn, n0, n4⟩ : ∃ k : Nat, 1 + r = ((k : Nat) : Int) ∧ 0 < k ∧ k < 4 := ⟨(1 + r).toNat, by omega, by omega, by omega⟩
  walk_at "ev"
  rw [hn, nD_eq n]
  refine (film_ok hd1 n (by omega)).imp ?_
  rintro _ ⟨f, o2, rfl, hf, hd2⟩
  walk_at "ev"
  refine ⟨lim_small (by omega) (by omega), ?_⟩
  rw [Int.toNat_natCast]
  refine Wp.loop (fun i sg S => ∃ (mn : List (List NSheet)) (x5 x6 x9 : Sl) (o' : O), sg = [.val (.ref 0), .val (.int days), .val (nD n), .val (NFilm.d f), .own (.lst (mn.map rowD)), x5, x6, .no, .no, x9] ∧ S = [o'] ∧ dOk o' ∧
      isOwn (some x5) = false ∧ isOwn (some x9) = false ∧ mn.length = i ∧ ∀ r ∈ mn, NRowOk n r) ⟨[], .no, .no, .no, o2, rfl, rfl, hd2, rfl, rfl, rfl, fun r e => by simp at e⟩ ?_ ?_
  · rintro i d sg S hd ⟨mn, x5, x6, x9, o3, rfl, rfl, ho, hx5, hx9, hl, hs⟩
    obtain ⟨hi, rfl⟩ := rng_at hd
    refine ⟨_, gNm_ok hx5, ?_⟩
    unfold m__law_case_b1
    walk_at "ev"
    refine (sheet_ok ho n (by omega) true).imp ?_
    rintro _ ⟨s0, o4, rfl, hs0, hd4⟩
    walk_at "ev"
    refine (take_ok hd4 3 (by decide) (by decide)).imp ?_
    rintro _ ⟨q, o5, rfl, q0, q1, hd5⟩
    walk_at "ev"
    refine ⟨lim_small (by omega) (by omega), by rw [rngD_len]; omega, hx9, ?_⟩
    refine draw_lc (en := NSheet.d) (Q := fun _ s => NSheetOk n s) hd5 (fun i d o hd ho => ?_) fun l o6 hl6 hq6 hd6 => ?_
    · obtain ⟨hi, rfl⟩ := rng_at hd
      refine ⟨_, rfl, ?_⟩
      walk_at "ev"
      exact sheet_ok ho n (by omega) false
    rw [rngD_len] at hl6
    walk_at "ev"
    refine ⟨by rw [List.length_map]; omega, ?_⟩
    refine (take_ok hd6 4 (by decide) (by decide)).imp ?_
    rintro _ ⟨t, o7, rfl, t0, t1, hd7⟩
    have hr : NRowOk n (s0 :: l) := ⟨by simp; omega, fun s hs => by
      rcases List.mem_cons.mp hs with rfl | hs
      · exact hs0
      · exact all_get hq6 s hs⟩
    have fin : ∀ row : List NSheet, NRowOk n row → ∃ (mn' : List (List NSheet)) (y5 y6 y9 : Sl) (o' : O), [Sl.val (.ref 0), .val (.int days), .val (nD n), .val (NFilm.d f), .own (.lst (mn.map rowD ++ [rowD row])), .val (.int (0 + (i : Int))), .val (.tup (NSheet.d s0 :: l.map NSheet.d)), .no, .no, x9] = [.val (.ref 0), .val (.int days), .val (nD n), .val (NFilm.d f), .own (.lst (mn'.map rowD)), y5, y6, .no, .no, y9] ∧ [o7] = [o'] ∧ dOk o' ∧
      isOwn (some y5) = false ∧ isOwn (some y9) = false ∧ mn'.length = i + 1 ∧ ∀ r ∈ mn', NRowOk n r := fun row hrow => by
      refine ⟨mn ++ [row], .val (.int (0 + (i : Int))), .val (.tup (NSheet.d s0 :: l.map NSheet.d)), x9, o7, ?_, rfl, hd7, rfl, hx9, by simp [hl], fun r hr => ?_⟩
      · rw [List.map_append]
        rfl
      · rcases List.mem_append.mp hr with h | h
        · exact hs r h
        · rw [List.mem_singleton.mp h]; exact hrow
    walk_at "ev"
    split
    · try walk_at "ev"
      refine ⟨by rw [List.length_map]; omega, ?_⟩
      have := fin (s0 :: l).reverse ⟨by rw [List.length_reverse]; exact hr.len, fun s hs => hr.sh s (List.mem_reverse.mp hs)⟩
      unfold rowD at this ⊢
      rw [List.map_reverse] at this
      exact this
    · try walk_at "ev"
      refine ⟨by rw [List.length_map]; omega, ?_⟩
      exact fin (s0 :: l) hr
  · rintro sg S ⟨mn, x5, x6, x9, o3, rfl, rfl, hd3, hx5, hx9, hl, hs⟩
    rw [rngD_len] at hl
    walk_at "ev"
    refine (take_ok hd3 2 (by decide) (by decide)).imp ?_
    rintro _ ⟨b0, o4, rfl, b00, b01, hd4⟩
    walk_at "ev"
    refine (take_ok hd4 2 (by decide) (by decide)).imp ?_
    rintro _ ⟨b1, o5, rfl, b10, b11, hd5⟩
    walk_at "ev"
    refine (take_ok hd5 2 (by decide) (by decide)).imp ?_
    rintro _ ⟨b2, o6, rfl, b20, b21, hd6⟩
    walk_at "ev"
    have e1 : (NFilm.d f) = .tup [.tup (f.places.map nmD), .tup (f.actors.map nmD), .tup (f.scenes.map NSc.d), .tup (f.orders.map sucD), .tup [.int 10, .int 20, .int 30]] := rfl
    have hna := hf.na
    rw [e1]
    walk_at "ev"
    rw [List.length_map, ← e1]
    refine ⟨lim_small (by omega) (by omega), by rw [rngD_len]; omega, hx5, ?_⟩
    refine draw_lc (en := feeD) (Q := fun _ (x : Int) => 0 ≤ x ∧ x < 50) hd6 (fun i d o hd ho => ?_) fun l o7 hl7 hq7 hd7 => ?_
    · obtain ⟨hi, rfl⟩ := rng_at hd
      refine ⟨_, rfl, ?_⟩
      walk_at "ev"
      refine (take_ok ho 50 (by decide) (by decide)).imp ?_
      rintro _ ⟨x, o8, rfl, x0, x1, hd8⟩
      walk_at "ev"
      exact ⟨x, o8, rfl, ⟨x0, x1⟩, hd8⟩
    rw [rngD_len, Int.toNat_natCast] at hl7
    walk_at "ev"
    simp only [frz, List.getElem?_cons_succ, List.getElem?_cons_zero, List.set_cons_succ, List.set_cons_zero, toD_lst]
    walk_at "ev"
    rw [Int.toNat_natCast, flat1]
    refine ⟨⟨by omega, by omega, by simp; omega⟩, ⟨f, days, [], [], mn, b0, b1, b2, l⟩, o7, rfl, ⟨⟨n, n0, n4, hf, hs⟩, rfl, hl, ⟨b00, b01⟩, ⟨b10, b11⟩, ⟨b20, b21⟩, hl7, all_get hq7⟩, rfl, rfl, hd7⟩

end
end Law

namespace Law
noncomputable section
open PySem PySem.Spec PyProof.Rows L2 D2
local macro_rules | `(tactic| walk_at "ev") => `(tactic| simp (decide := true) only [kO_some, w_C, w_Var, w_VarW, kVar_val, kVarW_val, kVarW_lst, kVarW_dic, w_Flat, kFlat_eq, w_Bin, kBin_eq, kBin2_eq, w_Un, kUn_eq, w_Tup, kTup_eq, w_Lst, kLst_eq, w_Nil, w_Cons, kCons_eq, kCons2_eq, w_And, kAnd_eq, w_Or, kOr_eq, w_Tst, kTst_eq, w_Tru, kTru_bl, kTru_int, kTru_tup, kTru_lst, kTru_non, w_NotT, kNotT_eq, w_AndT, kAndT_eq, w_OrT, kOrT_eq, w_IsN, kIsN_eq, w_If, kIf_eq, w_Chain, kCh1_eq, kCh2_eq, kCh3_eq, w_Bi, kBi_eq, on1_eq, on2_eq, w_Meth, kMeth_eq, kMeth2_eq, w_Ix, kIx_eq, kIx2_eq, w_Get2, kGet1_eq, kGet2_eq, kGet3_eq, w_NoP, w_Part, kPart_eq, w_Sl, kSl1_eq, kSl2_eq, kSl3_eq, w_Call, kCall_eq, w_CallP, kCallP_eq, w_OfO, kOfO_eq, toD_lst, toD_dic, w_LstO, kLstO_eq, w_DicO, w_Rep, kRep_eq, kRep2_eq, w_Pn, w_Pc, kPc1_eq, kPc2_eq, kPc3_eq, w_Disp, kDisp_eq, kDisp2_eq, keyed_nil, keyed_S, keyed_I, w_Lc, kLc_eq, kLc2_eq, w_Il, kIl_eq, w_It, kIt_eq, w_Ir1, kIr1_eq, w_Ir2, kIr2_eq, w_Ie, kIe_eq, w_IeT, kIeT_eq, w_Yes, w_Seq, kSeq_nx, kSeq_bk, kSeq_ct, kSeq_rt, w_Nx, w_Bk, w_Ct, w_RetN, w_Ret, kRet_eq, w_Drop, kDrop_eq, w_IfS, kIfS_eq, w_Frz, w_Set, kSet_eq, w_SetO, kSetO_eq, w_Aft, kAft_eq, w_Asg, kAsg_eq, kAsg2_eq, w_For, kFor_eq, w_While, w_Put, kPut_eq, kPut2_own, kPut2_ref, kPutR_eq, w_Own, w_OwnE, w_OwnS, kOwn_eq, kOwnE_eq, kOwnS_eq, w_Fn, kFn_nx, kFn_rt, kLoop_nx, kLoop_ct, kLoop_bk, kLoop_rt, w_Ir3, kIr3_eq, w_Lrg, kLrg_eq, w_AppPop, kApp0_eq, w_Never, w_Irv, kIrv_eq, w_Star, kStar_tup, kStar_lst, kStar2_eq, w_CallX, kCallX_eq, w_Raise, kRaise_eq, w_Done, kDone_eq, w_Try, kTry_eq, w_msRetF, kFld_some, w_msRetC, w_msRetP, kFld2_some, w_ToL, kToL_tup, kToL_lst, w_Chain3, kD0_eq, kD1_eq, kD2_eq, kD3_eq, kD4_eq, w_Add, kAdd_eq, kAdd2_eq, w_msRet, w_xF, kFldE_some, w_xBin, w_Hd, w_TryN, kTryN_eq, kHd_some, kHd_only, w_IfT, kIfT_eq, w_Iz, kIz_tup, kIz_lst, w_xOwnE, w_xOne, w_CallL, kCallL_eq, w_CallF, kCF_fn, kCF2_eq, w_lamF, w_IzM, kIzM_tl, o_addI, o_addS, o_addT, o_addL, o_sub, o_fdiv, o_mod, o_pow, o_shl, o_shr, o_and, o_or, o_mul, o_lt, o_le, o_gt, o_ge, lt_eq, le_eq, gt_eq, ge_eq, o_neg, o_nob, o_eqI, o_eqS, o_neI, o_neS, eqo_int, ixS_tup, ixS_lst, ixS_dic, ixS_ref0, ixS_ref1, ixo_tup, ixo_lst, ixo_dicI, ixo_dicS, atI_0, atI_1, atI_2, atI_3, atI_4, atI_5, atI_6, atI_7, atI_8, pr_0, pr_1, pr_2, pr_3, po_dicI, po_dicS, app_eq, ext_eq, isL_eq, isD_eq, DisL_eq, o_lenL, o_lenT, o_lenD, o_lenS, o_toI, o_abs, o_strI, o_max2, o_min2, o_toT, o_toTT, o_toL, o_toLT, o_sloT, o_sloL, o_sloS, g_Nm, g_Tu, g_Cons, g_Nil, own_val, own_no, merge_new, dGet_cons, dGet_nil, dGet2_S, dGet2_I, o_sset, o_ssetI, o_toIb, fl_int, fl_bl, fl_str, fl_non, isNon_non, isNon_int, isNon_tup, o_inI, o_ninI, o_ninE, o_mkRng, isNon_bl, o_eqB, o_mulI, o_mulTup, o_mulLst, o_revT, o_isStrS, o_isStrT, o_isStrN, o_ltG, o_sortG, o_ssetL, o_ssetLt, o_lenSetI, o_tupRg, o_minGl, o_minGt, o_maxGl, o_maxGt, o_bestDl, o_bestDt, o_bestDln, o_bestDtn, o_lenSetT, o_sortT, o_capsN, o_capsC, o_capV, o_isB, o_notB, o_sumT, List.getElem?_cons_zero, List.getElem?_cons_succ, List.set_cons_zero, List.set_cons_succ, List.length_cons, List.length_nil, List.map_cons, List.map_nil, List.cons_append, List.nil_append, List.replicate_succ, List.replicate_zero, if_true, if_false, decide_eq_true_eq, decide_eq_false_iff_not, Bool.false_eq_true, and_true, true_and, Bool.not_true, Bool.not_false, reduceIte, Option.bind_some, Option.map_some, Option.getD_some, Option.getD_none, Sum.inr.injEq, Sum.inl.injEq, Nat.reduceAdd, Nat.reduceSub, Nat.reduceLeDiff, Nat.reduceLT, Nat.reduceEqDiff, reduceCtorEq, Int.reduceLT, Int.reduceLE, Int.reduceEq, Int.reduceAdd, Int.reduceSub, Int.reduceMul, Int.reduceNeg, Int.cast_ofNat_Int, Int.natCast_zero, Int.reduceToNat, Int.reducePow, or_true, true_or, String.reduceEq, decide_true, decide_false, Bool.not_eq_true', Bool.not_eq_false', List.all_cons, List.all_nil, Bool.and_true, Bool.true_and, Bool.true_or, Bool.or_true, wipeS, startS, hdOf_cons])
abbrev n__law_test : List Str := ["d", "case", "pick"]
def m__law_test : MS :=
  (mSeq (mSet 2 (mCall F__law_take (mCons (mVar 0) (mCons (mC (.int 4)) mNil))))
  (mSeq (mIfS (mTst (mBin D.eqo (mVar 2) (mC (.int 0)))) (mRet (mTup (mCons (mC (.str "shot")) (mCons (mCall F__law_take (mCons (mVar 0) (mCons (mBi (on1 D.len) (mCons (mIx (mIx (mVar 1) (mC (.int 0))) (mC (.int 2))) mNil)) mNil))) mNil)))) mNx)
  (mSeq (mIfS (mTst (mBin D.eqo (mVar 2) (mC (.int 1)))) (mRet (mTup (mCons (mC (.str "worked")) (mCons (mCall F__law_take (mCons (mVar 0) (mCons (mBi (on1 D.len) (mCons (mIx (mIx (mVar 1) (mC (.int 0))) (mC (.int 1))) mNil)) mNil))) mNil)))) mNx)
  (mSeq (mIfS (mTst (mBin D.eqo (mVar 2) (mC (.int 2)))) (mRet (mTup (mCons (mC (.str "not")) (mCons (mTup (mCons (mC (.str "shot")) (mCons (mCall F__law_take (mCons (mVar 0) (mCons (mBi (on1 D.len) (mCons (mIx (mIx (mVar 1) (mC (.int 0))) (mC (.int 2))) mNil)) mNil))) mNil))) mNil)))) mNx)
  (mRet (mTup (mCons (mC (.str "used")) (mCons (mCall F__law_take (mCons (mVar 0) (mCons (mC (.int 3)) mNil))) (mCons (mIx (mLst (mCons (mC (.str ">")) (mCons (mC (.str "=")) mNil))) (mCall F__law_take (mCons (mVar 0) (mCons (mC (.int 2)) mNil)))) (mCons (mCall F__law_take (mCons (mVar 0) (mCons (mC (.int 2)) mNil))) mNil))))))))))
def F__law_test : FD := fnF n__law_test m__law_test
abbrev n__law_book : List Str := ["d", "case", "sure", "lines", "day"]
def m__law_book_b1 : MS :=
  (mSeq (mIfS (mTst (mBin D.eqo (mCall F__law_take (mCons (mVar 0) (mCons (mC (.int 3)) mNil))) (mC (.int 0)))) (mOwnE 3 O.isL O.append (mCons (mTup (mCons (mVar 4) (mCons (mCall F__law_test (mCons (mVar 0) (mCons (mVar 1) mNil))) (mCons (mCall F__law_take (mCons (mVar 0) (mCons (mBi (on1 D.len) (mCons (mIx (mIx (mVar 1) (mC (.int 3))) (mVar 4)) mNil)) mNil))) mNil)))) mNil)) mNx)
  (mIfS (mOrT (mTru (mVar 2)) (mTst (mBin D.gt (mCall F__law_take (mCons (mVar 0) (mCons (mC (.int 5)) mNil))) (mC (.int 0))))) (mOwnE 3 O.isL O.append (mCons (mTup (mCons (mVar 4) (mCons (mC .non) (mCons (mIf (mTst (mBin D.gt (mCall F__law_take (mCons (mVar 0) (mCons (mC (.int 3)) mNil))) (mC (.int 0)))) (mC (.int 0)) (mCall F__law_take (mCons (mVar 0) (mCons (mBi (on1 D.len) (mCons (mIx (mIx (mVar 1) (mC (.int 3))) (mVar 4)) mNil)) mNil)))) mNil)))) mNil)) mNx))
def m__law_book : MS :=
  (mSeq (mSetO 3 (oLst mNil))
  (mSeq (mFor (mIr1 (mCons (mBi (on1 D.len) (mCons (mIx (mIx (mVar 1) (mC (.int 1))) (mC (.int 0))) mNil)) mNil)) (gNm 4) (m__law_book_b1))
  (mFrz 3 (mRet (mBi (on1 D.toTup) (mCons (mVar 3) mNil))))))
def F__law_book : FD := fnF n__law_book m__law_book
abbrev n__law_change : List Str := ["d", "case", "book"]
def m__law_change : MS :=
  (mSeq (mIfS (mTst (mBin D.eqo (mCall F__law_take (mCons (mVar 0) (mCons (mC (.int 2)) mNil))) (mC (.int 0)))) (mRet (mTup (mCons (mC (.str "more")) (mCons (mCall F__law_take (mCons (mVar 0) (mCons (mBin D.add (mBi (on1 D.len) (mCons (mIx (mIx (mVar 1) (mC (.int 1))) (mC (.int 0))) mNil)) (mC (.int 1))) mNil))) (mCons (mCall F__law_take (mCons (mVar 0) (mCons (mC (.int 4)) mNil))) mNil))))) mNx)
  (mRet (mTup (mCons (mC (.str "sheet")) (mCons (mCall F__law_take (mCons (mVar 0) (mCons (mBin D.add (mBi (on1 D.len) (mCons (mVar 2) mNil)) (mC (.int 1))) mNil))) (mCons (mCall F__law_take (mCons (mVar 0) (mCons (mC (.int 4)) mNil))) mNil))))))
def F__law_change : FD := fnF n__law_change m__law_change
theorem nfl_0 {f : NFilm} {S : List O} {P : D × List O → Prop} : kO (ixS S f.d (.int 0)) S P = P (.tup (f.places.map nmD), S) := by with_unfolding_all rfl
theorem nfl_1 {f : NFilm} {S : List O} {P : D × List O → Prop} : kO (ixS S f.d (.int 1)) S P = P (.tup (f.actors.map nmD), S) := by with_unfolding_all rfl
theorem nfl_2 {f : NFilm} {S : List O} {P : D × List O → Prop} : kO (ixS S f.d (.int 2)) S P = P (.tup (f.scenes.map NSc.d), S) := by with_unfolding_all rfl
theorem ncs_0 {c : NCase} {S : List O} {P : D × List O → Prop} : kO (ixS S c.d (.int 0)) S P = P (c.film.d, S) := by with_unfolding_all rfl
theorem ncs_1 {c : NCase} {S : List O} {P : D × List O → Prop} : kO (ixS S c.d (.int 1)) S P = P (.tup [.tup (List.replicate c.days dayD), .tup (c.away.map tupI), .tup (c.closed.map tupI)], S) := by with_unfolding_all rfl
theorem ncs_3 {c : NCase} {S : List O} {P : D × List O → Prop} : kO (ixS S c.d (.int 3)) S P = P (.tup (c.menu.map rowD), S) := by with_unfolding_all rfl
local macro_rules | `(tactic| walk_at "zv") => `(tactic| simp (decide := true) only [nfl_0, nfl_1, nfl_2, ncs_0, ncs_1, ncs_3, kO_some, w_C, w_Var, w_VarW, kVar_val, kVarW_val, kVarW_lst, kVarW_dic, w_Flat, kFlat_eq, w_Bin, kBin_eq, kBin2_eq, w_Un, kUn_eq, w_Tup, kTup_eq, w_Lst, kLst_eq, w_Nil, w_Cons, kCons_eq, kCons2_eq, w_And, kAnd_eq, w_Or, kOr_eq, w_Tst, kTst_eq, w_Tru, kTru_bl, kTru_int, kTru_tup, kTru_lst, kTru_non, w_NotT, kNotT_eq, w_AndT, kAndT_eq, w_OrT, kOrT_eq, w_IsN, kIsN_eq, w_If, kIf_eq, w_Chain, kCh1_eq, kCh2_eq, kCh3_eq, w_Bi, kBi_eq, on1_eq, on2_eq, w_Meth, kMeth_eq, kMeth2_eq, w_Ix, kIx_eq, kIx2_eq, w_Get2, kGet1_eq, kGet2_eq, kGet3_eq, w_NoP, w_Part, kPart_eq, w_Sl, kSl1_eq, kSl2_eq, kSl3_eq, w_Call, kCall_eq, w_CallP, kCallP_eq, w_OfO, kOfO_eq, toD_lst, toD_dic, w_LstO, kLstO_eq, w_DicO, w_Rep, kRep_eq, kRep2_eq, w_Pn, w_Pc, kPc1_eq, kPc2_eq, kPc3_eq, w_Disp, kDisp_eq, kDisp2_eq, keyed_nil, keyed_S, keyed_I, w_Lc, kLc_eq, kLc2_eq, w_Il, kIl_eq, w_It, kIt_eq, w_Ir1, kIr1_eq, w_Ir2, kIr2_eq, w_Ie, kIe_eq, w_IeT, kIeT_eq, w_Yes, w_Seq, kSeq_nx, kSeq_bk, kSeq_ct, kSeq_rt, w_Nx, w_Bk, w_Ct, w_RetN, w_Ret, kRet_eq, w_Drop, kDrop_eq, w_IfS, kIfS_eq, w_Frz, w_Set, kSet_eq, w_SetO, kSetO_eq, w_Aft, kAft_eq, w_Asg, kAsg_eq, kAsg2_eq, w_For, kFor_eq, w_While, w_Put, kPut_eq, kPut2_own, kPut2_ref, kPutR_eq, w_Own, w_OwnE, w_OwnS, kOwn_eq, kOwnE_eq, kOwnS_eq, w_Fn, kFn_nx, kFn_rt, kLoop_nx, kLoop_ct, kLoop_bk, kLoop_rt, w_Ir3, kIr3_eq, w_Lrg, kLrg_eq, w_AppPop, kApp0_eq, w_Never, w_Irv, kIrv_eq, w_Star, kStar_tup, kStar_lst, kStar2_eq, w_CallX, kCallX_eq, w_Raise, kRaise_eq, w_Done, kDone_eq, w_Try, kTry_eq, w_msRetF, kFld_some, w_msRetC, w_msRetP, kFld2_some, w_ToL, kToL_tup, kToL_lst, w_Chain3, kD0_eq, kD1_eq, kD2_eq, kD3_eq, kD4_eq, w_Add, kAdd_eq, kAdd2_eq, w_msRet, w_xF, kFldE_some, w_xBin, w_Hd, w_TryN, kTryN_eq, kHd_some, kHd_only, w_IfT, kIfT_eq, w_Iz, kIz_tup, kIz_lst, w_xOwnE, w_xOne, w_CallL, kCallL_eq, w_CallF, kCF_fn, kCF2_eq, w_lamF, w_IzM, kIzM_tl, o_addI, o_addS, o_addT, o_addL, o_sub, o_fdiv, o_mod, o_pow, o_shl, o_shr, o_and, o_or, o_mul, o_lt, o_le, o_gt, o_ge, lt_eq, le_eq, gt_eq, ge_eq, o_neg, o_nob, o_eqI, o_eqS, o_neI, o_neS, eqo_int, ixS_tup, ixS_lst, ixS_dic, ixS_ref0, ixS_ref1, ixo_tup, ixo_lst, ixo_dicI, ixo_dicS, atI_0, atI_1, atI_2, atI_3, atI_4, atI_5, atI_6, atI_7, atI_8, pr_0, pr_1, pr_2, pr_3, po_dicI, po_dicS, app_eq, ext_eq, isL_eq, isD_eq, DisL_eq, o_lenL, o_lenT, o_lenD, o_lenS, o_toI, o_abs, o_strI, o_max2, o_min2, o_toT, o_toTT, o_toL, o_toLT, o_sloT, o_sloL, o_sloS, g_Nm, g_Tu, g_Cons, g_Nil, own_val, own_no, merge_new, dGet_cons, dGet_nil, dGet2_S, dGet2_I, o_sset, o_ssetI, o_toIb, fl_int, fl_bl, fl_str, fl_non, isNon_non, isNon_int, isNon_tup, o_inI, o_ninI, o_ninE, o_mkRng, isNon_bl, o_eqB, o_mulI, o_mulTup, o_mulLst, o_revT, o_isStrS, o_isStrT, o_isStrN, o_ltG, o_sortG, o_ssetL, o_ssetLt, o_lenSetI, o_tupRg, o_minGl, o_minGt, o_maxGl, o_maxGt, o_bestDl, o_bestDt, o_bestDln, o_bestDtn, o_lenSetT, o_sortT, o_capsN, o_capsC, o_capV, o_isB, o_notB, o_sumT, List.getElem?_cons_zero, List.getElem?_cons_succ, List.set_cons_zero, List.set_cons_succ, List.length_cons, List.length_nil, List.map_cons, List.map_nil, List.cons_append, List.nil_append, List.replicate_succ, List.replicate_zero, if_true, if_false, decide_eq_true_eq, decide_eq_false_iff_not, Bool.false_eq_true, and_true, true_and, Bool.not_true, Bool.not_false, reduceIte, Option.bind_some, Option.map_some, Option.getD_some, Option.getD_none, Sum.inr.injEq, Sum.inl.injEq, Nat.reduceAdd, Nat.reduceSub, Nat.reduceLeDiff, Nat.reduceLT, Nat.reduceEqDiff, reduceCtorEq, Int.reduceLT, Int.reduceLE, Int.reduceEq, Int.reduceAdd, Int.reduceSub, Int.reduceMul, Int.reduceNeg, Int.cast_ofNat_Int, Int.natCast_zero, Int.reduceToNat, Int.reducePow, or_true, true_or, String.reduceEq, decide_true, decide_false, Bool.not_eq_true', Bool.not_eq_false', List.all_cons, List.all_nil, Bool.and_true, Bool.true_and, Bool.true_or, Bool.or_true, wipeS, startS, hdOf_cons])
/-! ### lines of day books -/
structure Line where
  day : Nat
  test : D
  num : Nat
def Line.d (l : Line) : D := .tup [.int (l.day : Int), l.test, .int (l.num : Int)]
structure LineOk (c : NCase) (l : Line) : Prop where
  day : l.day < c.days
  test : l.test.okq 48 = true
theorem test_ok {c : NCase} {m : Nat} {o : O} (hc : NCaseOk m c) (h : dOk o) : Wp (F__law_test [.ref 0, c.d] [o]) (fun y => ∃ t o', y = (t, [o']) ∧ t.okq 48 = true ∧ dOk o') noE := by
  obtain ⟨n, n0, n4, hf, hr⟩ := hc.film
  have hns := hf.ns
  have hna := hf.na
  unfold F__law_test m__law_test
  walk_at "zv"
  refine (take_ok h 4 (by decide) (by decide)).no ?_
  rintro _ ⟨p, o1, rfl, p0, p1, h1⟩
  walk_at "zv"
  rcases (by omega : p = 0 ∨ p = 1 ∨ p = 2 ∨ p = 3) with rfl | rfl | rfl | rfl
  · walk_at "zv"
    rw [List.length_map]
    refine (take_ok h1 _ (by omega) (by omega)).no ?_
    rintro _ ⟨q, o2, rfl, q0, q1, h2⟩
    walk_at "zv"
    exact ⟨_, o2, rfl, rfl, h2⟩
  · walk_at "zv"
    rw [List.length_map]
    refine (take_ok h1 _ (by omega) (by omega)).no ?_
    rintro _ ⟨q, o2, rfl, q0, q1, h2⟩
    walk_at "zv"
    exact ⟨_, o2, rfl, rfl, h2⟩
  · walk_at "zv"
    rw [List.length_map]
    refine (take_ok h1 _ (by omega) (by omega)).no ?_
    rintro _ ⟨q, o2, rfl, q0, q1, h2⟩
    walk_at "zv"
    exact ⟨_, o2, rfl, rfl, h2⟩
  · walk_at "zv"
    refine (take_ok h1 3 (by decide) (by decide)).no ?_
    rintro _ ⟨q, o2, rfl, q0, q1, h2⟩
    walk_at "zv"
    refine (take_ok h2 2 (by decide) (by decide)).no ?_
    rintro _ ⟨b, o3, rfl, b0, b1, h3⟩
    rcases (by omega : b = 0 ∨ b = 1) with rfl | rfl <;> (walk_at "zv")
    · refine (take_ok h3 2 (by decide) (by decide)).no ?_
      rintro _ ⟨r, o4, rfl, r0, r1, h4⟩
      walk_at "zv"
      exact ⟨_, o4, rfl, rfl, h4⟩
    · refine (take_ok h3 2 (by decide) (by decide)).no ?_
      rintro _ ⟨r, o4, rfl, r0, r1, h4⟩
      walk_at "zv"
      exact ⟨_, o4, rfl, rfl, h4⟩
theorem menu_row {c : NCase} {m k : Nat} (hc : NCaseOk m c) (hk : k < m) : ∃ r, c.menu[k]? = some r ∧ 0 < r.length ∧ r.length ≤ 3 := by
  obtain ⟨n, n0, n4, hf, hr⟩ := hc.film
  have hm := hc.menu
  refine ⟨_, List.getElem?_eq_getElem (by omega : k < c.menu.length), ?_⟩
  exact (hr _ (List.getElem_mem _)).len
theorem menu_k {c : NCase} {k : Nat} {r : List NSheet} {S : List O} {P : D × List O → Prop} (h : c.menu[k]? = some r) : kO (atI (c.menu.map rowD) (k : Int)) S P = P (rowD r, S) := kO_eq (atI_nat (by rw [List.getElem?_map, h]; rfl))
def lineEnd : MS := (mIfS (mOrT (mTru (mVar 2)) (mTst (mBin D.gt (mCall F__law_take (mCons (mVar 0) (mCons (mC (.int 5)) mNil))) (mC (.int 0))))) (mOwnE 3 O.isL O.append (mCons (mTup (mCons (mVar 4) (mCons (mC .non) (mCons (mIf (mTst (mBin D.gt (mCall F__law_take (mCons (mVar 0) (mCons (mC (.int 3)) mNil))) (mC (.int 0)))) (mC (.int 0)) (mCall F__law_take (mCons (mVar 0) (mCons (mBi (on1 D.len) (mCons (mIx (mIx (mVar 1) (mC (.int 3))) (mVar 4)) mNil)) mNil)))) mNil)))) mNil)) mNx)
theorem line_b1 : m__law_book_b1 = mSeq (mIfS (mTst (mBin D.eqo (mCall F__law_take (mCons (mVar 0) (mCons (mC (.int 3)) mNil))) (mC (.int 0)))) (mOwnE 3 O.isL O.append (mCons (mTup (mCons (mVar 4) (mCons (mCall F__law_test (mCons (mVar 0) (mCons (mVar 1) mNil))) (mCons (mCall F__law_take (mCons (mVar 0) (mCons (mBi (on1 D.len) (mCons (mIx (mIx (mVar 1) (mC (.int 3))) (mVar 4)) mNil)) mNil))) mNil)))) mNil)) mNx) lineEnd := rfl
theorem book_ok {c : NCase} {m : Nat} {o : O} (hc : NCaseOk m c) (hm : m < 100) (h : dOk o) : Wp (F__law_book [.ref 0, c.d, .bl false] [o]) (fun y => ∃ (ls : List Line) (o' : O), y = (.tup (ls.map Line.d), [o']) ∧ (∀ l ∈ ls, LineOk c l) ∧ ls.length ≤ 2 * m ∧ dOk o') noE := by
  have hdy := hc.dy
  unfold F__law_book m__law_book
  walk_at "zv"
  rw [List.length_replicate, Int.toNat_natCast, hdy]
  refine ⟨lim_small (by omega) (by omega), ?_⟩
  refine Wp.loop (fun i sg S => ∃ (ls : List Line) (x4 : Sl) (o' : O), sg = [.val (.ref 0), .val c.d, .val (.bl false), .own (.lst (ls.map Line.d)), x4] ∧ S = [o'] ∧ dOk o' ∧ isOwn (some x4) = false ∧ (∀ l ∈ ls, LineOk c l) ∧ ls.length ≤ 2 * i) ⟨[], .no, o, rfl, rfl, h, rfl, fun l hl => (by cases hl), Nat.le_refl _⟩ ?_ ?_
  · rintro i d sg S hd ⟨ls, x4, o1, rfl, rfl, h1, g4, hl, hn⟩
    obtain ⟨hi, rfl⟩ := rng_at hd
    obtain ⟨r, hr, r0, r3⟩ := menu_row hc hi
    refine ⟨_, gNm_ok g4, ?_⟩
    rw [Int.zero_add]
    simp only [List.set_cons_succ, List.set_cons_zero]
    -- the line without a test
    have tail : ∀ (ls : List Line) (o1 : O), dOk o1 → (∀ l ∈ ls, LineOk c l) → ls.length ≤ 2 * i + 1 → Wp (lineEnd [.val (.ref 0), .val c.d, .val (.bl false), .own (.lst (ls.map Line.d)), .val (.int (i : Int))] [o1])
        (kLoop (fun sg S => ∃ (ls : List Line) (x4 : Sl) (o' : O), sg = [.val (.ref 0), .val c.d, .val (.bl false), .own (.lst (ls.map Line.d)), x4] ∧ S = [o'] ∧ dOk o' ∧ isOwn (some x4) = false ∧ (∀ l ∈ ls, LineOk c l) ∧ ls.length ≤ 2 * (i + 1)) (kSeq (mFrz 3 (mRet (mBi (on1 D.toTup) (mCons (mVar 3) mNil)))) (kFn fun y => ∃ (ls : List Line) (o' : O), y = (.tup (ls.map Line.d), [o']) ∧ (∀ l ∈ ls, LineOk c l) ∧ ls.length ≤ 2 * m ∧ dOk o') noE)) noE := by
      intro ls o1 h1 hl hn
      have add : ∀ (v : Nat) (o2 : O), dOk o2 → ∃ (ls' : List Line) (x4 : Sl) (o' : O), [Sl.val (.ref 0), .val c.d, .val (.bl false), .own (.lst (ls.map Line.d ++ [D.tup [.int (i : Int), .non, .int (v : Int)]])), .val (.int (i : Int))] = [.val (.ref 0), .val c.d, .val (.bl false), .own (.lst (ls'.map Line.d)), x4] ∧ [o2] = [o'] ∧ dOk o' ∧ isOwn (some x4) = false ∧ (∀ l ∈ ls', LineOk c l) ∧ ls'.length ≤ 2 * (i + 1) := fun v o2 h2 => by
        refine ⟨ls ++ [⟨i, .non, v⟩], .val (.int (i : Int)), o2, by rw [List.map_append]; rfl, rfl, h2, rfl, fun l hl2 => ?_, by rw [List.length_append, List.length_singleton]; omega⟩
        rcases List.mem_append.mp hl2 with g | g
        · exact hl l g
        · rw [List.mem_singleton.mp g]
          exact ⟨by rw [hdy]; exact hi, rfl⟩
      unfold lineEnd
      walk_at "zv"
      refine (take_ok h1 5 (by decide) (by decide)).no ?_
      rintro _ ⟨a, o2, rfl, a0, a1, h2⟩
      walk_at "zv"
      by_cases ga : 0 < a
      · rw [if_pos (by simpa using ga)]
        refine (take_ok h2 3 (by decide) (by decide)).no ?_
        rintro _ ⟨b, o3, rfl, b0, b1, h3⟩
        walk_at "zv"
        by_cases gb : 0 < b
        · (try rw [if_pos (by simpa using gb)])
          (try walk_at "zv")
          refine ⟨by rw [List.length_map]; omega, ?_⟩
          exact add 0 o3 h3
        · (try rw [if_neg (by simpa using gb)])
          (try walk_at "zv")
          rw [menu_k hr]
          unfold rowD
          walk_at "zv"
          rw [List.length_map]
          refine (take_ok h3 _ (by omega) (by omega)).no ?_
          rintro _ ⟨v, o4, rfl, v0, v1, h4⟩
          obtain ⟨v, rfl⟩ : ∃ w : Nat, v = (w : Int) := ⟨v.toNat, by omega⟩
          walk_at "zv"
          refine ⟨by rw [List.length_map]; omega, ?_⟩
          exact add v o4 h4
      · rw [if_neg (by simpa using ga)]
        exact ⟨ls, _, o2, rfl, rfl, h2, rfl, hl, by omega⟩
    rw [line_b1]
    walk_at "zv"
    refine (take_ok h1 3 (by decide) (by decide)).no ?_
    rintro _ ⟨a, o2, rfl, a0, a1, h2⟩
    by_cases ga : a = 0
    · subst ga
      walk_at "zv"
      refine (test_ok hc h2).no ?_
      rintro _ ⟨t, o3, rfl, ht, h3⟩
      walk_at "zv"
      rw [menu_k hr]
      unfold rowD
      walk_at "zv"
      rw [List.length_map]
      refine (take_ok h3 _ (by omega) (by omega)).no ?_
      rintro _ ⟨v, o4, rfl, v0, v1, h4⟩
      obtain ⟨v, rfl⟩ : ∃ w : Nat, v = (w : Int) := ⟨v.toNat, by omega⟩
      walk_at "zv"
      refine ⟨by rw [List.length_map]; omega, ?_⟩
      have := tail (ls ++ [⟨i, t, v⟩]) o4 h4 (fun l hl2 => by
        rcases List.mem_append.mp hl2 with g | g
        · exact hl l g
        · rw [List.mem_singleton.mp g]
          exact ⟨by rw [hdy]; exact hi, ht⟩) (by rw [List.length_append, List.length_singleton]; omega)
      rw [List.map_append] at this
      exact this
    · walk_at "zv"
      (try rw [if_neg (by simpa using ga)])
      (try walk_at "zv")
      exact tail ls o2 h2 hl (by omega)
  · rintro sg S ⟨ls, x4, o1, rfl, rfl, h1, g4, hl, hn⟩
    rw [rngD_len] at hn
    walk_at "zv"
    simp only [frz, List.getElem?_cons_succ, List.getElem?_cons_zero, List.set_cons_succ, List.set_cons_zero, toD_lst]
    walk_at "zv"
    exact ⟨ls, o1, rfl, hl, hn, h1⟩
/-! ### changes -/
structure Chg where
  more : Bool
  place : Nat
  num : Nat
def kindS (b : Bool) : Str := if b = true then "more" else "sheet"
def Chg.d (c : Chg) : D := .tup [.str (kindS c.more), .int (c.place : Int), .int (c.num : Int)]
theorem change_ok {c : NCase} {m : Nat} {book : List Line} {o : O} (hc : NCaseOk m c) (hm : m < 100) (hb : book.length < 100) (h : dOk o) : Wp (F__law_change [.ref 0, c.d, .tup (book.map Line.d)] [o]) (fun y => ∃ (ch : Chg) (o' : O), y = (ch.d, [o']) ∧ dOk o') noE := by
  have hdy := hc.dy
  unfold F__law_change m__law_change
  walk_at "zv"
  refine (take_ok h 2 (by decide) (by decide)).no ?_
  rintro _ ⟨a, o1, rfl, a0, a1, h1⟩
  rcases (by omega : a = 0 ∨ a = 1) with rfl | rfl <;> (walk_at "zv")
  · rw [List.length_replicate, hdy]
    refine (take_ok h1 _ (by omega) (by omega)).no ?_
    rintro _ ⟨p, o2, rfl, p0, p1, h2⟩
    obtain ⟨p, rfl⟩ : ∃ w : Nat, p = (w : Int) := ⟨p.toNat, by omega⟩
    walk_at "zv"
    refine (take_ok h2 4 (by decide) (by decide)).no ?_
    rintro _ ⟨v, o3, rfl, v0, v1, h3⟩
    obtain ⟨v, rfl⟩ : ∃ w : Nat, v = (w : Int) := ⟨v.toNat, by omega⟩
    walk_at "zv"
    exact ⟨⟨true, p, v⟩, o3, rfl, h3⟩
  · rw [List.length_map]
    refine (take_ok h1 _ (by omega) (by omega)).no ?_
    rintro _ ⟨p, o2, rfl, p0, p1, h2⟩
    obtain ⟨p, rfl⟩ : ∃ w : Nat, p = (w : Int) := ⟨p.toNat, by omega⟩
    walk_at "zv"
    refine (take_ok h2 4 (by decide) (by decide)).no ?_
    rintro _ ⟨v, o3, rfl, v0, v1, h3⟩
    obtain ⟨v, rfl⟩ : ∃ w : Nat, v = (w : Int) := ⟨v.toNat, by omega⟩
    walk_at "zv"
    exact ⟨⟨false, p, v⟩, o3, rfl, h3⟩

end
end Law

namespace Law
noncomputable section
open PySem PySem.Spec PyProof.Rows L2 D2
local macro_rules | `(tactic| walk_at "ev") => `(tactic| simp (decide := true) only [kO_some, w_C, w_Var, w_VarW, kVar_val, kVarW_val, kVarW_lst, kVarW_dic, w_Flat, kFlat_eq, w_Bin, kBin_eq, kBin2_eq, w_Un, kUn_eq, w_Tup, kTup_eq, w_Lst, kLst_eq, w_Nil, w_Cons, kCons_eq, kCons2_eq, w_And, kAnd_eq, w_Or, kOr_eq, w_Tst, kTst_eq, w_Tru, kTru_bl, kTru_int, kTru_tup, kTru_lst, kTru_non, w_NotT, kNotT_eq, w_AndT, kAndT_eq, w_OrT, kOrT_eq, w_IsN, kIsN_eq, w_If, kIf_eq, w_Chain, kCh1_eq, kCh2_eq, kCh3_eq, w_Bi, kBi_eq, on1_eq, on2_eq, w_Meth, kMeth_eq, kMeth2_eq, w_Ix, kIx_eq, kIx2_eq, w_Get2, kGet1_eq, kGet2_eq, kGet3_eq, w_NoP, w_Part, kPart_eq, w_Sl, kSl1_eq, kSl2_eq, kSl3_eq, w_Call, kCall_eq, w_CallP, kCallP_eq, w_OfO, kOfO_eq, toD_lst, toD_dic, w_LstO, kLstO_eq, w_DicO, w_Rep, kRep_eq, kRep2_eq, w_Pn, w_Pc, kPc1_eq, kPc2_eq, kPc3_eq, w_Disp, kDisp_eq, kDisp2_eq, keyed_nil, keyed_S, keyed_I, w_Lc, kLc_eq, kLc2_eq, w_Il, kIl_eq, w_It, kIt_eq, w_Ir1, kIr1_eq, w_Ir2, kIr2_eq, w_Ie, kIe_eq, w_IeT, kIeT_eq, w_Yes, w_Seq, kSeq_nx, kSeq_bk, kSeq_ct, kSeq_rt, w_Nx, w_Bk, w_Ct, w_RetN, w_Ret, kRet_eq, w_Drop, kDrop_eq, w_IfS, kIfS_eq, w_Frz, w_Set, kSet_eq, w_SetO, kSetO_eq, w_Aft, kAft_eq, w_Asg, kAsg_eq, kAsg2_eq, w_For, kFor_eq, w_While, w_Put, kPut_eq, kPut2_own, kPut2_ref, kPutR_eq, w_Own, w_OwnE, w_OwnS, kOwn_eq, kOwnE_eq, kOwnS_eq, w_Fn, kFn_nx, kFn_rt, kLoop_nx, kLoop_ct, kLoop_bk, kLoop_rt, w_Ir3, kIr3_eq, w_Lrg, kLrg_eq, w_AppPop, kApp0_eq, w_Never, w_Irv, kIrv_eq, w_Star, kStar_tup, kStar_lst, kStar2_eq, w_CallX, kCallX_eq, w_Raise, kRaise_eq, w_Done, kDone_eq, w_Try, kTry_eq, w_msRetF, kFld_some, w_msRetC, w_msRetP, kFld2_some, w_ToL, kToL_tup, kToL_lst, w_Chain3, kD0_eq, kD1_eq, kD2_eq, kD3_eq, kD4_eq, w_Add, kAdd_eq, kAdd2_eq, w_msRet, w_xF, kFldE_some, w_xBin, w_Hd, w_TryN, kTryN_eq, kHd_some, kHd_only, w_IfT, kIfT_eq, w_Iz, kIz_tup, kIz_lst, w_xOwnE, w_xOne, w_CallL, kCallL_eq, w_CallF, kCF_fn, kCF2_eq, w_lamF, w_IzM, kIzM_tl, o_addI, o_addS, o_addT, o_addL, o_sub, o_fdiv, o_mod, o_pow, o_shl, o_shr, o_and, o_or, o_mul, o_lt, o_le, o_gt, o_ge, lt_eq, le_eq, gt_eq, ge_eq, o_neg, o_nob, o_eqI, o_eqS, o_neI, o_neS, eqo_int, ixS_tup, ixS_lst, ixS_dic, ixS_ref0, ixS_ref1, ixo_tup, ixo_lst, ixo_dicI, ixo_dicS, atI_0, atI_1, atI_2, atI_3, atI_4, atI_5, atI_6, atI_7, atI_8, pr_0, pr_1, pr_2, pr_3, po_dicI, po_dicS, app_eq, ext_eq, isL_eq, isD_eq, DisL_eq, o_lenL, o_lenT, o_lenD, o_lenS, o_toI, o_abs, o_strI, o_max2, o_min2, o_toT, o_toTT, o_toL, o_toLT, o_sloT, o_sloL, o_sloS, g_Nm, g_Tu, g_Cons, g_Nil, own_val, own_no, merge_new, dGet_cons, dGet_nil, dGet2_S, dGet2_I, o_sset, o_ssetI, o_toIb, fl_int, fl_bl, fl_str, fl_non, isNon_non, isNon_int, isNon_tup, o_inI, o_ninI, o_ninE, o_mkRng, isNon_bl, o_eqB, o_mulI, o_mulTup, o_mulLst, o_revT, o_isStrS, o_isStrT, o_isStrN, o_ltG, o_sortG, o_ssetL, o_ssetLt, o_lenSetI, o_tupRg, o_minGl, o_minGt, o_maxGl, o_maxGt, o_bestDl, o_bestDt, o_bestDln, o_bestDtn, o_lenSetT, o_sortT, o_capsN, o_capsC, o_capV, o_isB, o_notB, o_sumT, List.getElem?_cons_zero, List.getElem?_cons_succ, List.set_cons_zero, List.set_cons_succ, List.length_cons, List.length_nil, List.map_cons, List.map_nil, List.cons_append, List.nil_append, List.replicate_succ, List.replicate_zero, if_true, if_false, decide_eq_true_eq, decide_eq_false_iff_not, Bool.false_eq_true, and_true, true_and, Bool.not_true, Bool.not_false, reduceIte, Option.bind_some, Option.map_some, Option.getD_some, Option.getD_none, Sum.inr.injEq, Sum.inl.injEq, Nat.reduceAdd, Nat.reduceSub, Nat.reduceLeDiff, Nat.reduceLT, Nat.reduceEqDiff, reduceCtorEq, Int.reduceLT, Int.reduceLE, Int.reduceEq, Int.reduceAdd, Int.reduceSub, Int.reduceMul, Int.reduceNeg, Int.cast_ofNat_Int, Int.natCast_zero, Int.reduceToNat, Int.reducePow, or_true, true_or, String.reduceEq, decide_true, decide_false, Bool.not_eq_true', Bool.not_eq_false', List.all_cons, List.all_nil, Bool.and_true, Bool.true_and, Bool.true_or, Bool.or_true, wipeS, startS, hdOf_cons])
def d_LINE_LIMIT : D := (.int (60))
def d_CHANGE_LIMIT : D := (.int (3))
abbrev n__check_change : List Str := ["case", "book", "change", "word", "place", "number", "day"]
def m__check_change : MS :=
  (mSeq (mAsg (mVar 2) (gTu 3 (gsCons (gNm 3) (gsCons (gNm 4) (gsCons (gNm 5) gsNil)))))
  (mSeq (mIfS (mAndT (mTst (mBin D.eqo (mVar 3) (mC (.str "more")))) (mNotT (mTst (mChain D.le D.lt (mC (.int 0)) (mVar 4) (mBi (on1 D.len) (mCons (mIx (mVar 0) (mC (.int 3))) mNil)))))) (mRaise "MendError" ["code"] (mCons (mC (.str "day")) mNil)) mNx)
  (mSeq (mIfS (mAndT (mTst (mBin D.eqo (mVar 3) (mC (.str "sheet")))) (mNotT (mTst (mChain D.le D.lt (mC (.int 0)) (mVar 4) (mBi (on1 D.len) (mCons (mVar 1) mNil)))))) (mRaise "MendError" ["code"] (mCons (mC (.str "line")) mNil)) mNx)
  (mSeq (mSet 6 (mIf (mTst (mBin D.eqo (mVar 3) (mC (.str "more")))) (mVar 4) (mIx (mIx (mVar 1) (mVar 4)) (mC (.int 0)))))
  (mSeq (mIfS (mNotT (mTst (mChain D.le D.lt (mC (.int 0)) (mVar 5) (mBi (on1 D.len) (mCons (mIx (mIx (mVar 0) (mC (.int 3))) (mVar 6)) mNil))))) (mRaise "MendError" ["code"] (mCons (mC (.str "sheet")) mNil)) mNx)
  (mIfS (mAndT (mTst (mBin D.eqo (mVar 3) (mC (.str "sheet")))) (mTst (mBin D.eqo (mIx (mIx (mVar 1) (mVar 4)) (mC (.int 2))) (mVar 5)))) (mRaise "MendError" ["code"] (mCons (mC (.str "same")) mNil)) mNx))))))
def F__check_change : FD := fnF n__check_change m__check_change
abbrev n__with_change : List Str := ["draft", "change", "book", "fixed", "word", "place", "number", "day", "test", "_"]
def m__with_change : MS :=
  (mSeq (mAsg (mVar 0) (gTu 2 (gsCons (gNm 2) (gsCons (gNm 3) gsNil))))
  (mSeq (mAsg (mVar 1) (gTu 3 (gsCons (gNm 4) (gsCons (gNm 5) (gsCons (gNm 6) gsNil)))))
  (mSeq (mIfS (mTst (mBin D.eqo (mVar 4) (mC (.str "more")))) (mRet (mTup (mCons (mTup (mStar (mVar 2) (mCons (mTup (mCons (mVar 5) (mCons (mC .non) (mCons (mVar 6) mNil)))) mNil))) (mCons (mTup (mStar (mVar 3) (mCons (mBi (on1 D.len) (mCons (mVar 2) mNil)) mNil))) mNil)))) mNx)
  (mSeq (mAsg (mIx (mVar 2) (mVar 5)) (gTu 3 (gsCons (gNm 7) (gsCons (gNm 8) (gsCons (gNm 9) gsNil)))))
  (mRet (mTup (mCons (mTup (mStar (mSl (mVar 2) mNoP (mPart (mVar 5))) (mCons (mTup (mCons (mVar 7) (mCons (mVar 8) (mCons (mVar 6) mNil)))) (mStar (mSl (mVar 2) (mPart (mBin D.add (mVar 5) (mC (.int 1)))) mNoP) mNil)))) (mCons (mTup (mStar (mVar 3) (mCons (mVar 5) mNil))) mNil))))))))
def F__with_change : FD := fnF n__with_change m__with_change
abbrev n_mended : List Str := ["case", "book", "mend", "aims", "change", "draft"]
def m_mended_b1 : MS :=
  (mDrop (mCallX F__check_change (mCons (mVar 0) (mCons (mVar 1) (mCons (mVar 4) mNil)))))
def m_mended_b2 : MS :=
  (mSet 5 (mCall F__with_change (mCons (mVar 5) (mCons (mVar 4) mNil))))
def m_mended : MS :=
  (mSeq (mIfS (mTst (mBin D.gt (mBi (on1 D.len) (mCons (mVar 2) mNil)) (mC d_CHANGE_LIMIT))) (mRaise "MendError" ["code"] (mCons (mC (.str "long")) mNil)) mNx)
  (mSeq (mAft 3 (mSetO 3 (oLc false (mIt (mVar 2)) (gNm 4) mYes (mSl (mVar 4) mNoP (mPart (mC (.int 2)))) [4])))
  (mSeq (mIfS (mOrT (mTst (mBin D.neo (mBi (on1 D.toLst) (mCons (mVar 2) mNil)) (mUn D.ssetK (mVar 2)))) (mTst (mBin D.lt (mUn D.lenK (mVar 3)) (mBi (on1 D.len) (mCons (mVar 3) mNil))))) (mRaise "MendError" ["code"] (mCons (mC (.str "order")) mNil)) mNx)
  (mSeq (mFor (mIt (mVar 2)) (gNm 4) (m_mended_b1))
  (mSeq (mSet 5 (mTup (mCons (mVar 1) (mCons (mTup mNil) mNil))))
  (mSeq (mFor (mIt (mVar 2)) (gNm 4) (m_mended_b2))
  (mSeq (mIfS (mTst (mBin D.gt (mBi (on1 D.len) (mCons (mIx (mVar 5) (mC (.int 0))) mNil)) (mC d_LINE_LIMIT))) (mRaise "MendError" ["code"] (mCons (mC (.str "many")) mNil)) mNx)
  (mRet (mIx (mVar 5) (mC (.int 0)))))))))))
def F_mended : FD := fnF n_mended m_mended
abbrev n__law_told : List Str := ["case", "book", "mend", "e"]
def m__law_told : MS :=
  (mTryN [("MendError", some 3, (msRet (mxF "code")))] (mRet (mCallX F_mended (mCons (mVar 0) (mCons (mVar 1) (mCons (mVar 2) mNil))))))
def F__law_told : FD := fnF n__law_told m__law_told
abbrev n__law_due : List Str := ["case", "book", "mend", "k", "lines", "more", "kind", "place", "number"]
def m__law_due_b1 : MS :=
  (mIfS (mOrT (mNotT (mTst (mBin D.ltG (mIx (mVar 2) (mBin D.sub (mVar 3) (mC (.int 1)))) (mIx (mVar 2) (mVar 3))))) (mTst (mBin D.eqo (mSl (mIx (mVar 2) (mBin D.sub (mVar 3) (mC (.int 1)))) mNoP (mPart (mC (.int 2)))) (mSl (mIx (mVar 2) (mVar 3)) mNoP (mPart (mC (.int 2))))))) (mRet (mC (.str "order"))) mNx)
def m__law_due_b2 : MS :=
  (mIfS (mTst (mBin D.eqo (mVar 6) (mC (.str "sheet")))) (mSeq (mIfS (mTst (mBin D.ge (mVar 7) (mBi (on1 D.len) (mCons (mVar 1) mNil)))) (mRet (mC (.str "line"))) mNx)
  (mSeq (mIfS (mTst (mBin D.ge (mVar 8) (mBi (on1 D.len) (mCons (mIx (mIx (mVar 0) (mC (.int 3))) (mIx (mIx (mVar 1) (mVar 7)) (mC (.int 0)))) mNil)))) (mRet (mC (.str "sheet"))) mNx)
  (mSeq (mIfS (mTst (mBin D.eqo (mVar 8) (mIx (mIx (mVar 1) (mVar 7)) (mC (.int 2))))) (mRet (mC (.str "same"))) mNx)
  (mPut 4 (mBin D.add (mSl (mIx (mVar 1) (mVar 7)) mNoP (mPart (mC (.int 2)))) (mTup (mCons (mVar 8) mNil))) (mVar 7))))) (mSeq (mIfS (mTst (mBin D.ge (mVar 7) (mBi (on1 D.len) (mCons (mIx (mIx (mVar 0) (mC (.int 1))) (mC (.int 0))) mNil)))) (mRet (mC (.str "day"))) mNx)
  (mSeq (mIfS (mTst (mBin D.ge (mVar 8) (mBi (on1 D.len) (mCons (mIx (mIx (mVar 0) (mC (.int 3))) (mVar 7)) mNil)))) (mRet (mC (.str "sheet"))) mNx)
  (mOwnE 5 O.isL O.append (mCons (mTup (mCons (mVar 7) (mCons (mC .non) (mCons (mVar 8) mNil)))) mNil)))))
def m__law_due : MS :=
  (mSeq (mIfS (mTst (mBin D.gt (mBi (on1 D.len) (mCons (mVar 2) mNil)) (mC (.int 3)))) (mRet (mC (.str "long"))) mNx)
  (mSeq (mFor (mIr2 (mCons (mC (.int 1)) (mCons (mBi (on1 D.len) (mCons (mVar 2) mNil)) mNil))) (gNm 3) (m__law_due_b1))
  (mSeq (mSetO 4 (oToL (mVar 1)))
  (mSeq (mSetO 5 (oLst mNil))
  (mSeq (mFor (mIt (mVar 2)) (gTu 3 (gsCons (gNm 6) (gsCons (gNm 7) (gsCons (gNm 8) gsNil)))) (m__law_due_b2))
  (mFrz 5 (mFrz 4 (mRet (mIf (mTst (mBin D.gt (mBin D.add (mBi (on1 D.len) (mCons (mVar 4) mNil)) (mBi (on1 D.len) (mCons (mVar 5) mNil))) (mC (.int 60)))) (mC (.str "many")) (mBi (on1 D.toTup) (mCons (mBin D.add (mVar 4) (mVar 5)) mNil)))))))))))
def F__law_due : FD := fnF n__law_due m__law_due
/-! ### the order of changes -/
def Chg.key (c : Chg) : List Leaf := [.text (kindS c.more), .num (c.place : Int), .num (c.num : Int)]
def Chg.aim (c : Chg) : List Leaf := [.text (kindS c.more), .num (c.place : Int)]
theorem chg_key (c : Chg) : c.d = keyD c.key := rfl
theorem kind_ne : kindS true ≠ kindS false := by decide
theorem kind_inj {a b : Bool} (h : kindS a = kindS b) : a = b := by
  cases a <;> cases b <;> first | rfl | exact absurd h kind_ne | exact absurd h.symm kind_ne
theorem key_inj {a b : Chg} (h : a.key = b.key) : a = b := by
  obtain ⟨a1, a2, a3⟩ := a
  obtain ⟨b1, b2, b3⟩ := b
  unfold Chg.key at h
  simp only [List.cons.injEq, Leaf.text.injEq, Leaf.num.injEq, and_true] at h
  obtain ⟨h1, h2, h3⟩ := h
  have := kind_inj h1
  subst this
  congr 1 <;> omega
def aimLt (a b : Chg) : Bool := (a.more && !b.more) || ((a.more == b.more) && decide (a.place < b.place))
def ltC (a b : Chg) : Bool := (a.more && !b.more) || ((a.more == b.more) && (decide (a.place < b.place) || (decide (a.place = b.place) && decide (a.num < b.num))))
theorem lex_c {p q : Int ⊕ List Nat} {a b : List (Int ⊕ List Nat)} : PyProof.Rows.lexLt PyProof.Rows.itemOrd (p :: a) (q :: b) = (PyProof.Rows.itemLt p q || (!PyProof.Rows.itemLt q p && PyProof.Rows.lexLt PyProof.Rows.itemOrd a b)) := PyProof.Rows.lex_cons (O := PyProof.Rows.itemOrd) p q a b
theorem item_int (a b : Int) : PyProof.Rows.itemLt (.inl a) (.inl b) = decide (a < b) := rfl
theorem item_self (a : Int ⊕ List Nat) : PyProof.Rows.itemLt a a = false := PyProof.Rows.itemOrd.irrefl a
theorem lt_ints (x y x' y' : Nat) : PyProof.Rows.lexLt PyProof.Rows.itemOrd [.inl 1, .inl (x : Int), .inl 1, .inl (y : Int), .inl 0] [.inl 1, .inl (x' : Int), .inl 1, .inl (y' : Int), .inl 0] = (decide (x < x') || (decide (x = x') && decide (y < y'))) := by
  simp only [lex_c, item_self, item_int, PyProof.Rows.lexLt]
  by_cases h1 : x < x'
  · simp [h1]
  · by_cases h2 : x = x'
    · subst h2
      by_cases h3 : y < y'
      · simp [h3]
      · simp [h3]
    · have h3 : x' < x := by omega
      simp [h1, h2, h3]
      try omega
theorem toks_chg (c : Chg) : PySem.W.keyToksAll (c.key.map Leaf.data) = [.inl 1, .inr (kindS c.more).cps.toList, .inl 1, .inl (c.place : Int), .inl 1, .inl (c.num : Int), .inl 0] := by
  unfold Chg.key
  simp only [List.map_cons, List.map_nil, Leaf.data, PySem.W.keyToksAll, PySem.W.keyToks, List.cons_append, List.nil_append]
theorem ms_lt : PyProof.Rows.itemLt (.inr (kindS true).cps.toList) (.inr (kindS false).cps.toList) = true := by decide +kernel
theorem sm_lt : PyProof.Rows.itemLt (.inr (kindS false).cps.toList) (.inr (kindS true).cps.toList) = false := by decide +kernel
theorem lt_chg (a b : Chg) : PySem.W.dataLt (kdat a.key) (kdat b.key) = ltC a b := by
  unfold kdat
  rw [PySem.W.dataLt_tuple, toks_chg, toks_chg]
  obtain ⟨a1, a2, a3⟩ := a
  obtain ⟨b1, b2, b3⟩ := b
  unfold ltC
  simp only []
  rw [lex_c, item_self, lex_c]
  cases a1 <;> cases b1
  · rw [item_self, lt_ints]
    simp
  · rw [sm_lt, ms_lt]
    simp
  · rw [ms_lt]
    simp
  · rw [item_self, lt_ints]
    simp
theorem aim_lt {a b : Chg} (h : aimLt a b = true) : ltC a b = true := by
  unfold aimLt at h
  unfold ltC
  simp only [Bool.or_eq_true, Bool.and_eq_true, decide_eq_true_eq] at h ⊢
  rcases h with h | h
  · exact .inl h
  · exact .inr ⟨h.1, .inl h.2⟩
theorem aim_trans {a b c : Chg} (h1 : aimLt a b = true) (h2 : aimLt b c = true) : aimLt a c = true := by
  unfold aimLt at *
  obtain ⟨a1, a2, a3⟩ := a
  obtain ⟨b1, b2, b3⟩ := b
  obtain ⟨c1, c2, c3⟩ := c
  simp only [Bool.or_eq_true, Bool.and_eq_true, decide_eq_true_eq, beq_iff_eq, Bool.not_eq_true'] at *
  cases a1 <;> cases b1 <;> cases c1 <;> simp at * <;> omega
theorem lt_ne {a b : Chg} (h : ltC a b = true) : a ≠ b := by
  rintro rfl
  unfold ltC at h
  simp at h
theorem aim_ne {a b : Chg} (h : aimLt a b = true) : a.aim ≠ b.aim := by
  intro e
  unfold Chg.aim at e
  simp only [List.cons.injEq, Leaf.text.injEq, Leaf.num.injEq, and_true] at e
  obtain ⟨e1, e2⟩ := e
  have := kind_inj e1
  unfold aimLt at h
  rw [this] at h
  simp at h
  omega
/-- the two differ in what they aim at, and ascend -/
theorem aim_iff {a b : Chg} : aimLt a b = (ltC a b && !((a.more == b.more) && decide (a.place = b.place))) := by
  unfold aimLt ltC
  obtain ⟨a1, a2, a3⟩ := a
  obtain ⟨b1, b2, b3⟩ := b
  cases a1 <;> cases b1 <;> simp <;> (by_cases h1 : a2 < b2 <;> by_cases h2 : a2 = b2 <;> simp [h1, h2] <;> omega)
/-- some neighbours are out of order -/
def orderB : List Chg → Bool
  | a :: b :: r => !aimLt a b || orderB (b :: r)
  | _ => false
theorem order_pw : ∀ {l : List Chg}, orderB l = false → l.Pairwise fun a b => aimLt a b = true
  | [], _ => List.Pairwise.nil
  | [a], _ => List.pairwise_singleton _ _
  | a :: b :: r, h => by
    rw [orderB, Bool.or_eq_false_iff, Bool.not_eq_false'] at h
    have ih := order_pw h.2
    refine List.pairwise_cons.mpr ⟨fun c hc => ?_, ih⟩
    rcases List.mem_cons.mp hc with rfl | hc
    · exact h.1
    · exact aim_trans h.1 ((List.pairwise_cons.mp ih).1 c hc)
theorem ddK_same : ∀ {l : List (List Leaf)}, l.Nodup → ddK l = l
  | [], _ => rfl
  | x :: l, h => by
    obtain ⟨h1, h2⟩ := List.nodup_cons.mp h
    rw [ddK, if_neg h1, ddK_same h2]
theorem ddK_le : ∀ l : List (List Leaf), (ddK l).length ≤ l.length
  | [] => Nat.le_refl _
  | x :: l => by
    have := ddK_le l
    rw [ddK]
    split
    · rw [List.length_cons]; omega
    · rw [List.length_cons, List.length_cons]; omega
theorem ddK_full : ∀ {l : List (List Leaf)}, l.length ≤ (ddK l).length → l.Nodup
  | [], _ => List.nodup_nil
  | x :: l, h => by
    have h2 := ddK_le l
    rw [ddK] at h
    split at h
    · rw [List.length_cons] at h; omega
    · rename_i hx
      rw [List.length_cons, List.length_cons] at h
      exact List.nodup_cons.mpr ⟨hx, ddK_full (by omega)⟩
theorem lt_asym {a b : Chg} (h : ltC a b = true) : ¬ ltC b a = true := by
  intro h2
  have e1 := lt_chg a b
  have e2 := lt_chg b a
  rw [h] at e1
  rw [h2] at e2
  unfold kdat at e1 e2
  rw [PySem.W.dataLt_tuple] at e1 e2
  have h3 := PyProof.Rows.lex_trans (O := PyProof.Rows.itemOrd) _ _ _ e1 e2
  rw [PyProof.Rows.lex_irrefl (O := PyProof.Rows.itemOrd)] at h3
  cases h3
theorem pw_order : ∀ {l : List Chg}, (l.Pairwise fun a b => aimLt a b = true) → orderB l = false
  | [], _ => rfl
  | [a], _ => rfl
  | a :: b :: r, h => by
    obtain ⟨h1, h2⟩ := List.pairwise_cons.mp h
    rw [orderB, h1 b List.mem_cons_self, pw_order h2]
    rfl
theorem key_told (c : Chg) : toldK c.key = true := by
  unfold toldK Chg.key
  simp
theorem key_le {a b : Chg} : leK a.key b.key = !ltC b a := by
  unfold leK
  rw [lt_chg]
/-- what the program asks of the order -/
theorem order_iff (l : List Chg) : (decide (l.map Chg.key ≠ sortK (l.map Chg.key)) || decide ((ddK (l.map Chg.aim)).length < l.length)) = orderB l := by
  cases h : orderB l with
  | false =>
    have pw := order_pw h
    have e1 : l.map Chg.key = sortK (l.map Chg.key) := by
      have nd : (l.map Chg.key).Nodup := by
        unfold List.Nodup
        rw [List.pairwise_map]
        exact pw.imp fun hab e => lt_ne (aim_lt hab) (key_inj e)
      refine only_sortK (fun k hk => ?_) (fun k hk => ?_) ?_ (sorted_sortK _) nd (nodup_sortK _) fun x => mem_sortK.symm
      · obtain ⟨c, _, rfl⟩ := List.mem_map.mp hk
        exact key_told c
      · obtain ⟨c, _, rfl⟩ := List.mem_map.mp (mem_sortK.mp hk)
        exact key_told c
      · rw [List.pairwise_map]
        refine pw.imp fun {a b} hab => ?_
        rw [key_le, Bool.not_eq_true']
        cases hba : ltC b a with
        | false => rfl
        | true =>
          exact absurd hba (lt_asym (aim_lt hab))
    have e2 : (ddK (l.map Chg.aim)).length = l.length := by
      rw [ddK_same, List.length_map]
      unfold List.Nodup
      rw [List.pairwise_map]
      exact pw.imp fun hab => aim_ne hab
    rw [e2]
    simp only [Nat.lt_irrefl, decide_false, Bool.or_false]
    rw [decide_eq_false_iff_not]
    exact fun z => z e1
  | true =>
    by_cases e1 : l.map Chg.key = sortK (l.map Chg.key)
    · by_cases e2 : (ddK (l.map Chg.aim)).length < l.length
      · simp [e2]
      · exfalso
        have nd1 : (l.map Chg.aim).Nodup := ddK_full (by rw [List.length_map]; omega)
        have nd2 : (l.map Chg.key).Nodup := by rw [e1]; exact nodup_sortK _
        have pw : (l.map Chg.key).Pairwise fun a b => leK a b = true := by rw [e1]; exact sorted_sortK _
        unfold List.Nodup at nd1 nd2
        rw [List.pairwise_map] at nd1 nd2 pw
        have := pw_order ((nd1.and (nd2.and pw)).imp fun {a b} hh => by
          obtain ⟨q1, q2, q3⟩ := hh
          rw [key_le, Bool.not_eq_true'] at q3
          have tr := PyProof.Rows.lex_total (O := PyProof.Rows.itemOrd) (PySem.W.keyToksAll (a.key.map Leaf.data)) (PySem.W.keyToksAll (b.key.map Leaf.data))
          have l1 := lt_chg a b
          have l2 := lt_chg b a
          unfold kdat at l1 l2
          rw [PySem.W.dataLt_tuple] at l1 l2
          have l3 : ltC a b = true := by
            cases hab : ltC a b with
            | true => rfl
            | false =>
              rw [hab] at l1
              rw [q3] at l2
              exact absurd (toks_inj (told_ne (key_told a)).2 (told_ne (key_told b)).2 (tr l1 l2)) q2
          rw [aim_iff, l3]
          simp only [Bool.true_and, Bool.not_eq_true', Bool.and_eq_false_iff, decide_eq_false_iff_not, beq_eq_false_iff_ne]
          by_cases hm : a.more = b.more
          · right
            intro hp
            apply q1
            unfold Chg.aim
            rw [hm, hp]
          · exact .inl hm)
        rw [h] at this
        cases this
    · simp [e1]
/-! ### lists of keys as data -/
theorem leaf_eqv : ∀ a b : Leaf, PyData.eqv (leafD a).pd (leafD b).pd = decide (a = b)
  | .none, .none => rfl
  | .none, .num _ => rfl
  | .none, .text _ => rfl
  | .num _, .none => rfl
  | .num i, .num j => by
    have : PyData.eqv (D.int i).pd (D.int j).pd = decide (i = j) := eqv_int
    show PyData.eqv (D.int i).pd (D.int j).pd = _
    rw [this]
    by_cases h : i = j <;> simp [h]
  | .num _, .text _ => rfl
  | .text _, .none => rfl
  | .text _, .num _ => rfl
  | .text x, .text y => by
    have : PyData.eqv (D.str x).pd (D.str y).pd = decide (x = y) := eqv_str
    show PyData.eqv (D.str x).pd (D.str y).pd = _
    rw [this]
    by_cases h : x = y <;> simp [h]
theorem leafs_eqv : ∀ a b : List Leaf, PyData.eqvAll (D.pdA (a.map leafD)) (D.pdA (b.map leafD)) = decide (a = b)
  | [], [] => by simp [D.pdA, PyData.eqvAll]
  | [], y :: m => by simp [D.pdA, PyData.eqvAll]
  | x :: l, [] => by simp [D.pdA, PyData.eqvAll]
  | x :: l, y :: m => by
    simp only [List.map_cons, D.pdA, PyData.eqvAll, leafs_eqv l m, leaf_eqv]
    by_cases g1 : x = y <;> by_cases g2 : l = m <;> simp [g1, g2]
theorem keys_eqvA : ∀ a b : List (List Leaf), PyData.eqvAll (D.pdA (a.map keyD)) (D.pdA (b.map keyD)) = decide (a = b)
  | [], [] => by simp [D.pdA, PyData.eqvAll]
  | [], y :: m => by simp [D.pdA, PyData.eqvAll]
  | x :: l, [] => by simp [D.pdA, PyData.eqvAll]
  | x :: l, y :: m => by
    have h : PyData.eqv (keyD x).pd (keyD y).pd = decide (x = y) := by
      rw [← leafs_eqv]
      simp only [keyD, D.pd, PyData.eqv]
    simp only [List.map_cons, D.pdA, PyData.eqvAll, keys_eqvA l m, h]
    by_cases g1 : x = y <;> by_cases g2 : l = m <;> simp [g1, g2]
theorem keys_eqv {a b : List (List Leaf)} : D.eqv (.lst (a.map keyD)) (.lst (b.map keyD)) = decide (a = b) := by
  rw [← keys_eqvA]
  simp only [D.eqv, D.pd, PyData.eqv]
theorem leafs_okq : ∀ (k : List Leaf) (n : Nat), D.okqA (k.map leafD) n = true
  | [], _ => rfl
  | l :: k, n => by
    have := leafs_okq k n
    cases l <;> (rw [List.map_cons, D.okqA, this]; rfl)
theorem keys_okq (l : List (List Leaf)) : (D.lst (l.map keyD)).okq 50 = true := okqA_of fun d hd => by
  obtain ⟨k, _, rfl⟩ := List.mem_map.mp hd
  exact leafs_okq k 48
theorem chg_alike (a b : Chg) : PySem.W.alike (kdat a.key) (kdat b.key) = true := by
  unfold kdat Chg.key
  simp only [List.map_cons, List.map_nil, Leaf.data, PySem.W.alike, PySem.W.alikeAll]
  try rfl
theorem okK_chg {l : List Chg} (h : l.length ≤ 4) : okK (l.map Chg.key) = true := by
  unfold okK
  simp only [Bool.and_eq_true, decide_eq_true_eq, List.all_eq_true]
  refine ⟨by rw [List.length_map]; exact h, fun k hk => ?_, fun k hk m hm => ?_⟩
  · obtain ⟨c, _, rfl⟩ := List.mem_map.mp hk
    exact key_told c
  · obtain ⟨c, _, rfl⟩ := List.mem_map.mp hk
    obtain ⟨c2, _, rfl⟩ := List.mem_map.mp hm
    exact chg_alike c c2
/-! ### what is wrong with a change, and what it makes -/
def lineAt (book : List Line) (k : Nat) : Line := book.getD k ⟨0, .non, 0⟩
def chkE (c : NCase) (book : List Line) (ch : Chg) : Option Str :=
  if ch.more = true then (if c.days ≤ ch.place then some "day" else if (c.menu.getD ch.place []).length ≤ ch.num then some "sheet" else none)
  else if book.length ≤ ch.place then some "line" else if (c.menu.getD (lineAt book ch.place).day []).length ≤ ch.num then some "sheet" else if (lineAt book ch.place).num = ch.num then some "same" else none
def exM (x : Str) : Exn := ⟨"MendError", ["code"], [.str x]⟩
theorem line_k {book : List Line} {k : Nat} {S : List O} {P : D × List O → Prop} (h : k < book.length) : kO (atI (book.map Line.d) (k : Int)) S P = P ((lineAt book k).d, S) := kO_eq (atI_nat (by
  rw [List.getElem?_map, List.getElem?_eq_getElem h]
  unfold lineAt
  rw [List.getD_eq_getElem?_getD, List.getElem?_eq_getElem h]
  rfl))
theorem menu_d {c : NCase} {m k : Nat} {S : List O} {P : D × List O → Prop} (hc : NCaseOk m c) (hk : k < m) : kO (atI (c.menu.map rowD) (k : Int)) S P = P (rowD (c.menu.getD k []), S) := by
  have hm := hc.menu
  refine kO_eq (atI_nat ?_)
  rw [List.getElem?_map, List.getElem?_eq_getElem (by omega : k < c.menu.length), List.getD_eq_getElem?_getD, List.getElem?_eq_getElem (by omega : k < c.menu.length)]
  rfl
theorem cCHG : d_CHANGE_LIMIT = D.int 3 := rfl
theorem cLIN : d_LINE_LIMIT = D.int 60 := rfl
theorem lin_0 {l : Line} {S : List O} {P : D × List O → Prop} : kO (ixS S l.d (.int 0)) S P = P (.int (l.day : Int), S) := by with_unfolding_all rfl
theorem lin_2 {l : Line} {S : List O} {P : D × List O → Prop} : kO (ixS S l.d (.int 2)) S P = P (.int (l.num : Int), S) := by with_unfolding_all rfl
local macro_rules | `(tactic| walk_at "zw") => `(tactic| simp (decide := true) only [nfl_0, nfl_1, nfl_2, ncs_0, ncs_1, ncs_3, cCHG, cLIN, lin_0, lin_2, kO_some, w_C, w_Var, w_VarW, kVar_val, kVarW_val, kVarW_lst, kVarW_dic, w_Flat, kFlat_eq, w_Bin, kBin_eq, kBin2_eq, w_Un, kUn_eq, w_Tup, kTup_eq, w_Lst, kLst_eq, w_Nil, w_Cons, kCons_eq, kCons2_eq, w_And, kAnd_eq, w_Or, kOr_eq, w_Tst, kTst_eq, w_Tru, kTru_bl, kTru_int, kTru_tup, kTru_lst, kTru_non, w_NotT, kNotT_eq, w_AndT, kAndT_eq, w_OrT, kOrT_eq, w_IsN, kIsN_eq, w_If, kIf_eq, w_Chain, kCh1_eq, kCh2_eq, kCh3_eq, w_Bi, kBi_eq, on1_eq, on2_eq, w_Meth, kMeth_eq, kMeth2_eq, w_Ix, kIx_eq, kIx2_eq, w_Get2, kGet1_eq, kGet2_eq, kGet3_eq, w_NoP, w_Part, kPart_eq, w_Sl, kSl1_eq, kSl2_eq, kSl3_eq, w_Call, kCall_eq, w_CallP, kCallP_eq, w_OfO, kOfO_eq, toD_lst, toD_dic, w_LstO, kLstO_eq, w_DicO, w_Rep, kRep_eq, kRep2_eq, w_Pn, w_Pc, kPc1_eq, kPc2_eq, kPc3_eq, w_Disp, kDisp_eq, kDisp2_eq, keyed_nil, keyed_S, keyed_I, w_Lc, kLc_eq, kLc2_eq, w_Il, kIl_eq, w_It, kIt_eq, w_Ir1, kIr1_eq, w_Ir2, kIr2_eq, w_Ie, kIe_eq, w_IeT, kIeT_eq, w_Yes, w_Seq, kSeq_nx, kSeq_bk, kSeq_ct, kSeq_rt, w_Nx, w_Bk, w_Ct, w_RetN, w_Ret, kRet_eq, w_Drop, kDrop_eq, w_IfS, kIfS_eq, w_Frz, w_Set, kSet_eq, w_SetO, kSetO_eq, w_Aft, kAft_eq, w_Asg, kAsg_eq, kAsg2_eq, w_For, kFor_eq, w_While, w_Put, kPut_eq, kPut2_own, kPut2_ref, kPutR_eq, w_Own, w_OwnE, w_OwnS, kOwn_eq, kOwnE_eq, kOwnS_eq, w_Fn, kFn_nx, kFn_rt, kLoop_nx, kLoop_ct, kLoop_bk, kLoop_rt, w_Ir3, kIr3_eq, w_Lrg, kLrg_eq, w_AppPop, kApp0_eq, w_Never, w_Irv, kIrv_eq, w_Star, kStar_tup, kStar_lst, kStar2_eq, w_CallX, kCallX_eq, w_Raise, kRaise_eq, w_Done, kDone_eq, w_Try, kTry_eq, w_msRetF, kFld_some, w_msRetC, w_msRetP, kFld2_some, w_ToL, kToL_tup, kToL_lst, w_Chain3, kD0_eq, kD1_eq, kD2_eq, kD3_eq, kD4_eq, w_Add, kAdd_eq, kAdd2_eq, w_msRet, w_xF, kFldE_some, w_xBin, w_Hd, w_TryN, kTryN_eq, kHd_some, kHd_only, w_IfT, kIfT_eq, w_Iz, kIz_tup, kIz_lst, w_xOwnE, w_xOne, w_CallL, kCallL_eq, w_CallF, kCF_fn, kCF2_eq, w_lamF, w_IzM, kIzM_tl, o_addI, o_addS, o_addT, o_addL, o_sub, o_fdiv, o_mod, o_pow, o_shl, o_shr, o_and, o_or, o_mul, o_lt, o_le, o_gt, o_ge, lt_eq, le_eq, gt_eq, ge_eq, o_neg, o_nob, o_eqI, o_eqS, o_neI, o_neS, eqo_int, ixS_tup, ixS_lst, ixS_dic, ixS_ref0, ixS_ref1, ixo_tup, ixo_lst, ixo_dicI, ixo_dicS, atI_0, atI_1, atI_2, atI_3, atI_4, atI_5, atI_6, atI_7, atI_8, pr_0, pr_1, pr_2, pr_3, po_dicI, po_dicS, app_eq, ext_eq, isL_eq, isD_eq, DisL_eq, o_lenL, o_lenT, o_lenD, o_lenS, o_toI, o_abs, o_strI, o_max2, o_min2, o_toT, o_toTT, o_toL, o_toLT, o_sloT, o_sloL, o_sloS, g_Nm, g_Tu, g_Cons, g_Nil, own_val, own_no, merge_new, dGet_cons, dGet_nil, dGet2_S, dGet2_I, o_sset, o_ssetI, o_toIb, fl_int, fl_bl, fl_str, fl_non, isNon_non, isNon_int, isNon_tup, o_inI, o_ninI, o_ninE, o_mkRng, isNon_bl, o_eqB, o_mulI, o_mulTup, o_mulLst, o_revT, o_isStrS, o_isStrT, o_isStrN, o_ltG, o_sortG, o_ssetL, o_ssetLt, o_lenSetI, o_tupRg, o_minGl, o_minGt, o_maxGl, o_maxGt, o_bestDl, o_bestDt, o_bestDln, o_bestDtn, o_lenSetT, o_sortT, o_capsN, o_capsC, o_capV, o_isB, o_notB, o_sumT, List.getElem?_cons_zero, List.getElem?_cons_succ, List.set_cons_zero, List.set_cons_succ, List.length_cons, List.length_nil, List.map_cons, List.map_nil, List.cons_append, List.nil_append, List.replicate_succ, List.replicate_zero, if_true, if_false, decide_eq_true_eq, decide_eq_false_iff_not, Bool.false_eq_true, and_true, true_and, Bool.not_true, Bool.not_false, reduceIte, Option.bind_some, Option.map_some, Option.getD_some, Option.getD_none, Sum.inr.injEq, Sum.inl.injEq, Nat.reduceAdd, Nat.reduceSub, Nat.reduceLeDiff, Nat.reduceLT, Nat.reduceEqDiff, reduceCtorEq, Int.reduceLT, Int.reduceLE, Int.reduceEq, Int.reduceAdd, Int.reduceSub, Int.reduceMul, Int.reduceNeg, Int.cast_ofNat_Int, Int.natCast_zero, Int.reduceToNat, Int.reducePow, or_true, true_or, String.reduceEq, decide_true, decide_false, Bool.not_eq_true', Bool.not_eq_false', List.all_cons, List.all_nil, Bool.and_true, Bool.true_and, Bool.true_or, Bool.or_true, wipeS, startS, hdOf_cons])
theorem chk_w {c : NCase} {m : Nat} {book : List Line} {ch : Chg} {S : List O} {P : D × List O → Prop} {E : EP'} (hc : NCaseOk m c) (hb : ∀ l ∈ book, LineOk c l) (hn : ∀ x, chkE c book ch = some x → ∀ sg, E (exM x) sg S) (hy : chkE c book ch = none → P (.non, S)) :
    Wp (F__check_change [c.d, .tup (book.map Line.d), ch.d] S) P E := by
  have hdy := hc.dy
  have hmn := hc.menu
  unfold F__check_change m__check_change
  obtain ⟨mo, pl, nu⟩ := ch
  unfold Chg.d
  unfold chkE at hn hy
  simp only [] at hn hy
  walk_at "zw"
  cases mo with
  | true =>
    unfold kindS
    walk_at "zw"
    rw [if_pos (by omega), List.length_map]
    rw [if_pos rfl] at hn hy
    by_cases g1 : c.days ≤ pl
    · rw [if_pos g1] at hn
      rw [if_pos (by omega)]
      exact hn _ rfl _
    · rw [if_neg g1] at hn hy
      rw [if_neg (by omega), menu_d hc (by omega)]
      unfold rowD
      walk_at "zw"
      rw [if_pos (by omega), List.length_map]
      by_cases g2 : (c.menu.getD pl []).length ≤ nu
      · rw [if_pos g2] at hn
        rw [if_pos (by omega)]
        exact hn _ rfl _
      · rw [if_neg g2] at hy
        rw [if_neg (by omega)]
        (try walk_at "zw")
        exact hy rfl
  | false =>
    unfold kindS
    walk_at "zw"
    rw [if_pos (by omega), List.length_map]
    rw [if_neg (by decide)] at hn hy
    by_cases g1 : book.length ≤ pl
    · rw [if_pos g1] at hn
      rw [if_pos (by omega)]
      exact hn _ rfl _
    · rw [if_neg g1] at hn hy
      have hlt : pl < book.length := by omega
      have hday : (lineAt book pl).day < c.days := by
        refine (hb _ ?_).day
        unfold lineAt
        rw [List.getD_eq_getElem?_getD, List.getElem?_eq_getElem hlt]
        exact List.getElem_mem _
      rw [if_neg (by omega), line_k hlt]
      walk_at "zw"
      rw [menu_d hc (by omega)]
      unfold rowD
      walk_at "zw"
      rw [if_pos (by omega), List.length_map]
      by_cases g2 : (c.menu.getD (lineAt book pl).day []).length ≤ nu
      · rw [if_pos g2] at hn
        rw [if_pos (by omega)]
        exact hn _ rfl _
      · rw [if_neg g2] at hn hy
        rw [if_neg (by omega)]
        (try walk_at "zw")
        rw [line_k hlt]
        walk_at "zw"
        by_cases g3 : (lineAt book pl).num = nu
        · rw [if_pos g3] at hn
          rw [if_pos (by omega)]
          exact hn _ rfl _
        · rw [if_neg g3] at hy
          rw [if_neg (by omega)]
          (try walk_at "zw")
          exact hy rfl
def newL (ch : Chg) : Line := ⟨ch.place, .non, ch.num⟩
def reL (book : List Line) (ch : Chg) : Line := ⟨(lineAt book ch.place).day, (lineAt book ch.place).test, ch.num⟩
def prgS (b : List Line) (ch : Chg) : List Line := if ch.more = true then b ++ [newL ch] else b.take ch.place ++ reL b ch :: b.drop (ch.place + 1)
theorem cut_to (ds : List D) (k : Nat) : D2.cutD ds none (some (k : Int)) = ds.take k := by
  unfold D2.cutD
  rw [show HT.sIx ds.length 0 none = 0 from rfl, HT.sIx_nat, List.drop_zero, Nat.sub_zero]
  by_cases h : k ≤ ds.length
  · rw [Nat.min_eq_left h]
  · rw [Nat.min_eq_right (by omega), List.take_length, List.take_of_length_le (by omega)]
theorem cut_from (ds : List D) (k : Nat) : D2.cutD ds (some (k : Int)) none = ds.drop k := by
  unfold D2.cutD
  rw [HT.sIx_nat, show HT.sIx ds.length ds.length none = ds.length from rfl]
  by_cases h : k ≤ ds.length
  · rw [Nat.min_eq_left h]
    exact List.take_of_length_le (by rw [List.length_drop]; exact Nat.le_refl _)
  · rw [Nat.min_eq_right (by omega), List.drop_length, List.drop_of_length_le (by omega), List.take_nil]
theorem with_w {book : List Line} {fx : List Int} {ch : Chg} {S : List O} {P : D × List O → Prop} {E : EP'} (hl : book.length ≤ 1000) (hf : fx.length ≤ 1000) (hs : ch.more = false → ch.place < book.length) (hy : ∀ fx' : List Int, fx'.length = fx.length + 1 → P (.tup [.tup ((prgS book ch).map Line.d), .tup (fx'.map D.int)], S)) :
    Wp (F__with_change [.tup [.tup (book.map Line.d), .tup (fx.map D.int)], ch.d] S) P E := by
  unfold F__with_change m__with_change
  obtain ⟨mo, pl, nu⟩ := ch
  unfold Chg.d
  unfold prgS newL reL at hy
  simp only [] at hy hs
  walk_at "zw"
  cases mo with
  | true =>
    unfold kindS
    rw [if_pos rfl] at hy
    walk_at "zw"
    have := hy (fx ++ [(book.length : Int)]) (by rw [List.length_append]; rfl)
    rw [List.map_append, List.map_append] at this
    refine ⟨by rw [List.length_append, List.length_map, List.length_singleton]; omega, by rw [List.length_append, List.length_map, List.length_singleton]; omega, ?_⟩
    rw [List.length_map]
    exact this
  | false =>
    unfold kindS
    rw [if_neg (by decide)] at hy
    walk_at "zw"
    rw [line_k (hs rfl)]
    unfold Line.d
    walk_at "zw"
    rw [cut_to, show ((pl : Int) + 1) = ((pl + 1 : Nat) : Int) from rfl, cut_from, List.append_nil]
    have := hy (fx ++ [(pl : Int)]) (by rw [List.length_append]; rfl)
    rw [List.map_append, List.map_append, List.map_cons, List.map_take, List.map_drop] at this
    unfold Line.d at this
    refine ⟨?_, by rw [List.length_append, List.length_map, List.length_singleton]; omega, this⟩
    rw [List.length_append, List.length_cons, List.length_take, List.length_drop, List.length_map]
    omega
/-! ### the result -/
def lawC (book0 : List Line) (s : List Line × List Line) (ch : Chg) : List Line × List Line :=
  if ch.more = true then (s.1, s.2 ++ [newL ch]) else (s.1.set ch.place (reL book0 ch), s.2)
def SameT (book0 b : List Line) : Prop := b.length = book0.length ∧ ∀ k, (lineAt b k).day = (lineAt book0 k).day ∧ (lineAt b k).test = (lineAt book0 k).test
def FitC (book0 : List Line) (ch : Chg) : Prop := ch.more = false → ch.place < book0.length
theorem law_step {book0 : List Line} {s : List Line × List Line} {ch : Chg} (hs : SameT book0 s.1) (hf : FitC book0 ch) : prgS (s.1 ++ s.2) ch = (lawC book0 s ch).1 ++ (lawC book0 s ch).2 ∧ SameT book0 (lawC book0 s ch).1 := by
  obtain ⟨ls, mo⟩ := s
  obtain ⟨hl, hk⟩ := hs
  replace hl : ls.length = book0.length := hl
  replace hk : ∀ k, (lineAt ls k).day = (lineAt book0 k).day ∧ (lineAt ls k).test = (lineAt book0 k).test := hk
  unfold prgS lawC
  dsimp only
  cases hm : ch.more with
  | true =>
    rw [if_pos rfl, if_pos rfl]
    exact ⟨List.append_assoc _ _ _, hl, hk⟩
  | false =>
    rw [if_neg (by decide), if_neg (by decide)]
    have hp := hf hm
    have e1 : lineAt (ls ++ mo) ch.place = lineAt ls ch.place := by
      unfold lineAt
      rw [List.getD_eq_getElem?_getD, List.getD_eq_getElem?_getD, List.getElem?_append_left (by omega)]
    have e2 : reL (ls ++ mo) ch = reL book0 ch := by
      unfold reL
      rw [e1, (hk ch.place).1, (hk ch.place).2]
    rw [e2]
    refine ⟨?_, ?_, fun k => ?_⟩
    · show _ = ls.set ch.place (reL book0 ch) ++ mo
      rw [List.set_eq_take_append_cons_drop, if_pos (by omega), List.take_append_of_le_length (by omega), List.drop_append_of_le_length (by omega)]
      simp
    · show (ls.set _ _).length = _
      rw [List.length_set]
      exact hl
    · show (lineAt (ls.set _ _) k).day = _ ∧ _
      unfold lineAt
      rw [List.getD_eq_getElem?_getD, List.getElem?_set]
      by_cases hkk : ch.place = k
      · subst hkk
        rw [if_pos rfl, if_pos (by omega)]
        exact ⟨rfl, rfl⟩
      · rw [if_neg hkk]
        have := hk k
        unfold lineAt at this
        rw [List.getD_eq_getElem?_getD] at this
        exact this
theorem law_fold {book0 : List Line} : ∀ (l : List Chg) (s : List Line × List Line), SameT book0 s.1 → (∀ ch ∈ l, FitC book0 ch) → l.foldl prgS (s.1 ++ s.2) = (l.foldl (lawC book0) s).1 ++ (l.foldl (lawC book0) s).2
  | [], s, _, _ => rfl
  | ch :: l, s, hs, hf => by
    obtain ⟨e, h2⟩ := law_step hs (hf ch List.mem_cons_self)
    rw [List.foldl_cons, List.foldl_cons, e]
    exact law_fold l _ h2 fun c hc => hf c (List.mem_cons_of_mem _ hc)
def firstE (c : NCase) (book : List Line) : List Chg → Option Str
  | [] => none
  | ch :: l => match chkE c book ch with
    | some x => some x
    | none => firstE c book l
def resE (c : NCase) (book : List Line) (mend : List Chg) : Str :=
  if 3 < mend.length then "long" else if orderB mend = true then "order" else match firstE c book mend with
    | some x => x
    | none => if 60 < ((mend.foldl (lawC book) (book, [])).1 ++ (mend.foldl (lawC book) (book, [])).2).length then "many" else ""
def resD (c : NCase) (book : List Line) (mend : List Chg) : D := if resE c book mend = "" then .tup (((mend.foldl (lawC book) (book, [])).1 ++ (mend.foldl (lawC book) (book, [])).2).map Line.d) else .str (resE c book mend)
theorem chk_fit {c : NCase} {book : List Line} {ch : Chg} (h : chkE c book ch = none) : FitC book ch := by
  intro hm
  unfold chkE at h
  rw [if_neg (by rw [hm]; decide)] at h
  split at h
  · cases h
  · omega
theorem first_none {c : NCase} {book : List Line} : ∀ {l : List Chg}, firstE c book l = none → ∀ ch ∈ l, chkE c book ch = none
  | [], _, ch, h => by cases h
  | a :: l, h, ch, hc => by
    rw [firstE] at h
    cases ha : chkE c book a with
    | some x => rw [ha] at h; cases h
    | none =>
      rw [ha] at h
      rcases List.mem_cons.mp hc with rfl | hc
      · exact ha
      · exact first_none h ch hc
theorem prg_len {b : List Line} {ch : Chg} : (prgS b ch).length ≤ b.length + 1 := by
  unfold prgS
  split
  · rw [List.length_append]; exact Nat.le_refl _
  · rw [List.length_append, List.length_cons, List.length_take, List.length_drop]; omega
theorem Wp.lcP {gg : D → List Sl → Option (List Sl)} {mt : MT} {me : ME} {sg : List Sl} {S : List O} {α : Type} {en : α → D} {p : α → Bool} {f : α → D} {xs : List α} {P : List D × List O → Prop} {E : EP'}
    (h : ∀ x, x ∈ xs → ∃ sg1, gg (en x) sg = some sg1 ∧ mt sg1 S = .ok (p x, S) ∧ (p x = true → me sg1 S = .ok (f x, S))) (k : P ((xs.filter p).map f, S)) : Wp (lcR gg mt me sg (xs.map en) S) P E := by
  rw [wp_eq (lc_pure h)]
  exact k
theorem chg_aim (c : Chg) : D.tup (D2.cutD [.str (kindS c.more), .int (c.place : Int), .int (c.num : Int)] none (some 2)) = keyD c.aim := rfl
theorem Wp.loop1 {gg : D → List Sl → Option (List Sl)} {body : MS} {P : Fl × List Sl × List O → Prop} {E : EP'} {d : D} {ds : List D} {sg sg1 : List Sl} {S : List O} (e : gg d sg = some sg1)
    (q : Wp (body sg1 S) (kLoop (fun sg S => Wp (loopM gg body ds sg S) P E) P) E) : Wp (loopM gg body (d :: ds) sg S) P E := by
  unfold loopM
  simp only [e]
  rw [wp_bind]
  refine q.imp fun x hx => ?_
  obtain ⟨fl, sg2, S2⟩ := x
  cases fl with
  | nx => exact hx
  | ct => exact hx
  | bk => exact wp_okI hx
  | rt v => exact wp_okI hx
theorem Wp.loopJ {gg : D → List Sl → Option (List Sl)} {body : MS} {P : Fl × List Sl × List O → Prop} {E : EP'} {d : D} {ds : List D} {sg sg1 : List Sl} {S : List O} {J : List Sl → List O → Prop} (e : gg d sg = some sg1) (hJ : ∀ sg S, J sg S → Wp (loopM gg body ds sg S) P E)
    (q : Wp (body sg1 S) (kLoop J P) E) : Wp (loopM gg body (d :: ds) sg S) P E := by
  refine Wp.loop1 e (q.imp fun x hx => ?_)
  obtain ⟨fl, sg2, S2⟩ := x
  cases fl with
  | nx => exact hJ _ _ hx
  | ct => exact hJ _ _ hx
  | bk => exact hx
  | rt v => exact hx
theorem Wp.loop0 {gg : D → List Sl → Option (List Sl)} {body : MS} {P : Fl × List Sl × List O → Prop} {E : EP'} {sg : List Sl} {S : List O} (h : P (.nx, sg, S)) : Wp (loopM gg body [] sg S) P E := wp_okI h
def mendTail : MS := (mSeq (mSet 5 (mTup (mCons (mVar 1) (mCons (mTup mNil) mNil))))
          (mSeq (mFor (mIt (mVar 2)) (gNm 4) m_mended_b2)
            (mSeq (mIfS (mTst (mBin D.gt (mBi (on1 D.len) (mCons (mIx (mVar 5) (mC (.int 0))) mNil)) (mC (.int 60)))) (mRaise "MendError" ["code"] (mCons (mC (.str "many")) mNil)) mNx)
              (mRet (mIx (mVar 5) (mC (.int 0)))))))
theorem chk_ne {c : NCase} {book : List Line} {ch : Chg} {x : Str} (h : chkE c book ch = some x) : x ≠ "" := by
  unfold chkE at h
  repeat' split at h
  all_goals (cases h; try decide)
theorem first_ne {c : NCase} {book : List Line} {x : Str} : ∀ {l : List Chg}, firstE c book l = some x → x ≠ ""
  | [], h => by cases h
  | a :: l, h => by
    rw [firstE] at h
    cases ha : chkE c book a with
    | some y =>
      rw [ha] at h
      cases h
      exact chk_ne ha
    | none =>
      rw [ha] at h
      exact first_ne h
theorem chk_loop {c : NCase} {m : Nat} {book : List Line} {mD aD : D} {S : List O} {Q : Fl × List Sl × List O → Prop} {E : EP'} (hc : NCaseOk m c) (hb : ∀ l ∈ book, LineOk c l) : ∀ (l : List Chg) (x4 : Sl), isOwn (some x4) = false →
    (∀ x, firstE c book l = some x → ∀ sg, E (exM x) sg S) → (firstE c book l = none → ∀ y4, isOwn (some y4) = false → Q (.nx, [.val c.d, .val (.tup (book.map Line.d)), .val mD, .val aD, y4, .no], S)) →
    Wp (loopM (gNm 4) m_mended_b1 (l.map Chg.d) [.val c.d, .val (.tup (book.map Line.d)), .val mD, .val aD, x4, .no] S) Q E
  | [], x4, h4, _, hy => Wp.loop0 (hy rfl x4 h4)
  | ch :: l, x4, h4, hn, hy => by
    rw [List.map_cons]
    refine Wp.loop1 (gNm_ok h4) ?_
    simp only [List.set_cons_succ, List.set_cons_zero]
    unfold m_mended_b1
    walk_at "zw"
    refine chk_w hc hb (fun x hx sg => ?_) fun hx => ?_
    · exact hn x (by rw [firstE, hx]) _
    · walk_at "zw"
      have e : firstE c book (ch :: l) = firstE c book l := by rw [firstE, hx]
      rw [e] at hn hy
      exact chk_loop hc hb l _ rfl hn hy
theorem with_loop {cD bD mD aD : D} {S : List O} {Q : Fl × List Sl × List O → Prop} {E : EP'} : ∀ (l : List Chg) (b : List Line) (fx : List Int) (x4 : Sl), isOwn (some x4) = false → b.length + l.length ≤ 900 → fx.length + l.length ≤ 900 → (∀ ch ∈ l, ch.more = false → ch.place < b.length) →
    (∀ (fx' : List Int) y4, isOwn (some y4) = false → Q (.nx, [.val cD, .val bD, .val mD, .val aD, y4, .val (.tup [.tup ((l.foldl prgS b).map Line.d), .tup (fx'.map D.int)])], S)) →
    Wp (loopM (gNm 4) m_mended_b2 (l.map Chg.d) [.val cD, .val bD, .val mD, .val aD, x4, .val (.tup [.tup (b.map Line.d), .tup (fx.map D.int)])] S) Q E
  | [], b, fx, x4, h4, _, _, _, hy => Wp.loop0 (hy fx x4 h4)
  | ch :: l, b, fx, x4, h4, hl1, hl2, hp, hy => by
    rw [List.length_cons] at hl1 hl2
    rw [List.map_cons]
    refine Wp.loop1 (gNm_ok h4) ?_
    simp only [List.set_cons_succ, List.set_cons_zero]
    unfold m_mended_b2
    walk_at "zw"
    refine with_w (by omega) (by omega) (hp ch List.mem_cons_self) fun fx' hfx => ?_
    walk_at "zw"
    have hle := prg_len (b := b) (ch := ch)
    have hge : b.length ≤ (prgS b ch).length := by
      have := hp ch List.mem_cons_self
      unfold prgS
      cases hm : ch.more with
      | true => rw [if_pos rfl, List.length_append]; omega
      | false =>
        rw [if_neg (by decide), List.length_append, List.length_cons, List.length_take, List.length_drop]
        have := this hm
        omega
    exact with_loop l (prgS b ch) fx' _ rfl (by omega) (by omega) (fun c hc hm => by have := hp c (List.mem_cons_of_mem _ hc) hm; omega) hy
theorem mended_w {c : NCase} {m : Nat} {book : List Line} {mend : List Chg} {S : List O} {P : D × List O → Prop} {E : EP'} (hc : NCaseOk m c) (hb : ∀ l ∈ book, LineOk c l) (hl : book.length ≤ 100) (hml : mend.length ≤ 100)
    (hn : resE c book mend ≠ "" → ∀ sg, E (exM (resE c book mend)) sg S) (hy : resE c book mend = "" → P (resD c book mend, S)) : Wp (F_mended [c.d, .tup (book.map Line.d), .tup (mend.map Chg.d)] S) P E := by
  unfold F_mended m_mended
  walk_at "zw"
  rw [List.length_map]
  by_cases g1 : 3 < mend.length
  · have e : resE c book mend = "long" := by unfold resE; rw [if_pos g1]
    rw [if_pos (by omega)]
    rw [e] at hn
    exact hn (by decide) _
  · rw [if_neg (by omega)]
    refine ⟨by omega, ?_⟩
    refine Wp.lcP (en := Chg.d) (p := fun _ => true) (f := fun ch => keyD ch.aim) (fun ch _ => ⟨_, gNm_ok rfl, rfl, fun _ => wp_is (by
      simp only [List.set_cons_succ, List.set_cons_zero]
      unfold Chg.d
      walk_at "zw"
      exact congrArg (fun d => (d, S)) (chg_aim ch))⟩) ?_
    rw [List.filter_eq_self.mpr fun _ _ => rfl]
    walk_at "zw"
    simp only [frz, List.getElem?_cons_succ, List.getElem?_cons_zero, List.set_cons_succ, List.set_cons_zero, toD_lst]
    walk_at "zw"
    have eK : mend.map Chg.d = (mend.map Chg.key).map keyD := by rw [List.map_map]; rfl
    have eA : mend.map (fun ch => keyD ch.aim) = (mend.map Chg.aim).map keyD := by rw [List.map_map]; rfl
    have e1 : D.ssetK (.tup (mend.map Chg.d)) = some (.lst ((sortK (mend.map Chg.key)).map keyD)) := by rw [eK]; exact ssetK_tup (okK_chg (by omega))
    have e2 : D.lenK (.lst (mend.map (fun ch => keyD ch.aim))) = some (.int (((ddK (mend.map Chg.aim)).length : Nat) : Int)) := by rw [eA]; exact lenK_lst (by rw [List.length_map]; omega)
    have ev : D.eqv (.lst (mend.map Chg.d)) (.lst ((sortK (mend.map Chg.key)).map keyD)) = decide (mend.map Chg.key = sortK (mend.map Chg.key)) := by rw [eK]; exact keys_eqv
    have q1 : (D.lst (mend.map Chg.d)).okq 50 = true := by rw [eK]; exact keys_okq _
    rw [kO_eq e1, kBin2_eq, o_neG, ev]
    refine ⟨q1, keys_okq _, ?_⟩
    have hor := order_iff mend
    -- behind the order: the checks, the changes
    have rest : orderB mend = false → Wp (loopM (gNm 4) m_mended_b1 (mend.map Chg.d) [.val c.d, .val (.tup (book.map Line.d)), .val (.tup (mend.map Chg.d)), .val (.lst (mend.map (fun ch => keyD ch.aim))), .no, .no] S) (kSeq mendTail (kFn P) E) E := by
      intro ho
      refine chk_loop hc hb mend .no rfl (fun x hx sg => ?_) fun hx y4 h4 => ?_
      · have e : resE c book mend = x := by unfold resE; rw [if_neg g1, if_neg (by rw [ho]; decide), hx]
        rw [e] at hn
        exact hn (first_ne hx) sg
      · rw [kSeq_nx]
        unfold mendTail
        walk_at "zw"
        have hfit : ∀ ch ∈ mend, FitC book ch := fun ch hch => chk_fit (first_none hx ch hch)
        have efold := law_fold mend (book, []) ⟨rfl, fun k => ⟨rfl, rfl⟩⟩ hfit
        rw [List.append_nil] at efold
        refine with_loop mend book [] y4 h4 (by omega) (by show 0 + _ ≤ _; omega) hfit fun fx' z4 k4 => ?_
        walk_at "zw"
        replace efold : List.foldl prgS book mend = (List.foldl (lawC book) (book, []) mend).1 ++ (List.foldl (lawC book) (book, []) mend).2 := efold
        rw [efold, List.length_map]
        by_cases g60 : 60 < ((List.foldl (lawC book) (book, []) mend).1 ++ (List.foldl (lawC book) (book, []) mend).2).length
        · have e : resE c book mend = "many" := by
            unfold resE
            rw [if_neg g1, if_neg (by rw [ho]; decide), hx]
            exact if_pos g60
          rw [e] at hn
          rw [if_pos (by omega)]
          exact hn (by decide) _
        · have e : resE c book mend = "" := by
            unfold resE
            rw [if_neg g1, if_neg (by rw [ho]; decide), hx]
            exact if_neg g60
          have hy' := hy e
          unfold resD at hy'
          rw [if_pos e] at hy'
          rw [if_neg (by omega)]
          exact hy'
    by_cases gA : mend.map Chg.key = sortK (mend.map Chg.key)
    · rw [decide_eq_true gA]
      walk_at "zw"
      rw [kO_eq e2]
      walk_at "zw"
      rw [List.length_map]
      by_cases gB : (ddK (mend.map Chg.aim)).length < mend.length
      · have ho : orderB mend = true := by rw [← hor, decide_eq_true gB, Bool.or_true]
        have e : resE c book mend = "order" := by unfold resE; rw [if_neg g1, if_pos ho]
        rw [e] at hn
        rw [if_pos (by omega)]
        exact hn (by decide) _
      · have ho : orderB mend = false := by rw [← hor, decide_eq_false gB, decide_eq_false (fun z => z gA)]; rfl
        rw [if_neg (by omega)]
        have := rest ho
        unfold mendTail at this
        exact this
    · have ho : orderB mend = true := by rw [← hor, decide_eq_true gA]; rfl
      have e : resE c book mend = "order" := by unfold resE; rw [if_neg g1, if_pos ho]
      rw [e] at hn
      rw [decide_eq_false gA]
      walk_at "zw"
      exact hn (by decide) _
theorem fld_code (x : Str) : fld (exM x) "code" = some (.str x) := rfl
theorem told_eq {c : NCase} {m : Nat} {book : List Line} {mend : List Chg} {S : List O} (hc : NCaseOk m c) (hb : ∀ l ∈ book, LineOk c l) (hl : book.length ≤ 100) (hml : mend.length ≤ 100) :
    F__law_told [c.d, .tup (book.map Line.d), .tup (mend.map Chg.d)] S = .ok (resD c book mend, S) := by
  refine wp_is ?_
  unfold F__law_told m__law_told
  walk_at "zw"
  refine mended_w hc hb hl hml (fun h sg => ?_) fun h => ?_
  · unfold exM
    walk_at "zw"
    rw [show (⟨"MendError", ["code"], [.str (resE c book mend)]⟩ : Exn) = exM (resE c book mend) from rfl, fld_code]
    walk_at "zw"
    unfold resD
    rw [if_neg h]
  · walk_at "zw"
/-! ### the law's own -/
theorem order_get : ∀ {l : List Chg}, (∀ (k : Nat) a b, l[k]? = some a → l[k + 1]? = some b → aimLt a b = true) → orderB l = false
  | [], _ => rfl
  | [a], _ => rfl
  | a :: b :: r, h => by
    rw [orderB, h 0 a b rfl rfl, order_get (l := b :: r) fun k x y hx hy => h (k + 1) x y hx hy]
    rfl
theorem order_bad : ∀ {l : List Chg} {k : Nat} {a b : Chg}, l[k]? = some a → l[k + 1]? = some b → aimLt a b = false → orderB l = true
  | [], k, _, _, h, _, _ => by simp at h
  | [a], k, _, _, _, h, _ => by simp at h
  | x :: y :: r, 0, a, b, h1, h2, h => by
    cases h1
    cases h2
    rw [orderB, h]
    rfl
  | x :: y :: r, k + 1, a, b, h1, h2, h => by
    rw [orderB, order_bad (l := y :: r) (k := k) h1 h2 h, Bool.or_true]
theorem chg_pd (c : Chg) : c.d.pd = kdat c.key := by
  unfold Chg.d kdat Chg.key
  simp only [D.pd, D.pdA, List.map_cons, List.map_nil, Leaf.data]
theorem chg_lt {a b : Chg} {S : List O} {P : D × List O → Prop} (h : P (.bl (ltC a b), S)) : kO (D.ltG a.d b.d) S P := by
  rw [o_ltG]
  refine ⟨?_, ?_⟩
  · unfold D.cmpOk D.alk
    rw [chg_pd, chg_pd, chg_alike]
    rfl
  · unfold D.ltb
    rw [chg_pd, chg_pd, lt_chg]
    exact h
theorem aim_eq {a b : Chg} {S : List O} {P : D × List O → Prop} (h : P (.bl ((a.more == b.more) && decide (a.place = b.place)), S)) : kO (D.eqo (keyD a.aim) (keyD b.aim)) S P := by
  rw [o_eqG]
  refine ⟨leafs_okq _ _, leafs_okq _ _, ?_⟩
  have e : D.eqv (keyD a.aim) (keyD b.aim) = decide (a.aim = b.aim) := by
    rw [← leafs_eqv]
    simp only [keyD, D.eqv, D.pd, PyData.eqv]
  rw [e]
  have e2 : decide (a.aim = b.aim) = ((a.more == b.more) && decide (a.place = b.place)) := by
    by_cases g : a.aim = b.aim
    · rw [decide_eq_true g]
      unfold Chg.aim at g
      simp only [List.cons.injEq, Leaf.text.injEq, Leaf.num.injEq, and_true] at g
      rw [kind_inj g.1, decide_eq_true (by omega : a.place = b.place)]
      simp
    · rw [decide_eq_false g]
      by_cases h1 : a.more = b.more
      · have h2 : a.place ≠ b.place := fun h2 => g (by unfold Chg.aim; rw [h1, h2])
        simp [h2]
      · simp [h1]
  rw [e2]
  exact h
theorem chg_k {mend : List Chg} {k : Nat} {a : Chg} {S : List O} {P : D × List O → Prop} (h : mend[k]? = some a) : kO (atI (mend.map Chg.d) (k : Int)) S P = P (a.d, S) := kO_eq (atI_nat (by rw [List.getElem?_map, h]; rfl))
theorem due_b1 {cD bD : D} {mend : List Chg} {k : Nat} {a b : Chg} {x4 x5 x6 x7 x8 : Sl} {S : List O} {Ps : Fl × List Sl × List O → Prop} {E : EP'} (ha : mend[k]? = some a) (hb : mend[k + 1]? = some b)
    (hn : aimLt a b = false → Ps (.rt (.str "order"), [.val cD, .val bD, .val (.tup (mend.map Chg.d)), .val (.int (1 + (k : Int))), x4, x5, x6, x7, x8], S))
    (hy : aimLt a b = true → Ps (.nx, [.val cD, .val bD, .val (.tup (mend.map Chg.d)), .val (.int (1 + (k : Int))), x4, x5, x6, x7, x8], S)) :
    Wp (m__law_due_b1 [.val cD, .val bD, .val (.tup (mend.map Chg.d)), .val (.int (1 + (k : Int))), x4, x5, x6, x7, x8] S) Ps E := by
  have e1 : (1 + (k : Int) - 1) = (k : Int) := by omega
  have e2 : (1 + (k : Int)) = ((k + 1 : Nat) : Int) := by omega
  unfold m__law_due_b1
  walk_at "zw"
  have hA : atI (mend.map Chg.d) (1 + (k : Int) - 1) = some a.d := by rw [e1]; exact atI_nat (by rw [List.getElem?_map, ha]; rfl)
  have hB : atI (mend.map Chg.d) (1 + (k : Int)) = some b.d := by rw [e2]; exact atI_nat (by rw [List.getElem?_map, hb]; rfl)
  rw [kO_eq hA]
  walk_at "zw"
  rw [kO_eq hB, kBin2_eq]
  refine chg_lt ?_
  cases hlt : ltC a b with
  | false =>
    have e : aimLt a b = false := by rw [aim_iff, hlt]; rfl
    walk_at "zw"
    exact hn e
  | true =>
    walk_at "zw"
    rw [kO_eq hA]
    unfold Chg.d
    walk_at "zw"
    unfold Chg.d at hB
    rw [kO_eq hB]
    walk_at "zw"
    rw [chg_aim, chg_aim]
    refine aim_eq ?_
    cases hm : ((a.more == b.more) && decide (a.place = b.place)) with
    | true =>
      have e : aimLt a b = false := by rw [aim_iff, hlt, hm]; rfl
      walk_at "zw"
      exact hn e
    | false =>
      have e : aimLt a b = true := by rw [aim_iff, hlt, hm]; rfl
      walk_at "zw"
      exact hy e
def bookS (cD : D) (book : List Line) (mD : D) (x3 : Sl) (s : List Line × List Line) (x6 x7 x8 : Sl) : List Sl := [.val cD, .val (.tup (book.map Line.d)), .val mD, x3, .own (.lst (s.1.map Line.d)), .own (.lst (s.2.map Line.d)), x6, x7, x8]
theorem due_b2 {c : NCase} {m : Nat} {book : List Line} {ch : Chg} {mD : D} {x3 : Sl} {s : List Line × List Line} {S : List O} {Ps : Fl × List Sl × List O → Prop} {E : EP'} (hc : NCaseOk m c) (hb : ∀ l ∈ book, LineOk c l) (hs : SameT book s.1) (hl : s.2.length ≤ 1000)
    (hn : ∀ x, chkE c book ch = some x → Ps (.rt (.str x), bookS c.d book mD x3 s (.val (.str (kindS ch.more))) (.val (.int (ch.place : Int))) (.val (.int (ch.num : Int))), S))
    (hy : chkE c book ch = none → Ps (.nx, bookS c.d book mD x3 (lawC book s ch) (.val (.str (kindS ch.more))) (.val (.int (ch.place : Int))) (.val (.int (ch.num : Int))), S)) :
    Wp (m__law_due_b2 (bookS c.d book mD x3 s (.val (.str (kindS ch.more))) (.val (.int (ch.place : Int))) (.val (.int (ch.num : Int)))) S) Ps E := by
  have hdy := hc.dy
  have hmn := hc.menu
  obtain ⟨ls, mo⟩ := s
  obtain ⟨hsl, hsk⟩ := hs
  replace hsl : ls.length = book.length := hsl
  replace hl : mo.length ≤ 1000 := hl
  obtain ⟨more, pl, nu⟩ := ch
  unfold chkE at hn hy
  unfold lawC at hy
  unfold m__law_due_b2
  unfold bookS at *
  dsimp only at hn hy ⊢
  cases more with
  | false =>
    simp only [Bool.false_eq_true, if_false, kindS] at hn hy ⊢
    walk_at "zw"
    rw [List.length_map]
    by_cases g1 : book.length ≤ pl
    · rw [if_pos g1] at hn
      rw [if_pos (by omega)]
      exact hn _ rfl
    · rw [if_neg g1] at hn hy
      have hlt : pl < book.length := by omega
      have hday : (lineAt book pl).day < c.days := by
        refine (hb _ ?_).day
        unfold lineAt
        rw [List.getD_eq_getElem?_getD, List.getElem?_eq_getElem hlt]
        exact List.getElem_mem _
      rw [if_neg (by omega), line_k hlt]
      walk_at "zw"
      rw [menu_d hc (by omega)]
      unfold rowD
      walk_at "zw"
      rw [List.length_map]
      by_cases g2 : (c.menu.getD (lineAt book pl).day []).length ≤ nu
      · rw [if_pos g2] at hn
        rw [if_pos (by omega)]
        exact hn _ rfl
      · rw [if_neg g2] at hn hy
        rw [if_neg (by omega)]
        (try walk_at "zw")
        rw [line_k hlt]
        walk_at "zw"
        by_cases g3 : (lineAt book pl).num = nu
        · rw [if_pos g3] at hn
          rw [if_pos (by omega)]
          exact hn _ rfl
        · rw [if_neg g3] at hy
          rw [if_neg (by omega)]
          (try walk_at "zw")
          rw [line_k hlt]
          rw [show (lineAt book pl).d = .tup [.int ((lineAt book pl).day : Int), (lineAt book pl).test, .int ((lineAt book pl).num : Int)] from rfl]
          walk_at "zw"
          have ec : D2.cutD [D.int ((lineAt book pl).day : Int), (lineAt book pl).test, D.int ((lineAt book pl).num : Int)] none (some 2) = [D.int ((lineAt book pl).day : Int), (lineAt book pl).test] := rfl
          rw [ec]
          refine ⟨by simp, ?_⟩
          (try walk_at "zw")
          rw [kPutO_eq (put_at (by rw [List.length_map]; omega))]
          have := hy rfl
          rw [List.map_set] at this
          exact this
  | true =>
    simp only [eq_self, if_true, kindS] at hn hy ⊢
    walk_at "zw"
    rw [List.length_replicate]
    by_cases g1 : c.days ≤ pl
    · rw [if_pos g1] at hn
      rw [if_pos (by omega)]
      exact hn _ rfl
    · rw [if_neg g1] at hn hy
      rw [if_neg (by omega)]
      (try walk_at "zw")
      rw [menu_d hc (by omega)]
      unfold rowD
      walk_at "zw"
      rw [List.length_map]
      by_cases g2 : (c.menu.getD pl []).length ≤ nu
      · rw [if_pos g2] at hn
        rw [if_pos (by omega)]
        exact hn _ rfl
      · rw [if_neg g2] at hy
        rw [if_neg (by omega)]
        (try walk_at "zw")
        refine ⟨by rw [List.length_map]; omega, ?_⟩
        have := hy rfl
        rw [List.map_append] at this
        exact this
theorem due_loop {c : NCase} {m : Nat} {book : List Line} {mD : D} {x3 : Sl} {S : List O} {Q : Fl × List Sl × List O → Prop} {E : EP'} (hc : NCaseOk m c) (hb : ∀ l ∈ book, LineOk c l) : ∀ (l : List Chg) (s : List Line × List Line) (x6 x7 x8 : Sl), isOwn (some x6) = false → isOwn (some x7) = false → isOwn (some x8) = false → SameT book s.1 → s.2.length + l.length ≤ 900 →
    (∀ x, firstE c book l = some x → ∀ sg, Q (.rt (.str x), sg, S)) → (firstE c book l = none → ∀ y6 y7 y8, Q (.nx, bookS c.d book mD x3 (l.foldl (lawC book) s) y6 y7 y8, S)) →
    Wp (loopM (gTu 3 (gsCons (gNm 6) (gsCons (gNm 7) (gsCons (gNm 8) gsNil)))) m__law_due_b2 (l.map Chg.d) (bookS c.d book mD x3 s x6 x7 x8) S) Q E
  | [], s, x6, x7, x8, _, _, _, _, _, _, hy => Wp.loop0 (hy rfl x6 x7 x8)
  | ch :: l, s, x6, x7, x8, h6, h7, h8, hs, hl, hn, hy => by
    rw [List.length_cons] at hl
    rw [List.map_cons]
    refine Wp.loop1 (sg1 := bookS c.d book mD x3 s (.val (.str (kindS ch.more))) (.val (.int (ch.place : Int))) (.val (.int (ch.num : Int)))) (by
      unfold bookS Chg.d
      simp [gTu, gsCons, gsNil, gNm, h6, h7, h8]) ?_
    refine due_b2 hc hb hs (by omega) (fun x hx => ?_) fun hx => ?_
    · exact hn x (by rw [firstE, hx]) _
    · rw [kLoop_nx]
      have e : firstE c book (ch :: l) = firstE c book l := by rw [firstE, hx]
      rw [e] at hn hy
      obtain ⟨_, h2⟩ := law_step hs (chk_fit hx)
      refine due_loop hc hb l (lawC book s ch) _ _ _ rfl rfl rfl h2 ?_ hn hy
      unfold lawC
      split
      · show (s.2 ++ [_]).length + _ ≤ _
        rw [List.length_append, List.length_singleton]; omega
      · show s.2.length + _ ≤ _
        omega
theorem law_len {book : List Line} : ∀ (l : List Chg) (s : List Line × List Line), (l.foldl (lawC book) s).1.length = s.1.length ∧ (l.foldl (lawC book) s).2.length ≤ s.2.length + l.length
  | [], s => ⟨rfl, Nat.le_refl _⟩
  | ch :: l, s => by
    obtain ⟨h1, h2⟩ := law_len (book := book) l (lawC book s ch)
    rw [List.foldl_cons, List.length_cons]
    have : (lawC book s ch).1.length = s.1.length ∧ (lawC book s ch).2.length ≤ s.2.length + 1 := by
      unfold lawC
      split
      · exact ⟨rfl, by show (s.2 ++ [_]).length ≤ _; rw [List.length_append]; exact Nat.le_refl _⟩
      · exact ⟨by show (s.1.set _ _).length = _; rw [List.length_set], Nat.le_succ _⟩
    omega
theorem due_eq {c : NCase} {m : Nat} {book : List Line} {mend : List Chg} {S : List O} (hc : NCaseOk m c) (hb : ∀ l ∈ book, LineOk c l) (hl : book.length ≤ 100) (hml : mend.length ≤ 100) :
    F__law_due [c.d, .tup (book.map Line.d), .tup (mend.map Chg.d)] S = .ok (resD c book mend, S) := by
  refine wp_is ?_
  unfold F__law_due m__law_due
  walk_at "zw"
  rw [List.length_map]
  by_cases g1 : 3 < mend.length
  · have e : resE c book mend = "long" := by unfold resE; rw [if_pos g1]
    rw [if_pos (by omega)]
    unfold resD
    rw [e]
    rfl
  · rw [if_neg (by omega)]
    refine ⟨by rw [Bool.and_eq_true]; exact ⟨by decide, lim_small (by omega) (by omega)⟩, ?_⟩
    refine Wp.loop (fun i sg S' => ∃ x3 : Sl, sg = [.val c.d, .val (.tup (book.map Line.d)), .val (.tup (mend.map Chg.d)), x3, .no, .no, .no, .no, .no] ∧ S' = S ∧ isOwn (some x3) = false ∧ ∀ (k : Nat) a b, k < i → mend[k]? = some a → mend[k + 1]? = some b → aimLt a b = true) ⟨.no, rfl, rfl, rfl, fun k a b hk => by omega⟩ ?_ ?_
    · rintro i d sg S' hd ⟨x3, rfl, rfl, g3, hall⟩
      obtain ⟨hi, rfl⟩ := rng_at hd
      obtain ⟨a, ha⟩ : ∃ a, mend[i]? = some a := ⟨_, List.getElem?_eq_getElem (by omega)⟩
      obtain ⟨b, hbb⟩ : ∃ b, mend[i + 1]? = some b := ⟨_, List.getElem?_eq_getElem (by omega)⟩
      refine ⟨_, gNm_ok g3, ?_⟩
      simp only [List.set_cons_succ, List.set_cons_zero]
      refine due_b1 ha hbb (fun hlt => ?_) fun hlt => ?_
      · have ho := order_bad ha hbb hlt
        have e : resE c book mend = "order" := by unfold resE; rw [if_neg g1, if_pos ho]
        walk_at "zw"
        unfold resD
        rw [e]
        rfl
      · rw [kLoop_nx]
        refine ⟨_, rfl, rfl, rfl, fun k a' b' hk ha' hb' => ?_⟩
        by_cases hki : k = i
        · subst hki
          rw [ha] at ha'
          rw [hbb] at hb'
          cases ha'
          cases hb'
          exact hlt
        · exact hall k a' b' (by omega) ha' hb'
    · rintro sg S' ⟨x3, rfl, rfl, g3, hall⟩
      rw [rngD_len] at hall
      have ho : orderB mend = false := order_get fun k a b ha hbb => hall k a b (by have := (List.getElem?_eq_some_iff.mp hbb).1; omega) ha hbb
      walk_at "zw"
      refine due_loop (x3 := x3) hc hb mend (book, []) .no .no .no rfl rfl rfl ⟨rfl, fun k => ⟨rfl, rfl⟩⟩ (by show 0 + _ ≤ _; omega) (fun x hx sg => ?_) fun hx y6 y7 y8 => ?_
      · have e : resE c book mend = x := by unfold resE; rw [if_neg g1, if_neg (by rw [ho]; decide), hx]
        walk_at "zw"
        unfold resD
        rw [e, if_neg (first_ne hx)]
      · obtain ⟨l1, l2⟩ := law_len (book := book) mend (book, [])
        replace l1 : (List.foldl (lawC book) (book, []) mend).1.length = book.length := l1
        replace l2 : (List.foldl (lawC book) (book, []) mend).2.length ≤ 0 + mend.length := l2
        have hres : resD c book mend = if 60 < ((List.foldl (lawC book) (book, []) mend).1 ++ (List.foldl (lawC book) (book, []) mend).2).length then .str "many" else .tup (((List.foldl (lawC book) (book, []) mend).1 ++ (List.foldl (lawC book) (book, []) mend).2).map Line.d) := by
          unfold resD
          have e : resE c book mend = if 60 < ((List.foldl (lawC book) (book, []) mend).1 ++ (List.foldl (lawC book) (book, []) mend).2).length then ("many" : Str) else ("" : Str) := by
            unfold resE
            rw [if_neg g1, if_neg (by rw [ho]; decide), hx]
          rw [e]
          by_cases g60 : 60 < ((List.foldl (lawC book) (book, []) mend).1 ++ (List.foldl (lawC book) (book, []) mend).2).length
          · rw [if_pos g60, if_pos g60]
            rfl
          · rw [if_neg g60, if_neg g60]
            rfl
        rw [hres]
        unfold bookS
        generalize List.foldl (lawC book) (book, []) mend = r at l1 l2 ⊢
        obtain ⟨r1, r2⟩ := r
        dsimp only at l1 l2 ⊢
        walk_at "zw"
        simp only [frz, List.getElem?_cons_succ, List.getElem?_cons_zero, List.set_cons_succ, List.set_cons_zero, toD_lst]
        walk_at "zw"
        rw [List.length_map, List.length_map, List.length_append]
        by_cases g60 : 60 < r1.length + r2.length
        · rw [if_pos (by omega), if_pos g60]
        · rw [if_neg (by omega), if_neg g60]
          refine ⟨by omega, ?_⟩
          rw [List.map_append]

end
end Law

namespace Law
noncomputable section
open PySem PySem.Spec PyProof.Rows L2 D2
local macro_rules | `(tactic| walk_at "ev") => `(tactic| simp (decide := true) only [kO_some, w_C, w_Var, w_VarW, kVar_val, kVarW_val, kVarW_lst, kVarW_dic, w_Flat, kFlat_eq, w_Bin, kBin_eq, kBin2_eq, w_Un, kUn_eq, w_Tup, kTup_eq, w_Lst, kLst_eq, w_Nil, w_Cons, kCons_eq, kCons2_eq, w_And, kAnd_eq, w_Or, kOr_eq, w_Tst, kTst_eq, w_Tru, kTru_bl, kTru_int, kTru_tup, kTru_lst, kTru_non, w_NotT, kNotT_eq, w_AndT, kAndT_eq, w_OrT, kOrT_eq, w_IsN, kIsN_eq, w_If, kIf_eq, w_Chain, kCh1_eq, kCh2_eq, kCh3_eq, w_Bi, kBi_eq, on1_eq, on2_eq, w_Meth, kMeth_eq, kMeth2_eq, w_Ix, kIx_eq, kIx2_eq, w_Get2, kGet1_eq, kGet2_eq, kGet3_eq, w_NoP, w_Part, kPart_eq, w_Sl, kSl1_eq, kSl2_eq, kSl3_eq, w_Call, kCall_eq, w_CallP, kCallP_eq, w_OfO, kOfO_eq, toD_lst, toD_dic, w_LstO, kLstO_eq, w_DicO, w_Rep, kRep_eq, kRep2_eq, w_Pn, w_Pc, kPc1_eq, kPc2_eq, kPc3_eq, w_Disp, kDisp_eq, kDisp2_eq, keyed_nil, keyed_S, keyed_I, w_Lc, kLc_eq, kLc2_eq, w_Il, kIl_eq, w_It, kIt_eq, w_Ir1, kIr1_eq, w_Ir2, kIr2_eq, w_Ie, kIe_eq, w_IeT, kIeT_eq, w_Yes, w_Seq, kSeq_nx, kSeq_bk, kSeq_ct, kSeq_rt, w_Nx, w_Bk, w_Ct, w_RetN, w_Ret, kRet_eq, w_Drop, kDrop_eq, w_IfS, kIfS_eq, w_Frz, w_Set, kSet_eq, w_SetO, kSetO_eq, w_Aft, kAft_eq, w_Asg, kAsg_eq, kAsg2_eq, w_For, kFor_eq, w_While, w_Put, kPut_eq, kPut2_own, kPut2_ref, kPutR_eq, w_Own, w_OwnE, w_OwnS, kOwn_eq, kOwnE_eq, kOwnS_eq, w_Fn, kFn_nx, kFn_rt, kLoop_nx, kLoop_ct, kLoop_bk, kLoop_rt, w_Ir3, kIr3_eq, w_Lrg, kLrg_eq, w_AppPop, kApp0_eq, w_Never, w_Irv, kIrv_eq, w_Star, kStar_tup, kStar_lst, kStar2_eq, w_CallX, kCallX_eq, w_Raise, kRaise_eq, w_Done, kDone_eq, w_Try, kTry_eq, w_msRetF, kFld_some, w_msRetC, w_msRetP, kFld2_some, w_ToL, kToL_tup, kToL_lst, w_Chain3, kD0_eq, kD1_eq, kD2_eq, kD3_eq, kD4_eq, w_Add, kAdd_eq, kAdd2_eq, w_msRet, w_xF, kFldE_some, w_xBin, w_Hd, w_TryN, kTryN_eq, kHd_some, kHd_only, w_IfT, kIfT_eq, w_Iz, kIz_tup, kIz_lst, w_xOwnE, w_xOne, w_CallL, kCallL_eq, w_CallF, kCF_fn, kCF2_eq, w_lamF, w_IzM, kIzM_tl, o_addI, o_addS, o_addT, o_addL, o_sub, o_fdiv, o_mod, o_pow, o_shl, o_shr, o_and, o_or, o_mul, o_lt, o_le, o_gt, o_ge, lt_eq, le_eq, gt_eq, ge_eq, o_neg, o_nob, o_eqI, o_eqS, o_neI, o_neS, eqo_int, ixS_tup, ixS_lst, ixS_dic, ixS_ref0, ixS_ref1, ixo_tup, ixo_lst, ixo_dicI, ixo_dicS, atI_0, atI_1, atI_2, atI_3, atI_4, atI_5, atI_6, atI_7, atI_8, pr_0, pr_1, pr_2, pr_3, po_dicI, po_dicS, app_eq, ext_eq, isL_eq, isD_eq, DisL_eq, o_lenL, o_lenT, o_lenD, o_lenS, o_toI, o_abs, o_strI, o_max2, o_min2, o_toT, o_toTT, o_toL, o_toLT, o_sloT, o_sloL, o_sloS, g_Nm, g_Tu, g_Cons, g_Nil, own_val, own_no, merge_new, dGet_cons, dGet_nil, dGet2_S, dGet2_I, o_sset, o_ssetI, o_toIb, fl_int, fl_bl, fl_str, fl_non, isNon_non, isNon_int, isNon_tup, o_inI, o_ninI, o_ninE, o_mkRng, isNon_bl, o_eqB, o_mulI, o_mulTup, o_mulLst, o_revT, o_isStrS, o_isStrT, o_isStrN, o_ltG, o_sortG, o_ssetL, o_ssetLt, o_lenSetI, o_tupRg, o_minGl, o_minGt, o_maxGl, o_maxGt, o_bestDl, o_bestDt, o_bestDln, o_bestDtn, o_lenSetT, o_sortT, o_capsN, o_capsC, o_capV, o_isB, o_notB, o_sumT, List.getElem?_cons_zero, List.getElem?_cons_succ, List.set_cons_zero, List.set_cons_succ, List.length_cons, List.length_nil, List.map_cons, List.map_nil, List.cons_append, List.nil_append, List.replicate_succ, List.replicate_zero, if_true, if_false, decide_eq_true_eq, decide_eq_false_iff_not, Bool.false_eq_true, and_true, true_and, Bool.not_true, Bool.not_false, reduceIte, Option.bind_some, Option.map_some, Option.getD_some, Option.getD_none, Sum.inr.injEq, Sum.inl.injEq, Nat.reduceAdd, Nat.reduceSub, Nat.reduceLeDiff, Nat.reduceLT, Nat.reduceEqDiff, reduceCtorEq, Int.reduceLT, Int.reduceLE, Int.reduceEq, Int.reduceAdd, Int.reduceSub, Int.reduceMul, Int.reduceNeg, Int.cast_ofNat_Int, Int.natCast_zero, Int.reduceToNat, Int.reducePow, or_true, true_or, String.reduceEq, decide_true, decide_false, Bool.not_eq_true', Bool.not_eq_false', List.all_cons, List.all_nil, Bool.and_true, Bool.true_and, Bool.true_or, Bool.or_true, wipeS, startS, hdOf_cons])
abbrev n_law : List Str := ["script", "d", "case", "book", "many", "lines", "days", "mend", "k", "day", "j"]
def m_law_b1 : MS :=
  (mSeq (mSet 7 (mBi (on1 D.toTup) (mCons (mOfO (oLc false (mIr1 (mCons (mVar 6) mNil)) (gNm 9) mYes (mTup (mCons (mC (.str "more")) (mCons (mVar 9) (mCons (mC (.int 0)) mNil)))) [9])) mNil)))
  (mIfS (mTst (mBin D.neo (mCall F__law_told (mCons (mVar 2) (mCons (mVar 5) (mCons (mVar 7) mNil)))) (mCall F__law_due (mCons (mVar 2) (mCons (mVar 5) (mCons (mVar 7) mNil)))))) (mRet (mC (.bl false))) mNx))
def m_law_b2 : MS :=
  (mSeq (mAft 7 (mSetO 7 (oLc false (mIr1 (mCons (mCall F__law_take (mCons (mVar 1) (mCons (mC (.int 5)) mNil))) mNil)) (gNm 10) mYes (mCall F__law_change (mCons (mVar 1) (mCons (mVar 2) (mCons (mVar 3) mNil)))) [10])))
  (mSeq (mIfS (mTst (mBin D.gt (mCall F__law_take (mCons (mVar 1) (mCons (mC (.int 4)) mNil))) (mC (.int 0)))) (mSet 7 (mBi (on1 D.sortG) (mCons (mVar 7) mNil))) mNx)
  (mIfS (mTst (mBin D.neo (mCall F__law_told (mCons (mVar 2) (mCons (mVar 3) (mCons (mBi (on1 D.toTup) (mCons (mVar 7) mNil)) mNil)))) (mCall F__law_due (mCons (mVar 2) (mCons (mVar 3) (mCons (mBi (on1 D.toTup) (mCons (mVar 7) mNil)) mNil)))))) (mRet (mC (.bl false))) mNx)))
def m_law : MS :=
  (mSeq (mSet 2 (mCall F__law_case (mCons (mVar 1) (mCons (mBin D.add (mC (.int 1)) (mCall F__law_take (mCons (mVar 1) (mCons (mC (.int 4)) mNil)))) mNil))))
  (mSeq (mSet 3 (mCall F__law_book (mCons (mVar 1) (mCons (mVar 2) (mCons (mC (.bl false)) mNil)))))
  (mSeq (mIfS (mAndT (mTst (mBin D.gt (mBi (on1 D.len) (mCons (mVar 3) mNil)) (mC (.int 0)))) (mTst (mBin D.eqo (mCall F__law_take (mCons (mVar 1) (mCons (mC (.int 4)) mNil))) (mC (.int 0))))) (mSet 3 (mSl (mBin D.mulT (mVar 3) (mC (.int 60))) mNoP (mPart (mBin D.add (mC (.int 58)) (mCall F__law_take (mCons (mVar 1) (mCons (mC (.int 3)) mNil))))))) mNx)
  (mSeq (mSet 4 (mBin D.add (mC (.int 58)) (mCall F__law_take (mCons (mVar 1) (mCons (mC (.int 3)) mNil)))))
  (mSeq (mSet 5 (mBin D.mulT (mTup (mCons (mTup (mCons (mC (.int 0)) (mCons (mC .non) (mCons (mC (.int 0)) mNil)))) mNil)) (mVar 4)))
  (mSeq (mFor (mIr1 (mCons (mBin D.add (mBi (on2 D.min2) (mCons (mC (.int 3)) (mCons (mBi (on1 D.len) (mCons (mIx (mIx (mVar 2) (mC (.int 1))) (mC (.int 0))) mNil)) mNil))) (mC (.int 1))) mNil)) (gNm 6) (m_law_b1))
  (mSeq (mFor (mIr1 (mCons (mC (.int 5)) mNil)) (gNm 8) (m_law_b2))
  (mRet (mC (.bl true))))))))))
local macro_rules | `(tactic| walk_at "zx") => `(tactic| simp (decide := true) only [nfl_0, nfl_1, nfl_2, ncs_0, ncs_1, ncs_3, cCHG, cLIN, lin_0, lin_2, kO_some, w_C, w_Var, w_VarW, kVar_val, kVarW_val, kVarW_lst, kVarW_dic, w_Flat, kFlat_eq, w_Bin, kBin_eq, kBin2_eq, w_Un, kUn_eq, w_Tup, kTup_eq, w_Lst, kLst_eq, w_Nil, w_Cons, kCons_eq, kCons2_eq, w_And, kAnd_eq, w_Or, kOr_eq, w_Tst, kTst_eq, w_Tru, kTru_bl, kTru_int, kTru_tup, kTru_lst, kTru_non, w_NotT, kNotT_eq, w_AndT, kAndT_eq, w_OrT, kOrT_eq, w_IsN, kIsN_eq, w_If, kIf_eq, w_Chain, kCh1_eq, kCh2_eq, kCh3_eq, w_Bi, kBi_eq, on1_eq, on2_eq, w_Meth, kMeth_eq, kMeth2_eq, w_Ix, kIx_eq, kIx2_eq, w_Get2, kGet1_eq, kGet2_eq, kGet3_eq, w_NoP, w_Part, kPart_eq, w_Sl, kSl1_eq, kSl2_eq, kSl3_eq, w_Call, kCall_eq, w_CallP, kCallP_eq, w_OfO, kOfO_eq, toD_lst, toD_dic, w_LstO, kLstO_eq, w_DicO, w_Rep, kRep_eq, kRep2_eq, w_Pn, w_Pc, kPc1_eq, kPc2_eq, kPc3_eq, w_Disp, kDisp_eq, kDisp2_eq, keyed_nil, keyed_S, keyed_I, w_Lc, kLc_eq, kLc2_eq, w_Il, kIl_eq, w_It, kIt_eq, w_Ir1, kIr1_eq, w_Ir2, kIr2_eq, w_Ie, kIe_eq, w_IeT, kIeT_eq, w_Yes, w_Seq, kSeq_nx, kSeq_bk, kSeq_ct, kSeq_rt, w_Nx, w_Bk, w_Ct, w_RetN, w_Ret, kRet_eq, w_Drop, kDrop_eq, w_IfS, kIfS_eq, w_Frz, w_Set, kSet_eq, w_SetO, kSetO_eq, w_Aft, kAft_eq, w_Asg, kAsg_eq, kAsg2_eq, w_For, kFor_eq, w_While, w_Put, kPut_eq, kPut2_own, kPut2_ref, kPutR_eq, w_Own, w_OwnE, w_OwnS, kOwn_eq, kOwnE_eq, kOwnS_eq, w_Fn, kFn_nx, kFn_rt, kLoop_nx, kLoop_ct, kLoop_bk, kLoop_rt, w_Ir3, kIr3_eq, w_Lrg, kLrg_eq, w_AppPop, kApp0_eq, w_Never, w_Irv, kIrv_eq, w_Star, kStar_tup, kStar_lst, kStar2_eq, w_CallX, kCallX_eq, w_Raise, kRaise_eq, w_Done, kDone_eq, w_Try, kTry_eq, w_msRetF, kFld_some, w_msRetC, w_msRetP, kFld2_some, w_ToL, kToL_tup, kToL_lst, w_Chain3, kD0_eq, kD1_eq, kD2_eq, kD3_eq, kD4_eq, w_Add, kAdd_eq, kAdd2_eq, w_msRet, w_xF, kFldE_some, w_xBin, w_Hd, w_TryN, kTryN_eq, kHd_some, kHd_only, w_IfT, kIfT_eq, w_Iz, kIz_tup, kIz_lst, w_xOwnE, w_xOne, w_CallL, kCallL_eq, w_CallF, kCF_fn, kCF2_eq, w_lamF, w_IzM, kIzM_tl, o_addI, o_addS, o_addT, o_addL, o_sub, o_fdiv, o_mod, o_pow, o_shl, o_shr, o_and, o_or, o_mul, o_lt, o_le, o_gt, o_ge, lt_eq, le_eq, gt_eq, ge_eq, o_neg, o_nob, o_eqI, o_eqS, o_neI, o_neS, eqo_int, ixS_tup, ixS_lst, ixS_dic, ixS_ref0, ixS_ref1, ixo_tup, ixo_lst, ixo_dicI, ixo_dicS, atI_0, atI_1, atI_2, atI_3, atI_4, atI_5, atI_6, atI_7, atI_8, pr_0, pr_1, pr_2, pr_3, po_dicI, po_dicS, app_eq, ext_eq, isL_eq, isD_eq, DisL_eq, o_lenL, o_lenT, o_lenD, o_lenS, o_toI, o_abs, o_strI, o_max2, o_min2, o_toT, o_toTT, o_toL, o_toLT, o_sloT, o_sloL, o_sloS, g_Nm, g_Tu, g_Cons, g_Nil, own_val, own_no, merge_new, dGet_cons, dGet_nil, dGet2_S, dGet2_I, o_sset, o_ssetI, o_toIb, fl_int, fl_bl, fl_str, fl_non, isNon_non, isNon_int, isNon_tup, o_inI, o_ninI, o_ninE, o_mkRng, isNon_bl, o_eqB, o_mulI, o_mulTup, o_mulLst, o_revT, o_isStrS, o_isStrT, o_isStrN, o_ltG, o_sortG, o_ssetL, o_ssetLt, o_lenSetI, o_tupRg, o_minGl, o_minGt, o_maxGl, o_maxGt, o_bestDl, o_bestDt, o_bestDln, o_bestDtn, o_lenSetT, o_sortT, o_capsN, o_capsC, o_capV, o_isB, o_notB, o_sumT, List.getElem?_cons_zero, List.getElem?_cons_succ, List.set_cons_zero, List.set_cons_succ, List.length_cons, List.length_nil, List.map_cons, List.map_nil, List.cons_append, List.nil_append, List.replicate_succ, List.replicate_zero, if_true, if_false, decide_eq_true_eq, decide_eq_false_iff_not, Bool.false_eq_true, and_true, true_and, Bool.not_true, Bool.not_false, reduceIte, Option.bind_some, Option.map_some, Option.getD_some, Option.getD_none, Sum.inr.injEq, Sum.inl.injEq, Nat.reduceAdd, Nat.reduceSub, Nat.reduceLeDiff, Nat.reduceLT, Nat.reduceEqDiff, reduceCtorEq, Int.reduceLT, Int.reduceLE, Int.reduceEq, Int.reduceAdd, Int.reduceSub, Int.reduceMul, Int.reduceNeg, Int.cast_ofNat_Int, Int.natCast_zero, Int.reduceToNat, Int.reducePow, or_true, true_or, String.reduceEq, decide_true, decide_false, Bool.not_eq_true', Bool.not_eq_false', List.all_cons, List.all_nil, Bool.and_true, Bool.true_and, Bool.true_or, Bool.or_true, wipeS, startS, hdOf_cons])
theorem at_q {book : List Line} (h : ∀ l ∈ book, l.test.okq 48 = true) (k : Nat) : (lineAt book k).test.okq 48 = true := by
  unfold lineAt
  rw [List.getD_eq_getElem?_getD]
  cases hk : book[k]? with
  | none => rfl
  | some l => exact h l (List.mem_of_getElem? hk)
theorem fold_q {book : List Line} (h : ∀ l ∈ book, l.test.okq 48 = true) : ∀ (m : List Chg) (s : List Line × List Line), (∀ l ∈ s.1 ++ s.2, l.test.okq 48 = true) → ∀ l ∈ (m.foldl (lawC book) s).1 ++ (m.foldl (lawC book) s).2, l.test.okq 48 = true
  | [], s, hs => hs
  | ch :: m, s, hs => by
    rw [List.foldl_cons]
    refine fold_q h m _ fun l hl => ?_
    unfold lawC at hl
    split at hl
    · replace hl : l ∈ s.1 ++ (s.2 ++ [newL ch]) := hl
      rw [← List.append_assoc] at hl
      rcases List.mem_append.mp hl with g | g
      · exact hs l g
      · rw [List.mem_singleton.mp g]
        rfl
    · replace hl : l ∈ s.1.set ch.place (reL book ch) ++ s.2 := hl
      rcases List.mem_append.mp hl with g | g
      · rcases List.mem_or_eq_of_mem_set g with g | g
        · exact hs l (List.mem_append_left _ g)
        · rw [g]
          exact at_q h _
      · exact hs l (List.mem_append_right _ g)
theorem lines_q {ls : List Line} (h : ∀ l ∈ ls, l.test.okq 48 = true) : (D.tup (ls.map Line.d)).okq 50 = true := okqA_of fun d hd => by
  obtain ⟨l, hl, rfl⟩ := List.mem_map.mp hd
  show D.okqA [.int (l.day : Int), l.test, .int (l.num : Int)] 48 = true
  simp only [D.okqA, h l hl, D.okq, Bool.and_self]
theorem res_q {c : NCase} {book : List Line} {mend : List Chg} (h : ∀ l ∈ book, l.test.okq 48 = true) : (resD c book mend).okq 50 = true := by
  unfold resD
  split
  · exact lines_q (fold_q h mend (book, []) fun l hl => by rw [List.append_nil] at hl; exact h l hl)
  · rfl
def putC (k : Nat) : Chg := ⟨true, k, 0⟩
theorem put_rng (k : Nat) : (rngD 0 k).map (fun d => D.tup [.str "more", d, .int 0]) = ((List.range k).map putC).map Chg.d := by
  unfold rngD
  rw [List.map_map, List.map_map]
  refine List.map_congr_left fun j _ => ?_
  show D.tup [.str "more", .int (0 + (j : Int)), .int 0] = _
  rw [Int.zero_add]
  rfl
theorem law_b1 {c : NCase} {m k : Nat} {book : List Line} {x3 x4 x7 x8 x9 x10 : Sl} {o : O} {Ps : Fl × List Sl × List O → Prop} {E : EP'} (hc : NCaseOk m c) (hm : m < 100) (hb : ∀ l ∈ book, LineOk c l) (hl : book.length ≤ 100) (hk : k ≤ 10) (h7 : isOwn (some x7) = false) (h9 : isOwn (some x9) = false)
    (hP : ∀ y7, isOwn (some y7) = false → Ps (.nx, [.no, .val (.ref 0), .val c.d, x3, x4, .val (.tup (book.map Line.d)), .val (.int (k : Int)), y7, x8, x9, x10], [o])) :
    Wp (m_law_b1 [.no, .val (.ref 0), .val c.d, x3, x4, .val (.tup (book.map Line.d)), .val (.int (k : Int)), x7, x8, x9, x10] [o]) Ps E := by
  unfold m_law_b1
  walk_at "zx"
  rw [Int.toNat_natCast, rngD_len]
  refine ⟨lim_small (by omega) (by omega), by omega, h9, ?_⟩
  have e0 : rngD 0 k = ((List.range k).map fun (j : Nat) => (j : Int)).map D.int := rng_ints k
  rw [e0]
  refine Wp.lcP (en := D.int) (p := fun _ => true) (f := fun j => D.tup [.str "more", .int j, .int 0]) (fun j _ => ⟨_, gNm_ok rfl, rfl, fun _ => wp_is (by
    simp only [List.set_cons_succ, List.set_cons_zero]
    walk_at "zx")⟩) ?_
  rw [List.filter_eq_self.mpr fun _ _ => rfl]
  rw [show (((List.range k).map fun (j : Nat) => (j : Int)).map fun j => D.tup [.str "more", .int j, .int 0]) = ((List.range k).map putC).map Chg.d by rw [List.map_map, List.map_map]; rfl]
  walk_at "zx"
  (try simp only [h7, Bool.false_eq_true, if_false])
  (try walk_at "zx")
  have hml : ((List.range k).map putC).length ≤ 100 := by rw [List.length_map, List.length_range]; omega
  rw [wp_eq (told_eq hc hb hl hml)]
  walk_at "zx"
  rw [wp_eq (due_eq hc hb hl hml)]
  walk_at "zx"
  rw [o_neR]
  refine ⟨res_q fun l h => (hb l h).test, ?_⟩
  walk_at "zx"
  exact hP _ rfl
theorem law_b2 {c : NCase} {m : Nat} {book : List Line} {x4 x5 x6 x7 x8 x9 x10 : Sl} {o : O} {Ps : Fl × List Sl × List O → Prop} {E : EP'} (hc : NCaseOk m c) (hm : m < 100) (hb : ∀ l ∈ book, LineOk c l) (hl : book.length < 100) (ho : dOk o) (h7 : isOwn (some x7) = false) (h10 : isOwn (some x10) = false)
    (hP : ∀ y7 y10 o', isOwn (some y7) = false → isOwn (some y10) = false → dOk o' → Ps (.nx, [.no, .val (.ref 0), .val c.d, .val (.tup (book.map Line.d)), x4, x5, x6, y7, x8, x9, y10], [o'])) :
    Wp (m_law_b2 [.no, .val (.ref 0), .val c.d, .val (.tup (book.map Line.d)), x4, x5, x6, x7, x8, x9, x10] [o]) Ps E := by
  unfold m_law_b2
  walk_at "zx"
  refine (take_ok ho 5 (by decide) (by decide)).no ?_
  rintro _ ⟨t, o1, rfl, t0, t1, h1⟩
  walk_at "zx"
  refine ⟨lim_small (by omega) (by omega), by rw [rngD_len]; omega, h10, ?_⟩
  refine draw_lc (en := Chg.d) (Q := fun _ _ => True) h1 (fun i d o' hd ho' => ?_) fun l o2 hl2 _ h2 => ?_
  · obtain ⟨hi, rfl⟩ := rng_at hd
    refine ⟨_, gNm_ok rfl, ?_⟩
    simp only [List.set_cons_succ, List.set_cons_zero]
    walk_at "zx"
    refine (change_ok hc hm hl ho').imp ?_
    rintro _ ⟨ch, o3, rfl, h3⟩
    exact ⟨ch, o3, rfl, h3⟩
  rw [rngD_len] at hl2
  walk_at "zx"
  simp only [frz, List.getElem?_cons_succ, List.getElem?_cons_zero, List.set_cons_succ, List.set_cons_zero, toD_lst]
  (try walk_at "zx")
  refine (take_ok h2 4 (by decide) (by decide)).no ?_
  rintro _ ⟨v, o3, rfl, v0, v1, h3⟩
  walk_at "zx"
  by_cases gv : 0 < v
  · rw [if_pos gv]
    have hso : D.sortOk (l.map Chg.d) = true := by
      unfold D.sortOk
      have q1 : D.okqA (l.map Chg.d) 50 = true := okqA_of fun d hd => by
        obtain ⟨ch, _, rfl⟩ := List.mem_map.mp hd
        rfl
      have q2 : ((l.map Chg.d).all fun x => (l.map Chg.d).all fun y => x.alk y) = true := by
        rw [List.all_eq_true]
        intro x hx
        obtain ⟨a, _, rfl⟩ := List.mem_map.mp hx
        rw [List.all_eq_true]
        intro y hy
        obtain ⟨b, _, rfl⟩ := List.mem_map.mp hy
        unfold D.alk
        rw [chg_pd, chg_pd, chg_alike]
      have q3 : (l.map Chg.d).all D.tupP = true := by
        rw [List.all_eq_true]
        intro x hx
        obtain ⟨a, _, rfl⟩ := List.mem_map.mp hx
        rfl
      rw [q1, q2, q3, decide_eq_true (by rw [List.length_map]; omega)]
      rfl
    refine ⟨hso, ?_⟩
    rw [← List.map_mergeSort (r := fun a b : Chg => D.leS a.d b.d) (s := D.leS) (f := Chg.d) (fun a _ b _ => rfl)]
    have hml : (l.mergeSort fun a b : Chg => D.leS a.d b.d).length ≤ 100 := by rw [List.length_mergeSort]; omega
    (try walk_at "zx")
    rw [wp_eq (told_eq hc hb (by omega) hml)]
    walk_at "zx"
    rw [wp_eq (due_eq hc hb (by omega) hml)]
    walk_at "zx"
    rw [o_neR]
    refine ⟨res_q fun l h => (hb l h).test, ?_⟩
    walk_at "zx"
    exact hP _ _ _ rfl h10 h3
  · rw [if_neg gv]
    have hml : l.length ≤ 100 := by omega
    (try walk_at "zx")
    rw [wp_eq (told_eq hc hb (by omega) hml)]
    walk_at "zx"
    rw [wp_eq (due_eq hc hb (by omega) hml)]
    walk_at "zx"
    rw [o_neR]
    refine ⟨res_q fun l h => (hb l h).test, ?_⟩
    walk_at "zx"
    exact hP _ _ _ rfl h10 h3
def lawT4 : MS :=
  (mSeq (mSet 4 (mBin D.add (mC (.int 58)) (mCall F__law_take (mCons (mVar 1) (mCons (mC (.int 3)) mNil)))))
  (mSeq (mSet 5 (mBin D.mulT (mTup (mCons (mTup (mCons (mC (.int 0)) (mCons (mC .non) (mCons (mC (.int 0)) mNil)))) mNil)) (mVar 4)))
  (mSeq (mFor (mIr1 (mCons (mBin D.add (mBi (on2 D.min2) (mCons (mC (.int 3)) (mCons (mBi (on1 D.len) (mCons (mIx (mIx (mVar 2) (mC (.int 1))) (mC (.int 0))) mNil)) mNil))) (mC (.int 1))) mNil)) (gNm 6) (m_law_b1))
  (mSeq (mFor (mIr1 (mCons (mC (.int 5)) mNil)) (gNm 8) (m_law_b2))
  (mRet (mC (.bl true)))))))
theorem t4_w {c : NCase} {m : Nat} {book : List Line} {o : O} (hc : NCaseOk m c) (hm0 : 0 < m) (hm : m < 100) (hb : ∀ l ∈ book, LineOk c l) (hl : book.length < 100) (ho : dOk o) :
    Wp (lawT4 [.no, .val (.ref 0), .val c.d, .val (.tup (book.map Line.d)), .no, .no, .no, .no, .no, .no, .no] [o]) (fun y => y.1 = .rt (.bl true)) noE := by
  have hdy := hc.dy
  unfold lawT4
  walk_at "zx"
  refine (take_ok ho 3 (by decide) (by decide)).imp ?_
  rintro _ ⟨t, o1, rfl, t0, t1, h1⟩
  walk_at "zx"
  obtain ⟨n, hn, n58⟩ : ∃ n : Nat, 58 + t = (n : Int) ∧ n ≤ 60 := ⟨(58 + t).toNat, by omega, by omega⟩
  rw [hn, Int.toNat_natCast, flat1, List.length_replicate, hdy]
  obtain ⟨q, hq, q3⟩ : ∃ q : Nat, (if (m : Int) < 3 then (m : Int) else 3) + 1 = (q : Int) ∧ q ≤ 4 := by
    split
    · exact ⟨m + 1, by omega, by omega⟩
    · exact ⟨4, rfl, Nat.le_refl _⟩
  rw [hq, Int.toNat_natCast]
  have eL : List.replicate n (D.tup [.int 0, .non, .int 0]) = (List.replicate n (⟨0, .non, 0⟩ : Line)).map Line.d := by rw [List.map_replicate]; rfl
  rw [eL]
  have hb2 : ∀ l ∈ List.replicate n (⟨0, .non, 0⟩ : Line), LineOk c l := fun l hl => by
    rw [(List.mem_replicate.mp hl).2]
    exact ⟨by show 0 < c.days; omega, rfl⟩
  refine ⟨⟨by omega, by omega, by omega⟩, lim_small (by omega) (by omega), ?_⟩
  refine Wp.loop (fun i sg S => ∃ x6 x7 : Sl, sg = [.no, .val (.ref 0), .val c.d, .val (.tup (book.map Line.d)), .val (.int (n : Int)), .val (.tup ((List.replicate n (⟨0, .non, 0⟩ : Line)).map Line.d)), x6, x7, .no, .no, .no] ∧ S = [o1] ∧ isOwn (some x6) = false ∧ isOwn (some x7) = false) ⟨.no, .no, rfl, rfl, rfl, rfl⟩ ?_ ?_
  · rintro i d sg S hd ⟨x6, x7, rfl, rfl, g6, g7⟩
    obtain ⟨hi, rfl⟩ := rng_at hd
    refine ⟨_, gNm_ok g6, ?_⟩
    simp only [List.set_cons_succ, List.set_cons_zero]
    rw [Int.zero_add]
    refine law_b1 hc hm hb2 (by rw [List.length_replicate]; omega) (by omega) g7 rfl fun y7 k7 => ?_
    rw [kLoop_nx]
    exact ⟨_, y7, rfl, rfl, rfl, k7⟩
  · rintro sg S ⟨x6, x7, rfl, rfl, g6, g7⟩
    walk_at "zx"
    refine Wp.loop (fun i sg S => ∃ (y7 x8 x10 : Sl) (o' : O), sg = [.no, .val (.ref 0), .val c.d, .val (.tup (book.map Line.d)), .val (.int (n : Int)), .val (.tup ((List.replicate n (⟨0, .non, 0⟩ : Line)).map Line.d)), x6, y7, x8, .no, x10] ∧ S = [o'] ∧ dOk o' ∧ isOwn (some y7) = false ∧ isOwn (some x8) = false ∧ isOwn (some x10) = false) ⟨x7, .no, .no, o1, rfl, rfl, h1, g7, rfl, rfl⟩ ?_ ?_
    · rintro i d sg S hd ⟨y7, x8, x10, o2, rfl, rfl, h2, k7, k8, k10⟩
      obtain ⟨hi, rfl⟩ := rng_at hd
      refine ⟨_, gNm_ok k8, ?_⟩
      simp only [List.set_cons_succ, List.set_cons_zero]
      refine law_b2 hc hm hb hl h2 k7 k10 fun z7 z10 o3 q7 q10 h3 => ?_
      rw [kLoop_nx]
      exact ⟨z7, _, z10, o3, rfl, rfl, h3, q7, rfl, q10⟩
    · rintro sg S ⟨y7, x8, x10, o2, rfl, rfl, h2, k7, k8, k10⟩
      walk_at "zx"
def lawB (k : Int) : MS := mSet 3 (mSl (mBin D.mulT (mVar 3) (mC (.int k))) mNoP (mPart (mBin D.add (mC (.int 58)) (mCall F__law_take (mCons (mVar 1) (mCons (mC (.int 3)) mNil))))))
theorem cut_w {c : NCase} {book : List Line} {o : O} {k : Int} {x4 x5 x6 x7 x8 x9 x10 : Sl} {Ps : Fl × List Sl × List O → Prop} {E : EP'} (hk0 : 0 ≤ k) (hk : k ≤ 60) (hb : ∀ l ∈ book, LineOk c l) (hl : book.length < 100) (ho : dOk o)
    (hP : ∀ (b : List Line) (o' : O), (∀ l ∈ b, LineOk c l) → b.length < 100 → dOk o' → Ps (.nx, [.no, .val (.ref 0), .val c.d, .val (.tup (b.map Line.d)), x4, x5, x6, x7, x8, x9, x10], [o'])) :
    Wp (lawB k [.no, .val (.ref 0), .val c.d, .val (.tup (book.map Line.d)), x4, x5, x6, x7, x8, x9, x10] [o]) Ps E := by
  obtain ⟨n, rfl⟩ : ∃ n : Nat, k = (n : Int) := ⟨k.toNat, by omega⟩
  unfold lawB
  walk_at "zx"
  rw [List.length_map, Int.toNat_natCast]
  refine ⟨⟨by omega, by omega, Nat.le_trans (Nat.mul_le_mul (Nat.le_of_lt hl) (show n ≤ 60 by omega)) (by decide)⟩, (take_ok ho 3 (by decide) (by decide)).imp ?_⟩
  rintro _ ⟨t, o1, rfl, t0, t1, h1⟩
  rw [show (List.replicate n (List.map Line.d book)).flatten = ((List.replicate n book).flatten).map Line.d by rw [List.map_flatten, List.map_replicate]]
  obtain ⟨q, hq, q60⟩ : ∃ q : Nat, 58 + t = (q : Int) ∧ q ≤ 60 := ⟨(58 + t).toNat, by omega, by omega⟩
  walk_at "zx"
  rw [hq]
  have hc : D2.cutD (List.map Line.d (List.replicate n book).flatten) none (some (q : Int)) = ((List.replicate n book).flatten.take (min q (List.replicate n book).flatten.length)).map Line.d := by
    unfold D2.cutD HT.sIx
    simp only []
    rw [if_neg (by omega), Int.toNat_natCast, List.map_take, List.length_map, List.drop_zero, Nat.sub_zero]
  rw [hc]
  refine hP _ _ (fun l hl => ?_) (by rw [List.length_take]; omega) h1
  obtain ⟨y, hy, hl⟩ := List.mem_flatten.mp (List.mem_of_mem_take hl)
  rw [(List.mem_replicate.mp hy).2] at hl
  exact hb l hl
theorem law_T4 : m_law =
  (mSeq (mSet 2 (mCall F__law_case (mCons (mVar 1) (mCons (mBin D.add (mC (.int 1)) (mCall F__law_take (mCons (mVar 1) (mCons (mC (.int 4)) mNil)))) mNil))))
  (mSeq (mSet 3 (mCall F__law_book (mCons (mVar 1) (mCons (mVar 2) (mCons (mC (.bl false)) mNil)))))
  (mSeq (mIfS (mAndT (mTst (mBin D.gt (mBi (on1 D.len) (mCons (mVar 3) mNil)) (mC (.int 0)))) (mTst (mBin D.eqo (mCall F__law_take (mCons (mVar 1) (mCons (mC (.int 4)) mNil))) (mC (.int 0))))) (lawB 60) mNx)
  lawT4))) := rfl
theorem fin : ∀ (ns : List Int) (seed : Int), ns.length ≤ 63 → 0 ≤ seed → seed < 2147483647 → ∃ sg S, m_law (lawS 9) [drawer ns seed] = .ok (.rt (.bl true), sg, S) := by
  intro ns seed hl h0 h1
  have main : Wp (m_law (lawS 9) [drawer ns seed]) (fun y => y.1 = .rt (.bl true)) noE := by
    have hd : dOk (drawer ns seed) := dOk.mk hl (by decide) (by decide) h0
    generalize drawer ns seed = o at hd
    rw [law_T4]
    unfold lawS
    simp only [List.replicate]
    walk_at "zx"
    refine (take_ok hd 4 (by decide) (by decide)).imp ?_
    rintro _ ⟨t, o0, rfl, t0, t1, hd0⟩
    obtain ⟨days, hdy⟩ : ∃ m : Nat, 1 + t = (m : Int) := ⟨(1 + t).toNat, by omega⟩
    walk_at "zx"
    rw [hdy, nD_eq days]
    refine (case_ok hd0 days (by omega)).imp ?_
    rintro _ ⟨c, o1, rfl, hc, _, _, hd1⟩
    walk_at "zx"
    refine (book_ok hc (by omega) hd1).imp ?_
    rintro _ ⟨book, o2, rfl, hb, hbl, hd2⟩
    have hb100 : book.length < 100 := by omega
    have fin := fun (b : List Line) (o' : O) (hb' : ∀ l ∈ b, LineOk c l) (hl' : b.length < 100) (ho' : dOk o') => t4_w hc (show 0 < days by omega) (show days < 100 by omega) hb' hl' ho'
    walk_at "zx"
    rw [List.length_map]
    by_cases g0 : 0 < (book.length : Int)
    · rw [if_pos g0]
      refine (take_ok hd2 4 (by decide) (by decide)).imp ?_
      rintro _ ⟨a, o3, rfl, a0, a1, h3⟩
      by_cases ga : a = 0
      · subst ga
        walk_at "zx"
        refine cut_w (by decide) (by decide) hb hb100 h3 fun b o4 hb4 hl4 h4 => ?_
        (try walk_at "zx")
        exact fin b o4 hb4 hl4 h4
      · walk_at "zx"
        (try rw [if_neg (by simpa using ga)])
        (try walk_at "zx")
        exact fin book o3 hb hb100 h3
    · rw [if_neg g0]
      exact fin book o2 hb hb100 hd2
  obtain ⟨⟨fl, sg, S⟩, e, q⟩ := main.ok
  exact ⟨sg, S, by rw [e]; simp only [] at q; rw [q]⟩

end
end Law

namespace Law
noncomputable section
open PySem PySem.Spec PyProof.Rows L2 D2
def top (i : Nat) : Stmt := PySem.Challenge.pw_callsheets_k61_mended_day_books.main.body.getD i (.Pass ⟨0, 0, 0, 0⟩)
def clsBody : Stmt → List Stmt
  | .ClassDef _ _ _ b _ _ _ _ _ _ _ => b
  | _ => []
abbrev s_ini_CallError : Stmt := (clsBody (top 1)).getD 0 (.Pass ⟨0, 0, 0, 0⟩)
structure Txt (K : PySem.W.Frag) (mg : Str → Option Value) (a_LINE_LIMIT : Tok) (a_CHANGE_LIMIT : Tok) : Prop where
  b_abs : mg "abs" = none
  b_int : mg "int" = none
  b_len : mg "len" = none
  b_list : mg "list" = none
  b_min : mg "min" = none
  b_range : mg "range" = none
  b_set : mg "set" = none
  b_sorted : mg "sorted" = none
  b_str : mg "str" = none
  b_tuple : mg "tuple" = none
  g_LINE_LIMIT : mg "LINE_LIMIT" = some (.int (60) a_LINE_LIMIT)
  g_CHANGE_LIMIT : mg "CHANGE_LIMIT" = some (.int (3) a_CHANGE_LIMIT)
structure Cl (K : PySem.W.Frag) (mg : Str → Option Value) (x : Str) (st : Stmt) (f : Addr) (fd : FuncData) (ps : List Str) : Prop where
  m : mg x = some (.ref f)
  F : Fun K x x st f fd
  b : Binds K fd ps []
theorem rc_LINE_LIMIT {K : PySem.W.Frag} : ∀ (as : List Addr) (B : Addr → Prop) (H : Hp), Rep K as B H d_LINE_LIMIT (.int (60)) := fun _ _ _ => rfl
theorem rc_CHANGE_LIMIT {K : PySem.W.Frag} : ∀ (as : List Addr) (B : Addr → Prop) (H : Hp), Rep K as B H d_CHANGE_LIMIT (.int (3)) := fun _ _ _ => rfl
abbrev s__check_change : Stmt := top 7
abbrev s__with_change : Stmt := top 8
abbrev s_mended : Stmt := top 6
abbrev s__law_take : Stmt := top 11
abbrev s__law_some : Stmt := top 12
abbrev s__law_film : Stmt := top 13
abbrev s__law_sheet : Stmt := top 14
abbrev s__law_case : Stmt := top 15
abbrev s__law_test : Stmt := top 16
abbrev s__law_book : Stmt := top 17
abbrev s__law_told : Stmt := top 18
abbrev s__law_change : Stmt := top 19
abbrev s__law_due : Stmt := top 20
abbrev s_law : Stmt := top 21
section
variable {P : Program} {w : World} {K : PySem.W.Frag} {mg : Str → Option Value} {base : Heap} {a_LINE_LIMIT : Tok} {a_CHANGE_LIMIT : Tok}
theorem sc_ini_CallError : FnScope ["self", "code"] ["self", "code"] (defScope s_ini_CallError) := ⟨rfl, rfl, rfl, by decide +kernel, rfl, by decide +kernel, by decide +kernel⟩
theorem ok_ini_CallError {f_ : Addr} {fd_ : FuncData} {k : Nat} (F : Fun K "__init__" "CallError.__init__" s_ini_CallError f_ fd_) : FnOk P w K mg base CX0 (k + 1) f_ fd_ ["self", "code"] (spIni ["code"] K) := by
  refine F.ok sc_ini_CallError (fun vs H Q E h => ?_) (fun cdv A outer s H vs Q E hr h => ⟨_, (pss_one (ps_ost (pv 0) (pv 1))), ?_⟩)
  · obtain ⟨a, C, xs, rfl, hl, _⟩ := h
    show xs.length + 1 = 2
    rw [hl]
    rfl
  · obtain ⟨a, C, xs, rfl, hl, T, hn, e, q⟩ := h
    match xs, hl with
    | [v], _ => exact ⟨v, rfl, .ref a, rfl, a, C, rfl, T, hn _ List.mem_cons_self, .inl ⟨e, fun dx h1 h2 => q dx h1 h2⟩⟩
theorem sc__check_change : FnScope n__check_change ["case", "book", "change"] (defScope s__check_change) := ⟨rfl, rfl, rfl, by decide +kernel, rfl, by decide +kernel, by decide +kernel⟩
theorem ok__check_change {f__check_change : Addr} {fd__check_change : FuncData} {C_MendError : Addr} {f_ini_CallError : Addr} {fd_ini_CallError : FuncData} {k : Nat} (T : Txt K mg a_LINE_LIMIT a_CHANGE_LIMIT) (C__check_change : Cl K mg "_check_change" s__check_change f__check_change fd__check_change ["case", "book", "change"]) (X_MendError : ExCl K mg "MendError" C_MendError f_ini_CallError fd_ini_CallError ["code"] ["self", "code"]) (G_ini_CallError : FnOk P w K mg base CX0 k f_ini_CallError fd_ini_CallError ["self", "code"] (spIni ["code"] K)) :
    FnOk P w K mg base (L2.CX P w) (k + 1 + 1) f__check_change fd__check_change ["case", "book", "change"] (Fn2X K mg 3 F__check_change) := fn2x_ok C__check_change.F sc__check_change fun cdv A outer s H E hr => by
  have hN := sc__check_change.nd
  have hu := units64 hr
  have hu1 := hu_of hr
  exact (ss_cons (s2_asg (e2_var 2) (g2_tup rfl (gs2_cons (g2_name 3 hN) (gs2_cons (g2_name 4 hN) (gs2_cons (g2_name 5 hN) gs2_nil))))) (ss_cons (s2_if (w2_pt (w2_and (t2_cmp (op_eqP hu) ok_eq (e2_var 3) e2_str (nomark _)) (w2_and1 (t2_not (t2_chain op_le ok_le op_lt ok_lt e2_int (e2_var 4) (e2_callB call_len2 ok_len rfl T.b_len PySem.boot_len (a2_cons (e2_sub hu1 (e2_var 0) e2_int (fun _ _ => rfl)) a2_nil))))))) (ss_one (s2_raise rfl (takes_of rfl rfl rfl rfl) X_MendError.oe X_MendError.nf (by decide) X_MendError.iC X_MendError.tI G_ini_CallError hr X_MendError.b rfl X_MendError.gm (a2_cons e2_str a2_nil))) ss_nil) (ss_cons (s2_if (w2_pt (w2_and (t2_cmp (op_eqP hu) ok_eq (e2_var 3) e2_str (nomark _)) (w2_and1 (t2_not (t2_chain op_le ok_le op_lt ok_lt e2_int (e2_var 4) (e2_callB call_len2 ok_len rfl T.b_len PySem.boot_len (a2_cons (e2_var 1) a2_nil))))))) (ss_one (s2_raise rfl (takes_of rfl rfl rfl rfl) X_MendError.oe X_MendError.nf (by decide) X_MendError.iC X_MendError.tI G_ini_CallError hr X_MendError.b rfl X_MendError.gm (a2_cons e2_str a2_nil))) ss_nil) (ss_cons (s2_set 6 hN (e2_if (t2_cmp (op_eqP hu) ok_eq (e2_var 3) e2_str (nomark _)) (e2_var 4) (e2_sub hu1 (e2_sub hu1 (e2_var 1) (e2_var 4) (fun _ _ => rfl)) e2_int (fun _ _ => rfl)))) (ss_cons (s2_if (t2_not (t2_chain op_le ok_le op_lt ok_lt e2_int (e2_var 5) (e2_callB call_len2 ok_len rfl T.b_len PySem.boot_len (a2_cons (e2_sub hu1 (e2_sub hu1 (e2_var 0) e2_int (fun _ _ => rfl)) (e2_var 6) (fun _ _ => rfl)) a2_nil)))) (ss_one (s2_raise rfl (takes_of rfl rfl rfl rfl) X_MendError.oe X_MendError.nf (by decide) X_MendError.iC X_MendError.tI G_ini_CallError hr X_MendError.b rfl X_MendError.gm (a2_cons e2_str a2_nil))) ss_nil) (ss_one (s2_if (w2_pt (w2_and (t2_cmp (op_eqP hu) ok_eq (e2_var 3) e2_str (nomark _)) (w2_and1 (t2_cmp (op_eqP hu) ok_eq (e2_sub hu1 (e2_sub hu1 (e2_var 1) (e2_var 4) (fun _ _ => rfl)) e2_int (fun _ _ => rfl)) (e2_var 5) (nomark _))))) (ss_one (s2_raise rfl (takes_of rfl rfl rfl rfl) X_MendError.oe X_MendError.nf (by decide) X_MendError.iC X_MendError.tI G_ini_CallError hr X_MendError.b rfl X_MendError.gm (a2_cons e2_str a2_nil))) ss_nil)))))))
theorem sc__with_change : FnScope n__with_change ["draft", "change"] (defScope s__with_change) := ⟨rfl, rfl, rfl, by decide +kernel, rfl, by decide +kernel, by decide +kernel⟩
theorem ok__with_change {f__with_change : Addr} {fd__with_change : FuncData} {k : Nat} (T : Txt K mg a_LINE_LIMIT a_CHANGE_LIMIT) (C__with_change : Cl K mg "_with_change" s__with_change f__with_change fd__with_change ["draft", "change"]) :
    FnOk P w K mg base CX0 (k + 1) f__with_change fd__with_change ["draft", "change"] (Fn2 K 2 F__with_change) := fn2_ok C__with_change.F sc__with_change fun cdv A outer s H E hr => by
  have hN := sc__with_change.nd
  have hu := units64 hr
  have hu1 := hu_of hr
  exact (ss_cons (s2_asg (e2_var 0) (g2_tup rfl (gs2_cons (g2_name 2 hN) (gs2_cons (g2_name 3 hN) gs2_nil)))) (ss_cons (s2_asg (e2_var 1) (g2_tup rfl (gs2_cons (g2_name 4 hN) (gs2_cons (g2_name 5 hN) (gs2_cons (g2_name 6 hN) gs2_nil))))) (ss_cons (s2_if (t2_cmp (op_eqP hu) ok_eq (e2_var 4) e2_str (nomark _)) (ss_one (s2_ret (e2_tup (a2_cons (e2_tup (a2_star (e2_var 2) (a2_cons (e2_tup (a2_cons (e2_var 5) (a2_cons e2_non (a2_cons (e2_var 6) a2_nil)))) a2_nil))) (a2_cons (e2_tup (a2_star (e2_var 3) (a2_cons (e2_callB call_len2 ok_len rfl T.b_len PySem.boot_len (a2_cons (e2_var 2) a2_nil)) a2_nil))) a2_nil))))) ss_nil) (ss_cons (s2_asg (e2_sub hu1 (e2_var 2) (e2_var 5) (fun _ _ => rfl)) (g2_tup rfl (gs2_cons (g2_name 7 hN) (gs2_cons (g2_name 8 hN) (gs2_cons (g2_name 9 hN) gs2_nil))))) (ss_one (s2_ret (e2_tup (a2_cons (e2_tup (a2_star (e2_slice (e2_var 2) o2_none (o2_some (e2_var 5))) (a2_cons (e2_tup (a2_cons (e2_var 7) (a2_cons (e2_var 8) (a2_cons (e2_var 6) a2_nil)))) (a2_star (e2_slice (e2_var 2) (o2_some (e2_bin op_addD ok_add (e2_var 5) e2_int)) o2_none) a2_nil)))) (a2_cons (e2_tup (a2_star (e2_var 3) (a2_cons (e2_var 5) a2_nil))) a2_nil)))))))))
theorem sc_mended : FnScope n_mended ["case", "book", "mend"] (defScope s_mended) := ⟨rfl, rfl, rfl, by decide +kernel, rfl, by decide +kernel, by decide +kernel⟩
theorem ok_mended {f_mended : Addr} {fd_mended : FuncData} {f__check_change : Addr} {fd__check_change : FuncData} {f__with_change : Addr} {fd__with_change : FuncData} {C_MendError : Addr} {f_ini_CallError : Addr} {fd_ini_CallError : FuncData} {k : Nat} (T : Txt K mg a_LINE_LIMIT a_CHANGE_LIMIT) (C_mended : Cl K mg "mended" s_mended f_mended fd_mended ["case", "book", "mend"]) (C__check_change : Cl K mg "_check_change" s__check_change f__check_change fd__check_change ["case", "book", "change"]) (C__with_change : Cl K mg "_with_change" s__with_change f__with_change fd__with_change ["draft", "change"]) (X_MendError : ExCl K mg "MendError" C_MendError f_ini_CallError fd_ini_CallError ["code"] ["self", "code"]) (G_ini_CallError : FnOk P w K mg base CX0 k f_ini_CallError fd_ini_CallError ["self", "code"] (spIni ["code"] K)) (G__check_change : FnOk P w K mg base (L2.CX P w) (k + 1) f__check_change fd__check_change ["case", "book", "change"] (Fn2X K mg 3 F__check_change)) (G__with_change : FnOk P w K mg base CX0 (k + 1) f__with_change fd__with_change ["draft", "change"] (Fn2 K 2 F__with_change)) :
    FnOk P w K mg base (L2.CX P w) (k + 1 + 1) f_mended fd_mended ["case", "book", "mend"] (Fn2X K mg 3 F_mended) := fn2x_ok C_mended.F sc_mended fun cdv A outer s H E hr => by
  have hN := sc_mended.nd
  have hu := units64 hr
  have hu1 := hu_of hr
  exact (ss_cons (s2_if (t2_cmp op_gt ok_gt (e2_callB call_len2 ok_len rfl T.b_len PySem.boot_len (a2_cons (e2_var 2) a2_nil)) (e2_glob (v := .int (3)) rfl T.g_CHANGE_LIMIT ⟨_, rfl⟩ rc_CHANGE_LIMIT) (nomark _)) (ss_one (s2_raise rfl (takes_of rfl rfl rfl rfl) X_MendError.oe X_MendError.nf (by decide) X_MendError.iC X_MendError.tI G_ini_CallError hr X_MendError.b rfl X_MendError.gm (a2_cons e2_str a2_nil))) ss_nil) (ss_cons (s2_letGo 3 (s2_ownLc 3 [("change", 4)] rfl hN rfl rfl (sw_true rfl rfl rfl (by decide +kernel)) (i2_tup (e2_var 2)) (blkOk_by (own := [("change", 4)]) (by show blkC n_mended (defScope s_mended) _ _ = true; decide +kernel)) (fun _ _ _ _ _ => (g2_name 4 hN)) (fun _ _ _ _ _ => ts2_nil) (fun _ _ _ _ _ => (e2_slice (e2_var 4) o2_none (o2_some e2_int))))) (ss_cons (s2_if (w2_pt (w2_or (t2_cmp (op_neP hu) ok_ne (e2_callTy call_list_of ok_lst rfl T.b_list (by decide +kernel) (a2_cons (e2_var 2) a2_nil)) (e2_ssetK rfl hu rfl T.b_sorted rfl T.b_set (e2_var 2)) (nomark _)) (w2_or1 (t2_cmp op_lt ok_lt (e2_lenK rfl hu rfl T.b_len rfl T.b_set (e2_var 3)) (e2_callB call_len2 ok_len rfl T.b_len PySem.boot_len (a2_cons (e2_var 3) a2_nil)) (nomark _))))) (ss_one (s2_raise rfl (takes_of rfl rfl rfl rfl) X_MendError.oe X_MendError.nf (by decide) X_MendError.iC X_MendError.tI G_ini_CallError hr X_MendError.b rfl X_MendError.gm (a2_cons e2_str a2_nil))) ss_nil) (ss_cons (s2_for (passes_of rfl) rfl (i2_tup (e2_var 2)) (g2_name 4 hN) (ss_one (s2_expr (e2_callX (takes_of rfl rfl rfl rfl) G__check_change hr rfl C__check_change.m C__check_change.F.kp C__check_change.b (a2_cons (e2_var 0) (a2_cons (e2_var 1) (a2_cons (e2_var 4) a2_nil))) (cons_len (cons_len (cons_len (nil_len (n := 0))))))))) (ss_cons (s2_set 5 hN (e2_tup (a2_cons (e2_var 1) (a2_cons (e2_tup a2_nil) a2_nil)))) (ss_cons (s2_for (passes_of rfl) rfl (i2_tup (e2_var 2)) (g2_name 4 hN) (ss_one (s2_set 5 hN (e2_call G__with_change hr rfl C__with_change.m C__with_change.F.kp C__with_change.b (a2_cons (e2_var 5) (a2_cons (e2_var 4) a2_nil)) (cons_len (cons_len (nil_len (n := 0)))))))) (ss_cons (s2_if (t2_cmp op_gt ok_gt (e2_callB call_len2 ok_len rfl T.b_len PySem.boot_len (a2_cons (e2_sub hu1 (e2_var 5) e2_int (fun _ _ => rfl)) a2_nil)) (e2_glob (v := .int (60)) rfl T.g_LINE_LIMIT ⟨_, rfl⟩ rc_LINE_LIMIT) (nomark _)) (ss_one (s2_raise rfl (takes_of rfl rfl rfl rfl) X_MendError.oe X_MendError.nf (by decide) X_MendError.iC X_MendError.tI G_ini_CallError hr X_MendError.b rfl X_MendError.gm (a2_cons e2_str a2_nil))) ss_nil) (ss_one (s2_ret (e2_sub hu1 (e2_var 5) e2_int (fun _ _ => rfl)))))))))))
theorem sc__law_take : FnScope n__law_take ["d", "many"] (defScope s__law_take) := ⟨rfl, rfl, rfl, by decide +kernel, rfl, by decide +kernel, by decide +kernel⟩
theorem ok__law_take {f__law_take : Addr} {fd__law_take : FuncData} {k : Nat} (T : Txt K mg a_LINE_LIMIT a_CHANGE_LIMIT) (C__law_take : Cl K mg "_law_take" s__law_take f__law_take fd__law_take ["d", "many"]) :
    FnOk P w K mg base CX0 (k + 1) f__law_take fd__law_take ["d", "many"] (Fn2 K 2 F__law_take) := fn2_ok C__law_take.F sc__law_take fun cdv A outer s H E hr => by
  have hN := sc__law_take.nd
  have hu := units64 hr
  have hu1 := hu_of hr
  exact (ss_cons (s2_if (w2_pt (w2_and (t2_cmp (op_eqP hu) ok_eq (e2_sub hu1 (e2_var 0) e2_int (fun _ _ => rfl)) e2_int (nomark _)) (w2_and1 (t2_cmp op_lt ok_lt (e2_sub hu1 (e2_var 0) e2_int (fun _ _ => rfl)) (e2_callB call_len2 ok_len rfl T.b_len PySem.boot_len (a2_cons (e2_sub hu1 (e2_var 0) e2_int (fun _ _ => rfl)) a2_nil)) (nomark _))))) (ss_cons (s2_put 0 hu1 (e2_callB call_abs ok_abs rfl T.b_abs (by decide +kernel) (a2_cons (e2_callTy call_int2 ok_int rfl T.b_int (by decide +kernel) (a2_cons (e2_sub hu1 (e2_sub hu1 (e2_var 0) e2_int (fun _ _ => rfl)) (e2_sub hu1 (e2_var 0) e2_int (fun _ _ => rfl)) (fun _ _ => rfl)) a2_nil)) a2_nil)) e2_int) (ss_cons (s2_put 0 hu1 (e2_bin op_addD ok_add (e2_sub hu1 (e2_var 0) e2_int (fun _ _ => rfl)) e2_int) e2_int) (ss_one (s2_if (t2_cmp op_lt ok_lt (e2_sub hu1 (e2_var 0) e2_int (fun _ _ => rfl)) (e2_bin op_pow ok_pow e2_int e2_int) (nomark _)) (ss_cons (s2_set 2 hN (e2_callTy call_int2 ok_int rfl T.b_int (by decide +kernel) (a2_cons (e2_sub hu1 (e2_var 0) e2_int (fun _ _ => rfl)) a2_nil))) (ss_cons (s2_put 0 hu1 e2_int e2_int) (ss_one (s2_ret (e2_bin op_mod ok_mod (e2_var 2) (e2_var 1)))))) ss_nil)))) ss_nil) (ss_cons (s2_if (t2_cmp op_gt ok_gt (e2_sub hu1 (e2_var 0) e2_int (fun _ _ => rfl)) e2_int (nomark _)) (ss_cons (s2_set 3 hN (e2_bin op_mod ok_mod (e2_callTy call_int2 ok_int rfl T.b_int (by decide +kernel) (a2_cons (e2_sub hu1 (e2_var 0) e2_int (fun _ _ => rfl)) a2_nil)) (e2_var 1))) (ss_cons (s2_put 0 hu1 (e2_bin op_fdiv ok_fdiv (e2_callTy call_int2 ok_int rfl T.b_int (by decide +kernel) (a2_cons (e2_sub hu1 (e2_var 0) e2_int (fun _ _ => rfl)) a2_nil)) (e2_var 1)) e2_int) (ss_one (s2_ret (e2_var 3))))) ss_nil) (ss_cons (s2_put 0 hu1 (e2_bin op_mod ok_mod (e2_callTy call_int2 ok_int rfl T.b_int (by decide +kernel) (a2_cons (e2_bin op_addD ok_add (e2_bin op_mulD ok_mul (e2_sub hu1 (e2_var 0) e2_int (fun _ _ => rfl)) e2_int) e2_int) a2_nil)) e2_int) e2_int) (ss_one (s2_ret (e2_bin op_mod ok_mod (e2_callTy call_int2 ok_int rfl T.b_int (by decide +kernel) (a2_cons (e2_bin op_fdiv ok_fdiv (e2_sub hu1 (e2_var 0) e2_int (fun _ _ => rfl)) e2_int) a2_nil)) (e2_var 1)))))))
theorem sc__law_some : FnScope n__law_some ["d", "many"] (defScope s__law_some) := ⟨rfl, rfl, rfl, by decide +kernel, rfl, by decide +kernel, by decide +kernel⟩
theorem ok__law_some {f__law_some : Addr} {fd__law_some : FuncData} {f__law_take : Addr} {fd__law_take : FuncData} {k : Nat} (T : Txt K mg a_LINE_LIMIT a_CHANGE_LIMIT) (C__law_some : Cl K mg "_law_some" s__law_some f__law_some fd__law_some ["d", "many"]) (C__law_take : Cl K mg "_law_take" s__law_take f__law_take fd__law_take ["d", "many"]) (G__law_take : FnOk P w K mg base CX0 (k) f__law_take fd__law_take ["d", "many"] (Fn2 K 2 F__law_take)) :
    FnOk P w K mg base CX0 (k + 1) f__law_some fd__law_some ["d", "many"] (Fn2 K 2 F__law_some) := fn2_ok C__law_some.F sc__law_some fun cdv A outer s H E hr => by
  have hN := sc__law_some.nd
  have hu := units64 hr
  have hu1 := hu_of hr
  exact (ss_one (s2_ret (e2_callTy call_tuple_of ok_tup rfl T.b_tuple (by decide +kernel) (a2_cons (e2_ofO (f2_lc [("k", 2)] rfl hN (i2_rng1 rfl T.b_range (a2_cons (e2_var 1) a2_nil)) (blkOk_by (own := [("k", 2)]) (by show blkC n__law_some (defScope s__law_some) _ _ = true; decide +kernel)) (fun _ _ _ _ _ => (g2_name 2 hN)) (fun _ _ _ _ _ => (ts2_one (t2_cmp (op_eqP hu) ok_eq (e2_call G__law_take hr rfl C__law_take.m C__law_take.F.kp C__law_take.b (a2_cons (e2_var 0) (a2_cons e2_int a2_nil)) (cons_len (cons_len (nil_len (n := 0))))) e2_int (nomark _)))) (fun _ _ _ _ _ => (e2_var 2)))) a2_nil))))
theorem sc__law_film : FnScope n__law_film ["d", "scenes"] (defScope s__law_film) := ⟨rfl, rfl, rfl, by decide +kernel, rfl, by decide +kernel, by decide +kernel⟩
theorem ok__law_film {f__law_film : Addr} {fd__law_film : FuncData} {f__law_some : Addr} {fd__law_some : FuncData} {f__law_take : Addr} {fd__law_take : FuncData} {k : Nat} (T : Txt K mg a_LINE_LIMIT a_CHANGE_LIMIT) (C__law_film : Cl K mg "_law_film" s__law_film f__law_film fd__law_film ["d", "scenes"]) (C__law_some : Cl K mg "_law_some" s__law_some f__law_some fd__law_some ["d", "many"]) (C__law_take : Cl K mg "_law_take" s__law_take f__law_take fd__law_take ["d", "many"]) (G__law_some : FnOk P w K mg base CX0 (k) f__law_some fd__law_some ["d", "many"] (Fn2 K 2 F__law_some)) (G__law_take : FnOk P w K mg base CX0 (k) f__law_take fd__law_take ["d", "many"] (Fn2 K 2 F__law_take)) :
    FnOk P w K mg base CX0 (k + 1) f__law_film fd__law_film ["d", "scenes"] (Fn2 K 2 F__law_film) := fn2_ok C__law_film.F sc__law_film fun cdv A outer s H E hr => by
  have hN := sc__law_film.nd
  have hu := units64 hr
  have hu1 := hu_of hr
  exact (ss_cons (s2_set 2 hN (e2_bin op_addD ok_add e2_int (e2_call G__law_take hr rfl C__law_take.m C__law_take.F.kp C__law_take.b (a2_cons (e2_var 0) (a2_cons e2_int a2_nil)) (cons_len (cons_len (nil_len (n := 0))))))) (ss_cons (s2_set 3 hN (e2_bin op_addD ok_add e2_int (e2_call G__law_take hr rfl C__law_take.m C__law_take.F.kp C__law_take.b (a2_cons (e2_var 0) (a2_cons e2_int a2_nil)) (cons_len (cons_len (nil_len (n := 0))))))) (ss_cons (s2_own 4 hN (f2_lst a2_nil)) (ss_cons (s2_for PassesOwn.never rfl (i2_rng1 rfl T.b_range (a2_cons (e2_var 1) a2_nil)) (g2_name 5 hN) (ss_one (s2_ownE 4 PySem.F.plainAttrs_list PySem.F.slot_list_append PySem.F.type_list_append mt_append own_append (a2_cons (e2_tup (a2_cons (e2_bin op_addD ok_add e2_str (e2_callTy call_str_int ok_strI rfl T.b_str (by decide +kernel) (a2_cons (e2_var 5) a2_nil))) (a2_cons (e2_call G__law_take hr rfl C__law_take.m C__law_take.F.kp C__law_take.b (a2_cons (e2_var 0) (a2_cons (e2_var 3) a2_nil)) (cons_len (cons_len (nil_len (n := 0))))) (a2_cons e2_str (a2_cons (e2_bin op_addD ok_add e2_int (e2_bin op_mulD ok_mul e2_int (e2_call G__law_take hr rfl C__law_take.m C__law_take.F.kp C__law_take.b (a2_cons (e2_var 0) (a2_cons e2_int a2_nil)) (cons_len (cons_len (nil_len (n := 0))))))) (a2_cons e2_bl (a2_cons (e2_call G__law_some hr rfl C__law_some.m C__law_some.F.kp C__law_some.b (a2_cons (e2_var 0) (a2_cons (e2_var 2) a2_nil)) (cons_len (cons_len (nil_len (n := 0))))) a2_nil))))))) a2_nil)))) (ss_cons (s2_set 6 hN (e2_callTy call_tuple_of ok_tup rfl T.b_tuple (by decide +kernel) (a2_cons (e2_ofO (f2_lc [("k", 5)] rfl hN (i2_rng1 rfl T.b_range (a2_cons (e2_bin op_sub ok_sub (e2_var 1) e2_int) a2_nil)) (blkOk_by (own := [("k", 5)]) (by show blkC n__law_film (defScope s__law_film) _ _ = true; decide +kernel)) (fun _ _ _ _ _ => (g2_name 5 hN)) (fun _ _ _ _ _ => (ts2_one (t2_cmp (op_eqP hu) ok_eq (e2_call G__law_take hr rfl C__law_take.m C__law_take.F.kp C__law_take.b (a2_cons (e2_var 0) (a2_cons e2_int a2_nil)) (cons_len (cons_len (nil_len (n := 0))))) e2_int (nomark _)))) (fun _ _ _ _ _ => (e2_tup (a2_cons (e2_var 5) (a2_cons (e2_bin op_addD ok_add (e2_var 5) e2_int) a2_nil)))))) a2_nil))) (ss_one (s2_frz 4 (s2_ret (e2_tup (a2_cons (e2_callTy call_tuple_of ok_tup rfl T.b_tuple (by decide +kernel) (a2_cons (e2_ofO (f2_lc [("k", 5)] rfl hN (i2_rng1 rfl T.b_range (a2_cons (e2_var 3) a2_nil)) (blkOk_by (own := [("k", 5)]) (by show blkC n__law_film (defScope s__law_film) _ _ = true; decide +kernel)) (fun _ _ _ _ _ => (g2_name 5 hN)) (fun _ _ _ _ _ => ts2_nil) (fun _ _ _ _ _ => (e2_tup (a2_cons (e2_bin op_addD ok_add e2_str (e2_callTy call_str_int ok_strI rfl T.b_str (by decide +kernel) (a2_cons (e2_var 5) a2_nil))) (a2_cons e2_bl a2_nil)))))) a2_nil)) (a2_cons (e2_callTy call_tuple_of ok_tup rfl T.b_tuple (by decide +kernel) (a2_cons (e2_ofO (f2_lc [("k", 5)] rfl hN (i2_rng1 rfl T.b_range (a2_cons (e2_var 2) a2_nil)) (blkOk_by (own := [("k", 5)]) (by show blkC n__law_film (defScope s__law_film) _ _ = true; decide +kernel)) (fun _ _ _ _ _ => (g2_name 5 hN)) (fun _ _ _ _ _ => ts2_nil) (fun _ _ _ _ _ => (e2_tup (a2_cons (e2_bin op_addD ok_add e2_str (e2_callTy call_str_int ok_strI rfl T.b_str (by decide +kernel) (a2_cons (e2_var 5) a2_nil))) (a2_cons e2_bl a2_nil)))))) a2_nil)) (a2_cons (e2_callTy call_tuple_of ok_tup rfl T.b_tuple (by decide +kernel) (a2_cons (e2_var 4) a2_nil)) (a2_cons (e2_var 6) (a2_cons (e2_tup (a2_cons e2_int (a2_cons e2_int (a2_cons e2_int a2_nil)))) a2_nil))))))))))))))
theorem sc__law_sheet : FnScope n__law_sheet ["d", "scenes", "whole"] (defScope s__law_sheet) := ⟨rfl, rfl, rfl, by decide +kernel, rfl, by decide +kernel, by decide +kernel⟩
theorem ok__law_sheet {f__law_sheet : Addr} {fd__law_sheet : FuncData} {f__law_some : Addr} {fd__law_some : FuncData} {f__law_take : Addr} {fd__law_take : FuncData} {k : Nat} (T : Txt K mg a_LINE_LIMIT a_CHANGE_LIMIT) (C__law_sheet : Cl K mg "_law_sheet" s__law_sheet f__law_sheet fd__law_sheet ["d", "scenes", "whole"]) (C__law_some : Cl K mg "_law_some" s__law_some f__law_some fd__law_some ["d", "many"]) (C__law_take : Cl K mg "_law_take" s__law_take f__law_take fd__law_take ["d", "many"]) (G__law_some : FnOk P w K mg base CX0 (k) f__law_some fd__law_some ["d", "many"] (Fn2 K 2 F__law_some)) (G__law_take : FnOk P w K mg base CX0 (k) f__law_take fd__law_take ["d", "many"] (Fn2 K 2 F__law_take)) :
    FnOk P w K mg base CX0 (k + 1) f__law_sheet fd__law_sheet ["d", "scenes", "whole"] (Fn2 K 3 F__law_sheet) := fn2_ok C__law_sheet.F sc__law_sheet fun cdv A outer s H E hr => by
  have hN := sc__law_sheet.nd
  have hu := units64 hr
  have hu1 := hu_of hr
  exact (ss_cons (s2_set 3 hN (e2_tupRg rfl rfl T.b_tuple rfl T.b_range (e2_var 1))) (ss_cons (s2_set 4 hN (e2_if (w2_pt (w2_or (t2_tru (wk := false) (e2_var 2)) (w2_or1 (t2_cmp op_gt ok_gt (e2_call G__law_take hr rfl C__law_take.m C__law_take.F.kp C__law_take.b (a2_cons (e2_var 0) (a2_cons e2_int a2_nil)) (cons_len (cons_len (nil_len (n := 0))))) e2_int (nomark _))))) (e2_var 3) (e2_call G__law_some hr rfl C__law_some.m C__law_some.F.kp C__law_some.b (a2_cons (e2_var 0) (a2_cons (e2_var 1) a2_nil)) (cons_len (cons_len (nil_len (n := 0))))))) (ss_cons (s2_set 5 hN (e2_if (w2_pt (w2_or (t2_tru (wk := false) (e2_var 2)) (w2_or1 (t2_cmp op_gt ok_gt (e2_call G__law_take hr rfl C__law_take.m C__law_take.F.kp C__law_take.b (a2_cons (e2_var 0) (a2_cons e2_int a2_nil)) (cons_len (cons_len (nil_len (n := 0))))) e2_int (nomark _))))) (e2_var 3) (e2_call G__law_some hr rfl C__law_some.m C__law_some.F.kp C__law_some.b (a2_cons (e2_var 0) (a2_cons (e2_var 1) a2_nil)) (cons_len (cons_len (nil_len (n := 0))))))) (ss_cons (s2_if (t2_cmp (op_eqP hu) ok_eq (e2_call G__law_take hr rfl C__law_take.m C__law_take.F.kp C__law_take.b (a2_cons (e2_var 0) (a2_cons e2_int a2_nil)) (cons_len (cons_len (nil_len (n := 0))))) e2_int (nomark _)) (ss_cons (s2_set 4 hN (e2_bin op_addD ok_add (e2_bin op_addD ok_add (e2_slice (e2_var 4) o2_none (o2_some e2_int)) (e2_tup (a2_cons (e2_neg e2_int) a2_nil))) (e2_slice (e2_var 4) (o2_some e2_int) o2_none))) (ss_one (s2_set 5 hN (e2_bin op_addD ok_add (e2_tup (a2_cons (e2_neg e2_int) a2_nil)) (e2_var 5))))) ss_nil) (ss_one (s2_ret (e2_tup (a2_cons (e2_sub hu1 (e2_lst (a2_cons e2_int (a2_cons e2_int (a2_cons (e2_bin op_addD ok_add e2_int (e2_bin op_mulD ok_mul e2_int (e2_call G__law_take hr rfl C__law_take.m C__law_take.F.kp C__law_take.b (a2_cons (e2_var 0) (a2_cons e2_int a2_nil)) (cons_len (cons_len (nil_len (n := 0))))))) (a2_cons e2_int a2_nil))))) (e2_call G__law_take hr rfl C__law_take.m C__law_take.F.kp C__law_take.b (a2_cons (e2_var 0) (a2_cons e2_int a2_nil)) (cons_len (cons_len (nil_len (n := 0))))) (fun _ _ => rfl)) (a2_cons (e2_var 4) (a2_cons (e2_var 5) a2_nil))))))))))
theorem sc__law_case : FnScope n__law_case ["d", "days"] (defScope s__law_case) := ⟨rfl, rfl, rfl, by decide +kernel, rfl, by decide +kernel, by decide +kernel⟩
theorem ok__law_case {f__law_case : Addr} {fd__law_case : FuncData} {f__law_film : Addr} {fd__law_film : FuncData} {f__law_sheet : Addr} {fd__law_sheet : FuncData} {f__law_take : Addr} {fd__law_take : FuncData} {k : Nat} (T : Txt K mg a_LINE_LIMIT a_CHANGE_LIMIT) (C__law_case : Cl K mg "_law_case" s__law_case f__law_case fd__law_case ["d", "days"]) (C__law_film : Cl K mg "_law_film" s__law_film f__law_film fd__law_film ["d", "scenes"]) (C__law_sheet : Cl K mg "_law_sheet" s__law_sheet f__law_sheet fd__law_sheet ["d", "scenes", "whole"]) (C__law_take : Cl K mg "_law_take" s__law_take f__law_take fd__law_take ["d", "many"]) (G__law_film : FnOk P w K mg base CX0 (k) f__law_film fd__law_film ["d", "scenes"] (Fn2 K 2 F__law_film)) (G__law_sheet : FnOk P w K mg base CX0 (k) f__law_sheet fd__law_sheet ["d", "scenes", "whole"] (Fn2 K 3 F__law_sheet)) (G__law_take : FnOk P w K mg base CX0 (k) f__law_take fd__law_take ["d", "many"] (Fn2 K 2 F__law_take)) :
    FnOk P w K mg base CX0 (k + 1) f__law_case fd__law_case ["d", "days"] (Fn2 K 2 F__law_case) := fn2_ok C__law_case.F sc__law_case fun cdv A outer s H E hr => by
  have hN := sc__law_case.nd
  have hu := units64 hr
  have hu1 := hu_of hr
  exact (ss_cons (s2_set 2 hN (e2_bin op_addD ok_add e2_int (e2_call G__law_take hr rfl C__law_take.m C__law_take.F.kp C__law_take.b (a2_cons (e2_var 0) (a2_cons e2_int a2_nil)) (cons_len (cons_len (nil_len (n := 0))))))) (ss_cons (s2_set 3 hN (e2_call G__law_film hr rfl C__law_film.m C__law_film.F.kp C__law_film.b (a2_cons (e2_var 0) (a2_cons (e2_var 2) a2_nil)) (cons_len (cons_len (nil_len (n := 0)))))) (ss_cons (s2_own 4 hN (f2_lst a2_nil)) (ss_cons (s2_for PassesOwn.never rfl (i2_rng1 rfl T.b_range (a2_cons (e2_var 1) a2_nil)) (g2_name 5 hN) (ss_cons (s2_set 6 hN (e2_bin op_addD ok_add (e2_tup (a2_cons (e2_call G__law_sheet hr rfl C__law_sheet.m C__law_sheet.F.kp C__law_sheet.b (a2_cons (e2_var 0) (a2_cons (e2_var 2) (a2_cons e2_bl a2_nil))) (cons_len (cons_len (cons_len (nil_len (n := 0)))))) a2_nil)) (e2_callTy call_tuple_of ok_tup rfl T.b_tuple (by decide +kernel) (a2_cons (e2_ofO (f2_lc [("j", 9)] rfl hN (i2_rng1 rfl T.b_range (a2_cons (e2_call G__law_take hr rfl C__law_take.m C__law_take.F.kp C__law_take.b (a2_cons (e2_var 0) (a2_cons e2_int a2_nil)) (cons_len (cons_len (nil_len (n := 0))))) a2_nil)) (blkOk_by (own := [("j", 9)]) (by show blkC n__law_case (defScope s__law_case) _ _ = true; decide +kernel)) (fun _ _ _ _ _ => (g2_name 9 hN)) (fun _ _ _ _ _ => ts2_nil) (fun _ _ _ _ _ => (e2_call G__law_sheet hr rfl C__law_sheet.m C__law_sheet.F.kp C__law_sheet.b (a2_cons (e2_var 0) (a2_cons (e2_var 2) (a2_cons e2_bl a2_nil))) (cons_len (cons_len (cons_len (nil_len (n := 0))))))))) a2_nil)))) (ss_one (s2_ownE 4 PySem.F.plainAttrs_list PySem.F.slot_list_append PySem.F.type_list_append mt_append own_append (a2_cons (e2_if (t2_cmp (op_eqP hu) ok_eq (e2_call G__law_take hr rfl C__law_take.m C__law_take.F.kp C__law_take.b (a2_cons (e2_var 0) (a2_cons e2_int a2_nil)) (cons_len (cons_len (nil_len (n := 0))))) e2_int (nomark _)) (e2_revT (e2_var 6)) (e2_var 6)) a2_nil))))) (ss_cons (s2_set 7 hN (e2_tup (a2_cons (e2_call G__law_take hr rfl C__law_take.m C__law_take.F.kp C__law_take.b (a2_cons (e2_var 0) (a2_cons e2_int a2_nil)) (cons_len (cons_len (nil_len (n := 0))))) (a2_cons (e2_call G__law_take hr rfl C__law_take.m C__law_take.F.kp C__law_take.b (a2_cons (e2_var 0) (a2_cons e2_int a2_nil)) (cons_len (cons_len (nil_len (n := 0))))) (a2_cons (e2_call G__law_take hr rfl C__law_take.m C__law_take.F.kp C__law_take.b (a2_cons (e2_var 0) (a2_cons e2_int a2_nil)) (cons_len (cons_len (nil_len (n := 0))))) (a2_cons e2_int a2_nil)))))) (ss_cons (s2_set 8 hN (e2_callTy call_tuple_of ok_tup rfl T.b_tuple (by decide +kernel) (a2_cons (e2_ofO (f2_lc [("k", 5)] rfl hN (i2_rng1 rfl T.b_range (a2_cons (e2_callB call_len2 ok_len rfl T.b_len PySem.boot_len (a2_cons (e2_sub hu1 (e2_var 3) e2_int (fun _ _ => rfl)) a2_nil)) a2_nil)) (blkOk_by (own := [("k", 5)]) (by show blkC n__law_case (defScope s__law_case) _ _ = true; decide +kernel)) (fun _ _ _ _ _ => (g2_name 5 hN)) (fun _ _ _ _ _ => ts2_nil) (fun _ _ _ _ _ => (e2_tup (a2_cons (e2_call G__law_take hr rfl C__law_take.m C__law_take.F.kp C__law_take.b (a2_cons (e2_var 0) (a2_cons e2_int a2_nil)) (cons_len (cons_len (nil_len (n := 0))))) (a2_cons (e2_tup a2_nil) a2_nil)))))) a2_nil))) (ss_one (s2_frz 4 (s2_ret (e2_tup (a2_cons (e2_var 3) (a2_cons (e2_tup (a2_cons (e2_bin op_mulT ok_mulT (e2_tup (a2_cons (e2_tup (a2_cons e2_int (a2_cons e2_int a2_nil))) a2_nil)) (e2_var 1)) (a2_cons (e2_tup a2_nil) (a2_cons (e2_tup a2_nil) a2_nil)))) (a2_cons (e2_tup a2_nil) (a2_cons (e2_callTy call_tuple_of ok_tup rfl T.b_tuple (by decide +kernel) (a2_cons (e2_var 4) a2_nil)) (a2_cons (e2_var 7) (a2_cons (e2_var 8) a2_nil))))))))))))))))
theorem sc__law_test : FnScope n__law_test ["d", "case"] (defScope s__law_test) := ⟨rfl, rfl, rfl, by decide +kernel, rfl, by decide +kernel, by decide +kernel⟩
theorem ok__law_test {f__law_test : Addr} {fd__law_test : FuncData} {f__law_take : Addr} {fd__law_take : FuncData} {k : Nat} (T : Txt K mg a_LINE_LIMIT a_CHANGE_LIMIT) (C__law_test : Cl K mg "_law_test" s__law_test f__law_test fd__law_test ["d", "case"]) (C__law_take : Cl K mg "_law_take" s__law_take f__law_take fd__law_take ["d", "many"]) (G__law_take : FnOk P w K mg base CX0 (k) f__law_take fd__law_take ["d", "many"] (Fn2 K 2 F__law_take)) :
    FnOk P w K mg base CX0 (k + 1) f__law_test fd__law_test ["d", "case"] (Fn2 K 2 F__law_test) := fn2_ok C__law_test.F sc__law_test fun cdv A outer s H E hr => by
  have hN := sc__law_test.nd
  have hu := units64 hr
  have hu1 := hu_of hr
  exact (ss_cons (s2_set 2 hN (e2_call G__law_take hr rfl C__law_take.m C__law_take.F.kp C__law_take.b (a2_cons (e2_var 0) (a2_cons e2_int a2_nil)) (cons_len (cons_len (nil_len (n := 0)))))) (ss_cons (s2_if (t2_cmp (op_eqP hu) ok_eq (e2_var 2) e2_int (nomark _)) (ss_one (s2_ret (e2_tup (a2_cons e2_str (a2_cons (e2_call G__law_take hr rfl C__law_take.m C__law_take.F.kp C__law_take.b (a2_cons (e2_var 0) (a2_cons (e2_callB call_len2 ok_len rfl T.b_len PySem.boot_len (a2_cons (e2_sub hu1 (e2_sub hu1 (e2_var 1) e2_int (fun _ _ => rfl)) e2_int (fun _ _ => rfl)) a2_nil)) a2_nil)) (cons_len (cons_len (nil_len (n := 0))))) a2_nil))))) ss_nil) (ss_cons (s2_if (t2_cmp (op_eqP hu) ok_eq (e2_var 2) e2_int (nomark _)) (ss_one (s2_ret (e2_tup (a2_cons e2_str (a2_cons (e2_call G__law_take hr rfl C__law_take.m C__law_take.F.kp C__law_take.b (a2_cons (e2_var 0) (a2_cons (e2_callB call_len2 ok_len rfl T.b_len PySem.boot_len (a2_cons (e2_sub hu1 (e2_sub hu1 (e2_var 1) e2_int (fun _ _ => rfl)) e2_int (fun _ _ => rfl)) a2_nil)) a2_nil)) (cons_len (cons_len (nil_len (n := 0))))) a2_nil))))) ss_nil) (ss_cons (s2_if (t2_cmp (op_eqP hu) ok_eq (e2_var 2) e2_int (nomark _)) (ss_one (s2_ret (e2_tup (a2_cons e2_str (a2_cons (e2_tup (a2_cons e2_str (a2_cons (e2_call G__law_take hr rfl C__law_take.m C__law_take.F.kp C__law_take.b (a2_cons (e2_var 0) (a2_cons (e2_callB call_len2 ok_len rfl T.b_len PySem.boot_len (a2_cons (e2_sub hu1 (e2_sub hu1 (e2_var 1) e2_int (fun _ _ => rfl)) e2_int (fun _ _ => rfl)) a2_nil)) a2_nil)) (cons_len (cons_len (nil_len (n := 0))))) a2_nil))) a2_nil))))) ss_nil) (ss_one (s2_ret (e2_tup (a2_cons e2_str (a2_cons (e2_call G__law_take hr rfl C__law_take.m C__law_take.F.kp C__law_take.b (a2_cons (e2_var 0) (a2_cons e2_int a2_nil)) (cons_len (cons_len (nil_len (n := 0))))) (a2_cons (e2_sub hu1 (e2_lst (a2_cons e2_str (a2_cons e2_str a2_nil))) (e2_call G__law_take hr rfl C__law_take.m C__law_take.F.kp C__law_take.b (a2_cons (e2_var 0) (a2_cons e2_int a2_nil)) (cons_len (cons_len (nil_len (n := 0))))) (fun _ _ => rfl)) (a2_cons (e2_call G__law_take hr rfl C__law_take.m C__law_take.F.kp C__law_take.b (a2_cons (e2_var 0) (a2_cons e2_int a2_nil)) (cons_len (cons_len (nil_len (n := 0))))) a2_nil)))))))))))
theorem sc__law_book : FnScope n__law_book ["d", "case", "sure"] (defScope s__law_book) := ⟨rfl, rfl, rfl, by decide +kernel, rfl, by decide +kernel, by decide +kernel⟩
theorem ok__law_book {f__law_book : Addr} {fd__law_book : FuncData} {f__law_take : Addr} {fd__law_take : FuncData} {f__law_test : Addr} {fd__law_test : FuncData} {k : Nat} (T : Txt K mg a_LINE_LIMIT a_CHANGE_LIMIT) (C__law_book : Cl K mg "_law_book" s__law_book f__law_book fd__law_book ["d", "case", "sure"]) (C__law_take : Cl K mg "_law_take" s__law_take f__law_take fd__law_take ["d", "many"]) (C__law_test : Cl K mg "_law_test" s__law_test f__law_test fd__law_test ["d", "case"]) (G__law_take : FnOk P w K mg base CX0 (k) f__law_take fd__law_take ["d", "many"] (Fn2 K 2 F__law_take)) (G__law_test : FnOk P w K mg base CX0 (k) f__law_test fd__law_test ["d", "case"] (Fn2 K 2 F__law_test)) :
    FnOk P w K mg base CX0 (k + 1) f__law_book fd__law_book ["d", "case", "sure"] (Fn2 K 3 F__law_book) := fn2_ok C__law_book.F sc__law_book fun cdv A outer s H E hr => by
  have hN := sc__law_book.nd
  have hu := units64 hr
  have hu1 := hu_of hr
  exact (ss_cons (s2_own 3 hN (f2_lst a2_nil)) (ss_cons (s2_for PassesOwn.never rfl (i2_rng1 rfl T.b_range (a2_cons (e2_callB call_len2 ok_len rfl T.b_len PySem.boot_len (a2_cons (e2_sub hu1 (e2_sub hu1 (e2_var 1) e2_int (fun _ _ => rfl)) e2_int (fun _ _ => rfl)) a2_nil)) a2_nil)) (g2_name 4 hN) (ss_cons (s2_if (t2_cmp (op_eqP hu) ok_eq (e2_call G__law_take hr rfl C__law_take.m C__law_take.F.kp C__law_take.b (a2_cons (e2_var 0) (a2_cons e2_int a2_nil)) (cons_len (cons_len (nil_len (n := 0))))) e2_int (nomark _)) (ss_one (s2_ownE 3 PySem.F.plainAttrs_list PySem.F.slot_list_append PySem.F.type_list_append mt_append own_append (a2_cons (e2_tup (a2_cons (e2_var 4) (a2_cons (e2_call G__law_test hr rfl C__law_test.m C__law_test.F.kp C__law_test.b (a2_cons (e2_var 0) (a2_cons (e2_var 1) a2_nil)) (cons_len (cons_len (nil_len (n := 0))))) (a2_cons (e2_call G__law_take hr rfl C__law_take.m C__law_take.F.kp C__law_take.b (a2_cons (e2_var 0) (a2_cons (e2_callB call_len2 ok_len rfl T.b_len PySem.boot_len (a2_cons (e2_sub hu1 (e2_sub hu1 (e2_var 1) e2_int (fun _ _ => rfl)) (e2_var 4) (fun _ _ => rfl)) a2_nil)) a2_nil)) (cons_len (cons_len (nil_len (n := 0))))) a2_nil)))) a2_nil))) ss_nil) (ss_one (s2_if (w2_pt (w2_or (t2_tru (wk := false) (e2_var 2)) (w2_or1 (t2_cmp op_gt ok_gt (e2_call G__law_take hr rfl C__law_take.m C__law_take.F.kp C__law_take.b (a2_cons (e2_var 0) (a2_cons e2_int a2_nil)) (cons_len (cons_len (nil_len (n := 0))))) e2_int (nomark _))))) (ss_one (s2_ownE 3 PySem.F.plainAttrs_list PySem.F.slot_list_append PySem.F.type_list_append mt_append own_append (a2_cons (e2_tup (a2_cons (e2_var 4) (a2_cons e2_non (a2_cons (e2_if (t2_cmp op_gt ok_gt (e2_call G__law_take hr rfl C__law_take.m C__law_take.F.kp C__law_take.b (a2_cons (e2_var 0) (a2_cons e2_int a2_nil)) (cons_len (cons_len (nil_len (n := 0))))) e2_int (nomark _)) e2_int (e2_call G__law_take hr rfl C__law_take.m C__law_take.F.kp C__law_take.b (a2_cons (e2_var 0) (a2_cons (e2_callB call_len2 ok_len rfl T.b_len PySem.boot_len (a2_cons (e2_sub hu1 (e2_sub hu1 (e2_var 1) e2_int (fun _ _ => rfl)) (e2_var 4) (fun _ _ => rfl)) a2_nil)) a2_nil)) (cons_len (cons_len (nil_len (n := 0)))))) a2_nil)))) a2_nil))) ss_nil)))) (ss_one (s2_frz 3 (s2_ret (e2_callTy call_tuple_of ok_tup rfl T.b_tuple (by decide +kernel) (a2_cons (e2_var 3) a2_nil)))))))
theorem sc__law_told : FnScope n__law_told ["case", "book", "mend"] (defScope s__law_told) := ⟨rfl, rfl, rfl, by decide +kernel, rfl, by decide +kernel, by decide +kernel⟩
theorem ok__law_told {f__law_told : Addr} {fd__law_told : FuncData} {f_mended : Addr} {fd_mended : FuncData} {C_MendError : Addr} {f_ini_CallError : Addr} {fd_ini_CallError : FuncData} {k : Nat} (T : Txt K mg a_LINE_LIMIT a_CHANGE_LIMIT) (C__law_told : Cl K mg "_law_told" s__law_told f__law_told fd__law_told ["case", "book", "mend"]) (C_mended : Cl K mg "mended" s_mended f_mended fd_mended ["case", "book", "mend"]) (X_MendError : ExCl K mg "MendError" C_MendError f_ini_CallError fd_ini_CallError ["code"] ["self", "code"]) (G_mended : FnOk P w K mg base (L2.CX P w) (k) f_mended fd_mended ["case", "book", "mend"] (Fn2X K mg 3 F_mended)) :
    FnOk P w K mg base CX0 (k + 1) f__law_told fd__law_told ["case", "book", "mend"] (Fn2 K 3 F__law_told) := fn2_ok C__law_told.F sc__law_told fun cdv A outer s H E hr => by
  have hN := sc__law_told.nd
  have hu := units64 hr
  have hu1 := hu_of hr
  exact (ss_one (s2_tryN rfl rfl takes0 (fun W2 pn xe tk pw => (ss_one (s2_ret (e2_callX tk G_mended hr rfl C_mended.m C_mended.F.kp C_mended.b (a2_cons (e2_var 0) (a2_cons (e2_var 1) (a2_cons (e2_var 2) a2_nil))) (cons_len (cons_len (cons_len (nil_len (n := 0))))))))) (.as (i := 3) hN rfl rfl ⟨rfl, by decide, .inl X_MendError.gm⟩ X_MendError.gm X_MendError.te (fun p hp => by cases hp) (fun a oe cls d pn hz hf => psu_of (sv_ret (eu_fld (i := 3) X_MendError.ef X_MendError.gm (X_MendError.nf _ (by decide)) hz hf))) .nil)))
theorem sc__law_change : FnScope n__law_change ["d", "case", "book"] (defScope s__law_change) := ⟨rfl, rfl, rfl, by decide +kernel, rfl, by decide +kernel, by decide +kernel⟩
theorem ok__law_change {f__law_change : Addr} {fd__law_change : FuncData} {f__law_take : Addr} {fd__law_take : FuncData} {k : Nat} (T : Txt K mg a_LINE_LIMIT a_CHANGE_LIMIT) (C__law_change : Cl K mg "_law_change" s__law_change f__law_change fd__law_change ["d", "case", "book"]) (C__law_take : Cl K mg "_law_take" s__law_take f__law_take fd__law_take ["d", "many"]) (G__law_take : FnOk P w K mg base CX0 (k) f__law_take fd__law_take ["d", "many"] (Fn2 K 2 F__law_take)) :
    FnOk P w K mg base CX0 (k + 1) f__law_change fd__law_change ["d", "case", "book"] (Fn2 K 3 F__law_change) := fn2_ok C__law_change.F sc__law_change fun cdv A outer s H E hr => by
  have hN := sc__law_change.nd
  have hu := units64 hr
  have hu1 := hu_of hr
  exact (ss_cons (s2_if (t2_cmp (op_eqP hu) ok_eq (e2_call G__law_take hr rfl C__law_take.m C__law_take.F.kp C__law_take.b (a2_cons (e2_var 0) (a2_cons e2_int a2_nil)) (cons_len (cons_len (nil_len (n := 0))))) e2_int (nomark _)) (ss_one (s2_ret (e2_tup (a2_cons e2_str (a2_cons (e2_call G__law_take hr rfl C__law_take.m C__law_take.F.kp C__law_take.b (a2_cons (e2_var 0) (a2_cons (e2_bin op_addD ok_add (e2_callB call_len2 ok_len rfl T.b_len PySem.boot_len (a2_cons (e2_sub hu1 (e2_sub hu1 (e2_var 1) e2_int (fun _ _ => rfl)) e2_int (fun _ _ => rfl)) a2_nil)) e2_int) a2_nil)) (cons_len (cons_len (nil_len (n := 0))))) (a2_cons (e2_call G__law_take hr rfl C__law_take.m C__law_take.F.kp C__law_take.b (a2_cons (e2_var 0) (a2_cons e2_int a2_nil)) (cons_len (cons_len (nil_len (n := 0))))) a2_nil)))))) ss_nil) (ss_one (s2_ret (e2_tup (a2_cons e2_str (a2_cons (e2_call G__law_take hr rfl C__law_take.m C__law_take.F.kp C__law_take.b (a2_cons (e2_var 0) (a2_cons (e2_bin op_addD ok_add (e2_callB call_len2 ok_len rfl T.b_len PySem.boot_len (a2_cons (e2_var 2) a2_nil)) e2_int) a2_nil)) (cons_len (cons_len (nil_len (n := 0))))) (a2_cons (e2_call G__law_take hr rfl C__law_take.m C__law_take.F.kp C__law_take.b (a2_cons (e2_var 0) (a2_cons e2_int a2_nil)) (cons_len (cons_len (nil_len (n := 0))))) a2_nil)))))))
theorem sc__law_due : FnScope n__law_due ["case", "book", "mend"] (defScope s__law_due) := ⟨rfl, rfl, rfl, by decide +kernel, rfl, by decide +kernel, by decide +kernel⟩
theorem ok__law_due {f__law_due : Addr} {fd__law_due : FuncData} {k : Nat} (T : Txt K mg a_LINE_LIMIT a_CHANGE_LIMIT) (C__law_due : Cl K mg "_law_due" s__law_due f__law_due fd__law_due ["case", "book", "mend"]) :
    FnOk P w K mg base CX0 (k + 1) f__law_due fd__law_due ["case", "book", "mend"] (Fn2 K 3 F__law_due) := fn2_ok C__law_due.F sc__law_due fun cdv A outer s H E hr => by
  have hN := sc__law_due.nd
  have hu := units64 hr
  have hu1 := hu_of hr
  exact (ss_cons (s2_if (t2_cmp op_gt ok_gt (e2_callB call_len2 ok_len rfl T.b_len PySem.boot_len (a2_cons (e2_var 2) a2_nil)) e2_int (nomark _)) (ss_one (s2_ret e2_str)) ss_nil) (ss_cons (s2_for PassesOwn.never rfl (i2_rng2 rfl T.b_range (a2_cons e2_int (a2_cons (e2_callB call_len2 ok_len rfl T.b_len PySem.boot_len (a2_cons (e2_var 2) a2_nil)) a2_nil))) (g2_name 3 hN) (ss_one (s2_if (w2_pt (w2_or (t2_not (t2_cmp (op_ltD hu) ok_ltG (e2_sub hu1 (e2_var 2) (e2_bin op_sub ok_sub (e2_var 3) e2_int) (fun _ _ => rfl)) (e2_sub hu1 (e2_var 2) (e2_var 3) (fun _ _ => rfl)) (nomark _))) (w2_or1 (t2_cmp (op_eqP hu) ok_eq (e2_slice (e2_sub hu1 (e2_var 2) (e2_bin op_sub ok_sub (e2_var 3) e2_int) (fun _ _ => rfl)) o2_none (o2_some e2_int)) (e2_slice (e2_sub hu1 (e2_var 2) (e2_var 3) (fun _ _ => rfl)) o2_none (o2_some e2_int)) (nomark _))))) (ss_one (s2_ret e2_str)) ss_nil))) (ss_cons (s2_own 4 hN (f2_toL rfl T.b_list (e2_var 1))) (ss_cons (s2_own 5 hN (f2_lst a2_nil)) (ss_cons (s2_for PassesOwn.never rfl (i2_tup (e2_var 2)) (g2_tup rfl (gs2_cons (g2_name 6 hN) (gs2_cons (g2_name 7 hN) (gs2_cons (g2_name 8 hN) gs2_nil)))) (ss_one (s2_if (t2_cmp (op_eqP hu) ok_eq (e2_var 6) e2_str (nomark _)) (ss_cons (s2_if (t2_cmp op_ge ok_ge (e2_var 7) (e2_callB call_len2 ok_len rfl T.b_len PySem.boot_len (a2_cons (e2_var 1) a2_nil)) (nomark _)) (ss_one (s2_ret e2_str)) ss_nil) (ss_cons (s2_if (t2_cmp op_ge ok_ge (e2_var 8) (e2_callB call_len2 ok_len rfl T.b_len PySem.boot_len (a2_cons (e2_sub hu1 (e2_sub hu1 (e2_var 0) e2_int (fun _ _ => rfl)) (e2_sub hu1 (e2_sub hu1 (e2_var 1) (e2_var 7) (fun _ _ => rfl)) e2_int (fun _ _ => rfl)) (fun _ _ => rfl)) a2_nil)) (nomark _)) (ss_one (s2_ret e2_str)) ss_nil) (ss_cons (s2_if (t2_cmp (op_eqP hu) ok_eq (e2_var 8) (e2_sub hu1 (e2_sub hu1 (e2_var 1) (e2_var 7) (fun _ _ => rfl)) e2_int (fun _ _ => rfl)) (nomark _)) (ss_one (s2_ret e2_str)) ss_nil) (ss_one (s2_put 4 hu1 (e2_bin op_addD ok_add (e2_slice (e2_sub hu1 (e2_var 1) (e2_var 7) (fun _ _ => rfl)) o2_none (o2_some e2_int)) (e2_tup (a2_cons (e2_var 8) a2_nil))) (e2_var 7)))))) (ss_cons (s2_if (t2_cmp op_ge ok_ge (e2_var 7) (e2_callB call_len2 ok_len rfl T.b_len PySem.boot_len (a2_cons (e2_sub hu1 (e2_sub hu1 (e2_var 0) e2_int (fun _ _ => rfl)) e2_int (fun _ _ => rfl)) a2_nil)) (nomark _)) (ss_one (s2_ret e2_str)) ss_nil) (ss_cons (s2_if (t2_cmp op_ge ok_ge (e2_var 8) (e2_callB call_len2 ok_len rfl T.b_len PySem.boot_len (a2_cons (e2_sub hu1 (e2_sub hu1 (e2_var 0) e2_int (fun _ _ => rfl)) (e2_var 7) (fun _ _ => rfl)) a2_nil)) (nomark _)) (ss_one (s2_ret e2_str)) ss_nil) (ss_one (s2_ownE 5 PySem.F.plainAttrs_list PySem.F.slot_list_append PySem.F.type_list_append mt_append own_append (a2_cons (e2_tup (a2_cons (e2_var 7) (a2_cons e2_non (a2_cons (e2_var 8) a2_nil)))) a2_nil)))))))) (ss_one (s2_frz 5 (s2_frz 4 (s2_ret (e2_if (t2_cmp op_gt ok_gt (e2_bin op_addD ok_add (e2_callB call_len2 ok_len rfl T.b_len PySem.boot_len (a2_cons (e2_var 4) a2_nil)) (e2_callB call_len2 ok_len rfl T.b_len PySem.boot_len (a2_cons (e2_var 5) a2_nil))) e2_int (nomark _)) e2_str (e2_callTy call_tuple_of ok_tup rfl T.b_tuple (by decide +kernel) (a2_cons (e2_bin op_addD ok_add (e2_var 4) (e2_var 5)) a2_nil))))))))))))
abbrev s__law_begin : Stmt := top 10
abbrev n__law_begin : List Str := ["script", "seed", "cell"]
theorem sc__law_begin : FnScope n__law_begin ["script"] (defScope s__law_begin) := ⟨rfl, rfl, rfl, by decide +kernel, rfl, by decide +kernel, by decide +kernel⟩
theorem ok__law_begin {f_ : Addr} {fd_ : FuncData} {k : Nat} (T : Txt K mg a_LINE_LIMIT a_CHANGE_LIMIT) (C : Cl K mg "_law_begin" s__law_begin f_ fd_ ["script"]) : FnOk P w K mg base CX0 (k + 1) f_ fd_ ["script"] (spBegin K) := by
  refine C.F.ok sc__law_begin (fun vs H Q E h => ?_) (fun cdv A outer s H vs Q E hr h => ?_)
  · obtain ⟨a, ns, rfl, _⟩ := h
    rfl
  obtain ⟨a, ns, rfl, hS, hl, q⟩ := h
  have hN := sc__law_begin.nd
  refine ⟨_, pss_cons (ps_set (i := 1) hN rfl (Or.inl rfl) pe_int)
    (pss_cons (ps_for PassesOwn.never rfl (pi_list (pv 0)) (pg_name (i := 2) hN rfl (Or.inl rfl))
      (pss_one (ps_set (i := 1) hN rfl (Or.inl rfl) (pe_op op_mod (pe_op op_add (pe_op op_add (pe_op op_mul (pv 1) pe_int) (pe_op op_mod (pe_callTy call_int1 rfl T.b_int (by decide +kernel) (pa_cons (pv 2) pa_nil)) pe_int)) pe_int) pe_int))))
    (pss_one (ps_ret (pe_lst (pa_cons (pe_callTy call_list_of rfl T.b_list (by decide +kernel) (pa_cons (pv 0) pa_nil)) (pa_cons pe_int (pa_cons pe_int (pa_cons (pv 1) pa_nil)))))))), ?_⟩
  refine ⟨_, rfl, a, rfl, ⟨_, hS⟩, for_list (K := K) (a := a) (xs := ns.map V.int) (fun i σ H2 => ∃ (seed : Int) (v : Option V), σ = [some (.ref a), some (.int seed), v] ∧ H2 = H ∧ 0 ≤ seed ∧ seed < 2147483647)
    ⟨1, none, rfl, rfl, by decide, by decide⟩ (fun i σ H2 _ ⟨_, _, _, e, _⟩ => e ▸ hS) ?_ ?_⟩
  · rintro i y σ H2 hi ⟨seed, v, rfl, rfl, hs⟩
    obtain ⟨z, rfl⟩ := sqL_ints hS hi
    exact ⟨_, rfl, _, _, rfl, rfl, (.inr ⟨by decide, by decide⟩), _, rfl, .inl ⟨_, rfl, _, _, rfl, rfl, (by show (0 : Int) < 2147483629; decide), _, _, rfl, rfl, _, _, rfl, rfl, _, _, rfl, rfl, (by show (0 : Int) < 2147483647; decide), _, _, rfl, rfl, Int.emod_nonneg _ (by decide), Int.emod_lt_of_pos _ (by decide)⟩⟩
  · rintro σ H2 ⟨seed, v, rfl, rfl, hs⟩
    refine ⟨_, rfl, a, _, rfl, .inl hS, fun l hl' => ⟨_, rfl, (by show 4 ≤ sizeLine; decide), fun p hp => ?_⟩⟩
    have npl : p ≠ l := fun z => by subst z; rw [upd_same] at hp; cases hp
    have hpH : H2 p = none := by rw [upd_ne npl] at hp; exact hp
    exact q p l seed _ hs.1 hs.2 npl ((Evo.new hl').trans (Evo.new hp)) upd_same (by rw [upd_ne npl.symm]; exact upd_same)
theorem sc_law : FnScope n_law ["script"] (defScope s_law) := ⟨rfl, rfl, rfl, by decide +kernel, rfl, by decide +kernel, by decide +kernel⟩
theorem ok_law {f_law : Addr} {fd_law : FuncData} {f__law_begin : Addr} {fd__law_begin : FuncData} {f__law_book : Addr} {fd__law_book : FuncData} {f__law_case : Addr} {fd__law_case : FuncData} {f__law_change : Addr} {fd__law_change : FuncData} {f__law_due : Addr} {fd__law_due : FuncData} {f__law_take : Addr} {fd__law_take : FuncData} {f__law_told : Addr} {fd__law_told : FuncData} {k : Nat} (T : Txt K mg a_LINE_LIMIT a_CHANGE_LIMIT) (C_law : Cl K mg "law" s_law f_law fd_law ["script"]) (C__law_begin : Cl K mg "_law_begin" s__law_begin f__law_begin fd__law_begin ["script"]) (G__law_begin : FnOk P w K mg base CX0 k f__law_begin fd__law_begin ["script"] (spBegin K)) (C__law_book : Cl K mg "_law_book" s__law_book f__law_book fd__law_book ["d", "case", "sure"]) (C__law_case : Cl K mg "_law_case" s__law_case f__law_case fd__law_case ["d", "days"]) (C__law_change : Cl K mg "_law_change" s__law_change f__law_change fd__law_change ["d", "case", "book"]) (C__law_due : Cl K mg "_law_due" s__law_due f__law_due fd__law_due ["case", "book", "mend"]) (C__law_take : Cl K mg "_law_take" s__law_take f__law_take fd__law_take ["d", "many"]) (C__law_told : Cl K mg "_law_told" s__law_told f__law_told fd__law_told ["case", "book", "mend"]) (G__law_book : FnOk P w K mg base CX0 (k) f__law_book fd__law_book ["d", "case", "sure"] (Fn2 K 3 F__law_book)) (G__law_case : FnOk P w K mg base CX0 (k) f__law_case fd__law_case ["d", "days"] (Fn2 K 2 F__law_case)) (G__law_change : FnOk P w K mg base CX0 (k) f__law_change fd__law_change ["d", "case", "book"] (Fn2 K 3 F__law_change)) (G__law_due : FnOk P w K mg base CX0 (k) f__law_due fd__law_due ["case", "book", "mend"] (Fn2 K 3 F__law_due)) (G__law_take : FnOk P w K mg base CX0 (k) f__law_take fd__law_take ["d", "many"] (Fn2 K 2 F__law_take)) (G__law_told : FnOk P w K mg base CX0 (k) f__law_told fd__law_told ["case", "book", "mend"] (Fn2 K 3 F__law_told)) (fin : ∀ (ns : List Int) (seed : Int), ns.length ≤ 63 → 0 ≤ seed → seed < 2147483647 → ∃ sg S, m_law (lawS 9) [drawer ns seed] = .ok (.rt (.bl true), sg, S)) :
    FnOk P w K mg base CX0 (k + 1) f_law fd_law ["script"] (spLaw K) := by
  refine C_law.F.ok sc_law (fun vs H Q E h => ?_) (fun cdv A outer s H vs Q E hr h => ?_)
  · obtain ⟨a, ns, rfl, _⟩ := h
    rfl
  obtain ⟨a, ns, rfl, hS, hl, htb, q⟩ := h
  have hN := sc_law.nd
  have hu := units64 hr
  have hu1 := hu_of hr
  have rest : PSs2 (cxOf CX0 P w K mg base n_law "law" (defScope s_law) f_law cdv A outer s H E).nox W0 ((defBody s_law).drop 1) m_law := by
    exact (ss_cons (s2_set 2 hN (e2_call G__law_case hr rfl C__law_case.m C__law_case.F.kp C__law_case.b (a2_cons (e2_var 1) (a2_cons (e2_bin op_addD ok_add e2_int (e2_call G__law_take hr rfl C__law_take.m C__law_take.F.kp C__law_take.b (a2_cons (e2_var 1) (a2_cons e2_int a2_nil)) (cons_len (cons_len (nil_len (n := 0)))))) a2_nil)) (cons_len (cons_len (nil_len (n := 0)))))) (ss_cons (s2_set 3 hN (e2_call G__law_book hr rfl C__law_book.m C__law_book.F.kp C__law_book.b (a2_cons (e2_var 1) (a2_cons (e2_var 2) (a2_cons e2_bl a2_nil))) (cons_len (cons_len (cons_len (nil_len (n := 0))))))) (ss_cons (s2_if (w2_pt (w2_and (t2_cmp op_gt ok_gt (e2_callB call_len2 ok_len rfl T.b_len PySem.boot_len (a2_cons (e2_var 3) a2_nil)) e2_int (nomark _)) (w2_and1 (t2_cmp (op_eqP hu) ok_eq (e2_call G__law_take hr rfl C__law_take.m C__law_take.F.kp C__law_take.b (a2_cons (e2_var 1) (a2_cons e2_int a2_nil)) (cons_len (cons_len (nil_len (n := 0))))) e2_int (nomark _))))) (ss_one (s2_set 3 hN (e2_slice (e2_bin op_mulT ok_mulT (e2_var 3) e2_int) o2_none (o2_some (e2_bin op_addD ok_add e2_int (e2_call G__law_take hr rfl C__law_take.m C__law_take.F.kp C__law_take.b (a2_cons (e2_var 1) (a2_cons e2_int a2_nil)) (cons_len (cons_len (nil_len (n := 0)))))))))) ss_nil) (ss_cons (s2_set 4 hN (e2_bin op_addD ok_add e2_int (e2_call G__law_take hr rfl C__law_take.m C__law_take.F.kp C__law_take.b (a2_cons (e2_var 1) (a2_cons e2_int a2_nil)) (cons_len (cons_len (nil_len (n := 0))))))) (ss_cons (s2_set 5 hN (e2_bin op_mulT ok_mulT (e2_tup (a2_cons (e2_tup (a2_cons e2_int (a2_cons e2_non (a2_cons e2_int a2_nil)))) a2_nil)) (e2_var 4))) (ss_cons (s2_for PassesOwn.never rfl (i2_rng1 rfl T.b_range (a2_cons (e2_bin op_addD ok_add (e2_callB (call_min2 rfl) ok_min2 rfl T.b_min (by decide +kernel) (a2_cons e2_int (a2_cons (e2_callB call_len2 ok_len rfl T.b_len PySem.boot_len (a2_cons (e2_sub hu1 (e2_sub hu1 (e2_var 2) e2_int (fun _ _ => rfl)) e2_int (fun _ _ => rfl)) a2_nil)) a2_nil))) e2_int) a2_nil)) (g2_name 6 hN) (ss_cons (s2_set 7 hN (e2_callTy call_tuple_of ok_tup rfl T.b_tuple (by decide +kernel) (a2_cons (e2_ofO (f2_lc [("day", 9)] rfl hN (i2_rng1 rfl T.b_range (a2_cons (e2_var 6) a2_nil)) (blkOk_by (own := [("day", 9)]) (by show blkC n_law (defScope s_law) _ _ = true; decide +kernel)) (fun _ _ _ _ _ => (g2_name 9 hN)) (fun _ _ _ _ _ => ts2_nil) (fun _ _ _ _ _ => (e2_tup (a2_cons e2_str (a2_cons (e2_var 9) (a2_cons e2_int a2_nil))))))) a2_nil))) (ss_one (s2_if (t2_cmp (op_neP hu) ok_ne (e2_call G__law_told hr rfl C__law_told.m C__law_told.F.kp C__law_told.b (a2_cons (e2_var 2) (a2_cons (e2_var 5) (a2_cons (e2_var 7) a2_nil))) (cons_len (cons_len (cons_len (nil_len (n := 0)))))) (e2_call G__law_due hr rfl C__law_due.m C__law_due.F.kp C__law_due.b (a2_cons (e2_var 2) (a2_cons (e2_var 5) (a2_cons (e2_var 7) a2_nil))) (cons_len (cons_len (cons_len (nil_len (n := 0)))))) (nomark _)) (ss_one (s2_ret e2_bl)) ss_nil)))) (ss_cons (s2_for PassesOwn.never rfl (i2_rng1 rfl T.b_range (a2_cons e2_int a2_nil)) (g2_name 8 hN) (ss_cons (s2_letGo 7 (s2_ownLc 7 [("j", 10)] rfl hN rfl rfl (sw_true rfl rfl rfl (by decide +kernel)) (i2_rng1 rfl T.b_range (a2_cons (e2_call G__law_take hr rfl C__law_take.m C__law_take.F.kp C__law_take.b (a2_cons (e2_var 1) (a2_cons e2_int a2_nil)) (cons_len (cons_len (nil_len (n := 0))))) a2_nil)) (blkOk_by (own := [("j", 10)]) (by show blkC n_law (defScope s_law) _ _ = true; decide +kernel)) (fun _ _ _ _ _ => (g2_name 10 hN)) (fun _ _ _ _ _ => ts2_nil) (fun _ _ _ _ _ => (e2_call G__law_change hr rfl C__law_change.m C__law_change.F.kp C__law_change.b (a2_cons (e2_var 1) (a2_cons (e2_var 2) (a2_cons (e2_var 3) a2_nil))) (cons_len (cons_len (cons_len (nil_len (n := 0))))))))) (ss_cons (s2_if (t2_cmp op_gt ok_gt (e2_call G__law_take hr rfl C__law_take.m C__law_take.F.kp C__law_take.b (a2_cons (e2_var 1) (a2_cons e2_int a2_nil)) (cons_len (cons_len (nil_len (n := 0))))) e2_int (nomark _)) (ss_one (s2_set 7 hN (e2_callB (cr_sortG rfl hu) ok_sortG rfl T.b_sorted (by decide +kernel) (a2_cons (e2_var 7) a2_nil)))) ss_nil) (ss_one (s2_if (t2_cmp (op_neP hu) ok_ne (e2_call G__law_told hr rfl C__law_told.m C__law_told.F.kp C__law_told.b (a2_cons (e2_var 2) (a2_cons (e2_var 3) (a2_cons (e2_callTy call_tuple_of ok_tup rfl T.b_tuple (by decide +kernel) (a2_cons (e2_var 7) a2_nil)) a2_nil))) (cons_len (cons_len (cons_len (nil_len (n := 0)))))) (e2_call G__law_due hr rfl C__law_due.m C__law_due.F.kp C__law_due.b (a2_cons (e2_var 2) (a2_cons (e2_var 3) (a2_cons (e2_callTy call_tuple_of ok_tup rfl T.b_tuple (by decide +kernel) (a2_cons (e2_var 7) a2_nil)) a2_nil))) (cons_len (cons_len (cons_len (nil_len (n := 0)))))) (nomark _)) (ss_one (s2_ret e2_bl)) ss_nil))))) (ss_one (s2_ret e2_bl)))))))))
  obtain ⟨t, pt, sim⟩ := rest
  refine ⟨_, pss_cons (ps_set (i := 1) hN rfl (by first | exact Or.inl rfl | exact Or.inr rfl) (pe_call G__law_begin hr rfl C__law_begin.m C__law_begin.F.kp C__law_begin.b .nil pass0 (pa_cons (pv 0) pa_nil))) pt, ?_⟩
  refine ⟨_, rfl, a, ns, rfl, hS, hl, fun p q0 seed H' h0 h1 npq ev hp hq => ?_⟩
  obtain ⟨sg', S', e⟩ := fin ns seed hl h0 h1
  refine sim (· = p) H' [p] [] _ _ _ _ H' _ (rl_law (n := 9) rfl rfl npq hp hq fun z hz => ev.tabs _ _ hz (htb z hz)) ?_
  rw [e]
  intro v H2 _ _ r
  have r' : v = .bl true := r
  subst r'
  exact q H2
end
theorem all_mk {l : PySem.W.OpenLaw} {w : World} {K : PySem.W.Frag} {h : Heap} {mg : Str → Option Value} {fa : Addr} {a_LINE_LIMIT : Tok} {a_CHANGE_LIMIT : Tok} (X : K.In h) (G : h.Ns mainGlobals mg) (hfa : mg "law" = some (.ref fa))
    {f0 : Addr} {od0 an0 : Option Addr} {sl0 : Array (Option Value)} {oc0 kV0 dc0 pm0 cd0 ct0 : Value}
    {f1 : Addr} {od1 an1 : Option Addr} {sl1 : Array (Option Value)} {oc1 kV1 dc1 pm1 cd1 ct1 : Value}
    {f2 : Addr} {od2 an2 : Option Addr} {sl2 : Array (Option Value)} {oc2 kV2 dc2 pm2 cd2 ct2 : Value}
    {f3 : Addr} {od3 an3 : Option Addr} {sl3 : Array (Option Value)} {oc3 kV3 dc3 pm3 cd3 ct3 : Value}
    {f4 : Addr} {od4 an4 : Option Addr} {sl4 : Array (Option Value)} {oc4 kV4 dc4 pm4 cd4 ct4 : Value}
    {f5 : Addr} {od5 an5 : Option Addr} {sl5 : Array (Option Value)} {oc5 kV5 dc5 pm5 cd5 ct5 : Value}
    {f6 : Addr} {od6 an6 : Option Addr} {sl6 : Array (Option Value)} {oc6 kV6 dc6 pm6 cd6 ct6 : Value}
    {f7 : Addr} {od7 an7 : Option Addr} {sl7 : Array (Option Value)} {oc7 kV7 dc7 pm7 cd7 ct7 : Value}
    {f8 : Addr} {od8 an8 : Option Addr} {sl8 : Array (Option Value)} {oc8 kV8 dc8 pm8 cd8 ct8 : Value}
    {f9 : Addr} {od9 an9 : Option Addr} {sl9 : Array (Option Value)} {oc9 kV9 dc9 pm9 cd9 ct9 : Value}
    {f10 : Addr} {od10 an10 : Option Addr} {sl10 : Array (Option Value)} {oc10 kV10 dc10 pm10 cd10 ct10 : Value}
    {f11 : Addr} {od11 an11 : Option Addr} {sl11 : Array (Option Value)} {oc11 kV11 dc11 pm11 cd11 ct11 : Value}
    {f12 : Addr} {od12 an12 : Option Addr} {sl12 : Array (Option Value)} {oc12 kV12 dc12 pm12 cd12 ct12 : Value}
    {f13 : Addr} {od13 an13 : Option Addr} {sl13 : Array (Option Value)} {oc13 kV13 dc13 pm13 cd13 ct13 : Value}
    {f14 : Addr} {od14 an14 : Option Addr} {sl14 : Array (Option Value)} {oc14 kV14 dc14 pm14 cd14 ct14 : Value}
    (a0 : PySem.W.nsIn K mainGlobals "_law_begin" = some (some (.ref f0))) (l0 : K.lookup f0 = some ⟨oc0, od0, .func (PySem.W.fnOf "_law_begin" "_law_begin" (defArgs s__law_begin) (defBody s__law_begin) (defScope s__law_begin) .none kV0 dc0 pm0 an0 cd0 ct0), sl0⟩) (c0 : PySem.W.codeIn K cd0 "_law_begin" = true) (k0 : PySem.W.keepIn K (.ref f0) = true)
    (a1 : PySem.W.nsIn K mainGlobals "_check_change" = some (some (.ref f1))) (l1 : K.lookup f1 = some ⟨oc1, od1, .func (PySem.W.fnOf "_check_change" "_check_change" (defArgs s__check_change) (defBody s__check_change) (defScope s__check_change) .none kV1 dc1 pm1 an1 cd1 ct1), sl1⟩) (c1 : PySem.W.codeIn K cd1 "_check_change" = true) (k1 : PySem.W.keepIn K (.ref f1) = true)
    (a2 : PySem.W.nsIn K mainGlobals "_with_change" = some (some (.ref f2))) (l2 : K.lookup f2 = some ⟨oc2, od2, .func (PySem.W.fnOf "_with_change" "_with_change" (defArgs s__with_change) (defBody s__with_change) (defScope s__with_change) .none kV2 dc2 pm2 an2 cd2 ct2), sl2⟩) (c2 : PySem.W.codeIn K cd2 "_with_change" = true) (k2 : PySem.W.keepIn K (.ref f2) = true)
    (a3 : PySem.W.nsIn K mainGlobals "mended" = some (some (.ref f3))) (l3 : K.lookup f3 = some ⟨oc3, od3, .func (PySem.W.fnOf "mended" "mended" (defArgs s_mended) (defBody s_mended) (defScope s_mended) .none kV3 dc3 pm3 an3 cd3 ct3), sl3⟩) (c3 : PySem.W.codeIn K cd3 "mended" = true) (k3 : PySem.W.keepIn K (.ref f3) = true)
    (a4 : PySem.W.nsIn K mainGlobals "_law_take" = some (some (.ref f4))) (l4 : K.lookup f4 = some ⟨oc4, od4, .func (PySem.W.fnOf "_law_take" "_law_take" (defArgs s__law_take) (defBody s__law_take) (defScope s__law_take) .none kV4 dc4 pm4 an4 cd4 ct4), sl4⟩) (c4 : PySem.W.codeIn K cd4 "_law_take" = true) (k4 : PySem.W.keepIn K (.ref f4) = true)
    (a5 : PySem.W.nsIn K mainGlobals "_law_some" = some (some (.ref f5))) (l5 : K.lookup f5 = some ⟨oc5, od5, .func (PySem.W.fnOf "_law_some" "_law_some" (defArgs s__law_some) (defBody s__law_some) (defScope s__law_some) .none kV5 dc5 pm5 an5 cd5 ct5), sl5⟩) (c5 : PySem.W.codeIn K cd5 "_law_some" = true) (k5 : PySem.W.keepIn K (.ref f5) = true)
    (a6 : PySem.W.nsIn K mainGlobals "_law_film" = some (some (.ref f6))) (l6 : K.lookup f6 = some ⟨oc6, od6, .func (PySem.W.fnOf "_law_film" "_law_film" (defArgs s__law_film) (defBody s__law_film) (defScope s__law_film) .none kV6 dc6 pm6 an6 cd6 ct6), sl6⟩) (c6 : PySem.W.codeIn K cd6 "_law_film" = true) (k6 : PySem.W.keepIn K (.ref f6) = true)
    (a7 : PySem.W.nsIn K mainGlobals "_law_sheet" = some (some (.ref f7))) (l7 : K.lookup f7 = some ⟨oc7, od7, .func (PySem.W.fnOf "_law_sheet" "_law_sheet" (defArgs s__law_sheet) (defBody s__law_sheet) (defScope s__law_sheet) .none kV7 dc7 pm7 an7 cd7 ct7), sl7⟩) (c7 : PySem.W.codeIn K cd7 "_law_sheet" = true) (k7 : PySem.W.keepIn K (.ref f7) = true)
    (a8 : PySem.W.nsIn K mainGlobals "_law_case" = some (some (.ref f8))) (l8 : K.lookup f8 = some ⟨oc8, od8, .func (PySem.W.fnOf "_law_case" "_law_case" (defArgs s__law_case) (defBody s__law_case) (defScope s__law_case) .none kV8 dc8 pm8 an8 cd8 ct8), sl8⟩) (c8 : PySem.W.codeIn K cd8 "_law_case" = true) (k8 : PySem.W.keepIn K (.ref f8) = true)
    (a9 : PySem.W.nsIn K mainGlobals "_law_test" = some (some (.ref f9))) (l9 : K.lookup f9 = some ⟨oc9, od9, .func (PySem.W.fnOf "_law_test" "_law_test" (defArgs s__law_test) (defBody s__law_test) (defScope s__law_test) .none kV9 dc9 pm9 an9 cd9 ct9), sl9⟩) (c9 : PySem.W.codeIn K cd9 "_law_test" = true) (k9 : PySem.W.keepIn K (.ref f9) = true)
    (a10 : PySem.W.nsIn K mainGlobals "_law_book" = some (some (.ref f10))) (l10 : K.lookup f10 = some ⟨oc10, od10, .func (PySem.W.fnOf "_law_book" "_law_book" (defArgs s__law_book) (defBody s__law_book) (defScope s__law_book) .none kV10 dc10 pm10 an10 cd10 ct10), sl10⟩) (c10 : PySem.W.codeIn K cd10 "_law_book" = true) (k10 : PySem.W.keepIn K (.ref f10) = true)
    (a11 : PySem.W.nsIn K mainGlobals "_law_told" = some (some (.ref f11))) (l11 : K.lookup f11 = some ⟨oc11, od11, .func (PySem.W.fnOf "_law_told" "_law_told" (defArgs s__law_told) (defBody s__law_told) (defScope s__law_told) .none kV11 dc11 pm11 an11 cd11 ct11), sl11⟩) (c11 : PySem.W.codeIn K cd11 "_law_told" = true) (k11 : PySem.W.keepIn K (.ref f11) = true)
    (a12 : PySem.W.nsIn K mainGlobals "_law_change" = some (some (.ref f12))) (l12 : K.lookup f12 = some ⟨oc12, od12, .func (PySem.W.fnOf "_law_change" "_law_change" (defArgs s__law_change) (defBody s__law_change) (defScope s__law_change) .none kV12 dc12 pm12 an12 cd12 ct12), sl12⟩) (c12 : PySem.W.codeIn K cd12 "_law_change" = true) (k12 : PySem.W.keepIn K (.ref f12) = true)
    (a13 : PySem.W.nsIn K mainGlobals "_law_due" = some (some (.ref f13))) (l13 : K.lookup f13 = some ⟨oc13, od13, .func (PySem.W.fnOf "_law_due" "_law_due" (defArgs s__law_due) (defBody s__law_due) (defScope s__law_due) .none kV13 dc13 pm13 an13 cd13 ct13), sl13⟩) (c13 : PySem.W.codeIn K cd13 "_law_due" = true) (k13 : PySem.W.keepIn K (.ref f13) = true)
    (a14 : PySem.W.nsIn K mainGlobals "law" = some (some (.ref f14))) (l14 : K.lookup f14 = some ⟨oc14, od14, .func (PySem.W.fnOf "law" "law" (defArgs s_law) (defBody s_law) (defScope s_law) .none kV14 dc14 pm14 an14 cd14 ct14), sl14⟩) (c14 : PySem.W.codeIn K cd14 "law" = true) (k14 : PySem.W.keepIn K (.ref f14) = true)
    (zb_abs : PySem.W.nsIn K mainGlobals "abs" = some none)
    (zb_int : PySem.W.nsIn K mainGlobals "int" = some none)
    (zb_len : PySem.W.nsIn K mainGlobals "len" = some none)
    (zb_list : PySem.W.nsIn K mainGlobals "list" = some none)
    (zb_min : PySem.W.nsIn K mainGlobals "min" = some none)
    (zb_range : PySem.W.nsIn K mainGlobals "range" = some none)
    (zb_set : PySem.W.nsIn K mainGlobals "set" = some none)
    (zb_sorted : PySem.W.nsIn K mainGlobals "sorted" = some none)
    (zb_str : PySem.W.nsIn K mainGlobals "str" = some none)
    (zb_tuple : PySem.W.nsIn K mainGlobals "tuple" = some none)
    {C_CallError : Addr} (xa_CallError : PySem.W.nsIn K mainGlobals "CallError" = some (some (.ref C_CallError)))
    {C_MendError : Addr} (xa_MendError : PySem.W.nsIn K mainGlobals "MendError" = some (some (.ref C_MendError)))
    {fi_CallError : Addr} {odi_CallError ani_CallError : Option Addr} {sli_CallError : Array (Option Value)} {oci_CallError kVi_CallError dci_CallError pmi_CallError cdi_CallError cti_CallError : Value}
    (xI_CallError : PySem.W.findIn K (.ref C_CallError) "__init__" = some (some (.ref fi_CallError))) (li_CallError : K.lookup fi_CallError = some ⟨oci_CallError, odi_CallError, .func (PySem.W.fnOf "__init__" "CallError.__init__" (defArgs s_ini_CallError) (defBody s_ini_CallError) (defScope s_ini_CallError) .none kVi_CallError dci_CallError pmi_CallError ani_CallError cdi_CallError cti_CallError), sli_CallError⟩) (ci_CallError : PySem.W.codeIn K cdi_CallError "CallError.__init__" = true) (ki_CallError : PySem.W.keepIn K (.ref fi_CallError) = true) (ti_CallError : PySem.W.typeIn K (.ref fi_CallError) = some (.type "function"))
    {nm_MendError q_MendError : Str} {N_MendError : Addr} {bs_MendError : List Value} {sn_MendError : List Str} {sub_MendError : List Value} {ab_MendError : Bool} {col_MendError : Option Bool} {dd_MendError : Option Addr} {m0_MendError m1_MendError m2_MendError m3_MendError m5_MendError : Option Value}
    (xl_MendError : K.lookup C_MendError = some (excClassObj nm_MendError q_MendError C_MendError N_MendError bs_MendError [.ref C_CallError, .type "ValueError", .type "Exception", .type "BaseException", .type "object"] true sn_MendError sub_MendError ab_MendError col_MendError dd_MendError m0_MendError m1_MendError m2_MendError m3_MendError m5_MendError "ValueError.__new__"))
    (xs_MendError : PySem.W.findIn K (.ref C_MendError) "__setattr__" = some (some (.builtin "object.__setattr__"))) (xg_MendError : PySem.W.findIn K (.ref C_MendError) "__getattribute__" = some (some (.builtin "BaseException.__getattribute__"))) (xh_MendError : PySem.W.findIn K (.ref C_MendError) "__getattr__" = some none)
    (xn_MendError_code : PySem.W.findIn K (.ref C_MendError) "code" = some none)
    (xi_MendError : PySem.W.findIn K (.ref C_MendError) "__init__" = some (some (.ref fi_CallError)))
    (xk_MendError : PySem.W.keepIn K (.ref C_MendError) = true) (xe_MendError : PySem.W.subIn K (.ref C_MendError) (.type "BaseException") = some true) (xy_MendError : PySem.W.typeIn K (.ref C_MendError) = some (.type "type")) (xd_MendError : PySem.W.hasDictIn K C_MendError = true) (xc_MendError : PySem.W.isClsIn K C_MendError = true) (xz_MendError : PySem.W.subIn K (.ref C_MendError) (.ref C_MendError) = some true)
    (zg_LINE_LIMIT : PySem.W.nsIn K mainGlobals "LINE_LIMIT" = some (some (.int (60) a_LINE_LIMIT)))
    (zg_CHANGE_LIMIT : PySem.W.nsIn K mainGlobals "CHANGE_LIMIT" = some (some (.int (3) a_CHANGE_LIMIT)))
    (fin : ∀ (ns : List Int) (seed : Int), ns.length ≤ 63 → 0 ≤ seed → seed < 2147483647 → ∃ sg S, m_law (lawS 9) [drawer ns seed] = .ok (.rt (.bl true), sg, S)) :
    ∃ fd : FuncData, (∀ (s : Shared) (v : Value), BindsTo s fd ⟨[v], []⟩ [("script", v)]) ∧ ∀ base : Heap, K.In base → base.Ns mainGlobals mg → FnOk l.prog w K mg base CX0 6 fa fd ["script"] (spLaw K) := by
  have e := hfa.symm.trans (PySem.W.mg_of X G a14)
  cases e
  have T : Txt K mg a_LINE_LIMIT a_CHANGE_LIMIT := ⟨PySem.W.mg_none_of X G zb_abs, PySem.W.mg_none_of X G zb_int, PySem.W.mg_none_of X G zb_len, PySem.W.mg_none_of X G zb_list, PySem.W.mg_none_of X G zb_min, PySem.W.mg_none_of X G zb_range, PySem.W.mg_none_of X G zb_set, PySem.W.mg_none_of X G zb_sorted, PySem.W.mg_none_of X G zb_str, PySem.W.mg_none_of X G zb_tuple, PySem.W.mg_of X G zg_LINE_LIMIT, PySem.W.mg_of X G zg_CHANGE_LIMIT⟩
  have F0 := fun_mk (st := s__law_begin) l0 c0 k0
  have C0 : Cl K mg "_law_begin" s__law_begin _ _ ["script"] := ⟨PySem.W.mg_of X G a0, F0, F0.binds (ps := ["script"]) fun _ _ _ _ _ _ us hl => match us, hl with | [_], _ => rfl⟩
  have F1 := fun_mk (st := s__check_change) l1 c1 k1
  have C1 : Cl K mg "_check_change" s__check_change _ _ ["case", "book", "change"] := ⟨PySem.W.mg_of X G a1, F1, F1.binds (ps := ["case", "book", "change"]) fun _ _ _ _ _ _ us hl => match us, hl with | [_, _, _], _ => rfl⟩
  have F2 := fun_mk (st := s__with_change) l2 c2 k2
  have C2 : Cl K mg "_with_change" s__with_change _ _ ["draft", "change"] := ⟨PySem.W.mg_of X G a2, F2, F2.binds (ps := ["draft", "change"]) fun _ _ _ _ _ _ us hl => match us, hl with | [_, _], _ => rfl⟩
  have F3 := fun_mk (st := s_mended) l3 c3 k3
  have C3 : Cl K mg "mended" s_mended _ _ ["case", "book", "mend"] := ⟨PySem.W.mg_of X G a3, F3, F3.binds (ps := ["case", "book", "mend"]) fun _ _ _ _ _ _ us hl => match us, hl with | [_, _, _], _ => rfl⟩
  have F4 := fun_mk (st := s__law_take) l4 c4 k4
  have C4 : Cl K mg "_law_take" s__law_take _ _ ["d", "many"] := ⟨PySem.W.mg_of X G a4, F4, F4.binds (ps := ["d", "many"]) fun _ _ _ _ _ _ us hl => match us, hl with | [_, _], _ => rfl⟩
  have F5 := fun_mk (st := s__law_some) l5 c5 k5
  have C5 : Cl K mg "_law_some" s__law_some _ _ ["d", "many"] := ⟨PySem.W.mg_of X G a5, F5, F5.binds (ps := ["d", "many"]) fun _ _ _ _ _ _ us hl => match us, hl with | [_, _], _ => rfl⟩
  have F6 := fun_mk (st := s__law_film) l6 c6 k6
  have C6 : Cl K mg "_law_film" s__law_film _ _ ["d", "scenes"] := ⟨PySem.W.mg_of X G a6, F6, F6.binds (ps := ["d", "scenes"]) fun _ _ _ _ _ _ us hl => match us, hl with | [_, _], _ => rfl⟩
  have F7 := fun_mk (st := s__law_sheet) l7 c7 k7
  have C7 : Cl K mg "_law_sheet" s__law_sheet _ _ ["d", "scenes", "whole"] := ⟨PySem.W.mg_of X G a7, F7, F7.binds (ps := ["d", "scenes", "whole"]) fun _ _ _ _ _ _ us hl => match us, hl with | [_, _, _], _ => rfl⟩
  have F8 := fun_mk (st := s__law_case) l8 c8 k8
  have C8 : Cl K mg "_law_case" s__law_case _ _ ["d", "days"] := ⟨PySem.W.mg_of X G a8, F8, F8.binds (ps := ["d", "days"]) fun _ _ _ _ _ _ us hl => match us, hl with | [_, _], _ => rfl⟩
  have F9 := fun_mk (st := s__law_test) l9 c9 k9
  have C9 : Cl K mg "_law_test" s__law_test _ _ ["d", "case"] := ⟨PySem.W.mg_of X G a9, F9, F9.binds (ps := ["d", "case"]) fun _ _ _ _ _ _ us hl => match us, hl with | [_, _], _ => rfl⟩
  have F10 := fun_mk (st := s__law_book) l10 c10 k10
  have C10 : Cl K mg "_law_book" s__law_book _ _ ["d", "case", "sure"] := ⟨PySem.W.mg_of X G a10, F10, F10.binds (ps := ["d", "case", "sure"]) fun _ _ _ _ _ _ us hl => match us, hl with | [_, _, _], _ => rfl⟩
  have F11 := fun_mk (st := s__law_told) l11 c11 k11
  have C11 : Cl K mg "_law_told" s__law_told _ _ ["case", "book", "mend"] := ⟨PySem.W.mg_of X G a11, F11, F11.binds (ps := ["case", "book", "mend"]) fun _ _ _ _ _ _ us hl => match us, hl with | [_, _, _], _ => rfl⟩
  have F12 := fun_mk (st := s__law_change) l12 c12 k12
  have C12 : Cl K mg "_law_change" s__law_change _ _ ["d", "case", "book"] := ⟨PySem.W.mg_of X G a12, F12, F12.binds (ps := ["d", "case", "book"]) fun _ _ _ _ _ _ us hl => match us, hl with | [_, _, _], _ => rfl⟩
  have F13 := fun_mk (st := s__law_due) l13 c13 k13
  have C13 : Cl K mg "_law_due" s__law_due _ _ ["case", "book", "mend"] := ⟨PySem.W.mg_of X G a13, F13, F13.binds (ps := ["case", "book", "mend"]) fun _ _ _ _ _ _ us hl => match us, hl with | [_, _, _], _ => rfl⟩
  have F14 := fun_mk (st := s_law) l14 c14 k14
  have C14 : Cl K mg "law" s_law _ _ ["script"] := ⟨PySem.W.mg_of X G a14, F14, F14.binds (ps := ["script"]) fun _ _ _ _ _ _ us hl => match us, hl with | [_], _ => rfl⟩
  refine ⟨PySem.W.fnOf "law" "law" (defArgs s_law) (defBody s_law) (defScope s_law) .none kV14 dc14 pm14 an14 cd14 ct14, fun s v => .of_eq rfl, fun base _ _ => ?_⟩
  have G0 := ok__law_begin (P := l.prog) (w := w) (base := base) (k := 0) T C0
  have FI_CallError := fun_mk (st := s_ini_CallError) li_CallError ci_CallError ki_CallError
  have GI_CallError := ok_ini_CallError (P := l.prog) (w := w) (mg := mg) (base := base) (k := 0) FI_CallError
  have X_MendError : ExCl K mg "MendError" C_MendError fi_CallError _ ["code"] ["self", "code"] := { gm := PySem.W.mg_of X G xa_MendError, oe := ⟨⟨_, _, _, _, _, _, _, _, _, _, _, _, _, _, _, xl_MendError, by first | decide +kernel | rfl⟩, xs_MendError, xe_MendError, xy_MendError, xk_MendError⟩, nf := (by intro n hn; simp only [List.mem_cons, List.not_mem_nil, or_false] at hn; subst hn; exact xn_MendError_code), iC := xi_MendError, tI := ti_CallError, b := FI_CallError.binds (ps := ["self", "code"]) fun _ _ _ _ _ _ us hl => match us, hl with | [_, _], _ => rfl, ef := ⟨xg_MendError, xh_MendError, xe_MendError, xd_MendError⟩, te := exm_own xe_MendError xc_MendError xy_MendError xz_MendError }
  have G1 := ok__check_change (P := l.prog) (w := w) (base := base) (k := 1) T C1 X_MendError (GI_CallError.mono (by decide)) 
  have G2 := ok__with_change (P := l.prog) (w := w) (base := base) (k := 0) T C2 
  have G3 := ok_mended (P := l.prog) (w := w) (base := base) (k := 2) T C3 C1 C2 X_MendError (GI_CallError.mono (by decide)) (G1.mono (by decide)) (G2.mono (by decide)) 
  have G4 := ok__law_take (P := l.prog) (w := w) (base := base) (k := 0) T C4 
  have G5 := ok__law_some (P := l.prog) (w := w) (base := base) (k := 1) T C5 C4 (G4.mono (by decide)) 
  have G6 := ok__law_film (P := l.prog) (w := w) (base := base) (k := 2) T C6 C5 C4 (G5.mono (by decide)) (G4.mono (by decide)) 
  have G7 := ok__law_sheet (P := l.prog) (w := w) (base := base) (k := 2) T C7 C5 C4 (G5.mono (by decide)) (G4.mono (by decide)) 
  have G8 := ok__law_case (P := l.prog) (w := w) (base := base) (k := 3) T C8 C6 C7 C4 (G6.mono (by decide)) (G7.mono (by decide)) (G4.mono (by decide)) 
  have G9 := ok__law_test (P := l.prog) (w := w) (base := base) (k := 1) T C9 C4 (G4.mono (by decide)) 
  have G10 := ok__law_book (P := l.prog) (w := w) (base := base) (k := 2) T C10 C4 C9 (G4.mono (by decide)) (G9.mono (by decide)) 
  have G11 := ok__law_told (P := l.prog) (w := w) (base := base) (k := 4) T C11 C3 X_MendError (G3.mono (by decide)) 
  have G12 := ok__law_change (P := l.prog) (w := w) (base := base) (k := 1) T C12 C4 (G4.mono (by decide)) 
  have G13 := ok__law_due (P := l.prog) (w := w) (base := base) (k := 0) T C13 
  exact ok_law (k := 5) T C14 C0 (G0.mono (by decide)) C10 C8 C12 C13 C4 C11 (G10.mono (by decide)) (G8.mono (by decide)) (G12.mono (by decide)) (G13.mono (by decide)) (G4.mono (by decide)) (G11.mono (by decide)) fin
end
end Law
open PySem PySem.W PyProof.Rows
set_option maxRecDepth 100000 in
set_option maxHeartbeats 0 in
theorem PySem.Challenge.cw_callsheets_k61_mended_day_books_holds : PySem.Challenge.rw_callsheets_k61_mended_day_books.Holds := by
  w_on; o_law; k_head; (case hw => w_witness2)
  k_fill
  refine D2.walkL (l := PySem.Challenge.rw_callsheets_k61_mended_day_books) (k := 6) (fun w => rfl) rfl rfl ⟨rfl, by decide, by decide⟩ (fun w h Y => PySem.W.kIn_of Y) ?F
  case F =>
    intro w mg fa h KX G hmg
    refine' Law.all_mk KX G hmg ?a0 ?l0 ?c0 ?k0 ?a1 ?l1 ?c1 ?k1 ?a2 ?l2 ?c2 ?k2 ?a3 ?l3 ?c3 ?k3 ?a4 ?l4 ?c4 ?k4 ?a5 ?l5 ?c5 ?k5 ?a6 ?l6 ?c6 ?k6 ?a7 ?l7 ?c7 ?k7 ?a8 ?l8 ?c8 ?k8 ?a9 ?l9 ?c9 ?k9 ?a10 ?l10 ?c10 ?k10 ?a11 ?l11 ?c11 ?k11 ?a12 ?l12 ?c12 ?k12 ?a13 ?l13 ?c13 ?k13 ?a14 ?l14 ?c14 ?k14 ?zb_abs ?zb_int ?zb_len ?zb_list ?zb_min ?zb_range ?zb_set ?zb_sorted ?zb_str ?zb_tuple ?xa_CallError ?xa_MendError ?xI_CallError ?li_CallError ?ci_CallError ?ki_CallError ?ti_CallError ?xl_MendError ?xs_MendError ?xg_MendError ?xh_MendError ?xn_MendError_code ?xi_MendError ?xk_MendError ?xe_MendError ?xy_MendError ?xd_MendError ?xc_MendError ?xz_MendError ?zg_LINE_LIMIT ?zg_CHANGE_LIMIT Law.fin
    (case a0 => k_is)
    (case l0 => k_is)
    (case c0 => k_is)
    (case k0 => k_is)
    (case a1 => k_is)
    (case l1 => k_is)
    (case c1 => k_is)
    (case k1 => k_is)
    (case a2 => k_is)
    (case l2 => k_is)
    (case c2 => k_is)
    (case k2 => k_is)
    (case a3 => k_is)
    (case l3 => k_is)
    (case c3 => k_is)
    (case k3 => k_is)
    (case a4 => k_is)
    (case l4 => k_is)
    (case c4 => k_is)
    (case k4 => k_is)
    (case a5 => k_is)
    (case l5 => k_is)
    (case c5 => k_is)
    (case k5 => k_is)
    (case a6 => k_is)
    (case l6 => k_is)
    (case c6 => k_is)
    (case k6 => k_is)
    (case a7 => k_is)
    (case l7 => k_is)
    (case c7 => k_is)
    (case k7 => k_is)
    (case a8 => k_is)
    (case l8 => k_is)
    (case c8 => k_is)
    (case k8 => k_is)
    (case a9 => k_is)
    (case l9 => k_is)
    (case c9 => k_is)
    (case k9 => k_is)
    (case a10 => k_is)
    (case l10 => k_is)
    (case c10 => k_is)
    (case k10 => k_is)
    (case a11 => k_is)
    (case l11 => k_is)
    (case c11 => k_is)
    (case k11 => k_is)
    (case a12 => k_is)
    (case l12 => k_is)
    (case c12 => k_is)
    (case k12 => k_is)
    (case a13 => k_is)
    (case l13 => k_is)
    (case c13 => k_is)
    (case k13 => k_is)
    (case a14 => k_is)
    (case l14 => k_is)
    (case c14 => k_is)
    (case k14 => k_is)
    (case zb_abs => k_is)
    (case zb_int => k_is)
    (case zb_len => k_is)
    (case zb_list => k_is)
    (case zb_min => k_is)
    (case zb_range => k_is)
    (case zb_set => k_is)
    (case zb_sorted => k_is)
    (case zb_str => k_is)
    (case zb_tuple => k_is)
    (case xa_CallError => k_is)
    (case xa_MendError => k_is)
    (case xI_CallError => k_is)
    (case li_CallError => k_is)
    (case ci_CallError => k_is)
    (case ki_CallError => k_is)
    (case ti_CallError => k_is)
    (case xl_MendError => k_is)
    (case xs_MendError => k_is)
    (case xg_MendError => k_is)
    (case xh_MendError => k_is)
    (case xn_MendError_code => k_is)
    (case xi_MendError => k_is)
    (case xk_MendError => k_is)
    (case xe_MendError => k_is)
    (case xy_MendError => k_is)
    (case xd_MendError => k_is)
    (case xc_MendError => k_is)
    (case xz_MendError => k_is)
    (case zg_LINE_LIMIT => k_is)
    (case zg_CHANGE_LIMIT => k_is)

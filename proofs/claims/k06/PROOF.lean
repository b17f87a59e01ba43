import PyProof.Rows.All
import Wide.All
import OpenK.AllK
import Wide.FinOn
import HandS.ForMost
import HandS.ForExc
import KE.DataEq
import HandS.TupAny
import HandS.Strs
import HandS.SortInts
import KE.GoesEnum
import HandS.Conv
import HandS.TupSets
import HandS.SetFor
import HandS.Star
import HandS.SortKw
import PyProof.WalkInts
import PySem.Challenge.RW_callsheets_k06_days_of_scenes
set_option Elab.async false
set_option linter.all false
set_option maxRecDepth 100000
set_option maxHeartbeats 4000000
/-! D2: a second layer over HandS: data by value (tuples, lists that no one changes), local lists owned by their name, and what a text computes as a plain function. -/
namespace D2
open PySem L2

/-- data: what a value stands for; ref n: the n-th object that several may change -/
inductive D where
  | non
  | bl (b : Bool)
  | int (i : Int)
  | str (x : Str)
  | tup (ds : List D)
  | lst (ds : List D)
  | dic (ks : List Key) (ds : List D)
  | rng (lo hi : Int)
  | ref (n : Nat)

/-! Rep: v stands for d in H; as: the objects that several may change; none of its lists lies in B -/
mutual
def Rep (K : PySem.W.Frag) (as : List Addr) (B : Addr → Prop) (H : Hp) : D → V → Prop
  | .non, v => v = .non
  | .bl b, v => v = .bl b
  | .int i, v => v = .int i
  | .str x, v => v = .str x
  | .tup ds, v => ∃ a xs, v = .ref a ∧ SqT K H a xs ∧ RepA K as B H ds xs
  | .lst ds, v => ∃ a xs, v = .ref a ∧ ¬ B a ∧ H a = some (.lst xs) ∧ RepA K as B H ds xs
  | .dic ks ds, v => ∃ a xs, v = .ref a ∧ ¬ B a ∧ Rd H a (.dK (ks.zip xs)) ∧ ks.length = xs.length ∧ RepA K as B H ds xs
  | .rng lo hi, v => ∃ a, v = .ref a ∧ ¬ B a ∧ H a = some (.rng lo hi)
  | .ref n, v => ∃ a, v = .ref a ∧ as[n]? = some a
def RepA (K : PySem.W.Frag) (as : List Addr) (B : Addr → Prop) (H : Hp) : List D → List V → Prop
  | [], xs => xs = []
  | d :: ds, xs => ∃ v vs, xs = v :: vs ∧ Rep K as B H d v ∧ RepA K as B H ds vs
end

/-- H' has all of H but what lies in W -/
structure Evo (W : Addr → Prop) (H H' : Hp) : Prop where
  keep : ∀ a o, H a = some o → ¬ W a → H' a = some o
  tups : ∀ a xs, H a = some (.tup xs) → H' a = some (.tup xs)
  frzs : ∀ a o u, H a = some (.frz o u) → H' a = some (.frz o u)
  dom : ∀ a, H a ≠ none → H' a ≠ none

section
variable {K : PySem.W.Frag} {as : List Addr} {B B' W W' : Addr → Prop} {H H' H1 H2 : Hp}

theorem Evo.refl : Evo W H H := ⟨fun _ _ h _ => h, fun _ _ h => h, fun _ _ _ h => h, fun _ h => h⟩
theorem Evo.trans (a : Evo W H H1) (b : Evo W H1 H2) : Evo W H H2 :=
  ⟨fun x o h n => b.keep x o (a.keep x o h n) n, fun x o h => b.tups x o (a.tups x o h), fun x o u h => b.frzs x o u (a.frzs x o u h), fun x h => b.dom x (a.dom x h)⟩
theorem Evo.weak (e : Evo W H H1) (h : ∀ a, W a → W' a) : Evo W' H H1 := ⟨fun x o q n => e.keep x o q fun z => n (h x z), e.tups, e.frzs, e.dom⟩
theorem Evo.new {p : Addr} {o : HO} (h : H p = none) : Evo W H (upd H p o) := by
  have np : ∀ a u, H a = some u → a ≠ p := fun a u q => ne_of_none q h
  refine ⟨fun a u q _ => by rw [upd_ne (np a u q)]; exact q, fun a u q => by rw [upd_ne (np a _ q)]; exact q, fun a o u q => by rw [upd_ne (np a _ q)]; exact q, fun a q => ?_⟩
  by_cases e : a = p
  · subst e; exact absurd h q
  · rw [upd_ne e]; exact q
/-- a list, dict or instance is written -/
theorem Evo.put {p : Addr} {o o' : HO} (hp : H p = some o) (hm : ∀ xs, o ≠ .tup xs) (hf : ∀ ob u, o ≠ .frz ob u) (hw : W p) : Evo W H (upd H p o') := by
  refine ⟨fun a u q n => ?_, fun a u q => ?_, fun a ob u q => ?_, fun a q => ?_⟩
  · have e : a ≠ p := fun z => n (z ▸ hw)
    rw [upd_ne e]; exact q
  · have e : a ≠ p := fun z => by subst z; rw [hp] at q; exact hm _ (Option.some.inj q)
    rw [upd_ne e]; exact q
  · have e : a ≠ p := fun z => by subst z; rw [hp] at q; exact hf _ _ (Option.some.inj q)
    rw [upd_ne e]; exact q
  · by_cases e : a = p
    · subst e; rw [upd_same]; exact fun z => nomatch z
    · rw [upd_ne e]; exact q
theorem Evo.back (e : Evo W H H') {p : Addr} (h : H' p = none) : H p = none := by
  cases q : H p with
  | none => rfl
  | some o => exact absurd h (e.dom p (by rw [q]; exact fun z => nomatch z))
theorem Evo.rd (e : Evo W H H') {a : Addr} {u : HO} (h : Rd H a u) (n : ¬ W a) : Rd H' a u := by
  rcases h with h | ⟨o, h⟩
  · exact .inl (e.keep _ _ h n)
  · exact .inr ⟨o, e.frzs _ _ _ h⟩
theorem Evo.sqT (e : Evo W H H') {a : Addr} {xs : List V} (h : SqT K H a xs) : SqT K H' a xs := by
  rcases h with (h | ⟨o, h⟩) | h
  · exact .inl (.inl (e.tups _ _ h))
  · exact .inl (.inr ⟨o, e.frzs _ _ _ h⟩)
  · exact .inr h

mutual
theorem Rep.imp (e : Evo W H H') (hW : ∀ a, W a → B a) (hB : ∀ a, B' a → B a) : ∀ (d : D) (v : V), Rep K as B H d v → Rep K as B' H' d v
  | .non, _, h => h
  | .bl _, _, h => h
  | .int _, _, h => h
  | .str _, _, h => h
  | .tup ds, v, h => by
    obtain ⟨a, xs, e1, h1, h2⟩ := h
    exact ⟨a, xs, e1, e.sqT h1, RepA.imp e hW hB ds xs h2⟩
  | .lst ds, v, h => by
    obtain ⟨a, xs, e1, nb, h1, h2⟩ := h
    exact ⟨a, xs, e1, fun z => nb (hB a z), e.keep _ _ h1 fun z => nb (hW a z), RepA.imp e hW hB ds xs h2⟩
  | .dic ks ds, v, h => by
    obtain ⟨a, xs, e1, nb, h1, hl, h2⟩ := h
    exact ⟨a, xs, e1, fun z => nb (hB a z), e.rd h1 fun z => nb (hW a z), hl, RepA.imp e hW hB ds xs h2⟩
  | .rng _ _, v, h => by
    obtain ⟨a, e1, nb, h1⟩ := h
    exact ⟨a, e1, fun z => nb (hB a z), e.keep _ _ h1 fun z => nb (hW a z)⟩
  | .ref _, _, h => h
theorem RepA.imp (e : Evo W H H') (hW : ∀ a, W a → B a) (hB : ∀ a, B' a → B a) : ∀ (ds : List D) (xs : List V), RepA K as B H ds xs → RepA K as B' H' ds xs
  | [], _, h => h
  | d :: ds, xs, h => by
    obtain ⟨v, vs, e1, h1, h2⟩ := h
    exact ⟨v, vs, e1, Rep.imp e hW hB d v h1, RepA.imp e hW hB ds vs h2⟩
end
mutual
/-- a list that is not tracked yet may become bad -/
theorem Rep.more {p : Addr} (hp : H p = none) (hB : ∀ a, B' a → B a ∨ a = p) : ∀ (d : D) (v : V), Rep K as B H d v → Rep K as B' H d v
  | .non, _, h => h
  | .bl _, _, h => h
  | .int _, _, h => h
  | .str _, _, h => h
  | .tup ds, v, h => by
    obtain ⟨a, xs, e1, h1, h2⟩ := h
    exact ⟨a, xs, e1, h1, RepA.more hp hB ds xs h2⟩
  | .lst ds, v, h => by
    obtain ⟨a, xs, e1, nb, h1, h2⟩ := h
    refine ⟨a, xs, e1, fun z => ?_, h1, RepA.more hp hB ds xs h2⟩
    rcases hB a z with z | z
    · exact nb z
    · subst z
      rw [hp] at h1; cases h1
  | .dic ks ds, v, h => by
    obtain ⟨a, xs, e1, nb, h1, hl, h2⟩ := h
    refine ⟨a, xs, e1, fun z => ?_, h1, hl, RepA.more hp hB ds xs h2⟩
    rcases hB a z with z | z
    · exact nb z
    · subst z
      rcases h1 with q | ⟨o, q⟩ <;> (rw [hp] at q; cases q)
  | .rng _ _, v, h => by
    obtain ⟨a, e1, nb, h1⟩ := h
    refine ⟨a, e1, fun z => ?_, h1⟩
    rcases hB a z with z | z
    · exact nb z
    · subst z
      rw [hp] at h1; cases h1
  | .ref _, _, h => h
theorem RepA.more {p : Addr} (hp : H p = none) (hB : ∀ a, B' a → B a ∨ a = p) : ∀ (ds : List D) (xs : List V), RepA K as B H ds xs → RepA K as B' H ds xs
  | [], _, h => h
  | d :: ds, xs, h => by
    obtain ⟨v, vs, e1, h1, h2⟩ := h
    exact ⟨v, vs, e1, Rep.more hp hB d v h1, RepA.more hp hB ds vs h2⟩
end
/-! flat: no list and no dict within -/
mutual
def D.flat : D → Bool
  | .tup ds => D.flatA ds
  | .lst _ => false
  | .dic _ _ => false
  | .rng _ _ => false
  | _ => true
def D.flatA : List D → Bool
  | [] => true
  | d :: ds => d.flat && D.flatA ds
end
mutual
theorem Rep.ofFlat : ∀ (d : D) (v : V), d.flat = true → Rep K as B H d v → Rep K as B' H d v
  | .non, _, _, h => h
  | .bl _, _, _, h => h
  | .int _, _, _, h => h
  | .str _, _, _, h => h
  | .tup ds, v, f, h => by
    obtain ⟨a, xs, e1, h1, h2⟩ := h
    exact ⟨a, xs, e1, h1, RepA.ofFlat ds xs f h2⟩
  | .lst _, _, f, _ => nomatch f
  | .dic _ _, _, f, _ => nomatch f
  | .rng _ _, _, f, _ => nomatch f
  | .ref _, _, _, h => h
theorem RepA.ofFlat : ∀ (ds : List D) (xs : List V), D.flatA ds = true → RepA K as B H ds xs → RepA K as B' H ds xs
  | [], _, _, h => h
  | d :: ds, xs, f, h => by
    obtain ⟨v, vs, e1, h1, h2⟩ := h
    have f' : (d.flat && D.flatA ds) = true := f
    rw [Bool.and_eq_true] at f'
    exact ⟨v, vs, e1, Rep.ofFlat d v f'.1 h1, RepA.ofFlat ds vs f'.2 h2⟩
end
theorem RepA.length : ∀ {ds : List D} {xs : List V}, RepA K as B H ds xs → ds.length = xs.length
  | [], xs, h => by
    have e : xs = [] := h
    rw [e] <;> rfl
  | d :: ds, xs, h => by
    obtain ⟨v, vs, e1, _, h2⟩ := h
    rw [e1, List.length_cons, List.length_cons, RepA.length h2]
theorem RepA.get : ∀ {ds : List D} {xs : List V} {i : Nat} {d : D}, RepA K as B H ds xs → ds[i]? = some d → ∃ v, xs[i]? = some v ∧ Rep K as B H d v
  | [], xs, i, d, _, e => by simp at e
  | c :: ds, xs, 0, d, h, e => by
    obtain ⟨v, vs, e1, h1, _⟩ := h
    simp at e
    subst e; subst e1
    exact ⟨v, rfl, h1⟩
  | c :: ds, xs, i + 1, d, h, e => by
    obtain ⟨v, vs, e1, _, h2⟩ := h
    subst e1
    obtain ⟨w, q1, q2⟩ := RepA.get (i := i) h2 (by simpa using e)
    exact ⟨w, by simpa using q1, q2⟩
theorem RepA.getV : ∀ {ds : List D} {xs : List V} {i : Nat} {v : V}, RepA K as B H ds xs → xs[i]? = some v → ∃ d, ds[i]? = some d ∧ Rep K as B H d v
  | [], xs, i, d, h, e => by
    have e' : xs = [] := h
    subst e'
    simp at e
  | c :: ds, xs, 0, w, h, e => by
    obtain ⟨v, vs, e1, h1, _⟩ := h
    subst e1
    simp at e
    subst e
    exact ⟨c, rfl, h1⟩
  | c :: ds, xs, i + 1, w, h, e => by
    obtain ⟨v, vs, e1, _, h2⟩ := h
    subst e1
    obtain ⟨d, q1, q2⟩ := RepA.getV (i := i) h2 (by simpa using e)
    exact ⟨d, by simpa using q1, q2⟩
theorem RepA.append : ∀ {ds es : List D} {xs ys : List V}, RepA K as B H ds xs → RepA K as B H es ys → RepA K as B H (ds ++ es) (xs ++ ys)
  | [], es, xs, ys, h, g => by
    have e : xs = [] := h
    subst e
    exact g
  | d :: ds, es, xs, ys, h, g => by
    obtain ⟨v, vs, e1, h1, h2⟩ := h
    subst e1
    exact ⟨v, vs ++ ys, rfl, h1, RepA.append h2 g⟩
theorem RepA.one {d : D} {v : V} (h : Rep K as B H d v) : RepA K as B H [d] [v] := ⟨v, [], rfl, h, rfl⟩
theorem RepA.set : ∀ {ds : List D} {xs : List V} (i : Nat) {d : D} {v : V}, RepA K as B H ds xs → Rep K as B H d v → RepA K as B H (ds.set i d) (xs.set i v)
  | [], xs, i, d, v, h, _ => by
    have e : xs = [] := h
    subst e
    exact rfl
  | c :: ds, xs, 0, d, v, h, g => by
    obtain ⟨w, vs, e1, h1, h2⟩ := h
    subst e1
    exact ⟨v, vs, rfl, g, h2⟩
  | c :: ds, xs, i + 1, d, v, h, g => by
    obtain ⟨w, vs, e1, h1, h2⟩ := h
    subst e1
    exact ⟨w, vs.set i v, rfl, h1, RepA.set i h2 g⟩
theorem RepA.take : ∀ {ds : List D} {xs : List V} (n : Nat), RepA K as B H ds xs → RepA K as B H (ds.take n) (xs.take n)
  | _, _, 0, _ => by
    rw [List.take_zero, List.take_zero]
    exact rfl
  | [], xs, n + 1, h => by
    have e : xs = [] := h
    subst e
    exact rfl
  | d :: ds, xs, n + 1, h => by
    obtain ⟨v, vs, e1, h1, h2⟩ := h
    subst e1
    exact ⟨v, vs.take n, rfl, h1, RepA.take n h2⟩
theorem RepA.drop : ∀ {ds : List D} {xs : List V} (n : Nat), RepA K as B H ds xs → RepA K as B H (ds.drop n) (xs.drop n)
  | _, _, 0, h => by
    rw [List.drop_zero, List.drop_zero]
    exact h
  | [], xs, n + 1, h => by
    have e : xs = [] := h
    subst e
    exact rfl
  | d :: ds, xs, n + 1, h => by
    obtain ⟨v, vs, e1, h1, h2⟩ := h
    subst e1
    exact RepA.drop n h2
theorem RepA.cons {d : D} {ds : List D} {v : V} {vs : List V} (h : Rep K as B H d v) (g : RepA K as B H ds vs) : RepA K as B H (d :: ds) (v :: vs) := ⟨v, vs, rfl, h, g⟩
theorem RepA.reverse : ∀ {ds : List D} {xs : List V}, RepA K as B H ds xs → RepA K as B H ds.reverse xs.reverse
  | [], xs, h => by
    have e : xs = [] := h
    subst e
    exact rfl
  | d :: ds, xs, h => by
    obtain ⟨v, vs, e1, h1, h2⟩ := h
    subst e1
    rw [List.reverse_cons, List.reverse_cons]
    exact RepA.append (RepA.reverse h2) (RepA.one h1)
theorem RepA.dropLast : ∀ {ds : List D} {xs : List V}, RepA K as B H ds xs → RepA K as B H ds.dropLast xs.dropLast := fun {ds xs} h => by
  rw [List.dropLast_eq_take, List.dropLast_eq_take, ← h.length]
  exact h.take _
theorem RepA.rep : ∀ {ds : List D} {xs : List V} (n : Nat), RepA K as B H ds xs → RepA K as B H (List.replicate n ds).flatten (List.replicate n xs).flatten
  | ds, xs, 0, _ => rfl
  | ds, xs, n + 1, h => by
    rw [List.replicate_succ, List.replicate_succ, List.flatten_cons, List.flatten_cons]
    exact RepA.append h (RepA.rep n h)
end

/-! ### the ints, the texts -/
def D.ints : List D → Option (List Int)
  | [] => some []
  | .int i :: ds => (D.ints ds).map (i :: ·)
  | _ :: _ => none
theorem ints_rep {K : PySem.W.Frag} {as : List Addr} {B : Addr → Prop} {H : Hp} : ∀ {ds : List D} {xs : List V} {ns : List Int}, RepA K as B H ds xs → D.ints ds = some ns → xs = ns.map V.int
  | [], xs, ns, h, e => by
    have e' : xs = [] := h
    subst e'
    cases e
    rfl
  | d :: ds, xs, ns, h, e => by
    obtain ⟨v, vs, e1, h1, h2⟩ := h
    subst e1
    cases d <;> try (cases e; done)
    rename_i i
    simp only [D.ints, Option.map_eq_some_iff] at e
    obtain ⟨ms, e2, e3⟩ := e
    subst e3
    have h1' : v = .int i := h1
    rw [h1', ints_rep h2 e2]
    rfl
theorem rep_ints {K : PySem.W.Frag} {as : List Addr} {B : Addr → Prop} {H : Hp} : ∀ (ns : List Int), RepA K as B H (ns.map D.int) (ns.map V.int)
  | [] => rfl
  | n :: ns => ⟨.int n, ns.map V.int, rfl, rfl, rep_ints ns⟩
theorem ints_map : ∀ ns : List Int, D.ints (ns.map D.int) = some ns
  | [] => rfl
  | n :: ns => by
    show (D.ints (ns.map D.int)).map (n :: ·) = some (n :: ns)
    rw [ints_map ns]
    rfl
def D.bls : List D → Option (List Bool)
  | [] => some []
  | .bl i :: ds => (D.bls ds).map (i :: ·)
  | _ :: _ => none
theorem bls_rep {K : PySem.W.Frag} {as : List Addr} {B : Addr → Prop} {H : Hp} : ∀ {ds : List D} {xs : List V} {ns : List Bool}, RepA K as B H ds xs → D.bls ds = some ns → xs = ns.map V.bl
  | [], xs, ns, h, e => by
    have e' : xs = [] := h
    subst e'
    cases e
    rfl
  | d :: ds, xs, ns, h, e => by
    obtain ⟨v, vs, e1, h1, h2⟩ := h
    subst e1
    cases d <;> try (cases e; done)
    rename_i i
    simp only [D.bls, Option.map_eq_some_iff] at e
    obtain ⟨ms, e2, e3⟩ := e
    subst e3
    have h1' : v = .bl i := h1
    rw [h1', bls_rep h2 e2]
    rfl
theorem bls_map : ∀ ns : List Bool, D.bls (ns.map D.bl) = some ns
  | [] => rfl
  | n :: ns => by
    show (D.bls (ns.map D.bl)).map (n :: ·) = some (n :: ns)
    rw [bls_map ns]
    rfl
def D.strs : List D → Option (List Str)
  | [] => some []
  | .str i :: ds => (D.strs ds).map (i :: ·)
  | _ :: _ => none
theorem strs_rep {K : PySem.W.Frag} {as : List Addr} {B : Addr → Prop} {H : Hp} : ∀ {ds : List D} {xs : List V} {ns : List Str}, RepA K as B H ds xs → D.strs ds = some ns → xs = ns.map V.str
  | [], xs, ns, h, e => by
    have e' : xs = [] := h
    subst e'
    cases e
    rfl
  | d :: ds, xs, ns, h, e => by
    obtain ⟨v, vs, e1, h1, h2⟩ := h
    subst e1
    cases d <;> try (cases e; done)
    rename_i i
    simp only [D.strs, Option.map_eq_some_iff] at e
    obtain ⟨ms, e2, e3⟩ := e
    subst e3
    have h1' : v = .str i := h1
    rw [h1', strs_rep h2 e2]
    rfl
theorem strs_map : ∀ ns : List Str, D.strs (ns.map D.str) = some ns
  | [] => rfl
  | n :: ns => by
    show (D.strs (ns.map D.str)).map (n :: ·) = some (n :: ns)
    rw [strs_map ns]
    rfl
theorem rep_strs {K : PySem.W.Frag} {as : List Addr} {B : Addr → Prop} {H : Hp} : ∀ (ns : List Str), RepA K as B H (ns.map D.str) (ns.map V.str)
  | [] => rfl
  | n :: ns => ⟨.str n, ns.map V.str, rfl, rfl, rep_strs ns⟩

/-! ### data of the library -/
mutual
def D.pd : D → PyData
  | .non => .none
  | .bl b => .bool b
  | .int i => .int i
  | .str x => .str x
  | .tup ds => .tuple (D.pdA ds)
  | .lst ds => .list (D.pdA ds)
  | .dic _ _ => .none
  | .rng _ _ => .none
  | .ref _ => .none
def D.pdA : List D → List PyData
  | [] => []
  | d :: ds => d.pd :: D.pdA ds
end
mutual
def D.okq : D → Nat → Bool
  | .tup ds, n => match n with
    | 0 => false
    | n + 1 => D.okqA ds n
  | .lst ds, n => match n with
    | 0 => false
    | n + 1 => D.okqA ds n
  | .dic _ _, _ => false
  | .rng _ _, _ => false
  | .ref _, _ => false
  | _, _ => true
def D.okqA : List D → Nat → Bool
  | [], _ => true
  | d :: ds, n => d.okq n && D.okqA ds n
end
mutual
theorem okq_dp {K : PySem.W.Frag} {as : List Addr} {B : Addr → Prop} {H : Hp} : ∀ (d : D) (v : V) (n : Nat), Rep K as B H d v → d.okq n = true → Dp K H v d.pd ∧ d.pd.plain = true ∧ d.pd.depth ≤ n + 1
  | .non, v, n, h, _ => by
    have h' : v = .non := h
    subst h'
    exact ⟨.non, rfl, by simp [D.pd, PyData.depth]⟩
  | .bl b, v, n, h, _ => by
    have h' : v = .bl b := h
    subst h'
    exact ⟨.bl b, rfl, by simp [D.pd, PyData.depth]⟩
  | .int b, v, n, h, _ => by
    have h' : v = .int b := h
    subst h'
    exact ⟨.int b, rfl, by simp [D.pd, PyData.depth]⟩
  | .str b, v, n, h, _ => by
    have h' : v = .str b := h
    subst h'
    exact ⟨.str b, rfl, by simp [D.pd, PyData.depth]⟩
  | .tup ds, v, n, h, e => by
    obtain ⟨a, xs, e1, h1, h2⟩ := h
    subst e1
    cases n with
    | zero => cases e
    | succ n =>
      obtain ⟨q1, q2, q3⟩ := okqA_dp ds xs n h2 e
      exact ⟨.tup h1 q1, q2, by simp only [D.pd, PyData.depth]; omega⟩
  | .lst ds, v, n, h, e => by
    obtain ⟨a, xs, e1, nb, h1, h2⟩ := h
    subst e1
    cases n with
    | zero => cases e
    | succ n =>
      obtain ⟨q1, q2, q3⟩ := okqA_dp ds xs n h2 e
      exact ⟨.lst (.inl (.inl h1)) q1, q2, by simp only [D.pd, PyData.depth]; omega⟩
  | .dic _ _, _, _, _, e => by cases e
  | .rng _ _, _, _, _, e => by cases e
  | .ref _, _, _, _, e => by cases e
theorem okqA_dp {K : PySem.W.Frag} {as : List Addr} {B : Addr → Prop} {H : Hp} : ∀ (ds : List D) (vs : List V) (n : Nat), RepA K as B H ds vs → D.okqA ds n = true → DpAll K H vs (D.pdA ds) ∧ PyData.plainAll (D.pdA ds) = true ∧ PyData.depthAll (D.pdA ds) ≤ n + 1
  | [], vs, n, h, _ => by
    have h' : vs = [] := h
    subst h'
    exact ⟨.nil, rfl, by simp [D.pdA, PyData.depthAll]⟩
  | d :: ds, vs, n, h, e => by
    obtain ⟨v, ws, e1, h1, h2⟩ := h
    subst e1
    have e' : (d.okq n && D.okqA ds n) = true := e
    rw [Bool.and_eq_true] at e'
    obtain ⟨q1, q2, q3⟩ := okq_dp d v n h1 e'.1
    obtain ⟨r1, r2, r3⟩ := okqA_dp ds ws n h2 e'.2
    refine ⟨.cons q1 r1, ?_, ?_⟩
    · show (d.pd.plain && PyData.plainAll (D.pdA ds)) = true
      rw [q2, r2]; rfl
    · simp only [D.pdA, PyData.depthAll]
      omega
end
def D.eqv (x y : D) : Bool := PyData.eqv x.pd y.pd
end D2

namespace D2
open PySem L2

/-- an object that is owned: by a name, or told by its number -/
inductive O where
  | lst (ds : List D)
  | dic (ks : List Key) (ds : List D)
/-- what a name holds -/
inductive Sl where
  | no
  | val (d : D)
  | own (o : O)
/-- an exception: its class by name, its fields -/
structure Exn where
  cls : Str
  fs : List (Str × D)
/-- what a run gives -/
inductive R (α : Type) where
  | ok (a : α)
  | ex (e : Exn) (sg : List Sl) (S : List O)
  | bad
def R.bind {α β : Type} (r : R α) (f : α → R β) : R β := match r with
  | .ok a => f a
  | .ex e sg S => .ex e sg S
  | .bad => .bad
def R.of {α : Type} : Option α → R α
  | some a => .ok a
  | none => .bad
theorem bind_ok {α β : Type} {a : α} {f : α → R β} : (R.ok a).bind f = f a := rfl
theorem bind_bad {α β : Type} {f : α → R β} : (R.bad : R α).bind f = .bad := rfl
theorem bind_ex {α β : Type} {e : Exn} {sg : List Sl} {S : List O} {f : α → R β} : (R.ex e sg S : R α).bind f = .ex e sg S := rfl
theorem of_some {α : Type} {a : α} : R.of (some a) = .ok a := rfl
theorem of_none {α : Type} : R.of (none : Option α) = .bad := rfl

def ORep (K : PySem.W.Frag) (as : List Addr) (B : Addr → Prop) (H : Hp) : O → Addr → Prop
  | .lst ds, a => ∃ xs, H a = some (.lst xs) ∧ RepA K as B H ds xs
  | .dic ks ds, a => ∃ xs, H a = some (.dK (ks.zip xs)) ∧ ks.length = xs.length ∧ RepA K as B H ds xs
def SlRep (K : PySem.W.Frag) (as : List Addr) (B : Addr → Prop) (H : Hp) : Sl → Option Addr → Option V → Prop
  | .no, w, _ => w = none
  | .val d, w, x => w = none ∧ ∃ v, x = some v ∧ Rep K as B H d v
  | .own o, w, x => ∃ a, w = some a ∧ x = some (.ref a) ∧ ORep K as B H o a
/-- what is bad here: what is bad outside, and what the names own -/
def Bd (B : Addr → Prop) (ow : List (Option Addr)) : Addr → Prop := fun a => B a ∨ some a ∈ ow
structure Sto (K : PySem.W.Frag) (as : List Addr) (B : Addr → Prop) (H : Hp) (S : List O) : Prop where
  len : as.length = S.length
  nd : as.Nodup
  ob : ∀ (n : Nat) (o : O), S[n]? = some o → ∃ a, as[n]? = some a ∧ ORep K as B H o a
/-- the state: B, H0 the entry's; ow what the names own; sg, S stand for the names and the objects -/
structure Rl (K : PySem.W.Frag) (B : Addr → Prop) (H0 : Hp) (as : List Addr) (ks : List (D × V)) (ow : List (Option Addr)) (sg : List Sl) (S : List O) (σ : L2.St) (H : Hp) : Prop where
  lo : sg.length ≤ ow.length
  ls : σ.length = sg.length
  sl : ∀ (i : Nat) (s : Sl), sg[i]? = some s → ∃ w x, ow[i]? = some w ∧ σ[i]? = some x ∧ SlRep K as (Bd B ow) H s w x
  inj : ∀ (i j : Nat) (a : Addr), ow[i]? = some (some a) → ow[j]? = some (some a) → i = j
  new : ∀ a, some a ∈ ow → H0 a = none
  odom : ∀ a, some a ∈ ow → H a ≠ none
  bdom : ∀ a, B a → H0 a ≠ none
  asB : ∀ a, a ∈ as → B a
  evo : Evo (· ∈ as) H0 H
  sto : Sto K as (Bd B ow) H S
  kp : ∀ p, p ∈ ks → Rep K as (Bd B ow) H p.1 p.2

section
variable {K : PySem.W.Frag} {as : List Addr} {B B' : Addr → Prop} {H H0 H' H1 : Hp} {ks : List (D × V)} {ow : List (Option Addr)} {sg : List Sl} {S S' : List O} {σ : L2.St}
theorem ORep.imp {W : Addr → Prop} (e : Evo W H H') (hW : ∀ a, W a → B a) (hB : ∀ a, B' a → B a) : ∀ (o : O) (a : Addr), ¬ W a → ORep K as B H o a → ORep K as B' H' o a
  | .lst ds, a, n, ⟨xs, h1, h2⟩ => ⟨xs, e.keep _ _ h1 n, RepA.imp e hW hB _ _ h2⟩
  | .dic ks ds, a, n, ⟨xs, h1, hl, h2⟩ => ⟨xs, e.keep _ _ h1 n, hl, RepA.imp e hW hB _ _ h2⟩
theorem ORep.more {p : Addr} (hp : H p = none) (hB : ∀ a, B' a → B a ∨ a = p) : ∀ (o : O) (a : Addr), ORep K as B H o a → ORep K as B' H o a
  | .lst ds, a, ⟨xs, h1, h2⟩ => ⟨xs, h1, RepA.more hp hB _ _ h2⟩
  | .dic ks ds, a, ⟨xs, h1, hl, h2⟩ => ⟨xs, h1, hl, RepA.more hp hB _ _ h2⟩
theorem ORep.there {o : O} {a : Addr} (h : ORep K as B H o a) : ∃ u, H a = some u ∧ (∀ xs, u ≠ .tup xs) ∧ ∀ ob w, u ≠ .frz ob w := by
  cases o with
  | lst ds => obtain ⟨xs, h1, _⟩ := h; exact ⟨_, h1, (fun _ z => by cases z), (fun _ _ z => by cases z)⟩
  | dic ks ds => obtain ⟨xs, h1, _⟩ := h; exact ⟨_, h1, (fun _ z => by cases z), (fun _ _ z => by cases z)⟩
theorem Rl.ownNo (r : Rl K B H0 as ks ow sg S σ H) {a : Addr} (h : some a ∈ ow) : ¬ B a := fun hb => r.bdom a hb (r.new a h)
theorem Rl.ownAs (r : Rl K B H0 as ks ow sg S σ H) {a : Addr} (h : some a ∈ ow) : a ∉ as := fun hb => r.ownNo h (r.asB a hb)
theorem Rl.asBd (r : Rl K B H0 as ks ow sg S σ H) : ∀ a, a ∈ as → Bd B ow a := fun a h => .inl (r.asB a h)
/-- behind an expression -/
theorem Rl.step (r : Rl K B H0 as ks ow sg S σ H) (e : Evo (· ∈ as) H H') (s : Sto K as (Bd B ow) H' S') : Rl K B H0 as ks ow sg S' σ H' := by
  refine ⟨r.lo, r.ls, fun i s hs => ?_, r.inj, r.new, fun a ha => e.dom a (r.odom a ha), r.bdom, r.asB, r.evo.trans e, s, fun p hp => Rep.imp e r.asBd (fun _ z => z) _ _ (r.kp p hp)⟩
  obtain ⟨w, x, h1, h2, h3⟩ := r.sl i s hs
  refine ⟨w, x, h1, h2, ?_⟩
  cases s with
  | no => exact h3
  | val d =>
    obtain ⟨q1, v, q2, q3⟩ := h3
    exact ⟨q1, v, q2, Rep.imp e r.asBd (fun _ z => z) d v q3⟩
  | own o =>
    obtain ⟨a, q1, q2, q3⟩ := h3
    subst q1
    exact ⟨a, rfl, q2, ORep.imp e r.asBd (fun _ z => z) o a (r.ownAs (List.mem_of_getElem? h1)) q3⟩
theorem Rl.stoNew (r : Rl K B H0 as ks ow sg S σ H) (e : Evo (fun _ => False) H H') : Sto K as (Bd B ow) H' S :=
  ⟨r.sto.len, r.sto.nd, fun n o h => let ⟨a, h1, h2⟩ := r.sto.ob n o h; ⟨a, h1, ORep.imp e (fun _ z => z.elim) (fun _ z => z) o a (fun z => z) h2⟩⟩
theorem Sto.evo {W : Addr → Prop} (s : Sto K as B H S) (e : Evo (fun _ => False) H H') : Sto K as B H' S :=
  ⟨s.len, s.nd, fun n o h => let ⟨a, h1, h2⟩ := s.ob n o h; ⟨a, h1, ORep.imp e (fun _ z => z.elim) (fun _ z => z) o a (fun z => z) h2⟩⟩
theorem Evo.any {W : Addr → Prop} (e : Evo (fun _ => False) H H') : Evo W H H' := e.weak fun _ z => z.elim
end

/-! ### what is wanted: of an exception, of a value -/
def XRep (mg : Str → Option Value) (K : PySem.W.Frag) (as : List Addr) (B : Addr → Prop) (H : Hp) (e : Exn) (c : Value) (dx : Option Addr) : Prop :=
  ∃ C, mg e.cls = some (.ref C) ∧ c = .ref C ∧ ((e.fs = [] ∧ dx = none) ∨ ∃ a vs, dx = some a ∧ H a = some (.xd ((e.fs.map (·.1)).zip vs)) ∧ e.fs.length = vs.length ∧ RepA K as B H (e.fs.map (·.2)) vs)
abbrev WX2 := Value → Option Addr → L2.St → Hp → Prop
/-- the fixed things of a def's body -/
structure Ct where
  K : PySem.W.Frag
  mg : Str → Option Value
  B : Addr → Prop
  H0 : Hp
  as : List Addr
  ks : List (D × V)
  W : WX2
def ExW (c : Ct) (e : Exn) (sg : List Sl) (S : List O) : Prop := ∀ cl dx ow σ H, Rl c.K c.B c.H0 c.as c.ks ow sg S σ H → XRep c.mg c.K c.as (Bd c.B ow) H e cl dx → c.W cl dx σ H
/-- of a result that stands for a value: Rp tells how -/
def Den (c : Ct) (ow : List (Option Addr)) {α β : Type} (Rp : Hp → α → β → Prop) (r : R (α × List O)) (H : Hp) (Q : β → Hp → Prop) : Prop := match r with
  | .ok (d, S') => ∀ v H', Evo (· ∈ c.as) H H' → Sto c.K c.as (Bd c.B ow) H' S' → Rp H' d v → Q v H'
  | .ex e sg S' => ExW c e sg S'
  | .bad => False
/-- strong: it may be kept; weak: it stands until a name's own object changes -/
def Ct.rp (c : Ct) (ow : List (Option Addr)) (wk : Bool) : Hp → D → V → Prop := fun H d v => Rep c.K c.as (if wk then (· ∈ c.as) else Bd c.B ow) H d v
def Ct.rpa (c : Ct) (ow : List (Option Addr)) (wk : Bool) : Hp → List D → List V → Prop := fun H d v => RepA c.K c.as (if wk then (· ∈ c.as) else Bd c.B ow) H d v
def rpB : Hp → Bool → Bool → Prop := fun _ a b => b = a
abbrev Ct.Rl (c : Ct) (ow : List (Option Addr)) (sg : List Sl) (S : List O) (σ : L2.St) (H : Hp) : Prop := D2.Rl c.K c.B c.H0 c.as c.ks ow sg S σ H

theorem Den.evo {c : Ct} {ow : List (Option Addr)} {α β : Type} {Rp : Hp → α → β → Prop} {r : R (α × List O)} {H H1 : Hp} {Q : β → Hp → Prop} (e : Evo (· ∈ c.as) H H1) (h : Den c ow Rp r H Q) : Den c ow Rp r H1 Q := by
  cases r with
  | ok a => obtain ⟨d, S'⟩ := a; exact fun v H' e' => h v H' (e.trans e')
  | ex e' sg S' => exact h
  | bad => exact h
/-- one part, then the rest -/
theorem Den.bind {c : Ct} {ow : List (Option Addr)} {α β γ δ : Type} {Rp : Hp → α → β → Prop} {Rq : Hp → γ → δ → Prop} {r : R (α × List O)} {f : α × List O → R (γ × List O)} {H : Hp} {Q : δ → Hp → Prop} {Q' : β → Hp → Prop} (h : Den c ow Rq (r.bind f) H Q)
    (k : ∀ d S' v H', r = .ok (d, S') → Evo (· ∈ c.as) H H' → Sto c.K c.as (Bd c.B ow) H' S' → Rp H' d v → Den c ow Rq (f (d, S')) H' Q → Q' v H') : Den c ow Rp r H Q' := by
  cases r with
  | ok a => obtain ⟨d, S'⟩ := a; exact fun v H' e s q => k d S' v H' rfl e s q (Den.evo e h)
  | ex e' sg S' => exact h
  | bad => exact h
theorem Den.mono {c : Ct} {ow : List (Option Addr)} {α β : Type} {Rp : Hp → α → β → Prop} {r : R (α × List O)} {H : Hp} {Q Q' : β → Hp → Prop} (h : Den c ow Rp r H Q) (k : ∀ v H', Q v H' → Q' v H') : Den c ow Rp r H Q' := by
  cases r with
  | ok a => obtain ⟨d, S'⟩ := a; exact fun v H' e s q => k _ _ (h v H' e s q)
  | ex e' sg S' => exact h
  | bad => exact h

/-! ### the judgements -/
abbrev ME := List Sl → List O → R (D × List O)
abbrev MA := List Sl → List O → R (List D × List O)
abbrev MT := List Sl → List O → R (Bool × List O)
inductive Fl where
  | nx | bk | ct | rt (d : D)
abbrev MS := List Sl → List O → R (Fl × List Sl × List O)

def ctOf (X : Cx) (W : WX2) (B : Addr → Prop) (H0 : Hp) (as : List Addr) (ks : List (D × V)) : Ct := ⟨X.K, X.mg, B, H0, as, ks, W⟩
def PE2 (X : Cx) (W : WX2) (wk : Bool) (e : Expr) (m : ME) : Prop := ∃ t : TE, PE X e t ∧ ∀ B H0 as ks ow sg S σ H (Q : VK), Rl X.K B H0 as ks ow sg S σ H →
  Den (ctOf X W B H0 as ks) ow ((ctOf X W B H0 as ks).rp ow wk) (m sg S) H Q → t σ H Q
def PA2 (X : Cx) (W : WX2) (wk : Bool) (es : List Expr) (m : MA) : Prop := ∃ t : TA, PA X es t ∧ ∀ B H0 as ks ow sg S σ H (Q : List V → Hp → Prop), Rl X.K B H0 as ks ow sg S σ H →
  Den (ctOf X W B H0 as ks) ow ((ctOf X W B H0 as ks).rpa ow wk) (m sg S) H Q → t σ H Q
def PT2 (X : Cx) (W : WX2) (e : Expr) (m : MT) : Prop := ∃ t : TT, PT X e t ∧ ∀ B H0 as ks ow sg S σ H (Q : Bool → Hp → Prop), Rl X.K B H0 as ks ow sg S σ H →
  Den (ctOf X W B H0 as ks) ow rpB (m sg S) H Q → t σ H Q
def PW2 (X : Cx) (W : WX2) (e : Expr) (m : MT) : Prop := ∃ t : TT, PW X e t ∧ ∀ B H0 as ks ow sg S σ H (Q : Bool → Hp → Prop), Rl X.K B H0 as ks ow sg S σ H →
  Den (ctOf X W B H0 as ks) ow rpB (m sg S) H Q → t σ H Q
def DenS (c : Ct) (r : R (Fl × List Sl × List O)) (Dd : Ends) : Prop := match r with
  | .ok (.nx, sg, S) => ∀ ow σ H, c.Rl ow sg S σ H → Dd.nx σ H
  | .ok (.bk, sg, S) => ∀ ow σ H, c.Rl ow sg S σ H → Dd.bk σ H
  | .ok (.ct, sg, S) => ∀ ow σ H, c.Rl ow sg S σ H → Dd.ct σ H
  | .ok (.rt d, _, S) => ∀ v H, Evo (· ∈ c.as) c.H0 H → Sto c.K c.as c.B H S → Rep c.K c.as c.B H d v → Dd.rt v H
  | .ex e sg S => ExW c e sg S
  | .bad => False
def PS2 (X : Cx) (W : WX2) (st : Stmt) (m : MS) : Prop := ∃ t : TS, PS X st t ∧ ∀ B H0 as ks ow sg S σ H (Dd : Ends), Rl X.K B H0 as ks ow sg S σ H → DenS (ctOf X W B H0 as ks) (m sg S) Dd → t Dd σ H
def PSs2 (X : Cx) (W : WX2) (st : List Stmt) (m : MS) : Prop := ∃ t : TS, PSs X st t ∧ ∀ B H0 as ks ow sg S σ H (Dd : Ends), Rl X.K B H0 as ks ow sg S σ H → DenS (ctOf X W B H0 as ks) (m sg S) Dd → t Dd σ H

section
variable {X : Cx} {W : WX2} {wk wa wb : Bool} {e a b : Expr} {ma mb : ME} {pos : Pos}

/-! ### names, constants -/
def mC (d : D) : ME := fun _ S => .ok (d, S)
def mVar (i : Nat) : ME := fun sg S => match sg[i]? with
  | some (.val d) => .ok (d, S)
  | _ => .bad
def mVarW (i : Nat) : ME := fun sg S => match sg[i]? with
  | some (.val d) => .ok (d, S)
  | some (.own (.lst ds)) => .ok (.lst ds, S)
  | some (.own (.dic ks ds)) => .ok (.dic ks ds, S)
  | _ => .bad
theorem wkBd {K : PySem.W.Frag} {B : Addr → Prop} {H0 : Hp} {as : List Addr} {ks : List (D × V)} {ow : List (Option Addr)} {sg : List Sl} {S : List O} {σ : L2.St} {H : Hp} (r : Rl K B H0 as ks ow sg S σ H) : ∀ a, (if wk then (· ∈ as) else Bd B ow) a → Bd B ow a := fun a h => by
  cases wk with
  | true => exact r.asBd a h
  | false => exact h
theorem asWk {K : PySem.W.Frag} {B : Addr → Prop} {H0 : Hp} {as : List Addr} {ks : List (D × V)} {ow : List (Option Addr)} {sg : List Sl} {S : List O} {σ : L2.St} {H : Hp} (r : Rl K B H0 as ks ow sg S σ H) : ∀ a, a ∈ as → (if wk then (· ∈ as) else Bd B ow) a := fun a h => by
  cases wk with
  | true => exact h
  | false => exact r.asBd a h
theorem e2_var (i : Nat) {x : Str} (hN : X.N[i]? = some x := by rfl) (hv : Vis X.env.scope x := by first | exact Or.inl rfl | exact Or.inr (Or.inl rfl) | exact Or.inr (Or.inr rfl)) (hd : (x == ("__debug__" : Str)) = false := by decide)
    (hcd : (x == ("__classdict__" : Str)) = false := by decide) : PE2 X W false (.Name x pos) (mVar i) := by
  refine ⟨_, pe_var hN hv hd hcd, fun B H0 as ks ow sg S σ H Q r h => ?_⟩
  cases e : sg[i]? with
  | none => simp only [mVar, e] at h; exact False.elim h
  | some s =>
    cases s with
    | no => simp only [mVar, e] at h; exact False.elim h
    | own o => simp only [mVar, e] at h; exact False.elim h
    | val d =>
      simp only [mVar, e] at h
      obtain ⟨w, x, h1, h2, h3, v, h4, h5⟩ := r.sl i _ e
      subst h4
      exact ⟨v, h2, h v H Evo.refl r.sto h5⟩
theorem e2_varW (i : Nat) {x : Str} (hN : X.N[i]? = some x := by rfl) (hv : Vis X.env.scope x := by first | exact Or.inl rfl | exact Or.inr (Or.inl rfl) | exact Or.inr (Or.inr rfl)) (hd : (x == ("__debug__" : Str)) = false := by decide)
    (hcd : (x == ("__classdict__" : Str)) = false := by decide) : PE2 X W true (.Name x pos) (mVarW i) := by
  refine ⟨_, pe_var hN hv hd hcd, fun B H0 as ks ow sg S σ H Q r h => ?_⟩
  cases e : sg[i]? with
  | none => simp only [mVarW, e] at h; exact False.elim h
  | some s =>
    cases s with
    | no => simp only [mVarW, e] at h; exact False.elim h
    | own o =>
      obtain ⟨w, x, h1, h2, p, h3, h4, h5⟩ := r.sl i _ e
      subst h3
      subst h4
      have np := r.ownAs (List.mem_of_getElem? h1)
      cases o with
      | lst ds =>
        simp only [mVarW, e] at h
        obtain ⟨xs, q1, q2⟩ := h5
        exact ⟨_, h2, h _ H Evo.refl r.sto ⟨p, xs, rfl, np, q1, RepA.imp (W := fun _ => False) Evo.refl (fun _ z => z.elim) r.asBd _ _ q2⟩⟩
      | dic ks ds =>
        simp only [mVarW, e] at h
        obtain ⟨xs, q1, q2, q3⟩ := h5
        exact ⟨_, h2, h _ H Evo.refl r.sto ⟨p, xs, rfl, np, .inl q1, q2, RepA.imp (W := fun _ => False) Evo.refl (fun _ z => z.elim) r.asBd _ _ q3⟩⟩
    | val d =>
      simp only [mVarW, e] at h
      obtain ⟨w, x, h1, h2, h3, v, h4, h5⟩ := r.sl i _ e
      subst h4
      exact ⟨v, h2, h v H Evo.refl r.sto (Rep.imp (W := fun _ => False) Evo.refl (fun _ z => z.elim) r.asBd _ _ h5)⟩
theorem e2_int {i : Int} {j} : PE2 X W false (.Constant (.int i) j pos) (mC (.int i)) := ⟨_, pe_int, fun B H0 as ks ow sg S σ H Q r h => h _ H Evo.refl r.sto rfl⟩
theorem e2_bl {b : Bool} {j} : PE2 X W false (.Constant (.bool b) j pos) (mC (.bl b)) := ⟨_, pe_bl, fun B H0 as ks ow sg S σ H Q r h => h _ H Evo.refl r.sto rfl⟩
theorem e2_non {j} : PE2 X W false (.Constant .none j pos) (mC .non) := ⟨_, pe_non, fun B H0 as ks ow sg S σ H Q r h => h _ H Evo.refl r.sto rfl⟩
theorem e2_str {x : Str} {j} : PE2 X W false (.Constant (.str x) j pos) (mC (.str x)) := ⟨_, pe_str, fun B H0 as ks ow sg S σ H Q r h => h _ H Evo.refl r.sto rfl⟩
/-- a constant of the module -/
theorem e2_glob {x : Str} {v : V} {u : Value} {d : D} (hg : Gl X x) (hm : X.mg x = some u) (r : RelV v u) (hr : ∀ as B H, Rep X.K as B H d v) (hd : (x == ("__debug__" : Str)) = false := by decide) : PE2 X W false (.Name x pos) (mC d) :=
  ⟨_, pe_glob hg hm r hd, fun B H0 as ks ow sg S σ H Q r h => h _ H Evo.refl r.sto (hr _ _ _)⟩
/-- strong is weak -/
theorem e2_weak {m : ME} (h : PE2 X W false e m) : PE2 X W wk e m := by
  cases wk with
  | false => exact h
  | true =>
    obtain ⟨t, h1, h2⟩ := h
    refine ⟨t, h1, fun B H0 as ks ow sg S σ H Q r h => h2 _ _ _ _ _ _ _ _ _ _ r ?_⟩
    revert h
    cases m sg S with
    | ok a => obtain ⟨d, S'⟩ := a; exact fun h v H' e s q => h v H' e s (Rep.imp (W := fun _ => False) Evo.refl (fun _ z => z.elim) r.asBd _ _ q)
    | ex => exact id
    | bad => exact id
/-- weak is strong where there is no list within -/
def mFlat (m : ME) : ME := fun sg S => (m sg S).bind fun r => if r.1.flat = true then .ok r else .bad
theorem e2_flat {m : ME} (h : PE2 X W wk e m) : PE2 X W false e (mFlat m) := by
  obtain ⟨t, h1, h2⟩ := h
  refine ⟨t, h1, fun B H0 as ks ow sg S σ H Q r h => h2 _ _ _ _ _ _ _ _ _ _ r ?_⟩
  refine Den.bind h fun d S' v H' _ e s q h => ?_
  by_cases hf : d.flat = true
  · simp only [hf] at h
    exact h v H' Evo.refl s (Rep.ofFlat d v hf q)
  · simp only [hf] at h
    exact False.elim h

/-! ### two operands -/
def mBin (f : D → D → Option D) (ma mb : ME) : ME := fun sg S => (ma sg S).bind fun x => (mb sg x.2).bind fun y => R.of ((f x.1 y.1).map fun z => (z, y.2))
/-- what an operator's rule must do: from the operands' readings, H' has new things only -/
def BinOk (K : PySem.W.Frag) (wk : Bool) (f : D → D → Option D) (r : R2) : Prop := ∀ (as : List Addr) (Bs Bw : Addr → Prop) (H : Hp) (x y z : D) (v w : V) (Q : VK), (∀ a, Bw a → Bs a) → (∀ a, Bs a → H a ≠ none) →
  Rep K as (if wk then Bw else Bs) H x v → Rep K as (if wk then Bw else Bs) H y w → f x y = some z → (∀ u H', Evo (fun _ => False) H H' → Rep K as (if wk then Bw else Bs) H' z u → Q u H') → r v w H Q
theorem Rl.bdDom {K : PySem.W.Frag} {B : Addr → Prop} {H0 : Hp} {as : List Addr} {ks : List (D × V)} {ow : List (Option Addr)} {sg : List Sl} {S : List O} {σ : L2.St} {H : Hp} (r : Rl K B H0 as ks ow sg S σ H) : ∀ a, Bd B ow a → H a ≠ none := fun a h => by
  rcases h with h | h
  · exact r.evo.dom a (r.bdom a h)
  · exact r.odom a h
theorem bin_den {r2 : R2} {f : D → D → Option D} {ta tb : TE} (hop : BinOk X.K wk f r2)
    (ha : ∀ B H0 as ks ow sg S σ H (Q : VK), Rl X.K B H0 as ks ow sg S σ H → Den (ctOf X W B H0 as ks) ow ((ctOf X W B H0 as ks).rp ow wk) (ma sg S) H Q → ta σ H Q)
    (hb : ∀ B H0 as ks ow sg S σ H (Q : VK), Rl X.K B H0 as ks ow sg S σ H → Den (ctOf X W B H0 as ks) ow ((ctOf X W B H0 as ks).rp ow wk) (mb sg S) H Q → tb σ H Q)
    {B : Addr → Prop} {H0 : Hp} {as : List Addr} {ks : List (D × V)} {ow : List (Option Addr)} {sg : List Sl} {S : List O} {σ : L2.St} {H : Hp} {Q : VK} (r : Rl X.K B H0 as ks ow sg S σ H) (h : Den (ctOf X W B H0 as ks) ow ((ctOf X W B H0 as ks).rp ow wk) (mBin f ma mb sg S) H Q) : tOp r2 ta tb σ H Q := by
  refine ha _ _ _ _ _ _ _ _ _ _ r (Den.bind h fun x S1 v H1 _ e1 s1 q1 h1 => ?_)
  have r1 := r.step e1 s1
  refine hb _ _ _ _ _ _ _ _ _ _ r1 (Den.bind h1 fun y S2 w H2 _ e2 s2 q2 h2 => ?_)
  have r2 := r1.step e2 s2
  have q1' := Rep.imp (B' := if wk then (· ∈ as) else Bd B ow) e2 (asWk r) (fun _ z => z) x v q1
  cases e : f x y with
  | none =>
    simp only [e] at h2
    exact False.elim h2
  | some z =>
    simp only [e] at h2
    refine hop as (Bd B ow) (· ∈ as) H2 x y z v w Q r.asBd r2.bdDom q1' q2 e fun u H' e3 q3 => ?_
    exact h2 u H' e3.any (r2.stoNew e3) q3
theorem e2_bin {op : Operator} {r2 : R2} {f : D → D → Option D} (ho : OpR X (binaryOp op) r2) (hop : BinOk X.K wk f r2) (ha : PE2 X W wk a ma) (hb : PE2 X W wk b mb) : PE2 X W wk (.BinOp a op b pos) (mBin f ma mb) := by
  obtain ⟨ta, a1, a2⟩ := ha
  obtain ⟨tb, b1, b2⟩ := hb
  exact ⟨_, pe_op ho a1 b1, fun B H0 as ks ow sg S σ H Q r h => bin_den hop a2 b2 r h⟩
/-- a comparison as a value -/
theorem e2_cmp {op : CmpOp} {r2 : R2} {f : D → D → Option D} (ho : OpR X (compareOp op) r2) (hop : BinOk X.K wk f r2) (ha : PE2 X W wk a ma) (hb : PE2 X W wk b mb) (hm : behindInMarks op b = false) : PE2 X W wk (.Compare a [op] [b] pos) (mBin f ma mb) := by
  obtain ⟨ta, a1, a2⟩ := ha
  obtain ⟨tb, b1, b2⟩ := hb
  exact ⟨_, pe_cmpR ho a1 b1 hm, fun B H0 as ks ow sg S σ H Q r h => bin_den hop a2 b2 r h⟩
theorem e2_ix {r2 : R2} {f : D → D → Option D} (ho : IxR X r2) (hop : BinOk X.K wk f r2) (ha : PE2 X W wk a ma) (hb : PE2 X W wk b mb) (hs : PlainIx b) : PE2 X W wk (.Subscript a b pos) (mBin f ma mb) := by
  obtain ⟨ta, a1, a2⟩ := ha
  obtain ⟨tb, b1, b2⟩ := hb
  exact ⟨_, pe_ix ho a1 b1 hs, fun B H0 as ks ow sg S σ H Q r h => bin_den hop a2 b2 r h⟩
/-- a test that is a value -/
def mTst (m : ME) : MT := fun sg S => (m sg S).bind fun x => match x.1 with
  | .bl b => .ok (b, x.2)
  | _ => .bad
theorem t2_val {m : ME} (h : PE2 X W wk e m) (he : ∀ whole, isTrue e X.env whole = (do let v ← whole; standAt e.pos; PySem.holding [v] (truthy v)) := by intro _; rfl) : PT2 X W e (mTst m) := by
  obtain ⟨t, h1, h2⟩ := h
  refine ⟨_, pt_val h1 he, fun B H0 as ks ow sg S σ H Q r h => ?_⟩
  refine h2 _ _ _ _ _ _ _ _ _ _ r (Den.bind h fun d S' v H' e0 e s q h => ?_)
  clear e0
  cases d <;> try exact False.elim h
  rename_i b
  have e : v = .bl b := q
  exact ⟨b, e, h b H' Evo.refl s rfl⟩
theorem t2_cmp {op : CmpOp} {r2 : R2} {f : D → D → Option D} (ho : OpR X (compareOp op) r2) (hop : BinOk X.K wk f r2) (ha : PE2 X W wk a ma) (hb : PE2 X W wk b mb) (hm : behindInMarks op b = false) : PT2 X W (.Compare a [op] [b] pos) (mTst (mBin f ma mb)) := by
  obtain ⟨ta, a1, a2⟩ := ha
  obtain ⟨tb, b1, b2⟩ := hb
  refine ⟨_, pt_cmpR ho a1 b1 hm, fun B H0 as ks ow sg S σ H Q r h => ?_⟩
  refine bin_den (W := W) hop a2 b2 r (Q := fun x H' => ∃ k, x = .bl k ∧ Q k H') (Den.bind h fun d S' v H' e0 e s q h => ?_)
  clear e0
  cases d <;> try exact False.elim h
  rename_i b
  have e : v = .bl b := q
  exact ⟨b, e, h b H' Evo.refl s rfl⟩
end
end D2

namespace D2
open PySem PySem.Spec PyProof.Rows L2

theorem lineN {n : Nat} (h : n ≤ 16777216) : n ≤ sizeLine := by rw [PySem.sizeLine_eq]; omega
theorem lineL {n : Nat} (h : n < 16777216) : n < sizeLine := by rw [PySem.sizeLine_eq]; omega

section
variable {K : PySem.W.Frag} {wk : Bool}
theorem newB {Bs Bw : Addr → Prop} {H : Hp} {p : Addr} (h1 : ∀ a, Bw a → Bs a) (h2 : ∀ a, Bs a → H a ≠ none) (hp : H p = none) : ¬ (if wk then Bw else Bs) p := fun z => by
  cases wk with
  | true => exact h2 p (h1 p z) hp
  | false => exact h2 p z hp
theorem RepA.new {as : List Addr} {B : Addr → Prop} {H : Hp} {p : Addr} {o : HO} {ds : List D} {xs : List V} (hp : H p = none) (h : RepA K as B H ds xs) : RepA K as B (upd H p o) ds xs :=
  RepA.imp (W := fun _ => False) (Evo.new hp) (fun _ z => z.elim) (fun _ z => z) _ _ h
theorem Rep.new {as : List Addr} {B : Addr → Prop} {H : Hp} {p : Addr} {o : HO} {d : D} {v : V} (hp : H p = none) (h : Rep K as B H d v) : Rep K as B (upd H p o) d v :=
  Rep.imp (W := fun _ => False) (Evo.new hp) (fun _ z => z.elim) (fun _ z => z) _ _ h
theorem repNewL {as : List Addr} {Bs Bw : Addr → Prop} {H : Hp} {p : Addr} {ds : List D} {xs : List V} (h1 : ∀ a, Bw a → Bs a) (h2 : ∀ a, Bs a → H a ≠ none) (hp : H p = none) (h : RepA K as (if wk then Bw else Bs) H ds xs) :
    Rep K as (if wk then Bw else Bs) (upd H p (.lst xs)) (.lst ds) (.ref p) := ⟨p, xs, rfl, newB h1 h2 hp, upd_same, h.new hp⟩
theorem repNewT {as : List Addr} {B : Addr → Prop} {H : Hp} {p : Addr} {ds : List D} {xs : List V} (hp : H p = none) (h : RepA K as B H ds xs) : Rep K as B (upd H p (.tup xs)) (.tup ds) (.ref p) := ⟨p, xs, rfl, SqT.of upd_same, h.new hp⟩

/-! ### + -/
def D.add : D → D → Option D
  | .int i, .int j => some (.int (i + j))
  | .str x, .str y => if x.length + y.length ≤ 16777216 then some (.str (x ++ y)) else none
  | .tup xs, .tup ys => if xs.length + ys.length ≤ 16777216 then some (.tup (xs ++ ys)) else none
  | .lst xs, .lst ys => if xs.length + ys.length ≤ 16777216 then some (.lst (xs ++ ys)) else none
  | _, _ => none
def rAddS : R2 := fun x y H Q => ∃ i j, x = .str i ∧ y = .str j ∧ i.length + j.length ≤ sizeLine ∧ Q (.str (i ++ j)) H
def rAdd (K : PySem.W.Frag) : R2 := fun x y H Q => rI0 (fun i j => .int (i + j)) x y H Q ∨ (rAddS x y H Q ∨ (rCatA K x y H Q ∨ rCat x y H Q))
theorem op_addD {X : Cx} : OpR X (binaryOp .Add) (rAdd X.K) := op_add.or (OpR.or op_add_str (op_catA.or op_cat))
theorem ok_add : BinOk K wk D.add (rAdd K) := by
  intro as Bs Bw H x y z v w Q h1 h2 rx ry e q
  cases x <;> try (cases e; done)
  case int i =>
    cases y <;> try (cases e; done)
    case int j =>
      cases e
      exact .inl ⟨i, j, rx, ry, q _ _ Evo.refl rfl⟩
  case str i =>
    cases y <;> try (cases e; done)
    case str j =>
      simp only [D.add] at e
      split at e
      · rename_i hl
        cases e
        exact .inr (.inl ⟨i, j, rx, ry, lineN hl, q _ _ Evo.refl rfl⟩)
      · cases e
  case tup xs =>
    cases y <;> try (cases e; done)
    case tup ys =>
      simp only [D.add] at e
      split at e
      · rename_i hl
        cases e
        obtain ⟨a, vs, e1, a1, a2⟩ := rx
        obtain ⟨b, ws, e2, b1, b2⟩ := ry
        rw [a2.length, b2.length] at hl
        refine .inr (.inr (.inl ⟨a, b, vs, ws, e1, e2, a1, b1, lineN hl, fun c => q _ _ Evo.refl ?_, fun _ c => q _ _ Evo.refl ?_, fun _ _ p hp => q _ _ (Evo.new hp) (repNewT hp (a2.append b2))⟩))
        · subst c
          have : xs = [] := List.eq_nil_of_length_eq_zero (by rw [a2.length]; rfl)
          subst this
          exact ⟨b, ws, rfl, b1, b2⟩
        · subst c
          have : ys = [] := List.eq_nil_of_length_eq_zero (by rw [b2.length]; rfl)
          subst this
          rw [List.append_nil]
          exact ⟨a, vs, rfl, a1, a2⟩
      · cases e
  case lst xs =>
    cases y <;> try (cases e; done)
    case lst ys =>
      simp only [D.add] at e
      split at e
      · rename_i hl
        cases e
        obtain ⟨a, vs, e1, na, a1, a2⟩ := rx
        obtain ⟨b, ws, e2, nb, b1, b2⟩ := ry
        rw [a2.length, b2.length] at hl
        exact .inr (.inr (.inr ⟨a, b, vs, ws, e1, e2, a1, b1, lineN hl, fun p hp => q _ _ (Evo.new hp) (repNewL h1 h2 hp (a2.append b2))⟩))
      · cases e
/-! ### the other operators on ints -/
def D.iop (C : Int → Int → Bool) (g : Int → Int → Int) : D → D → Option D
  | .int i, .int j => if C i j = true then some (.int (g i j)) else none
  | _, _ => none
theorem ok_iop {C : Int → Int → Bool} {g : Int → Int → Int} {C' : Int → Int → Prop} (hC : ∀ i j, C i j = true → C' i j) : BinOk K wk (D.iop C g) (rI C' fun i j => .int (g i j)) := by
  intro as Bs Bw H x y z v w Q h1 h2 rx ry e q
  cases x <;> try (cases e; done)
  case int i =>
    cases y <;> try (cases e; done)
    case int j =>
      simp only [D.iop] at e
      split at e
      · rename_i hc
        cases e
        exact ⟨i, j, rx, ry, hC _ _ hc, q _ _ Evo.refl rfl⟩
      · cases e
def D.iop0 (g : Int → Int → Int) : D → D → Option D
  | .int i, .int j => some (.int (g i j))
  | _, _ => none
theorem ok_iop0 {g : Int → Int → Int} : BinOk K wk (D.iop0 g) (rI0 fun i j => .int (g i j)) := by
  intro as Bs Bw H x y z v w Q h1 h2 rx ry e q
  cases x <;> try (cases e; done)
  case int i =>
    cases y <;> try (cases e; done)
    case int j =>
      cases e
      exact ⟨i, j, rx, ry, q _ _ Evo.refl rfl⟩
abbrev D.sub := D.iop0 fun i j => i - j
abbrev D.fdiv := D.iop (fun i j => decide (0 < j ∧ j < 1073741824)) fun i j => i / j
abbrev D.mod := D.iop (fun i j => decide (0 < j)) fun i j => i % j
abbrev D.powI := D.iop (fun i j => decide (0 ≤ j ∧ j ≤ 1000000 ∧ i.natAbs < 18446744073709551616)) fun i j => i ^ j.toNat
abbrev D.shl := D.iop (fun i j => decide (0 ≤ j ∧ j ≤ 1000000 ∧ i.natAbs < 18446744073709551616)) fun i j => i * 2 ^ j.toNat
abbrev D.shr := D.iop (fun i j => decide (0 ≤ j)) fun i j => i / 2 ^ j.toNat
abbrev D.and := D.iop0 Builtin.bitAnd
abbrev D.or := D.iop0 Builtin.bitOr
abbrev D.xor := D.iop0 Builtin.bitXor
theorem ok_sub : BinOk K wk D.sub (rI0 fun i j => .int (i - j)) := ok_iop0
theorem ok_fdiv : BinOk K wk D.fdiv (rI CDiv fun i j => .int (i / j)) := ok_iop fun i j h => (of_decide_eq_true (p := 0 < j ∧ j < 1073741824) h : 0 < j ∧ j < 1073741824)
theorem ok_mod : BinOk K wk D.mod (rI (fun _ j => 0 < j) fun i j => .int (i % j)) := ok_iop fun i j h => of_decide_eq_true h
theorem ok_pow : BinOk K wk D.powI (rI CPow fun i j => .int (i ^ j.toNat)) := ok_iop fun i j h => by
  have h' := of_decide_eq_true h
  exact ⟨h'.1, h'.2.1, by have := h'.2.2; omega⟩
theorem ok_shl : BinOk K wk D.shl (rI CPow fun i j => .int (i * 2 ^ j.toNat)) := ok_iop fun i j h => by
  have h' := of_decide_eq_true h
  exact ⟨h'.1, h'.2.1, by have := h'.2.2; omega⟩
theorem ok_shr : BinOk K wk D.shr (rI (fun _ j => 0 ≤ j) fun i j => .int (i / 2 ^ j.toNat)) := ok_iop fun i j h => of_decide_eq_true h
theorem ok_and : BinOk K wk D.and (rI0 fun i j => .int (Builtin.bitAnd i j)) := ok_iop0
theorem ok_or : BinOk K wk D.or (rI0 fun i j => .int (Builtin.bitOr i j)) := ok_iop0
theorem ok_xor : BinOk K wk D.xor (rI0 fun i j => .int (Builtin.bitXor i j)) := ok_iop0
/-- a product: ints (one within 2^64), a list times an int -/
def D.mul : D → D → Option D
  | .int i, .int j => if decide ((-18446744073709551616 < i ∧ i < 18446744073709551616) ∨ (-18446744073709551616 < j ∧ j < 18446744073709551616)) = true then some (.int (i * j)) else none
  | .lst xs, .int k => if decide (-4611686018427387904 ≤ k ∧ k < 4611686018427387904 ∧ xs.length * k.toNat ≤ 16777216) = true then some (.lst (List.replicate k.toNat xs).flatten) else none
  | _, _ => none
def rMulD : R2 := fun x y H Q => rI CMul (fun i j => .int (i * j)) x y H Q ∨ rRep x y H Q
theorem op_mulD {X : Cx} : OpR X (binaryOp .Mult) rMulD := op_mul.or op_rep
theorem ok_mul : BinOk K wk D.mul rMulD := by
  intro as Bs Bw H x y z v w Q h1 h2 rx ry e q
  cases x <;> try (cases e; done)
  case int i =>
    cases y <;> try (cases e; done)
    case int j =>
      simp only [D.mul] at e
      split at e
      · rename_i hc
        cases e
        have hc' := of_decide_eq_true hc
        exact .inl ⟨i, j, rx, ry, hc'.imp (fun z => ⟨by have := z.1; omega, by have := z.2; omega⟩) (fun z => ⟨by have := z.1; omega, by have := z.2; omega⟩), q _ _ Evo.refl rfl⟩
      · cases e
  case lst xs =>
    cases y <;> try (cases e; done)
    case int k =>
      simp only [D.mul] at e
      split at e
      · rename_i hc
        cases e
        have hc' := of_decide_eq_true hc
        obtain ⟨a, vs, e1, na, a1, a2⟩ := rx
        rw [a2.length] at hc'
        exact .inr ⟨a, k, vs, e1, ry, a1, by have := hc'.1; omega, by have := hc'.2.1; omega, lineN hc'.2.2, fun p hp => q _ _ (Evo.new hp) (repNewL h1 h2 hp (a2.rep _))⟩
      · cases e

/-! ### comparisons -/
def D.icmp (g : Int → Int → Bool) : D → D → Option D
  | .int i, .int j => some (.bl (g i j))
  | _, _ => none
theorem ok_icmp {g : Int → Int → Bool} : BinOk K wk (D.icmp g) (rI0 fun i j => .bl (g i j)) := by
  intro as Bs Bw H x y z v w Q h1 h2 rx ry e q
  cases x <;> try (cases e; done)
  case int i =>
    cases y <;> try (cases e; done)
    case int j =>
      cases e
      exact ⟨i, j, rx, ry, q _ _ Evo.refl rfl⟩
abbrev D.lt := D.icmp fun i j => decide (i < j)
abbrev D.le := D.icmp fun i j => decide (i ≤ j)
abbrev D.gt := D.icmp fun i j => decide (j < i)
abbrev D.ge := D.icmp fun i j => decide (j ≤ i)
theorem ok_lt : BinOk K wk D.lt (rI0 fun i j => .bl (decide (i < j))) := ok_icmp
theorem ok_le : BinOk K wk D.le (rI0 fun i j => .bl (decide (i ≤ j))) := ok_icmp
theorem ok_gt : BinOk K wk D.gt (rI0 fun i j => .bl (decide (j < i))) := ok_icmp
theorem ok_ge : BinOk K wk D.ge (rI0 fun i j => .bl (decide (j ≤ i))) := ok_icmp
/-- == of data -/
def D.eqo (x y : D) : Option D := if x.okq 50 = true then if y.okq 50 = true then some (.bl (D.eqv x y)) else none else none
def D.neo (x y : D) : Option D := if x.okq 50 = true then if y.okq 50 = true then some (.bl (!D.eqv x y)) else none else none
def rEqP (K : PySem.W.Frag) (neg : Bool) : R2 := fun x y H Q => ∃ d e, Dp K H x d ∧ Dp K H y e ∧ (d.plain = true ∧ d.depth ≤ 60) ∧ (e.plain = true ∧ e.depth ≤ 60) ∧ Q (.bl (if neg then !PyData.eqv d e else PyData.eqv d e)) H
theorem op_eqP {X : Cx} (hu : X.A.units + 64 < cLine) : OpR X (compareOp .Eq) (rEqP X.K false) := by
  intro pins s σ H x y v u Q I rx ry h
  obtain ⟨d, e, hd, he, ⟨sd, dd⟩, ⟨se, de⟩, q⟩ := h
  obtain ⟨as, r1⟩ := Dp.reads I d x v hd rx
  obtain ⟨bs, r2⟩ := Dp.reads I e y u he ry
  exact SeqAt.eq_plain r1 r2 sd se (by omega) ⟨.bl _, H, I, rfl, q⟩
theorem op_neP {X : Cx} (hu : X.A.units + 64 < cLine) : OpR X (compareOp .NotEq) (rEqP X.K true) := by
  intro pins s σ H x y v u Q I rx ry h
  obtain ⟨d, e, hd, he, ⟨sd, dd⟩, ⟨se, de⟩, q⟩ := h
  obtain ⟨as, r1⟩ := Dp.reads I d x v hd rx
  obtain ⟨bs, r2⟩ := Dp.reads I e y u he ry
  exact SeqAt.ne_plain r1 r2 sd se (by omega) ⟨.bl _, H, I, rfl, q⟩
theorem ok_eq : BinOk K wk D.eqo (rEqP K false) := by
  intro as Bs Bw H x y z v w Q h1 h2 rx ry e q
  simp only [D.eqo] at e
  split at e
  · rename_i c1
    split at e
    · rename_i c2
      cases e
      obtain ⟨a1, a2, a3⟩ := okq_dp x v 50 rx c1
      obtain ⟨b1, b2, b3⟩ := okq_dp y w 50 ry c2
      exact ⟨x.pd, y.pd, a1, b1, ⟨a2, by omega⟩, ⟨b2, by omega⟩, q _ _ Evo.refl rfl⟩
    · cases e
  · cases e
theorem ok_ne : BinOk K wk D.neo (rEqP K true) := by
  intro as Bs Bw H x y z v w Q h1 h2 rx ry e q
  simp only [D.neo] at e
  split at e
  · rename_i c1
    split at e
    · rename_i c2
      cases e
      obtain ⟨a1, a2, a3⟩ := okq_dp x v 50 rx c1
      obtain ⟨b1, b2, b3⟩ := okq_dp y w 50 ry c2
      exact ⟨x.pd, y.pd, a1, b1, ⟨a2, by omega⟩, ⟨b2, by omega⟩, q _ _ Evo.refl rfl⟩
    · cases e
  · cases e
/-! ### in: a list, a tuple, a dict -/
def D.key? : D → Option Key
  | .int i => some (.inl i)
  | .str x => some (.inr x)
  | _ => none
def dicGet : List Key → List D → Key → Option D
  | k :: ks, d :: ds, j => if k = j then some d else dicGet ks ds j
  | _, _, _ => none
def D.inB : D → D → Option Bool
  | x, .lst ds => if x.okq 50 = true then if D.okqA ds 50 = true then some (ds.any fun y => D.eqv y x) else none else none
  | x, .tup ds => if x.okq 50 = true then if D.okqA ds 50 = true then some (ds.any fun y => D.eqv y x) else none else none
  | x, .dic ks ds => match x.key? with
    | some k => some (dicGet ks ds k).isSome
    | none => none
  | .str s, .str z => if s.cps.size = 1 then some (decide (s.cps.getD 0 0 ∈ z.cps.toList)) else none
  | _, _ => none
def D.ino (x y : D) : Option D := (D.inB x y).map .bl
def D.nino (x y : D) : Option D := (D.inB x y).map fun b => .bl !b
def rInP (K : PySem.W.Frag) (neg : Bool) : R2 := fun x y H Q => ∃ d es b, Dp K H x d ∧ y = .ref b ∧ (Dp K H y (.list es) ∨ Dp K H y (.tuple es)) ∧ (d.plain = true ∧ d.depth ≤ 60) ∧ PyData.plainAll es = true ∧ Q (.bl (if neg then !(es.any fun z => PyData.eqv z d) else es.any fun z => PyData.eqv z d)) H
theorem op_inP {X : Cx} (hu : X.A.units + 64 < cLine) : OpR X (compareOp .In) (rInP X.K false) := by
  intro pins s σ H x y v u Q I rx ry h
  obtain ⟨d, es, b, hd, eb, he, ⟨sd, dd⟩, se, q⟩ := h
  obtain ⟨as, r1⟩ := Dp.reads I d x v hd rx
  rcases he with he | he
  · obtain ⟨bs, r2⟩ := Dp.reads I _ y u he ry
    exact SeqAt.in_list_data r2 r1 se sd (by omega) ⟨.bl _, H, I, rfl, q⟩
  · obtain ⟨bs, r2⟩ := Dp.reads I _ y u he ry
    exact SeqAt.in_tuple_data r2 r1 se sd (by omega) ⟨.bl _, H, I, rfl, q⟩
theorem op_ninP {X : Cx} (hu : X.A.units + 64 < cLine) : OpR X (compareOp .NotIn) (rInP X.K true) := by
  intro pins s σ H x y v u Q I rx ry h
  obtain ⟨d, es, b, hd, eb, he, ⟨sd, dd⟩, se, q⟩ := h
  obtain ⟨as, r1⟩ := Dp.reads I d x v hd rx
  rcases he with he | he
  · obtain ⟨bs, r2⟩ := Dp.reads I _ y u he ry
    exact SeqAt.notIn_list_data r2 r1 se sd (by omega) ⟨.bl _, H, I, rfl, q⟩
  · obtain ⟨bs, r2⟩ := Dp.reads I _ y u he ry
    exact SeqAt.notIn_tuple_data r2 r1 se sd (by omega) ⟨.bl _, H, I, rfl, q⟩
def rInD (neg : Bool) : R2 := fun y x H Q => ∃ a o, x = .ref a ∧ DGet H a y o ∧ Q (.bl (if neg then !o.isSome else o.isSome)) H
theorem op_inD {X : Cx} (hu : X.A.units + 1 < cLine) : OpR X (compareOp .In) (rInD false) := by
  intro pins s σ H y x u v Q I ry rx h
  obtain ⟨a, o, rfl, g, q⟩ := h
  cases rx
  exact d_in hu I g ry fun s' I' => ⟨.bl _, H, I', rfl, q⟩
theorem op_ninD {X : Cx} (hu : X.A.units + 1 < cLine) : OpR X (compareOp .NotIn) (rInD true) := by
  intro pins s σ H y x u v Q I ry rx h
  obtain ⟨a, o, rfl, g, q⟩ := h
  cases rx
  exact d_notIn hu I g ry fun s' I' => ⟨.bl _, H, I', rfl, q⟩
def rInS (neg : Bool) : R2 := fun x y H Q => ∃ (c : Nat) (z : Str), x = .str ⟨#[c]⟩ ∧ y = .str z ∧ Q (.bl (if neg then !decide (c ∈ z.cps.toList) else decide (c ∈ z.cps.toList))) H
def rIn2 (K : PySem.W.Frag) (neg : Bool) : R2 := fun x y H Q => rInP K neg x y H Q ∨ (rInD neg x y H Q ∨ rInS neg x y H Q)
theorem op_in2 {X : Cx} (hu : X.A.units + 64 < cLine) : OpR X (compareOp .In) (rIn2 X.K false) := (op_inP hu).or ((op_inD (by omega)).or op_in_sign)
theorem op_nin2 {X : Cx} (hu : X.A.units + 64 < cLine) : OpR X (compareOp .NotIn) (rIn2 X.K true) := (op_ninP hu).or ((op_ninD (by omega)).or op_notIn_sign)
theorem dicGet_val {as : List Addr} {B : Addr → Prop} {H : Hp} : ∀ {ks : List Key} {ds : List D} {xs : List V} {j : Key}, ks.length = xs.length → RepA K as B H ds xs →
    (dicGet ks ds j = none → valV (ks.zip xs) j = none) ∧ ∀ d, dicGet ks ds j = some d → ∃ v, valV (ks.zip xs) j = some v ∧ Rep K as B H d v
  | [], ds, xs, j, hl, r => by
    have : xs = [] := List.eq_nil_of_length_eq_zero hl.symm
    subst this
    exact ⟨fun _ => rfl, fun d e => by simp [dicGet] at e⟩
  | k :: ks, [], xs, j, hl, r => by
    have e : xs = [] := r
    subst e
    cases hl
  | k :: ks, d :: ds, xs, j, hl, r => by
    obtain ⟨v, vs, e1, h1, h2⟩ := r
    subst e1
    have ih := dicGet_val (ks := ks) (ds := ds) (xs := vs) (j := j) (by simpa using hl) h2
    have eq1 : valV ((k :: ks).zip (v :: vs)) j = if k = j then some v else valV (ks.zip vs) j := by
      rw [List.zip_cons_cons]
      simp only [valV, List.find?_cons]
      by_cases hk : k = j
      · simp [hk]
      · simp [hk]
    rw [eq1]
    simp only [dicGet]
    by_cases hk : k = j
    · rw [if_pos hk, if_pos hk]
      exact ⟨fun z => (nomatch z), fun d' e' => ⟨v, rfl, by cases e'; exact h1⟩⟩
    · rw [if_neg hk, if_neg hk]
      exact ih
theorem key_rep {as : List Addr} {B : Addr → Prop} {H : Hp} {x : D} {v : V} {k : Key} (h : Rep K as B H x v) (e : x.key? = some k) : v = kV k := by
  cases x <;> try (cases e; done)
  · cases e; exact h
  · cases e; exact h
theorem pdA_any (x : D) : ∀ ds : List D, (D.pdA ds).any (fun z => PyData.eqv z x.pd) = ds.any fun y => D.eqv y x
  | [] => rfl
  | d :: ds => by
    show (PyData.eqv d.pd x.pd || (D.pdA ds).any (fun z => PyData.eqv z x.pd)) = (D.eqv d x || ds.any fun y => D.eqv y x)
    rw [pdA_any x ds]
    rfl
theorem ok_in2 {neg : Bool} : BinOk K wk (fun x y => (D.inB x y).map fun b => .bl (if neg then !b else b)) (rIn2 K neg) := by
  intro as Bs Bw H x y z v w Q h1 h2 rx ry e q
  obtain ⟨b, e1, e2⟩ := Option.map_eq_some_iff.mp e
  subst e2
  cases y with
  | lst ds =>
    simp only [D.inB] at e1
    split at e1
    · rename_i c1
      split at e1
      · rename_i c2
        cases e1
        obtain ⟨a, xs, e1, nb, g1, g2⟩ := ry
        obtain ⟨a1, a2, a3⟩ := okq_dp x v 50 rx c1
        obtain ⟨b1, b2, b3⟩ := okqA_dp ds xs 50 g2 c2
        exact .inl ⟨x.pd, D.pdA ds, a, a1, e1, .inl (by rw [e1]; exact .lst (.inl (.inl g1)) b1), ⟨a2, by omega⟩, b2, by rw [pdA_any]; exact q _ _ Evo.refl rfl⟩
      · cases e1
    · cases e1
  | tup ds =>
    simp only [D.inB] at e1
    split at e1
    · rename_i c1
      split at e1
      · rename_i c2
        cases e1
        obtain ⟨a, xs, e1, g1, g2⟩ := ry
        obtain ⟨a1, a2, a3⟩ := okq_dp x v 50 rx c1
        obtain ⟨b1, b2, b3⟩ := okqA_dp ds xs 50 g2 c2
        exact .inl ⟨x.pd, D.pdA ds, a, a1, e1, .inr (by rw [e1]; exact .tup g1 b1), ⟨a2, by omega⟩, b2, by rw [pdA_any]; exact q _ _ Evo.refl rfl⟩
      · cases e1
    · cases e1
  | dic ks ds =>
    simp only [D.inB] at e1
    split at e1
    · rename_i k c1
      cases e1
      obtain ⟨a, xs, e1, nb, g1, gl, g2⟩ := ry
      have ek := key_rep rx c1
      subst ek
      have gv := dicGet_val (j := k) gl g2
      refine .inr (.inl ⟨a, valV (ks.zip xs) k, e1, .inl ⟨_, k, g1, rfl, rfl⟩, ?_⟩)
      have : (valV (ks.zip xs) k).isSome = (dicGet ks ds k).isSome := by
        cases c : dicGet ks ds k with
        | none => rw [gv.1 c]; rfl
        | some d =>
          obtain ⟨v, q1, _⟩ := gv.2 d c
          rw [q1]; rfl
      rw [this]
      exact q _ _ Evo.refl rfl
    · cases e1
  | str z =>
    cases x <;> try (simp only [D.inB] at e1; cases e1; done)
    rename_i s
    simp only [D.inB] at e1
    split at e1
    · rename_i hs
      cases e1
      obtain ⟨⟨l⟩⟩ := s
      cases l with
      | nil => cases hs
      | cons c r =>
        cases r with
        | nil => exact .inr (.inr ⟨c, z, rx, ry, q _ _ Evo.refl rfl⟩)
        | cons c2 r2 => simp at hs
    · cases e1
  | _ => simp only [D.inB] at e1; cases e1
theorem ok_in : BinOk K wk D.ino (rIn2 K false) := ok_in2 (neg := false)
theorem ok_nin : BinOk K wk D.nino (rIn2 K true) := ok_in2 (neg := true)

/-! ### subscripts -/
def D.ixo : D → D → Option D
  | .lst ds, .int i => atI ds i
  | .tup ds, .int i => atI ds i
  | .str z, .int i => if z.length ≤ 16777216 then (atI z.cps.toList i).map fun c => .str ⟨#[c]⟩ else none
  | .dic ks ds, x => match x.key? with
    | some k => dicGet ks ds k
    | none => none
  | _, _ => none
def rIxD : R2 := fun x y H Q => ∃ a v, x = .ref a ∧ DGet H a y (some v) ∧ Q v H
theorem ix_dict {X : Cx} (hu : X.A.units + 1 < cLine) : IxR X rIxD := by
  intro value slice pins s σ H x y v u Q I rx ry h hs
  obtain ⟨a, z, rfl, g, q⟩ := h
  cases rx
  have ht := dict_typeIs I g
  unfold subscriptTail
  refine wpAny_bind ?_
  rw [getitemInPython_of_ne ht.not_modules]
  refine wpAny_bind (wpAny_specialOf ht PySem.F.slot_dict_getitem.lookup ?_)
  have fin : wpAny (model X.prog X.w) X.A (subscripted slice false (.ref a) u) (fun r s₃ => wpAny (model X.prog X.w) X.A (letTemporaryGo value (.ref a) r >>= fun _ => pure r) (EP X pins σ Q) X.xe s₃) X.xe s := by
    rw [hs]
    exact wpAny_operating (wpAny_mono (d_getItem hu I g ry fun w' s' I' r' => (⟨_, H, I', r', q⟩ : EP X pins σ Q w' s')) (fun r s₃ h₃ => wpAny_bind (wpAny_letTemporaryGo (wpAny_pure h₃))) fun _ _ x => x)
  first
    | exact wpAny_pure (wpAny_bind fin)
    | exact wpAny_bind (wpAny_pure (wpAny_bind fin))
    | exact wpAny_bind fin
def rIx2 (K : PySem.W.Frag) : R2 := fun x y H Q => rIx K x y H Q ∨ rIxD x y H Q
theorem ix_all {X : Cx} (hu : X.A.units + 1 < cLine) : IxR X (rIx2 X.K) := ix_seq.or (ix_dict hu)
theorem atI_rep {as : List Addr} {B : Addr → Prop} {H : Hp} {ds : List D} {xs : List V} {i : Int} {d : D} (r : RepA K as B H ds xs) (h : atI ds i = some d) : ∃ v, atI xs i = some v ∧ Rep K as B H d v := by
  unfold atI at h ⊢
  rw [← r.length]
  cases e : ixN ds.length i with
  | none => rw [e] at h; cases h
  | some j =>
    rw [e] at h
    exact r.get h
theorem ok_ix : BinOk K wk D.ixo (rIx2 K) := by
  intro as Bs Bw H x y z v w Q h1 h2 rx ry e q
  cases x with
  | lst ds =>
    cases y <;> try (simp only [D.ixo] at e; cases e; done)
    rename_i i
    obtain ⟨a, xs, e1, nb, g1, g2⟩ := rx
    obtain ⟨u, q1, q2⟩ := atI_rep g2 e
    exact .inl (.inl ⟨a, xs, i, u, e1, ry, .inl (.inl g1), q1, q _ _ Evo.refl q2⟩)
  | tup ds =>
    cases y <;> try (simp only [D.ixo] at e; cases e; done)
    rename_i i
    obtain ⟨a, xs, e1, g1, g2⟩ := rx
    obtain ⟨u, q1, q2⟩ := atI_rep g2 e
    exact .inl (.inr (.inl ⟨a, xs, i, u, e1, ry, g1, q1, q _ _ Evo.refl q2⟩))
  | str s =>
    cases y <;> try (simp only [D.ixo] at e; cases e; done)
    rename_i i
    simp only [D.ixo] at e
    split at e
    · rename_i hl
      obtain ⟨c, c1, c2⟩ := Option.map_eq_some_iff.mp e
      subst c2
      exact .inl (.inr (.inr ⟨s, i, c, rx, ry, lineN hl, c1, q _ _ Evo.refl rfl⟩))
    · cases e
  | dic ks ds =>
    simp only [D.ixo] at e
    split at e
    · rename_i k c1
      obtain ⟨a, xs, e1, nb, g1, gl, g2⟩ := rx
      have ek := key_rep ry c1
      subst ek
      obtain ⟨u, q1, q2⟩ := (dicGet_val (j := k) gl g2).2 z e
      exact .inr ⟨a, u, e1, .inl ⟨_, k, g1, rfl, q1.symm⟩, q _ _ Evo.refl q2⟩
    · cases e
  | _ => simp only [D.ixo] at e; cases e
end
end D2

namespace D2
open PySem PySem.Spec PyProof.Rows L2

section
variable {X : Cx} {W : WX2} {wk : Bool} {e a b c : Expr} {es : List Expr} {m ma mb mc : ME} {ms : MA} {mt : MT} {pos : Pos}

/-! ### arguments, displays -/
def mNil : MA := fun _ S => .ok ([], S)
def mCons (m : ME) (ms : MA) : MA := fun sg S => (m sg S).bind fun x => (ms sg x.2).bind fun y => .ok (x.1 :: y.1, y.2)
theorem a2_nil : PA2 X W wk [] mNil := ⟨_, pa_nil, fun B H0 as ks ow sg S σ H Q r h => h [] H Evo.refl r.sto rfl⟩
theorem a2_cons (he : PE2 X W wk e m) (hr : PA2 X W wk es ms) (hs : starEach (e :: es) X.env = (false, eval e X.env) :: starEach es X.env := by rfl) : PA2 X W wk (e :: es) (mCons m ms) := by
  obtain ⟨t, h1, h2⟩ := he
  obtain ⟨u, g1, g2⟩ := hr
  refine ⟨_, pa_cons h1 g1 hs, fun B H0 as ks ow sg S σ H Q r h => ?_⟩
  refine h2 _ _ _ _ _ _ _ _ _ _ r (Den.bind h fun x S1 v H1 _ e1 s1 q1 h1 => ?_)
  refine g2 _ _ _ _ _ _ _ _ _ _ (r.step e1 s1) (Den.bind h1 fun y S2 w H2 _ e2 s2 q2 h2 => ?_)
  exact h2 (v :: w) H2 Evo.refl s2 ⟨v, w, rfl, Rep.imp e2 (asWk r) (fun _ z => z) x v q1, q2⟩
def mTup (ms : MA) : ME := fun sg S => (ms sg S).bind fun x => if x.1.length ≤ 16777216 then .ok (.tup x.1, x.2) else .bad
def mLst (ms : MA) : ME := fun sg S => (ms sg S).bind fun x => if x.1.length ≤ 16777216 then .ok (.lst x.1, x.2) else .bad
theorem stoNew {K : PySem.W.Frag} {as : List Addr} {B : Addr → Prop} {H : Hp} {S : List O} {p : Addr} {o : HO} (s : Sto K as B H S) (hp : H p = none) : Sto K as B (upd H p o) S := s.evo (W := fun _ => False) (Evo.new hp)
theorem e2_tup {k} (h : PA2 X W wk es ms) : PE2 X W wk (.Tuple es k pos) (mTup ms) := by
  obtain ⟨t, h1, h2⟩ := h
  refine ⟨_, pe_tup h1, fun B H0 as ks ow sg S σ H Q r h => ?_⟩
  refine h2 _ _ _ _ _ _ _ _ _ _ r (Den.bind h fun x S1 v H1 _ e1 s1 q1 h1 => ?_)
  by_cases hl : x.length ≤ 16777216
  · simp only [if_pos hl] at h1
    refine ⟨lineN (by rw [← q1.length]; exact hl), fun p hp => h1 _ _ (Evo.new hp) (stoNew s1 hp) ?_⟩
    exact repNewT hp q1
  · simp only [if_neg hl] at h1
    exact False.elim h1
theorem e2_lst (h : PA2 X W wk es ms) : PE2 X W wk (.List es pos) (mLst ms) := by
  obtain ⟨t, h1, h2⟩ := h
  refine ⟨_, pe_lst h1, fun B H0 as ks ow sg S σ H Q r h => ?_⟩
  refine h2 _ _ _ _ _ _ _ _ _ _ r (Den.bind h fun x S1 v H1 _ e1 s1 q1 h1 => ?_)
  by_cases hl : x.length ≤ 16777216
  · simp only [if_pos hl] at h1
    refine ⟨lineN (by rw [← q1.length]; exact hl), fun p hp => h1 _ _ (Evo.new hp) (stoNew s1 hp) ?_⟩
    exact repNewL r.asBd (r.step e1 s1).bdDom hp q1
  · simp only [if_neg hl] at h1
    exact False.elim h1

/-! ### one operand -/
def mUn (f : D → Option D) (m : ME) : ME := fun sg S => (m sg S).bind fun x => R.of ((f x.1).map fun z => (z, x.2))
def D.neg : D → Option D
  | .int i => some (.int (-i))
  | _ => none
theorem e2_neg (h : PE2 X W wk a m) : PE2 X W wk (.UnaryOp .USub a pos) (mUn D.neg m) := by
  obtain ⟨t, h1, h2⟩ := h
  refine ⟨_, pe_un un_neg h1, fun B H0 as ks ow sg S σ H Q r h => ?_⟩
  refine h2 _ _ _ _ _ _ _ _ _ _ r (Den.bind h fun d S1 v H1 e0 e1 s1 q1 h1 => ?_)
  clear e0
  cases d <;> try exact False.elim h1
  rename_i i
  exact ⟨i, q1, h1 _ H1 Evo.refl s1 rfl⟩
def D.nob : D → Option D
  | .bl b => some (.bl (!b))
  | _ => none
theorem e2_not (h : PE2 X W wk a m) : PE2 X W wk (.UnaryOp .Not a pos) (mUn D.nob m) := by
  obtain ⟨t, h1, h2⟩ := h
  refine ⟨_, pe_not h1, fun B H0 as ks ow sg S σ H Q r h => ?_⟩
  refine h2 _ _ _ _ _ _ _ _ _ _ r (Den.bind h fun d S1 v H1 e0 e1 s1 q1 h1 => ?_)
  clear e0
  cases d <;> try exact False.elim h1
  rename_i i
  exact ⟨i, q1, h1 _ H1 Evo.refl s1 rfl⟩

/-! ### and, or as values (of truth values) -/
def mAnd (ma mb : ME) : ME := fun sg S => (ma sg S).bind fun x => match x.1 with
  | .bl true => mb sg x.2
  | .bl false => .ok (.bl false, x.2)
  | _ => .bad
def mOr (ma mb : ME) : ME := fun sg S => (ma sg S).bind fun x => match x.1 with
  | .bl true => .ok (.bl true, x.2)
  | .bl false => mb sg x.2
  | _ => .bad
theorem e2_one {op} (h : PE2 X W wk a m) : PE2 X W wk (.BoolOp op [a] pos) m := by
  obtain ⟨t, h1, h2⟩ := h
  exact ⟨t, pe_one h1, h2⟩
theorem e2_and (ha : PE2 X W wk a ma) (hb : PE2 X W wk (.BoolOp .And (b :: es) pos) mb) : PE2 X W wk (.BoolOp .And (a :: b :: es) pos) (mAnd ma mb) := by
  obtain ⟨t, h1, h2⟩ := ha
  obtain ⟨u, g1, g2⟩ := hb
  refine ⟨_, pe_and h1 g1, fun B H0 as ks ow sg S σ H Q r h => ?_⟩
  refine h2 _ _ _ _ _ _ _ _ _ _ r (Den.bind h fun d S1 v H1 e0 e1 s1 q1 h1 => ?_)
  clear e0
  cases d <;> try exact False.elim h1
  rename_i i
  refine ⟨i, q1, ?_⟩
  cases i with
  | true => exact g2 _ _ _ _ _ _ _ _ _ _ (r.step e1 s1) h1
  | false => exact h1 _ H1 Evo.refl s1 rfl
theorem e2_or (ha : PE2 X W wk a ma) (hb : PE2 X W wk (.BoolOp .Or (b :: es) pos) mb) : PE2 X W wk (.BoolOp .Or (a :: b :: es) pos) (mOr ma mb) := by
  obtain ⟨t, h1, h2⟩ := ha
  obtain ⟨u, g1, g2⟩ := hb
  refine ⟨_, pe_or h1 g1, fun B H0 as ks ow sg S σ H Q r h => ?_⟩
  refine h2 _ _ _ _ _ _ _ _ _ _ r (Den.bind h fun d S1 v H1 e0 e1 s1 q1 h1 => ?_)
  clear e0
  cases d <;> try exact False.elim h1
  rename_i i
  refine ⟨i, q1, ?_⟩
  cases i with
  | false => exact g2 _ _ _ _ _ _ _ _ _ _ (r.step e1 s1) h1
  | true => exact h1 _ H1 Evo.refl s1 rfl

/-! ### tests -/
def D.truth : D → Option Bool
  | .non => some false
  | .bl b => some b
  | .int i => some (i != 0)
  | .str y => if y.length ≤ 16777216 then some ((y.length : Int) != 0) else none
  | .tup ds => some (!ds.isEmpty)
  | .lst ds => some (!ds.isEmpty)
  | .dic ks ds => none
  | .rng _ _ => none
  | .ref _ => none
def mTru (m : ME) : MT := fun sg S => (m sg S).bind fun x => R.of (x.1.truth.map fun b => (b, x.2))
theorem isEmpty_rep {K : PySem.W.Frag} {as : List Addr} {B : Addr → Prop} {H : Hp} {ds : List D} {xs : List V} (h : RepA K as B H ds xs) : ds.isEmpty = xs.isEmpty := by
  have := h.length
  cases ds <;> cases xs <;> first | rfl | cases this
theorem t2_tru (h : PE2 X W wk e m) (he : ∀ whole, isTrue e X.env whole = (do let v ← whole; standAt e.pos; PySem.holding [v] (truthy v)) := by intro _; rfl) : PT2 X W e (mTru m) := by
  obtain ⟨t, h1, h2⟩ := h
  refine ⟨_, pt_truth h1 he, fun B H0 as ks ow sg S σ H Q r h => ?_⟩
  refine h2 _ _ _ _ _ _ _ _ _ _ r (Den.bind h fun d S1 v H1 e0 e1 s1 q1 h1 => ?_)
  clear e0
  cases d with
  | non =>
    have q : v = .non := q1
    subst q
    exact ⟨false, rfl, h1 _ H1 Evo.refl s1 rfl⟩
  | bl b =>
    have q : v = .bl b := q1
    subst q
    exact ⟨b, rfl, h1 _ H1 Evo.refl s1 rfl⟩
  | int i =>
    have q : v = .int i := q1
    subst q
    exact ⟨i != 0, rfl, h1 _ H1 Evo.refl s1 rfl⟩
  | str y =>
    have q : v = .str y := q1
    subst q
    simp only [D.truth] at h1
    by_cases hl : y.length ≤ 16777216
    · simp only [if_pos hl] at h1
      exact ⟨(y.length : Int) != 0, ⟨lineN hl, rfl⟩, h1 _ H1 Evo.refl s1 rfl⟩
    · simp only [if_neg hl] at h1
      exact False.elim h1
  | tup ds =>
    obtain ⟨p, xs, q, g1, g2⟩ := q1
    subst q
    exact ⟨!xs.isEmpty, .inr (.inl ⟨xs, g1, rfl⟩), by rw [← isEmpty_rep g2]; exact h1 _ H1 Evo.refl s1 rfl⟩
  | lst ds =>
    obtain ⟨p, xs, q, nb, g1, g2⟩ := q1
    subst q
    exact ⟨!xs.isEmpty, .inl ⟨xs, SqL.of g1, rfl⟩, by rw [← isEmpty_rep g2]; exact h1 _ H1 Evo.refl s1 rfl⟩
  | dic ks ds => exact False.elim h1
  | rng _ _ => exact False.elim h1
  | ref n => exact False.elim h1
def mNotT (m : MT) : MT := fun sg S => (m sg S).bind fun x => .ok (!x.1, x.2)
theorem t2_not (h : PT2 X W a mt) : PT2 X W (.UnaryOp .Not a pos) (mNotT mt) := by
  obtain ⟨t, h1, h2⟩ := h
  refine ⟨_, pt_not h1, fun B H0 as ks ow sg S σ H Q r h => ?_⟩
  refine h2 _ _ _ _ _ _ _ _ _ _ r (Den.bind h fun d S1 v H1 e0 e1 s1 q1 h1 => ?_)
  have q : v = d := q1
  subst q
  exact h1 _ H1 Evo.refl s1 rfl
def mAndT (ma mb : MT) : MT := fun sg S => (ma sg S).bind fun x => if x.1 = true then mb sg x.2 else .ok (false, x.2)
def mOrT (ma mb : MT) : MT := fun sg S => (ma sg S).bind fun x => if x.1 = true then .ok (true, x.2) else mb sg x.2
theorem w2_pt {mt : MT} (h : PW2 X W e mt) : PT2 X W e mt := by
  obtain ⟨t, h1, h2⟩ := h
  exact ⟨t, h1.pt, h2⟩
theorem w2_and1 {mt : MT} (h : PT2 X W a mt) : PW2 X W (.BoolOp .And [a] pos) mt := by
  obtain ⟨t, h1, h2⟩ := h
  exact ⟨t, pw_and1 h1, h2⟩
theorem w2_or1 {mt : MT} (h : PT2 X W a mt) : PW2 X W (.BoolOp .Or [a] pos) mt := by
  obtain ⟨t, h1, h2⟩ := h
  exact ⟨t, pw_or1 h1, h2⟩
theorem w2_and {ma mb : MT} (ha : PT2 X W a ma) (hb : PW2 X W (.BoolOp .And (b :: es) pos) mb) : PW2 X W (.BoolOp .And (a :: b :: es) pos) (mAndT ma mb) := by
  obtain ⟨t, h1, h2⟩ := ha
  obtain ⟨u, g1, g2⟩ := hb
  refine ⟨_, pw_and h1 g1, fun B H0 as ks ow sg S σ H Q r h => ?_⟩
  refine h2 _ _ _ _ _ _ _ _ _ _ r (Den.bind h fun d S1 v H1 e0 e1 s1 q1 h1 => ?_)
  have q : v = d := q1
  subst q
  cases v with
  | true => exact g2 _ _ _ _ _ _ _ _ _ _ (r.step e1 s1) h1
  | false => exact h1 _ H1 Evo.refl s1 rfl
theorem w2_or {ma mb : MT} (ha : PT2 X W a ma) (hb : PW2 X W (.BoolOp .Or (b :: es) pos) mb) : PW2 X W (.BoolOp .Or (a :: b :: es) pos) (mOrT ma mb) := by
  obtain ⟨t, h1, h2⟩ := ha
  obtain ⟨u, g1, g2⟩ := hb
  refine ⟨_, pw_or h1 g1, fun B H0 as ks ow sg S σ H Q r h => ?_⟩
  refine h2 _ _ _ _ _ _ _ _ _ _ r (Den.bind h fun d S1 v H1 e0 e1 s1 q1 h1 => ?_)
  have q : v = d := q1
  subst q
  cases v with
  | false => exact g2 _ _ _ _ _ _ _ _ _ _ (r.step e1 s1) h1
  | true => exact h1 _ H1 Evo.refl s1 rfl
/-- x is None, x is not None -/
def mIsN (neg : Bool) (m : ME) : ME := fun sg S => (m sg S).bind fun x => .ok (.bl (match x.1 with | .non => !neg | _ => neg), x.2)
theorem isN_rep {K : PySem.W.Frag} {as : List Addr} {B : Addr → Prop} {H : Hp} {d : D} {v : V} (h : Rep K as B H d v) : decide (v = V.non) = (match d with | .non => true | _ => false) := by
  cases d with
  | non => have q : v = .non := h; subst q; rfl
  | bl b => have q : v = .bl b := h; subst q; rfl
  | int b => have q : v = .int b := h; subst q; rfl
  | str b => have q : v = .str b := h; subst q; rfl
  | tup ds => obtain ⟨p, xs, q, _⟩ := h; subst q; rfl
  | lst ds => obtain ⟨p, xs, q, _⟩ := h; subst q; rfl
  | dic ks ds => obtain ⟨p, xs, q, _⟩ := h; subst q; rfl
  | rng _ _ => obtain ⟨p, q, _⟩ := h; subst q; rfl
  | ref n => obtain ⟨p, q, _⟩ := h; subst q; rfl
theorem e2_isN {j pos'} (h : PE2 X W wk a m) : PE2 X W wk (.Compare a [.Is] [.Constant .none j pos'] pos) (mIsN false m) := by
  obtain ⟨t, h1, h2⟩ := h
  refine ⟨_, pe_cmp (pc_isN h1) rfl, fun B H0 as ks ow sg S σ H Q r h => ?_⟩
  refine h2 _ _ _ _ _ _ _ _ _ _ r (Den.bind h fun d S1 v H1 e0 e1 s1 q1 h1 => ?_)
  show Q (.bl (decide (v = V.non))) H1
  rw [isN_rep q1]
  exact h1 _ H1 Evo.refl s1 (by cases d <;> rfl)
theorem e2_notN {j pos'} (h : PE2 X W wk a m) : PE2 X W wk (.Compare a [.IsNot] [.Constant .none j pos'] pos) (mIsN true m) := by
  obtain ⟨t, h1, h2⟩ := h
  refine ⟨_, pe_cmp (pc_notN h1) rfl, fun B H0 as ks ow sg S σ H Q r h => ?_⟩
  refine h2 _ _ _ _ _ _ _ _ _ _ r (Den.bind h fun d S1 v H1 e0 e1 s1 q1 h1 => ?_)
  show Q (.bl (!decide (v = V.non))) H1
  rw [isN_rep q1]
  exact h1 _ H1 Evo.refl s1 (by cases d <;> rfl)
/-- a if c else b -/
def mIf (mt : MT) (ma mb : ME) : ME := fun sg S => (mt sg S).bind fun x => if x.1 = true then ma sg x.2 else mb sg x.2
theorem e2_if (hc : PT2 X W c mt) (ha : PE2 X W wk a ma) (hb : PE2 X W wk b mb) : PE2 X W wk (.IfExp c a b pos) (mIf mt ma mb) := by
  obtain ⟨t, h1, h2⟩ := hc
  obtain ⟨u, f1, f2⟩ := ha
  obtain ⟨w, g1, g2⟩ := hb
  refine ⟨_, pe_ifExp h1 f1 g1, fun B H0 as ks ow sg S σ H Q r h => ?_⟩
  refine h2 _ _ _ _ _ _ _ _ _ _ r (Den.bind h fun d S1 v H1 e0 e1 s1 q1 h1 => ?_)
  have q : v = d := q1
  subst q
  cases v with
  | true => exact f2 _ _ _ _ _ _ _ _ _ _ (r.step e1 s1) h1
  | false => exact g2 _ _ _ _ _ _ _ _ _ _ (r.step e1 s1) h1
/-- a < b < c -/
def mChain (f g : D → D → Option D) (ma mb mc : ME) : ME := fun sg S => (ma sg S).bind fun x => (mb sg x.2).bind fun y => match f x.1 y.1 with
  | some (.bl true) => (mc sg y.2).bind fun z => R.of ((g y.1 z.1).map fun u => (u, z.2))
  | some (.bl false) => .ok (.bl false, y.2)
  | _ => .bad
theorem chain_den {op op' : CmpOp} {r2 r2' : R2} {f g : D → D → Option D} {ta tb tc : TE} (hop : BinOk X.K wk f r2) (hop' : BinOk X.K wk g r2')
    (ha : ∀ B H0 as ks ow sg S σ H (Q : VK), Rl X.K B H0 as ks ow sg S σ H → Den (ctOf X W B H0 as ks) ow ((ctOf X W B H0 as ks).rp ow wk) (ma sg S) H Q → ta σ H Q)
    (hb : ∀ B H0 as ks ow sg S σ H (Q : VK), Rl X.K B H0 as ks ow sg S σ H → Den (ctOf X W B H0 as ks) ow ((ctOf X W B H0 as ks).rp ow wk) (mb sg S) H Q → tb σ H Q)
    (hc : ∀ B H0 as ks ow sg S σ H (Q : VK), Rl X.K B H0 as ks ow sg S σ H → Den (ctOf X W B H0 as ks) ow ((ctOf X W B H0 as ks).rp ow wk) (mc sg S) H Q → tc σ H Q)
    {B : Addr → Prop} {H0 : Hp} {as : List Addr} {ks : List (D × V)} {ow : List (Option Addr)} {sg : List Sl} {S : List O} {σ : L2.St} {H : Hp} {Q : VK} (r : Rl X.K B H0 as ks ow sg S σ H) (h : Den (ctOf X W B H0 as ks) ow ((ctOf X W B H0 as ks).rp ow wk) (mChain f g ma mb mc sg S) H Q) : tChain r2 r2' ta tb tc σ H Q := by
  refine ha _ _ _ _ _ _ _ _ _ _ r (Den.bind h fun x S1 v H1 _ e1 s1 q1 h1 => ?_)
  have r1 := r.step e1 s1
  refine hb _ _ _ _ _ _ _ _ _ _ r1 (Den.bind h1 fun y S2 w H2 _ e2 s2 q2 h2 => ?_)
  have r2 := r1.step e2 s2
  have q1' := Rep.imp (B' := if wk then (· ∈ as) else Bd B ow) e2 (asWk r) (fun _ z => z) x v q1
  cases e : f x y with
  | none => simp only [e] at h2; exact False.elim h2
  | some z =>
    refine hop as (Bd B ow) (· ∈ as) H2 x y z v w _ r.asBd r2.bdDom q1' q2 e fun u H' e3 q3 => ?_
    have s3 := r2.stoNew e3
    have r3 := r2.step e3.any s3
    cases z <;> try (simp only [e] at h2; exact False.elim h2)
    rename_i k
    refine ⟨k, q3, ?_⟩
    cases k with
    | false =>
      simp only [e] at h2
      exact h2 _ H' e3.any s3 rfl
    | true =>
      simp only [e] at h2
      refine hc _ _ _ _ _ _ _ _ _ _ r3 (Den.bind (Den.evo e3.any h2) fun z S4 w4 H4 _ e4 s4 q4 h4 => ?_)
      have r4 := r3.step e4 s4
      cases e' : g y z with
      | none => simp only [e'] at h4; exact False.elim h4
      | some u2 =>
        simp only [e'] at h4
        have q2' := Rep.imp (B' := if wk then (· ∈ as) else Bd B ow) (e3.any.trans e4) (asWk r) (fun _ z => z) y w q2
        refine hop' as (Bd B ow) (· ∈ as) H4 y z u2 w w4 Q r.asBd r4.bdDom q2' q4 e' fun u5 H5 e5 q5 => ?_
        exact h4 u5 H5 e5.any (r4.stoNew e5) q5
theorem e2_chain {op op' : CmpOp} {r2 r2' : R2} {f g : D → D → Option D} (ho : OpR X (compareOp op) r2) (hop : BinOk X.K wk f r2) (ho' : OpR X (compareOp op') r2') (hop' : BinOk X.K wk g r2')
    (ha : PE2 X W wk a ma) (hb : PE2 X W wk b mb) (hc : PE2 X W wk c mc) (hm : lastMarks [op, op'] [b, c] = false := by with_unfolding_all rfl) : PE2 X W wk (.Compare a [op, op'] [b, c] pos) (mChain f g ma mb mc) := by
  obtain ⟨ta, a1, a2⟩ := ha
  obtain ⟨tb, b1, b2⟩ := hb
  obtain ⟨tc, c1, c2⟩ := hc
  exact ⟨_, pe_chain ho ho' a1 b1 c1 hm, fun B H0 as ks ow sg S σ H Q r h => chain_den (op := op) (op' := op') hop hop' a2 b2 c2 r h⟩
theorem t2_chain {op op' : CmpOp} {r2 r2' : R2} {f g : D → D → Option D} (ho : OpR X (compareOp op) r2) (hop : BinOk X.K wk f r2) (ho' : OpR X (compareOp op') r2') (hop' : BinOk X.K wk g r2')
    (ha : PE2 X W wk a ma) (hb : PE2 X W wk b mb) (hc : PE2 X W wk c mc) (hm : lastMarks [op, op'] [b, c] = false := by with_unfolding_all rfl) : PT2 X W (.Compare a [op, op'] [b, c] pos) (mTst (mChain f g ma mb mc)) := by
  obtain ⟨ta, a1, a2⟩ := ha
  obtain ⟨tb, b1, b2⟩ := hb
  obtain ⟨tc, c1, c2⟩ := hc
  refine ⟨_, pt_chain ho ho' a1 b1 c1 hm, fun B H0 as ks ow sg S σ H Q r h => ?_⟩
  refine chain_den (op := op) (op' := op') (W := W) hop hop' a2 b2 c2 r (Q := fun x H' => ∃ k, x = .bl k ∧ Q k H') (Den.bind h fun d S' v H' e0 e s q h => ?_)
  clear e0
  cases d <;> try exact False.elim h
  rename_i b
  have e : v = .bl b := q
  exact ⟨b, e, h b H' Evo.refl s rfl⟩

/-! ### calls of built-ins -/
def CallOk (K : PySem.W.Frag) (wk : Bool) (f : List D → Option D) (r : List V → Hp → VK → Prop) : Prop := ∀ (as : List Addr) (Bs Bw : Addr → Prop) (H : Hp) (ds : List D) (z : D) (vs : List V) (Q : VK), (∀ a, Bw a → Bs a) → (∀ a, Bs a → H a ≠ none) →
  RepA K as (if wk then Bw else Bs) H ds vs → f ds = some z → (∀ u H', Evo (fun _ => False) H H' → Rep K as (if wk then Bw else Bs) H' z u → Q u H') → r vs H Q
def mBi (f : List D → Option D) (ms : MA) : ME := fun sg S => (ms sg S).bind fun x => R.of ((f x.1).map fun z => (z, x.2))
theorem bi_den {r2 : List V → Hp → VK → Prop} {f : List D → Option D} {ta : TA} (hop : CallOk X.K wk f r2)
    (ha : ∀ B H0 as ks ow sg S σ H (Q : List V → Hp → Prop), Rl X.K B H0 as ks ow sg S σ H → Den (ctOf X W B H0 as ks) ow ((ctOf X W B H0 as ks).rpa ow wk) (ms sg S) H Q → ta σ H Q)
    {B : Addr → Prop} {H0 : Hp} {as : List Addr} {ks : List (D × V)} {ow : List (Option Addr)} {sg : List Sl} {S : List O} {σ : L2.St} {H : Hp} {Q : VK} (r : Rl X.K B H0 as ks ow sg S σ H) (h : Den (ctOf X W B H0 as ks) ow ((ctOf X W B H0 as ks).rp ow wk) (mBi f ms sg S) H Q) : tCB r2 ta σ H Q := by
  refine ha _ _ _ _ _ _ _ _ _ _ r (Den.bind h fun x S1 v H1 _ e1 s1 q1 h1 => ?_)
  have r1 := r.step e1 s1
  cases e : f x with
  | none => simp only [e] at h1; exact False.elim h1
  | some z =>
    simp only [e] at h1
    exact hop as (Bd B ow) (· ∈ as) H1 x z v Q r.asBd r1.bdDom q1 e fun u H' e3 q3 => h1 u H' e3.any (r1.stoNew e3) q3
theorem e2_callB {id : String} {x : Str} {p : Pos} {r2 : List V → Hp → VK → Prop} {f : List D → Option D} (hc : CallR X (.builtin id) r2) (hop : CallOk X.K wk f r2) (hg : Gl X x) (hm : X.mg x = none) (hv : bootBuiltins x = some (.builtin id)) (ha : PA2 X W wk (e :: es) ms)
    (hn : x ≠ "__name__" := by decide) (hdb : (x == ("__debug__" : Str)) = false := by decide) (he : starEach (e :: es) X.env = (false, eval e X.env) :: starEach es X.env := by rfl) (hpl : (backTo pos (starEach es X.env)).any (·.1) = false := by rfl) :
    PE2 X W wk (.Call (.Name x p) (e :: es) [] pos) (mBi f ms) := by
  obtain ⟨ta, a1, a2⟩ := ha
  exact ⟨_, pe_callB hc hg hm hv a1 hn hdb he hpl, fun B H0 as ks ow sg S σ H Q r h => bi_den hop a2 r h⟩
theorem e2_callTy {T : String} {x : Str} {p : Pos} {r2 : List V → Hp → VK → Prop} {f : List D → Option D} (hc : CallR X (.type T) r2) (hop : CallOk X.K wk f r2) (hg : Gl X x) (hm : X.mg x = none) (hv : bootBuiltins x = some (.type T)) (ha : PA2 X W wk (e :: es) ms)
    (hn : x ≠ "__name__" := by decide) (hdb : (x == ("__debug__" : Str)) = false := by decide) (he : starEach (e :: es) X.env = (false, eval e X.env) :: starEach es X.env := by rfl) (hpl : (backTo pos (starEach es X.env)).any (·.1) = false := by rfl) :
    PE2 X W wk (.Call (.Name x p) (e :: es) [] pos) (mBi f ms) := by
  obtain ⟨ta, a1, a2⟩ := ha
  exact ⟨_, pe_callTy hc hg hm hv a1 hn hdb he hpl, fun B H0 as ks ow sg S σ H Q r h => bi_den hop a2 r h⟩
end
end D2

namespace D2
open PySem PySem.Spec PyProof.Rows L2

/-! ### how the state goes on -/
section
variable {K : PySem.W.Frag} {as : List Addr} {B : Addr → Prop} {H H0 H' : Hp} {ks : List (D × V)} {ow : List (Option Addr)} {sg : List Sl} {S S' : List O} {σ : L2.St}
theorem mem_set_none {i : Nat} {a : Addr} (h : some a ∈ ow.set i none) : some a ∈ ow := by
  rcases List.mem_or_eq_of_mem_set h with h | h
  · exact h
  · cases h
theorem bd_none {i : Nat} : ∀ a, Bd B (ow.set i none) a → Bd B ow a := fun a h => h.imp id mem_set_none
/-- what stands in slots other than i -/
theorem Sto.weak {B' : Addr → Prop} (s : Sto K as B H S) (h : ∀ a, B' a → B a) : Sto K as B' H S :=
  ⟨s.len, s.nd, fun n o e => let ⟨a, h1, h2⟩ := s.ob n o e; ⟨a, h1, ORep.imp (W := fun _ => False) Evo.refl (fun _ z => z.elim) h o a (fun z => z) h2⟩⟩
theorem SlRep.weak {B' : Addr → Prop} {s : Sl} {w : Option Addr} {x : Option V} (h : ∀ a, B' a → B a) (q : SlRep K as B H s w x) : SlRep K as B' H s w x := by
  cases s with
  | no => exact q
  | val d =>
    obtain ⟨q1, v, q2, q3⟩ := q
    exact ⟨q1, v, q2, Rep.imp (W := fun _ => False) Evo.refl (fun _ z => z.elim) h d v q3⟩
  | own o =>
    obtain ⟨a, q1, q2, q3⟩ := q
    exact ⟨a, q1, q2, ORep.imp (W := fun _ => False) Evo.refl (fun _ z => z.elim) h o a (fun z => z) q3⟩
theorem Rl.setVal (r : Rl K B H0 as ks ow sg S σ H) (i : Nat) {d : D} {v : V} (h : Rep K as (Bd B ow) H d v) : Rl K B H0 as ks (ow.set i none) (sg.set i (.val d)) S (σ.set i (some v)) H := by
  refine ⟨by simpa only [List.length_set] using r.lo, by simpa using r.ls, fun j s hs => ?_, fun j k a hj hk => ?_, fun a ha => r.new a (mem_set_none ha), fun a ha => r.odom a (mem_set_none ha), r.bdom, r.asB, r.evo, r.sto.weak bd_none, fun p hp => Rep.imp (W := fun _ => False) Evo.refl (fun _ z => z.elim) bd_none _ _ (r.kp p hp)⟩
  · by_cases hij : i = j
    · subst hij
      have hl : i < sg.length := by
        have := (List.getElem?_eq_some_iff.mp hs).1
        simpa using this
      rw [List.getElem?_set_self hl] at hs
      cases hs
      exact ⟨none, some v, List.getElem?_set_self (Nat.lt_of_lt_of_le hl r.lo), List.getElem?_set_self (by rw [r.ls]; exact hl), rfl, v, rfl, Rep.imp (W := fun _ => False) Evo.refl (fun _ z => z.elim) bd_none d v h⟩
    · rw [List.getElem?_set_ne hij] at hs ⊢
      rw [List.getElem?_set_ne hij]
      obtain ⟨w, x, h1, h2, h3⟩ := r.sl j s hs
      exact ⟨w, x, h1, h2, h3.weak bd_none⟩
  · have e : ∀ k, (ow.set i none)[k]? = some (some a) → ow[k]? = some (some a) := fun k e => by
      by_cases hik : i = k
      · subst hik
        have hl : i < ow.length := by
          have := (List.getElem?_eq_some_iff.mp e).1
          simpa using this
        rw [List.getElem?_set_self hl] at e
        cases e
      · rwa [List.getElem?_set_ne hik] at e
    exact r.inj j k a (e j hj) (e k hk)
theorem Rl.setOwn (r : Rl K B H0 as ks ow sg S σ H) (i : Nat) {o : O} {a : Addr} (hi : i < sg.length) (ha : H a = none) (e : Evo (· ∈ as) H H') (s : Sto K as (fun b => Bd B ow b ∨ b = a) H' S') (h : ORep K as (fun b => Bd B ow b ∨ b = a) H' o a) :
    Rl K B H0 as ks (ow.set i (some a)) (sg.set i (.own o)) S' (σ.set i (some (.ref a))) H' := by
  have h0 : H0 a = none := r.evo.back ha
  have mem : ∀ b, some b ∈ ow.set i (some a) → some b ∈ ow ∨ b = a := fun b hb => by
    rcases List.mem_or_eq_of_mem_set hb with hb | hb
    · exact .inl hb
    · exact .inr (Option.some.inj hb)
  have bd : ∀ b, Bd B (ow.set i (some a)) b → Bd B ow b ∨ b = a := fun b hb => by
    rcases hb with hb | hb
    · exact .inl (.inl hb)
    · rcases mem b hb with hb | hb
      · exact .inl (.inr hb)
      · exact .inr hb
  have notin : some a ∉ ow := fun z => by
    exact r.bdDom a (.inr z) ha
  refine ⟨by simpa only [List.length_set] using r.lo, by simpa using r.ls, fun j t hs => ?_, fun j k b hj hk => ?_, fun b hb => ?_, fun b hb => ?_, r.bdom, r.asB, r.evo.trans e, s.weak bd, fun p hp => Rep.imp e (fun b hb => .inl (r.asB b hb)) (fun _ z => z) _ _ (Rep.more ha bd _ _ (r.kp p hp))⟩
  · by_cases hij : i = j
    · subst hij
      rw [List.getElem?_set_self hi] at hs
      cases hs
      exact ⟨some a, some (.ref a), List.getElem?_set_self (Nat.lt_of_lt_of_le hi r.lo), List.getElem?_set_self (by rw [r.ls]; exact hi), a, rfl, rfl, ORep.imp (W := fun _ => False) Evo.refl (fun _ z => z.elim) bd o a (fun z => z) h⟩
    · rw [List.getElem?_set_ne hij] at hs ⊢
      rw [List.getElem?_set_ne hij]
      obtain ⟨w, x, h1, h2, h3⟩ := r.sl j t hs
      refine ⟨w, x, h1, h2, ?_⟩
      have as' : ∀ b, b ∈ as → Bd B (ow.set i (some a)) b := fun b hb => .inl (r.asB b hb)
      cases t with
      | no => exact h3
      | val d =>
        obtain ⟨q1, v, q2, q3⟩ := h3
        exact ⟨q1, v, q2, Rep.imp e as' (fun _ z => z) d v (Rep.more ha bd d v q3)⟩
      | own o' =>
        obtain ⟨b, q1, q2, q3⟩ := h3
        subst q1
        exact ⟨b, rfl, q2, ORep.imp e as' (fun _ z => z) o' b (r.ownAs (List.mem_of_getElem? h1)) (ORep.more ha bd o' b q3)⟩
  · have up : ∀ k b, (ow.set i (some a))[k]? = some (some b) → (k = i ∧ b = a) ∨ (k ≠ i ∧ ow[k]? = some (some b)) := fun k b e => by
      by_cases hik : i = k
      · subst hik
        rw [List.getElem?_set_self (Nat.lt_of_lt_of_le hi r.lo)] at e
        exact .inl ⟨rfl, (Option.some.inj (Option.some.inj e)).symm⟩
      · rw [List.getElem?_set_ne hik] at e
        exact .inr ⟨fun z => hik z.symm, e⟩
    rcases up j b hj with ⟨e1, e2⟩ | ⟨e1, e2⟩
    · rcases up k b hk with ⟨f1, f2⟩ | ⟨f1, f2⟩
      · rw [e1, f1]
      · exact absurd (List.mem_of_getElem? f2) (by rw [e2]; exact notin)
    · rcases up k b hk with ⟨f1, f2⟩ | ⟨f1, f2⟩
      · exact absurd (List.mem_of_getElem? e2) (by rw [f2]; exact notin)
      · exact r.inj j k b e2 f2
  · rcases mem b hb with hb | hb
    · exact r.new b hb
    · rw [hb]; exact h0
  · rcases mem b hb with hb | hb
    · exact e.dom b (r.odom b hb)
    · obtain ⟨u, hu, _⟩ := h.there
      rw [hb, hu]
      exact fun z => nomatch z
/-- an owned object is changed -/
theorem Rl.putOwn (r : Rl K B H0 as ks ow sg S σ H) {i : Nat} {o o' : O} {a : Addr} {u : HO} (hi : sg[i]? = some (.own o)) (hw : ow[i]? = some (some a)) (hu : ORep K as (Bd B ow) (upd H a u) o' a) :
    Rl K B H0 as ks ow (sg.set i (.own o')) S σ (upd H a u) := by
  obtain ⟨w, x, h1, h2, b, h3, h4, h5⟩ := r.sl i _ hi
  subst h3
  rw [hw] at h1
  cases h1
  obtain ⟨t, ht, n1, n2⟩ := h5.there
  have ha := List.mem_of_getElem? hw
  have e : Evo (· = a) H (upd H a u) := Evo.put ht n1 n2 rfl
  have bda : ∀ b, b = a → Bd B ow b := fun b z => .inr (z ▸ ha)
  have il : i < sg.length := (List.getElem?_eq_some_iff.mp hi).1
  have e0 : Evo (· ∈ as) H0 (upd H a u) := by
    have n0 := r.new a ha
    refine ⟨fun b o q n => ?_, fun b xs q => ?_, fun b ob w q => ?_, fun b q => e.dom b (r.evo.dom b q)⟩
    · rw [upd_ne (ne_of_none q n0)]; exact r.evo.keep b o q n
    · rw [upd_ne (ne_of_none q n0)]; exact r.evo.tups b xs q
    · rw [upd_ne (ne_of_none q n0)]; exact r.evo.frzs b ob w q
  refine ⟨by simpa only [List.length_set] using r.lo, by simpa using r.ls, fun j s hs => ?_, r.inj, r.new, fun b hb => e.dom b (r.odom b hb), r.bdom, r.asB, e0, ⟨r.sto.len, r.sto.nd, fun n o hn => ?_⟩, fun p hp => Rep.imp e bda (fun _ z => z) _ _ (r.kp p hp)⟩
  · by_cases hij : i = j
    · subst hij
      rw [List.getElem?_set_self il] at hs
      cases hs
      exact ⟨some a, x, hw, h2, a, rfl, h4, hu⟩
    · rw [List.getElem?_set_ne hij] at hs
      obtain ⟨w, y, g1, g2, g3⟩ := r.sl j s hs
      refine ⟨w, y, g1, g2, ?_⟩
      cases s with
      | no => exact g3
      | val d =>
        obtain ⟨q1, v, q2, q3⟩ := g3
        exact ⟨q1, v, q2, Rep.imp e bda (fun _ z => z) d v q3⟩
      | own o2 =>
        obtain ⟨b, q1, q2, q3⟩ := g3
        subst q1
        exact ⟨b, rfl, q2, ORep.imp e bda (fun _ z => z) o2 b (fun z => hij (r.inj i j a hw (z ▸ g1))) q3⟩
  · obtain ⟨b, q1, q2⟩ := r.sto.ob n o hn
    exact ⟨b, q1, ORep.imp e bda (fun _ z => z) o b (fun z => r.ownAs ha (z ▸ List.mem_of_getElem? q1)) q2⟩
/-- an object of the store is changed -/
theorem Rl.putSto (r : Rl K B H0 as ks ow sg S σ H) {n : Nat} {o : O} {a : Addr} {u t : HO} (hn : as[n]? = some a) (ht : H a = some t) (n1 : ∀ xs, t ≠ .tup xs) (n2 : ∀ ob w, t ≠ .frz ob w) (hu : ORep K as (Bd B ow) (upd H a u) o a) :
    Rl K B H0 as ks ow sg (S.set n o) σ (upd H a u) ∧ Evo (· ∈ as) H (upd H a u) := by
  have e : Evo (· ∈ as) H (upd H a u) := Evo.put ht n1 n2 (List.mem_of_getElem? hn)
  have e1 : Evo (· = a) H (upd H a u) := Evo.put ht n1 n2 rfl
  have bda : ∀ b, b = a → Bd B ow b := fun b z => r.asBd b (z ▸ List.mem_of_getElem? hn)
  have s : Sto K as (Bd B ow) (upd H a u) (S.set n o) := by
    refine ⟨by simpa using r.sto.len, r.sto.nd, fun m x hm => ?_⟩
    by_cases hnm : n = m
    · subst hnm
      have hl : n < S.length := by
        have := (List.getElem?_eq_some_iff.mp hm).1
        simpa using this
      rw [List.getElem?_set_self hl] at hm
      cases hm
      exact ⟨a, hn, hu⟩
    · rw [List.getElem?_set_ne hnm] at hm
      obtain ⟨b, q1, q2⟩ := r.sto.ob m x hm
      refine ⟨b, q1, ORep.imp e1 bda (fun _ z => z) x b (fun z => hnm ?_) q2⟩
      exact nd_ix r.sto.nd hn (z ▸ q1)
  exact ⟨r.step e s, e⟩
/-- a list that a name owns is let go: it will not change any more -/
def O.toD : O → D
  | .lst ds => .lst ds
  | .dic ks ds => .dic ks ds
def frz (i : Nat) (sg : List Sl) : List Sl := match sg[i]? with
  | some (.own o) => sg.set i (.val o.toD)
  | _ => sg
theorem ORep.rep {B' : Addr → Prop} {o : O} {a : Addr} (h : ORep K as B H o a) (hB : ∀ b, B' b → B b) (n : ¬ B' a) : Rep K as B' H o.toD (.ref a) := by
  cases o with
  | lst ds =>
    obtain ⟨xs, h1, h2⟩ := h
    exact ⟨a, xs, rfl, n, h1, RepA.imp (W := fun _ => False) Evo.refl (fun _ z => z.elim) hB _ _ h2⟩
  | dic ks ds =>
    obtain ⟨xs, h1, hl, h2⟩ := h
    exact ⟨a, xs, rfl, n, .inl h1, hl, RepA.imp (W := fun _ => False) Evo.refl (fun _ z => z.elim) hB _ _ h2⟩
theorem Rl.frz (r : Rl K B H0 as ks ow sg S σ H) (i : Nat) : ∃ ow', Rl K B H0 as ks ow' (D2.frz i sg) S σ H := by
  unfold D2.frz
  cases e : sg[i]? with
  | none => exact ⟨ow, r⟩
  | some s =>
    cases s with
    | no => exact ⟨ow, r⟩
    | val d => exact ⟨ow, r⟩
    | own o =>
      obtain ⟨w, x, h1, h2, a, h3, h4, h5⟩ := r.sl i _ e
      subst h3
      subst h4
      have il : i < sg.length := (List.getElem?_eq_some_iff.mp e).1
      have na : ¬ Bd B (ow.set i none) a := fun z => by
        rcases z with z | z
        · exact r.ownNo (List.mem_of_getElem? h1) z
        · obtain ⟨j, hj⟩ := List.getElem?_of_mem z
          by_cases hij : i = j
          · subst hij
            rw [List.getElem?_set_self (Nat.lt_of_lt_of_le il r.lo)] at hj
            cases hj
          · rw [List.getElem?_set_ne hij] at hj
            exact hij (r.inj i j a h1 hj)
      have q := h5.rep (B' := Bd B (ow.set i none)) bd_none na
      refine ⟨ow.set i none, ?_⟩
      refine ⟨by simpa only [List.length_set] using r.lo, by simpa using r.ls, fun j s hs => ?_, fun j k b hj hk => ?_, fun b hb => r.new b (mem_set_none hb), fun b hb => r.odom b (mem_set_none hb), r.bdom, r.asB, r.evo, r.sto.weak bd_none, fun p hp => Rep.imp (W := fun _ => False) Evo.refl (fun _ z => z.elim) bd_none _ _ (r.kp p hp)⟩
      · by_cases hij : i = j
        · subst hij
          rw [List.getElem?_set_self il] at hs
          cases hs
          exact ⟨none, some (.ref a), List.getElem?_set_self (Nat.lt_of_lt_of_le il r.lo), h2, rfl, _, rfl, q⟩
        · rw [List.getElem?_set_ne hij] at hs ⊢
          obtain ⟨w, x, g1, g2, g3⟩ := r.sl j s hs
          exact ⟨w, x, g1, g2, g3.weak bd_none⟩
      · have e : ∀ k, (ow.set i none)[k]? = some (some b) → ow[k]? = some (some b) := fun k e => by
          by_cases hik : i = k
          · subst hik
            rw [List.getElem?_set_self (Nat.lt_of_lt_of_le il r.lo)] at e
            cases e
          · rwa [List.getElem?_set_ne hik] at e
        exact r.inj j k b (e j hj) (e k hk)
end

/-! ### statements -/
section
variable {X : Cx} {W : WX2} {wk : Bool} {e a b c : Expr} {es : List Expr} {m ma mb mc : ME} {ms : MA} {mt : MT} {m1 m2 : MS} {pos : Pos} {st : Stmt} {rest ss ts : List Stmt}
def mSeq (m1 m2 : MS) : MS := fun sg S => (m1 sg S).bind fun x => match x.1 with
  | .nx => m2 x.2.1 x.2.2
  | f => .ok (f, x.2)
def mNx : MS := fun sg S => .ok (.nx, sg, S)
theorem ss_nil : PSs2 X W [] mNx := ⟨_, pss_nil, fun B H0 as ks ow sg S σ H Dd r h => h ow σ H r⟩
theorem ss_cons (h1 : PS2 X W st m1) (h2 : PSs2 X W rest m2) : PSs2 X W (st :: rest) (mSeq m1 m2) := by
  obtain ⟨t, g1, g2⟩ := h1
  obtain ⟨u, f1, f2⟩ := h2
  refine ⟨_, pss_cons g1 f1, fun B H0 as ks ow sg S σ H Dd r h => ?_⟩
  refine g2 _ _ _ _ _ _ _ _ _ _ r ?_
  unfold mSeq at h
  revert h
  cases m1 sg S with
  | ok x =>
    obtain ⟨fl, sg', S'⟩ := x
    cases fl with
    | nx => exact fun h ow' σ' H' r' => f2 _ _ _ _ _ _ _ _ _ _ r' h
    | bk => exact fun h => h
    | ct => exact fun h => h
    | rt d => exact fun h => h
  | ex x sg' S' => exact fun h => h
  | bad => exact fun h => h
theorem ss_one (h1 : PS2 X W st m1) : PSs2 X W [st] m1 := by
  obtain ⟨t, g1, g2⟩ := h1
  exact ⟨_, pss_one g1, g2⟩
/-- an expression within a statement -/
theorem DenS.bindE {c : Ct} {ow : List (Option Addr)} {β γ : Type} {Rp : Hp → γ → β → Prop} {r : R (γ × List O)} {f : γ × List O → R (Fl × List Sl × List O)} {H : Hp} {Dd : Ends} {Q' : β → Hp → Prop} (h : DenS c (r.bind f) Dd)
    (k : ∀ d S' v H', r = .ok (d, S') → Evo (· ∈ c.as) H H' → Sto c.K c.as (Bd c.B ow) H' S' → Rp H' d v → DenS c (f (d, S')) Dd → Q' v H') : Den c ow Rp r H Q' := by
  cases r with
  | ok a => obtain ⟨d, S'⟩ := a; exact fun v H' e s q => k d S' v H' rfl e s q h
  | ex e' sg S' => exact h
  | bad => exact h
theorem s2_pass : PS2 X W (.Pass pos) mNx := ⟨_, ps_pass, fun B H0 as ks ow sg S σ H Dd r h => h ow σ H r⟩
theorem s2_doc {x : Str} {j p'} : PS2 X W (.Expr (.Constant (.str x) j pos) p') mNx := ⟨_, ps_doc, fun B H0 as ks ow sg S σ H Dd r h => h ow σ H r⟩
def mBk : MS := fun sg S => .ok (.bk, sg, S)
def mCt : MS := fun sg S => .ok (.ct, sg, S)
theorem s2_break : PS2 X W (.Break pos) mBk := ⟨_, ps_break, fun B H0 as ks ow sg S σ H Dd r h => h ow σ H r⟩
theorem s2_cont : PS2 X W (.Continue pos) mCt := ⟨_, ps_continue, fun B H0 as ks ow sg S σ H Dd r h => h ow σ H r⟩
def mDrop (m : ME) : MS := fun sg S => (m sg S).bind fun x => .ok (.nx, sg, x.2)
theorem s2_expr (h : PE2 X W wk e m) (hs : swapsWith e none pos.line X.env = pure false := by rfl) : PS2 X W (.Expr e pos) (mDrop m) := by
  obtain ⟨t, h1, h2⟩ := h
  refine ⟨_, ps_expr h1 hs, fun B H0 as ks ow sg S σ H Dd r h => ?_⟩
  refine h2 _ _ _ _ _ _ _ _ _ _ r (DenS.bindE h fun d S1 v H1 _ e1 s1 q1 h1 => ?_)
  exact h1 ow σ H1 (r.step e1 s1)
theorem bdB {B : Addr → Prop} {ow : List (Option Addr)} : ∀ a, B a → Bd B ow a := fun _ h => .inl h
def mRet (m : ME) : MS := fun sg S => (m sg S).bind fun x => .ok (.rt x.1, sg, x.2)
theorem s2_ret (h : PE2 X W false e m) : PS2 X W (.Return (some e) pos) (mRet m) := by
  obtain ⟨t, h1, h2⟩ := h
  refine ⟨_, ps_ret h1, fun B H0 as ks ow sg S σ H Dd r h => ?_⟩
  refine h2 _ _ _ _ _ _ _ _ _ _ r (DenS.bindE h fun d S1 v H1 _ e1 s1 q1 h1 => ?_)
  exact h1 v H1 (r.evo.trans e1) (s1.weak bdB) (Rep.imp (W := fun _ => False) Evo.refl (fun _ z => z.elim) bdB d v q1)
def mRetN : MS := fun sg S => .ok (.rt .non, sg, S)
theorem s2_retN : PS2 X W (.Return none pos) mRetN := ⟨_, ps_retN, fun B H0 as ks ow sg S σ H Dd r h => h .non H r.evo (r.sto.weak bdB) rfl⟩
def mIfS (mt : MT) (m1 m2 : MS) : MS := fun sg S => (mt sg S).bind fun x => if x.1 = true then m1 sg x.2 else m2 sg x.2
theorem s2_if (hc : PT2 X W c mt) (ha : PSs2 X W ss m1) (hb : PSs2 X W ts m2) : PS2 X W (.If c ss ts pos) (mIfS mt m1 m2) := by
  obtain ⟨t, h1, h2⟩ := hc
  obtain ⟨u, f1, f2⟩ := ha
  obtain ⟨w, g1, g2⟩ := hb
  refine ⟨_, ps_if h1 f1 g1, fun B H0 as ks ow sg S σ H Dd r h => ?_⟩
  refine h2 _ _ _ _ _ _ _ _ _ _ r (DenS.bindE h fun d S1 v H1 e0 e1 s1 q1 h1 => ?_)
  have q : v = d := q1
  subst q
  cases v with
  | true => exact f2 _ _ _ _ _ _ _ _ _ _ (r.step e1 s1) h1
  | false => exact g2 _ _ _ _ _ _ _ _ _ _ (r.step e1 s1) h1
/-- before a statement a name's own list may be let go -/
def mFrz (i : Nat) (m : MS) : MS := fun sg S => m (frz i sg) S
theorem s2_frz (i : Nat) (h : PS2 X W st m1) : PS2 X W st (mFrz i m1) := by
  obtain ⟨t, h1, h2⟩ := h
  refine ⟨t, h1, fun B H0 as ks ow sg S σ H Dd r h => ?_⟩
  obtain ⟨ow', r'⟩ := r.frz i
  exact h2 _ _ _ _ _ _ _ _ _ _ r' h
/-- x = e -/
def mSet (i : Nat) (m : ME) : MS := fun sg S => (m sg S).bind fun x => .ok (.nx, sg.set i (.val x.1), x.2)
theorem s2_set (i : Nat) {x : Str} {px : Pos} (hN : X.N.Nodup) (h : PE2 X W false e m) (hi : X.N[i]? = some x := by rfl) (hx : Loc X.env.scope x := by first | exact Or.inl rfl | exact Or.inr rfl) (hf : X.fn x = true ∨ X.env.scope.names.lookup x = some .local := by first | exact .inl rfl | exact .inr rfl)
    (hs : swapsWithSole [.Name x px] e pos.line X.env = pure false := by rfl) (hw : swappedStores [.Name x px] e X.env = pure none := by rfl) (h1 : (assignEach [.Name x px] X.env).map (·.2) = [assign (.Name x px) X.env] := by rfl) : PS2 X W (.Assign [.Name x px] e pos) (mSet i m) := by
  obtain ⟨t, h1', h2⟩ := h
  refine ⟨_, ps_asg h1' (pg_name hN hi hx hf) hs hw h1, fun B H0 as ks ow sg S σ H Dd r h => ?_⟩
  refine h2 _ _ _ _ _ _ _ _ _ _ r (DenS.bindE h fun d S1 v H1 _ e1 s1 q1 h1 => ?_)
  exact h1 _ _ H1 ((r.step e1 s1).setVal i q1)

/-! ### an expression that makes a new list or dict -/
abbrev MO := List Sl → List O → R (O × List O)
def DenO (c : Ct) (ow : List (Option Addr)) (r : R (O × List O)) (H : Hp) (Q : VK) : Prop := match r with
  | .ok (o, S') => ∀ a H', H a = none → Evo (· ∈ c.as) H H' → Sto c.K c.as (fun b => Bd c.B ow b ∨ b = a) H' S' → ORep c.K c.as (fun b => Bd c.B ow b ∨ b = a) H' o a → Q (.ref a) H'
  | .ex e sg S' => ExW c e sg S'
  | .bad => False
def PF2 (X : Cx) (W : WX2) (e : Expr) (m : MO) : Prop := ∃ t : TE, PE X e t ∧ ∀ B H0 as ks ow sg S σ H (Q : VK), Rl X.K B H0 as ks ow sg S σ H → DenO (ctOf X W B H0 as ks) ow (m sg S) H Q → t σ H Q
theorem DenO.bind {c : Ct} {ow : List (Option Addr)} {α β : Type} {Rp : Hp → α → β → Prop} {r : R (α × List O)} {f : α × List O → R (O × List O)} {H : Hp} {Q : VK} {Q' : β → Hp → Prop} (h : DenO c ow (r.bind f) H Q)
    (k : ∀ d S' v H', r = .ok (d, S') → Evo (· ∈ c.as) H H' → Sto c.K c.as (Bd c.B ow) H' S' → Rp H' d v → DenO c ow (f (d, S')) H' Q → Q' v H') : Den c ow Rp r H Q' := by
  cases r with
  | ok a =>
    obtain ⟨d, S'⟩ := a
    refine fun v H' e s q => k d S' v H' rfl e s q ?_
    revert h
    show DenO c ow (f (d, S')) H Q → _
    cases f (d, S') with
    | ok b => obtain ⟨o, S2⟩ := b; exact fun h a H2 ha e2 => h a H2 (e.back ha) (e.trans e2)
    | ex e' sg S' => exact fun h => h
    | bad => exact fun h => h
  | ex e' sg S' => exact h
  | bad => exact h
def mOfO (m : MO) : ME := fun sg S => (m sg S).bind fun x => .ok (x.1.toD, x.2)
theorem e2_ofO {mo : MO} (h : PF2 X W e mo) : PE2 X W wk e (mOfO mo) := by
  refine e2_weak ?_
  obtain ⟨t, h1, h2⟩ := h
  refine ⟨t, h1, fun B H0 as ks ow sg S σ H Q r h => h2 _ _ _ _ _ _ _ _ _ _ r ?_⟩
  unfold mOfO at h
  revert h
  cases mo sg S with
  | ok x =>
    obtain ⟨o, S'⟩ := x
    intro h a H' ha e s q
    exact h _ H' e (s.weak fun _ z => .inl z) (q.rep (fun _ z => .inl z) fun z => r.bdDom a z ha)
  | ex e' sg S' => exact fun h => h
  | bad => exact fun h => h
/-- x = a new list -/
def mSetO (i : Nat) (m : MO) : MS := fun sg S => (m sg S).bind fun x => if i < sg.length then .ok (.nx, sg.set i (.own x.1), x.2) else .bad
theorem s2_own (i : Nat) {mo : MO} {x : Str} {px : Pos} (hN : X.N.Nodup) (h : PF2 X W e mo) (hi : X.N[i]? = some x := by rfl) (hx : Loc X.env.scope x := by first | exact Or.inl rfl | exact Or.inr rfl) (hf : X.fn x = true ∨ X.env.scope.names.lookup x = some .local := by first | exact .inl rfl | exact .inr rfl)
    (hs : swapsWithSole [.Name x px] e pos.line X.env = pure false := by rfl) (hw : swappedStores [.Name x px] e X.env = pure none := by rfl) (h1 : (assignEach [.Name x px] X.env).map (·.2) = [assign (.Name x px) X.env] := by rfl) : PS2 X W (.Assign [.Name x px] e pos) (mSetO i mo) := by
  obtain ⟨t, h1', h2⟩ := h
  refine ⟨_, ps_asg h1' (pg_name hN hi hx hf) hs hw h1, fun B H0 as ks ow sg S σ H Dd r h => ?_⟩
  refine h2 _ _ _ _ _ _ _ _ _ _ r ?_
  unfold mSetO at h
  revert h
  cases mo sg S with
  | ok x =>
    obtain ⟨o, S'⟩ := x
    intro h a H' ha e s q
    by_cases il : i < sg.length
    · simp only [R.bind, if_pos il] at h
      exact h _ _ H' (r.setOwn i il ha e s q)
    · simp only [R.bind, if_neg il] at h
      exact False.elim h
  | ex e' sg S' => exact fun h => h
  | bad => exact fun h => h
theorem boxNew {K : PySem.W.Frag} {as : List Addr} {Bs : Addr → Prop} {H : Hp} {S : List O} {p : Addr} {o : HO} (hp : H p = none) (s : Sto K as Bs H S) : Sto K as (fun b => Bs b ∨ b = p) (upd H p o) S :=
  ⟨s.len, s.nd, fun n x e => let ⟨a, h1, h2⟩ := s.ob n x e; ⟨a, h1, ORep.imp (W := fun _ => False) (Evo.new hp) (fun _ z => z.elim) (fun _ z => z) x a (fun z => z) (ORep.more hp (fun _ z => z) x a h2)⟩⟩
theorem boxNewA {K : PySem.W.Frag} {as : List Addr} {Bs : Addr → Prop} {H : Hp} {p : Addr} {o : HO} {ds : List D} {xs : List V} (hp : H p = none) (h : RepA K as Bs H ds xs) : RepA K as (fun b => Bs b ∨ b = p) (upd H p o) ds xs :=
  RepA.imp (W := fun _ => False) (Evo.new hp) (fun _ z => z.elim) (fun _ z => z) _ _ (RepA.more hp (fun _ z => z) _ _ h)
def oLst (ms : MA) : MO := fun sg S => (ms sg S).bind fun x => if x.1.length ≤ 16777216 then .ok (.lst x.1, x.2) else .bad
theorem f2_lst (h : PA2 X W false es ms) : PF2 X W (.List es pos) (oLst ms) := by
  obtain ⟨t, h1, h2⟩ := h
  refine ⟨_, pe_lst h1, fun B H0 as ks ow sg S σ H Q r h => ?_⟩
  refine h2 _ _ _ _ _ _ _ _ _ _ r (DenO.bind h fun x S1 v H1 _ e1 s1 q1 h1 => ?_)
  by_cases hl : x.length ≤ 16777216
  · simp only [if_pos hl] at h1
    refine ⟨lineN (by rw [← q1.length]; exact hl), fun p hp => h1 p _ hp (Evo.new hp) (boxNew hp s1) ⟨v, upd_same, boxNewA hp q1⟩⟩
  · simp only [if_neg hl] at h1
    exact False.elim h1
/-- [..] * n -/
def oRep (m : ME) (mb : ME) : MO := fun sg S => (m sg S).bind fun x => (mb sg x.2).bind fun y => match x.1, y.1 with
  | .lst xs, .int k => if decide (-4611686018427387904 ≤ k ∧ k < 4611686018427387904 ∧ xs.length * k.toNat ≤ 16777216) = true then .ok (.lst (List.replicate k.toNat xs).flatten, y.2) else .bad
  | _, _ => .bad
theorem f2_rep (ha : PE2 X W false a ma) (hb : PE2 X W false b mb) : PF2 X W (.BinOp a .Mult b pos) (oRep ma mb) := by
  obtain ⟨t, h1, h2⟩ := ha
  obtain ⟨u, g1, g2⟩ := hb
  refine ⟨_, pe_op op_rep h1 g1, fun B H0 as ks ow sg S σ H Q r h => ?_⟩
  refine h2 _ _ _ _ _ _ _ _ _ _ r (DenO.bind h fun x S1 v H1 c1 e1 s1 q1 h1 => ?_)
  refine g2 _ _ _ _ _ _ _ _ _ _ (r.step e1 s1) (DenO.bind h1 fun y S2 w H2 c2 e2 s2 q2 h2 => ?_)
  clear c1 c2
  cases x <;> try exact False.elim h2
  rename_i xs
  cases y <;> try exact False.elim h2
  rename_i k
  have q1' := Rep.imp (B' := Bd B ow) e2 r.asBd (fun _ z => z) _ v q1
  obtain ⟨p, vs, ep, np, k1, k2⟩ := q1'
  by_cases hc : decide (-4611686018427387904 ≤ k ∧ k < 4611686018427387904 ∧ xs.length * k.toNat ≤ 16777216) = true
  · simp only [if_pos hc] at h2
    have hc' := of_decide_eq_true hc
    rw [k2.length] at hc'
    exact ⟨p, k, vs, ep, q2, k1, by have := hc'.1; omega, by have := hc'.2.1; omega, lineN hc'.2.2, fun l hl => h2 l _ hl (Evo.new hl) (boxNew hl s2) ⟨_, upd_same, boxNewA hl (k2.rep _)⟩⟩
  · simp only [if_neg hc] at h2
    exact False.elim h2
/-- {} -/
def oDic : MO := fun _ S => .ok (.dic [] [], S)
theorem f2_dic : PF2 X W (.Dict [] [] pos) oDic :=
  ⟨_, pe_dnewK, fun B H0 as ks ow sg S σ H Q r h p hp => h p _ hp (Evo.new hp) (boxNew hp r.sto) ⟨[], upd_same, rfl, rfl⟩⟩
end
end D2

namespace D2
open PySem PySem.Spec PyProof.Rows L2

/-! ### targets -/
def isOwn : Option Sl → Bool
  | some (.own _) => true
  | _ => false
/-- only the names at tch are stored -/
def OnlyAt (tch : List Nat) (σ σ' : L2.St) : Prop := σ'.length = σ.length ∧ ∀ j : Nat, j ∉ tch → σ'[j]? = σ[j]?
def PG2 (X : Cx) (tg : Expr) (tch : List Nat) (g : D → List Sl → Option (List Sl)) : Prop := ∃ t : TG, PG X tg t ∧ ∀ B H0 as ks ow sg S σ H d v sg1 (Q : L2.St → Hp → Prop), Rl X.K B H0 as ks ow sg S σ H → Rep X.K as (Bd B ow) H d v → g d sg = some sg1 →
  (∀ σ', Rl X.K B H0 as ks ow sg1 S σ' H → OnlyAt tch σ σ' → Q σ' H) → t v σ H Q
def PGs2 (X : Cx) (tgs : List Expr) (tch : List Nat) (g : List D → List Sl → Option (List Sl)) : Prop := ∃ t : TGs, PGs X tgs t ∧ ∀ B H0 as ks ow sg S σ H ds vs sg1 (Q : L2.St → Hp → Prop), Rl X.K B H0 as ks ow sg S σ H → RepA X.K as (Bd B ow) H ds vs → g ds sg = some sg1 →
  (∀ σ', Rl X.K B H0 as ks ow sg1 S σ' H → OnlyAt tch σ σ' → Q σ' H) → t vs σ H Q
section
variable {K : PySem.W.Frag} {as : List Addr} {B : Addr → Prop} {H H0 H' : Hp} {ks : List (D × V)} {ow : List (Option Addr)} {sg : List Sl} {S S' : List O} {σ : L2.St}
theorem set_none_same {l : List (Option Addr)} {i : Nat} (h : l[i]? = some none ∨ l.length ≤ i) : l.set i none = l := by
  refine List.ext_getElem? fun j => ?_
  by_cases hij : i = j
  · subst hij
    rcases h with h | h
    · rw [List.getElem?_set_self (List.getElem?_eq_some_iff.mp h).1, h]
    · rw [List.getElem?_eq_none (by simpa using h), List.getElem?_eq_none h]
  · rw [List.getElem?_set_ne hij]
theorem Rl.owNone (r : Rl K B H0 as ks ow sg S σ H) {i : Nat} (hl : i < sg.length) (h : isOwn sg[i]? = false) : ow[i]? = some none := by
  have e : sg[i]? = some sg[i] := List.getElem?_eq_getElem hl
  obtain ⟨w, x, h1, h2, h3⟩ := r.sl i _ e
  rw [e] at h
  revert h h3
  cases sg[i] with
  | no => intro _ h3; rw [h1, show w = none from h3]
  | val d => intro _ h3; rw [h1, h3.1]
  | own o => intro h _; cases h
theorem Rl.setVal' (r : Rl K B H0 as ks ow sg S σ H) (i : Nat) {d : D} {v : V} (hn : isOwn sg[i]? = false) (h : Rep K as (Bd B ow) H d v) : Rl K B H0 as ks ow (sg.set i (.val d)) S (σ.set i (some v)) H := by
  by_cases hl : i < sg.length
  · have q := r.setVal i h
    rwa [set_none_same (.inl (r.owNone hl hn))] at q
  · rw [List.set_eq_of_length_le (by omega), List.set_eq_of_length_le (by rw [r.ls]; omega)]
    exact r
theorem Rl.unkp {p : D × V} (r : Rl K B H0 as (p :: ks) ow sg S σ H) : Rl K B H0 as ks ow sg S σ H :=
  ⟨r.lo, r.ls, r.sl, r.inj, r.new, r.odom, r.bdom, r.asB, r.evo, r.sto, fun q hq => r.kp q (List.mem_cons_of_mem _ hq)⟩
theorem Rl.addkp {d : D} {v : V} (r : Rl K B H0 as ks ow sg S σ H) (h : Rep K as (Bd B ow) H d v) : Rl K B H0 as ((d, v) :: ks) ow sg S σ H :=
  ⟨r.lo, r.ls, r.sl, r.inj, r.new, r.odom, r.bdom, r.asB, r.evo, r.sto, fun q hq => by
    rcases List.mem_cons.mp hq with e | hq
    · subst e; exact h
    · exact r.kp q hq⟩
end
section
variable {X : Cx} {W : WX2} {wk : Bool} {pos : Pos}
def gNm (i : Nat) : D → List Sl → Option (List Sl) := fun d sg => if isOwn sg[i]? = true then none else some (sg.set i (.val d))
theorem g2_name (i : Nat) {x : Str} (hN : X.N.Nodup) (hi : X.N[i]? = some x := by rfl) (hx : Loc X.env.scope x := by first | exact Or.inl rfl | exact Or.inr rfl) (hf : X.fn x = true ∨ X.env.scope.names.lookup x = some .local := by first | exact .inl rfl | exact .inr rfl) : PG2 X (.Name x pos) [i] (gNm i) := by
  refine ⟨_, pg_name hN hi hx hf, fun B H0 as ks ow sg S σ H d v sg1 Q r h e q => ?_⟩
  simp only [gNm] at e
  split at e
  · cases e
  · rename_i hn
    cases e
    refine q _ (r.setVal' i (by simpa using hn) h) ⟨List.length_set, fun j hj => ?_⟩
    rw [List.getElem?_set_ne (fun z => hj (by simp [z]))]
def gsNil : List D → List Sl → Option (List Sl) := fun ds sg => match ds with
  | [] => some sg
  | _ => none
def gsCons (g : D → List Sl → Option (List Sl)) (gs : List D → List Sl → Option (List Sl)) : List D → List Sl → Option (List Sl) := fun ds sg => match ds with
  | [] => none
  | d :: ds => (g d sg).bind fun sg1 => gs ds sg1
theorem gs2_nil : PGs2 X [] [] gsNil := by
  refine ⟨_, pgs_nil, fun B H0 as ks ow sg S σ H ds vs sg1 Q r h e q => ?_⟩
  cases ds with
  | nil =>
    cases e
    exact ⟨h, q σ r ⟨rfl, fun _ _ => rfl⟩⟩
  | cons _ _ => cases e
theorem gs2_cons {tg : Expr} {tgs : List Expr} {t1 t2 : List Nat} {g : D → List Sl → Option (List Sl)} {gs : List D → List Sl → Option (List Sl)} (h1 : PG2 X tg t1 g) (h2 : PGs2 X tgs t2 gs)
    (hs : (assignEach (tg :: tgs) X.env).map (·.2) = assign tg X.env :: (assignEach tgs X.env).map (·.2) := by rfl) : PGs2 X (tg :: tgs) (t1 ++ t2) (gsCons g gs) := by
  obtain ⟨t, a1, a2⟩ := h1
  obtain ⟨u, b1, b2⟩ := h2
  refine ⟨_, pgs_cons a1 b1 hs, fun B H0 as ks ow sg S σ H ds vs sg1 Q r h e q => ?_⟩
  cases ds with
  | nil => cases e
  | cons d ds =>
    obtain ⟨v, ws, ev, h1, h2⟩ := h
    obtain ⟨sg2, e1, e2⟩ := Option.bind_eq_some_iff.mp e
    refine ⟨v, ws, ev, a2 _ _ _ _ _ _ _ _ _ _ _ _ _ r h1 e1 fun σ1 r1 k1 => ?_⟩
    refine b2 _ _ _ _ _ _ _ _ _ _ _ _ _ r1 h2 e2 fun σ2 r2 k2 => ?_
    refine q σ2 r2 ⟨k2.1.trans k1.1, fun j hj => ?_⟩
    rw [k2.2 j (fun z => hj (List.mem_append_right _ z)), k1.2 j (fun z => hj (List.mem_append_left _ z))]
def gTu (n : Nat) (gs : List D → List Sl → Option (List Sl)) : D → List Sl → Option (List Sl) := fun d sg => match d with
  | .tup ds => if ds.length = n then gs ds sg else none
  | _ => none
theorem g2_tup {tgs : List Expr} {k : Nat} {tch : List Nat} {n : Nat} {gs : List D → List Sl → Option (List Sl)} (hc : X.calm = true) (h : PGs2 X tgs tch gs) (hn : (assignEach tgs X.env).length = n := by rfl) (hst : (assignEach tgs X.env).findIdx? (·.1) = none := by rfl) : PG2 X (.Tuple tgs k pos) tch (gTu n gs) := by
  obtain ⟨t, a1, a2⟩ := h
  refine ⟨_, pg_tup hc a1 hn hst, fun B H0 as ks ow sg S σ H d v sg1 Q r h e q => ?_⟩
  cases d <;> try (cases e; done)
  rename_i ds
  obtain ⟨a, xs, ev, h1, h2⟩ := h
  simp only [gTu] at e
  split at e
  · rename_i hl
    exact ⟨a, xs, ev, h1, by rw [← h2.length]; exact hl, a2 _ _ _ _ _ _ _ _ _ _ _ _ _ r h2 e q⟩
  · cases e
/-- tuple = value, as a statement -/
def mAsg (m : ME) (g : D → List Sl → Option (List Sl)) : MS := fun sg S => (m sg S).bind fun x => match g x.1 sg with
  | some sg1 => .ok (.nx, sg1, x.2)
  | none => .bad
theorem s2_asg {tg e : Expr} {m : ME} {tch : List Nat} {g : D → List Sl → Option (List Sl)} (h : PE2 X W false e m) (hg : PG2 X tg tch g) (hs : swapsWithSole [tg] e pos.line X.env = pure false := by rfl) (hw : swappedStores [tg] e X.env = pure none := by rfl)
    (h1 : (assignEach [tg] X.env).map (·.2) = [assign tg X.env] := by rfl) : PS2 X W (.Assign [tg] e pos) (mAsg m g) := by
  obtain ⟨t, a1, a2⟩ := h
  obtain ⟨u, b1, b2⟩ := hg
  refine ⟨_, ps_asg a1 b1 hs hw h1, fun B H0 as ks ow sg S σ H Dd r h => ?_⟩
  refine a2 _ _ _ _ _ _ _ _ _ _ r (DenS.bindE h fun d S1 v H1 _ e1 s1 q1 h1 => ?_)
  cases e : g d sg with
  | none => simp only [e] at h1; exact False.elim h1
  | some sg1 =>
    simp only [e] at h1
    exact b2 _ _ _ _ _ _ _ _ _ _ _ _ _ (r.step e1 s1) q1 e fun σ' r' _ => h1 _ _ _ r'

/-! ### what is walked -/
def rpI (c : Ct) (Bs : Addr → Prop) : Hp → List D → It → Prop := fun H ds J => ∃ dk vk, Rep c.K c.as Bs H dk vk ∧ ∀ (B2 : Addr → Prop) H2, Rep c.K c.as B2 H2 dk vk → ∀ i : Nat, (ds.length ≤ i → J.stop i H2) ∧
  ∀ d, ds[i]? = some d → J.go i H2 ∧ ∀ x H3, J.yld i H2 x H3 → Evo (fun _ => False) H2 H3 ∧ Rep c.K c.as B2 H3 d x
def PI2 (X : Cx) (W : WX2) (wk : Bool) (tg iter : Expr) (mi : MA) : Prop := ∃ wi : TI, PI X tg iter wi ∧ ∀ B H0 as ks ow sg S σ H (R : It → Hp → Prop), Rl X.K B H0 as ks ow sg S σ H →
  Den (ctOf X W B H0 as ks) ow (rpI (ctOf X W B H0 as ks) (if wk then (· ∈ as) else Bd B ow)) (mi sg S) H R → wi σ H R
def mIl (m : ME) : MA := fun sg S => (m sg S).bind fun x => match x.1 with
  | .lst ds => .ok (ds, x.2)
  | _ => .bad
def mIt (m : ME) : MA := fun sg S => (m sg S).bind fun x => match x.1 with
  | .tup ds => .ok (ds, x.2)
  | _ => .bad
theorem i2_lst {tg e : Expr} {m : ME} (h : PE2 X W wk e m) : PI2 X W wk tg e (mIl m) := by
  obtain ⟨t, a1, a2⟩ := h
  refine ⟨_, pi_list a1, fun B H0 as ks ow sg S σ H R r h => ?_⟩
  refine a2 _ _ _ _ _ _ _ _ _ _ r (Den.bind h fun d S1 v H1 e0 e1 s1 q1 h1 => ?_)
  clear e0
  cases d <;> try exact False.elim h1
  rename_i ds
  obtain ⟨a, xs, ev, nb, g1, g2⟩ := id q1
  refine ⟨a, ev, ⟨xs, SqL.of g1⟩, h1 _ H1 Evo.refl s1 ⟨.lst ds, v, q1, fun B2 H2 rp i => ?_⟩⟩
  obtain ⟨a', ys, ev', nb', k1, k2⟩ := rp
  rw [ev] at ev'
  cases ev'
  refine ⟨fun hi => ⟨ys, SqL.of k1, by rw [← k2.length]; exact hi⟩, fun d hd => ?_⟩
  obtain ⟨w, w1, w2⟩ := k2.get hd
  refine ⟨⟨ys, w, SqL.of k1, w1⟩, fun x H3 ⟨e3, hx⟩ => ?_⟩
  subst e3
  have := hx ys (SqL.of k1)
  rw [w1] at this
  cases this
  exact ⟨Evo.refl, w2⟩
theorem i2_tup {tg e : Expr} {m : ME} (h : PE2 X W wk e m) : PI2 X W wk tg e (mIt m) := by
  obtain ⟨t, a1, a2⟩ := h
  refine ⟨_, pi_tup a1, fun B H0 as ks ow sg S σ H R r h => ?_⟩
  refine a2 _ _ _ _ _ _ _ _ _ _ r (Den.bind h fun d S1 v H1 e0 e1 s1 q1 h1 => ?_)
  clear e0
  cases d <;> try exact False.elim h1
  rename_i ds
  obtain ⟨a, xs, ev, g1, g2⟩ := id q1
  refine ⟨a, ev, ⟨xs, g1⟩, h1 _ H1 Evo.refl s1 ⟨.tup ds, v, q1, fun B2 H2 rp i => ?_⟩⟩
  obtain ⟨a', ys, ev', k1, k2⟩ := rp
  rw [ev] at ev'
  cases ev'
  refine ⟨fun hi => ⟨ys, k1, by rw [← k2.length]; exact hi⟩, fun d hd => ?_⟩
  obtain ⟨w, w1, w2⟩ := k2.get hd
  refine ⟨⟨ys, w, k1, w1⟩, fun x H3 ⟨e3, hx⟩ => ?_⟩
  subst e3
  have := hx ys k1
  rw [w1] at this
  cases this
  exact ⟨Evo.refl, w2⟩
def rngD (lo : Int) (n : Nat) : List D := (List.range n).map fun (k : Nat) => D.int (lo + (k : Int))
theorem rngD_len (lo : Int) (n : Nat) : (rngD lo n).length = n := by simp [rngD]
theorem rngD_get {lo : Int} {n i : Nat} {d : D} (h : (rngD lo n)[i]? = some d) : i < n ∧ d = .int (lo + i) := by
  unfold rngD at h
  rw [List.getElem?_map] at h
  by_cases hi : i < n
  · rw [List.getElem?_range hi] at h
    exact ⟨hi, (Option.some.inj h).symm⟩
  · rw [List.getElem?_eq_none (by simpa using hi)] at h
    cases h
def one1 : List D → Option Int
  | [.int j] => some j
  | _ => none
def two2 : List D → Option (Int × Int)
  | [.int i, .int j] => some (i, j)
  | _ => none
theorem one1_rep {K : PySem.W.Frag} {as : List Addr} {B : Addr → Prop} {H : Hp} {ds : List D} {vs : List V} {j : Int} (h : RepA K as B H ds vs) (e : one1 ds = some j) : vs = [.int j] := by
  match ds, e, h with
  | [.int j], rfl, h =>
    obtain ⟨x, xs, ev, k1, k2⟩ := h
    have k2' : xs = [] := k2
    have k1' : x = .int j := k1
    rw [ev, k1', k2']
theorem two2_rep {K : PySem.W.Frag} {as : List Addr} {B : Addr → Prop} {H : Hp} {ds : List D} {vs : List V} {i j : Int} (h : RepA K as B H ds vs) (e : two2 ds = some (i, j)) : vs = [.int i, .int j] := by
  match ds, e, h with
  | [.int i, .int j], rfl, h =>
    obtain ⟨x, xs, ev, k1, y, ys, ev2, k2, k3⟩ := h
    have k3' : ys = [] := k3
    have k1' : x = .int i := k1
    have k2' : y = .int j := k2
    rw [ev, ev2, k1', k2', k3']
def lim62 (j : Int) : Bool := decide (-4611686018427387904 ≤ j ∧ j < 4611686018427387904)
theorem lim62_of {j : Int} (h : lim62 j = true) : -(2 ^ 62) ≤ j ∧ j < 2 ^ 62 := by
  have h' : -4611686018427387904 ≤ j ∧ j < 4611686018427387904 := of_decide_eq_true h
  have e : (2 : Int) ^ 62 = 4611686018427387904 := by decide
  rw [e]
  exact h'
def mIr1 (ms : MA) : MA := fun sg S => (ms sg S).bind fun x => match one1 x.1 with
  | some j => if lim62 j = true then .ok (rngD 0 j.toNat, x.2) else .bad
  | none => .bad
theorem i2_rng1 {tg a : Expr} {ms : MA} {p : Pos} (hg : Gl X "range") (hm : X.mg "range" = none) (ha : PA2 X W wk [a] ms) (hs : starEach [a] X.env = [(false, eval a X.env)] := by rfl) : PI2 X W wk tg (.Call (.Name "range" p) [a] [] pos) (mIr1 ms) := by
  obtain ⟨t, a1, a2⟩ := ha
  refine ⟨_, pi_range1 hg hm a1 hs, fun B H0 as ks ow sg S σ H R r h => ?_⟩
  refine a2 _ _ _ _ _ _ _ _ _ _ r (Den.bind h fun d S1 v H1 e0 e1 s1 q1 h1 => ?_)
  clear e0
  cases ej : one1 d with
  | none => simp only [ej] at h1; exact False.elim h1
  | some j =>
    simp only [ej] at h1
    have ev := one1_rep q1 ej
    by_cases hc : lim62 j = true
    · simp only [if_pos hc] at h1
      have hc' := lim62_of hc
      refine ⟨j, ev, hc'.1, hc'.2, h1 _ H1 Evo.refl s1 ⟨.non, .non, rfl, fun B2 H2 _ i => ⟨fun hi => by rw [rngD_len] at hi; exact hi, fun d hd => ?_⟩⟩⟩
      obtain ⟨hi, ed⟩ := rngD_get hd
      refine ⟨hi, fun x H3 ⟨e3, ex⟩ => ?_⟩
      subst e3 ex ed
      exact ⟨Evo.refl, rfl⟩
    · simp only [if_neg hc] at h1
      exact False.elim h1
def mIr2 (ms : MA) : MA := fun sg S => (ms sg S).bind fun x => match two2 x.1 with
  | some (i, j) => if (lim62 i && lim62 j) = true then .ok (rngD i (j - i).toNat, x.2) else .bad
  | none => .bad
theorem i2_rng2 {tg a b : Expr} {ms : MA} {p : Pos} (hg : Gl X "range") (hm : X.mg "range" = none) (ha : PA2 X W wk [a, b] ms) (hs : starEach [a, b] X.env = [(false, eval a X.env), (false, eval b X.env)] := by rfl) (hs2 : starEach [b] X.env = [(false, eval b X.env)] := by rfl) :
    PI2 X W wk tg (.Call (.Name "range" p) [a, b] [] pos) (mIr2 ms) := by
  obtain ⟨t, a1, a2⟩ := ha
  refine ⟨_, pi_range2 hg hm a1 hs hs2, fun B H0 as ks ow sg S σ H R r h => ?_⟩
  refine a2 _ _ _ _ _ _ _ _ _ _ r (Den.bind h fun d S1 v H1 e0 e1 s1 q1 h1 => ?_)
  clear e0
  cases ej : two2 d with
  | none => simp only [ej] at h1; exact False.elim h1
  | some p =>
    obtain ⟨i, j⟩ := p
    simp only [ej] at h1
    have ev := two2_rep q1 ej
    by_cases hc : (lim62 i && lim62 j) = true
    · simp only [if_pos hc] at h1
      rw [Bool.and_eq_true] at hc
      have c1 := lim62_of hc.1
      have c2 := lim62_of hc.2
      refine ⟨i, j, ev, ⟨c1.1, c1.2, c2.1, c2.2⟩, h1 _ H1 Evo.refl s1 ⟨.non, .non, rfl, fun B2 H2 _ k => ⟨fun hi => by rw [rngD_len] at hi; exact hi, fun d hd => ?_⟩⟩⟩
      obtain ⟨hi, ed⟩ := rngD_get hd
      refine ⟨hi, fun x H3 ⟨e3, ex⟩ => ?_⟩
      subst e3 ex ed
      exact ⟨Evo.refl, rfl⟩
    · simp only [if_neg hc] at h1
      exact False.elim h1
def enumD : Nat → List D → List D
  | _, [] => []
  | n, d :: ds => .tup [.int (n : Int), d] :: enumD (n + 1) ds
theorem enumD_len : ∀ (n : Nat) (ds : List D), (enumD n ds).length = ds.length
  | _, [] => rfl
  | n, d :: ds => by rw [enumD, List.length_cons, enumD_len, List.length_cons]
theorem enumD_get : ∀ {n : Nat} {ds : List D} {i : Nat} {d : D}, (enumD n ds)[i]? = some d → ∃ x, ds[i]? = some x ∧ d = .tup [.int ((n + i : Nat) : Int), x]
  | n, [], i, d, h => by simp [enumD] at h
  | n, x :: ds, 0, d, h => by
    simp [enumD] at h
    exact ⟨x, rfl, h.symm⟩
  | n, x :: ds, i + 1, d, h => by
    simp only [enumD, List.getElem?_cons_succ] at h
    obtain ⟨y, h1, h2⟩ := enumD_get h
    refine ⟨y, by simpa using h1, ?_⟩
    rw [h2]
    have : n + 1 + i = n + (i + 1) := by omega
    rw [this]
def oneL : List D → Option (List D)
  | [.lst ds] => some ds
  | _ => none
theorem oneL_eq {ds es : List D} (h : oneL ds = some es) : ds = [.lst es] := by
  match ds, h with
  | [.lst _], rfl => rfl
def mIe (ms : MA) : MA := fun sg S => (ms sg S).bind fun x => match oneL x.1 with
  | some ds => .ok (enumD 0 ds, x.2)
  | none => .bad
theorem i2_enum {e : Expr} {ms : MA} {p tpos : Pos} {elts : List Expr} {kk : Nat} (hg : Gl X "enumerate") (hm : X.mg "enumerate" = none) (ha : PA2 X W wk [e] ms) (hs : starEach [e] X.env = [(false, eval e X.env)] := by rfl) :
    PI2 X W wk (.Tuple elts kk tpos) (.Call (.Name "enumerate" p) [e] [] pos) (mIe ms) := by
  obtain ⟨t, a1, a2⟩ := ha
  refine ⟨_, pi_enum hg hm a1 hs, fun B H0 as ks ow sg S σ H R r h => ?_⟩
  refine a2 _ _ _ _ _ _ _ _ _ _ r (Den.bind h fun d S1 v H1 e0 e1 s1 q1 h1 => ?_)
  clear e0
  cases ej : oneL d with
  | none => simp only [ej] at h1; exact False.elim h1
  | some ds =>
    simp only [ej] at h1
    rw [oneL_eq ej] at q1
    obtain ⟨x, xs, ev, k1, k2⟩ := q1
    have k2' : xs = [] := k2
    subst k2'
    obtain ⟨a, ys, ex, nb, g1, g2⟩ := id k1
    subst ex
    refine ⟨a, ys, ev, SqL.of g1, h1 _ H1 Evo.refl s1 ⟨.lst ds, .ref a, k1, fun B2 H2 rp i => ?_⟩⟩
    obtain ⟨a', zs, ev', nb', l1, l2⟩ := rp
    cases ev'
    refine ⟨fun hi => ⟨zs, SqL.of l1, by rw [enumD_len] at hi; rw [← l2.length]; exact hi⟩, fun d hd => ?_⟩
    obtain ⟨x, hx, ed⟩ := enumD_get hd
    obtain ⟨w, w1, w2⟩ := l2.get hx
    refine ⟨⟨zs, w, SqL.of l1, w1⟩, fun y H3 ⟨T, z, ey, hT, e3, hz⟩ => ?_⟩
    have := hz zs (SqL.of l1)
    rw [w1] at this
    cases this
    subst ey e3 ed
    refine ⟨Evo.new hT, repNewT hT (RepA.cons ?_ (RepA.one w2))⟩
    have e0 : 0 + i = i := Nat.zero_add i
    rw [e0]
    exact rfl
/-! ### for -/
def loopM (g : D → List Sl → Option (List Sl)) (body : MS) : List D → MS
  | [], sg, S => .ok (.nx, sg, S)
  | d :: ds, sg, S => match g d sg with
    | none => .bad
    | some sg1 => (body sg1 S).bind fun x => match x.1 with
      | .nx => loopM g body ds x.2.1 x.2.2
      | .ct => loopM g body ds x.2.1 x.2.2
      | .bk => .ok (.nx, x.2)
      | .rt v => .ok (.rt v, x.2)
def mFor (mi : MA) (g : D → List Sl → Option (List Sl)) (body : MS) : MS := fun sg S => (mi sg S).bind fun x => loopM g body x.1 sg x.2
theorem ExW.kp {X : Cx} {B : Addr → Prop} {H0 : Hp} {as : List Addr} {ks : List (D × V)} {p : D × V} {e : Exn} {sg : List Sl} {S : List O} (h : ExW (ctOf X W B H0 as ks) e sg S) : ExW (ctOf X W B H0 as (p :: ks)) e sg S :=
  fun cl dx ow σ H r q => h cl dx ow σ H r.unkp q
theorem s2_for {tg iter : Expr} {body : List Stmt} {mi : MA} {tch : List Nat} {g : D → List Sl → Option (List Sl)} {mb : MS} (hp : PassesOwn (model X.prog X.w) X.A X.env X.xe) (hc : X.calm = true) (hi : PI2 X W false tg iter mi) (hg : PG2 X tg tch g) (hb : PSs2 X W body mb)
    (hs : ∀ x, foldedSetIterable iter X.env x = pure x := by intro _; rfl) : PS2 X W (.For tg iter body [] pos) (mFor mi g mb) := by
  obtain ⟨wi, a1, a2⟩ := hi
  obtain ⟨tt, b1, b2⟩ := hg
  obtain ⟨tb, c1, c2⟩ := hb
  refine ⟨_, ps_for hp hc a1 b1 c1 hs, fun B H0 as ks ow sg S σ H Dd r h => ?_⟩
  refine a2 _ _ _ _ _ _ _ _ _ _ r (DenS.bindE h fun ds S1 J H1 _ e1 s1 q1 h1 => ?_)
  obtain ⟨dk, vk, rk, wk⟩ := q1
  have r1 := (r.step e1 s1).addkp rk
  refine ⟨fun i m σ' H' => m = ds.length - i ∧ i ≤ ds.length ∧ ∃ ow' sg' S', Rl X.K B H0 as ((dk, vk) :: ks) ow' sg' S' σ' H' ∧ DenS (ctOf X W B H0 as ks) (loopM g mb (ds.drop i) sg' S') Dd, ⟨_, rfl, Nat.zero_le _, ow, sg, S1, r1, h1⟩, ?_⟩
  rintro i m σ2 H2 ⟨em, hi, ow2, sg2, S2, r2, h2⟩
  have wi := wk _ H2 (r2.kp (dk, vk) List.mem_cons_self) i
  by_cases hlt : i < ds.length
  · right
    have ed : ds[i]? = some ds[i] := List.getElem?_eq_getElem hlt
    obtain ⟨go, yl⟩ := wi.2 _ ed
    refine ⟨go, fun σ' H' => i + 1 ≤ ds.length ∧ ∃ ow' sg' S', Rl X.K B H0 as ((dk, vk) :: ks) ow' sg' S' σ' H' ∧ DenS (ctOf X W B H0 as ks) (loopM g mb (ds.drop (i + 1)) sg' S') Dd, fun σ' H' ⟨l, q⟩ => ⟨ds.length - (i + 1), by omega, rfl, l, q⟩, fun x H3 y => ?_⟩
    obtain ⟨e3, rx⟩ := yl x H3 y
    have r3 := r2.step e3.any (r2.stoNew e3)
    rw [List.drop_eq_getElem_cons hlt] at h2
    simp only [loopM] at h2
    cases eg : g ds[i] sg2 with
    | none => simp only [eg] at h2; exact False.elim h2
    | some sg3 =>
      simp only [eg] at h2
      refine b2 _ _ _ _ _ _ _ _ _ _ _ _ _ r3 rx eg fun σ4 r4 _ => ?_
      refine c2 _ _ _ _ _ _ _ _ _ _ r4 ?_
      revert h2
      cases mb sg3 S2 with
      | ok z =>
        obtain ⟨fl, sg5, S5⟩ := z
        cases fl with
        | nx => exact fun h2 ow6 σ6 H6 r6 => ⟨hlt, ow6, sg5, S5, r6, h2⟩
        | ct => exact fun h2 ow6 σ6 H6 r6 => ⟨hlt, ow6, sg5, S5, r6, h2⟩
        | bk => exact fun h2 ow6 σ6 H6 r6 => h2 ow6 σ6 H6 r6.unkp
        | rt d => exact fun h2 => h2
      | ex e sg5 S5 => exact fun h2 => ExW.kp h2
      | bad => exact fun h2 => h2
  · left
    have ei : i = ds.length := by omega
    subst ei
    refine ⟨wi.1 (Nat.le_refl _), ?_⟩
    rw [List.drop_length] at h2
    exact h2 _ _ _ r2.unkp
/-! ### while: n the turns that are let -/
def whileM (t : MT) (body : MS) : Nat → MS
  | 0, _, _ => .bad
  | n + 1, sg, S => (t sg S).bind fun x => if x.1 = true then (body sg x.2).bind fun y => match y.1 with
      | .nx => whileM t body n y.2.1 y.2.2
      | .ct => whileM t body n y.2.1 y.2.2
      | .bk => .ok (.nx, y.2)
      | .rt v => .ok (.rt v, y.2)
    else .ok (.nx, sg, x.2)
def mWhile (n : Nat) (t : MT) (body : MS) : MS := whileM t body n
theorem s2_while (n : Nat) {c : Expr} {body : List Stmt} {t : MT} {mb : MS} (hp : PassesOwn (model X.prog X.w) X.A X.env X.xe) (hc : PT2 X W c t) (hb : PSs2 X W body mb) : PS2 X W (.While c body [] pos) (mWhile n t mb) := by
  obtain ⟨tc, a1, a2⟩ := hc
  obtain ⟨tb, b1, b2⟩ := hb
  refine ⟨_, ps_while hp a1 b1, fun B H0 as ks ow sg S σ H Dd r h => ?_⟩
  refine ⟨fun m σ' H' => ∃ ow' sg' S', Rl X.K B H0 as ks ow' sg' S' σ' H' ∧ DenS (ctOf X W B H0 as ks) (whileM t mb m sg' S') Dd, ⟨n, ow, sg, S, r, h⟩, ?_⟩
  rintro m σ1 H1 ⟨ow1, sg1, S1, r1, h1⟩
  cases m with
  | zero => exact False.elim h1
  | succ m =>
    simp only [whileM] at h1
    refine a2 _ _ _ _ _ _ _ _ _ _ r1 (DenS.bindE h1 fun d S2 v H2 e0 e2 s2 q2 h2 => ?_)
    have q : v = d := q2
    subst q
    have r2 := r1.step e2 s2
    cases v with
    | false => exact h2 _ _ _ r2
    | true =>
      refine ⟨fun σ' H' => ∃ ow' sg' S', Rl X.K B H0 as ks ow' sg' S' σ' H' ∧ DenS (ctOf X W B H0 as ks) (whileM t mb m sg' S') Dd, fun σ' H' q => ⟨m, Nat.lt_succ_self m, q⟩, ?_⟩
      refine b2 _ _ _ _ _ _ _ _ _ _ r2 ?_
      simp only [if_pos] at h2
      revert h2
      cases mb sg1 S2 with
      | ok z =>
        obtain ⟨fl, sg5, S5⟩ := z
        cases fl with
        | nx => exact fun h2 ow6 σ6 H6 r6 => ⟨ow6, sg5, S5, r6, h2⟩
        | ct => exact fun h2 ow6 σ6 H6 r6 => ⟨ow6, sg5, S5, r6, h2⟩
        | bk => exact fun h2 => h2
        | rt d => exact fun h2 => h2
      | ex e sg5 S5 => exact fun h2 => h2
      | bad => exact fun h2 => h2
end
end D2

namespace D2
open PySem PySem.Spec PyProof.Rows L2

/-! ### a new object that is not any name's yet -/
section
variable {K : PySem.W.Frag} {as : List Addr} {B : Addr → Prop} {H H0 H' : Hp} {ks : List (D × V)} {ow : List (Option Addr)} {sg : List Sl} {S S' : List O} {σ : L2.St} {p : Addr} {o : HO}
theorem bd_ghost : ∀ b, Bd B (ow ++ [some p]) b → Bd B ow b ∨ b = p := fun b h => by
  rcases h with h | h
  · exact .inl (.inl h)
  · rcases List.mem_append.mp h with h | h
    · exact .inl (.inr h)
    · have e : some b = some p := by simpa using h
      exact .inr (Option.some.inj e)
theorem bd_ghost' : ∀ b, Bd B ow b ∨ b = p → Bd B (ow ++ [some p]) b := fun b h => by
  rcases h with (h | h) | h
  · exact .inl h
  · exact .inr (List.mem_append_left _ h)
  · subst h; exact .inr (List.mem_append_right _ List.mem_cons_self)
theorem bd_un : ∀ b, Bd B ow b → Bd B (ow ++ [some p]) b := fun b h => bd_ghost' b (.inl h)
theorem get_ghost {i : Nat} {x : Option Addr} (hl : i < ow.length) : (ow ++ [some p])[i]? = ow[i]? := List.getElem?_append_left hl
theorem Rl.slw (r : Rl K B H0 as ks ow sg S σ H) {B' : Addr → Prop} {H1 : Hp} {ow1 : List (Option Addr)} (h1 : ∀ (i : Nat) w, i < sg.length → ow[i]? = some w → ow1[i]? = some w) (h2 : ∀ s w x, SlRep K as (Bd B ow) H s w x → (∀ a, w = some a → some a ∈ ow) → SlRep K as B' H1 s w x) :
    ∀ (i : Nat) (s : Sl), sg[i]? = some s → ∃ w x, ow1[i]? = some w ∧ σ[i]? = some x ∧ SlRep K as B' H1 s w x := fun i s hs => by
  obtain ⟨w, x, g1, g2, g3⟩ := r.sl i s hs
  exact ⟨w, x, h1 i w (List.getElem?_eq_some_iff.mp hs).1 g1, g2, h2 s w x g3 fun a e => List.mem_of_getElem? (e ▸ g1)⟩
theorem inj_ghost (r : Rl K B H0 as ks ow sg S σ H) (hp : some p ∉ ow) : ∀ (i j : Nat) (a : Addr), (ow ++ [some p])[i]? = some (some a) → (ow ++ [some p])[j]? = some (some a) → i = j := fun i j a hi hj => by
  have up : ∀ k, (ow ++ [some p])[k]? = some (some a) → (ow[k]? = some (some a)) ∨ (k = ow.length ∧ a = p) := fun k e => by
    by_cases hk : k < ow.length
    · rw [List.getElem?_append_left hk] at e; exact .inl e
    · rw [List.getElem?_append_right (by omega)] at e
      have := (List.getElem?_eq_some_iff.mp e).1
      have e0 : k - ow.length = 0 := by simpa using this
      rw [e0] at e
      have e' : some p = some a := by simpa using e
      exact .inr ⟨by omega, (Option.some.inj e').symm⟩
  rcases up i hi with h1 | ⟨h1, e1⟩
  · rcases up j hj with h2 | ⟨h2, e2⟩
    · exact r.inj i j a h1 h2
    · exact absurd (List.mem_of_getElem? h1) (by rw [e2]; exact hp)
  · rcases up j hj with h2 | ⟨h2, e2⟩
    · exact absurd (List.mem_of_getElem? h2) (by rw [e1]; exact hp)
    · rw [h1, h2]
/-- a new object at p -/
theorem Rl.ghost (r : Rl K B H0 as ks ow sg S σ H) (hp : H p = none) : Rl K B H0 as ks (ow ++ [some p]) sg S σ (upd H p o) := by
  have np : some p ∉ ow := fun z => r.odom p z hp
  have e : Evo (fun _ => False) H (upd H p o) := Evo.new hp
  have mem : ∀ b, some b ∈ ow ++ [some p] → some b ∈ ow ∨ b = p := fun b hb => by
    rcases List.mem_append.mp hb with hb | hb
    · exact .inl hb
    · have : some b = some p := by simpa using hb
      exact .inr (Option.some.inj this)
  refine ⟨by simp only [List.length_append]; exact Nat.le_trans r.lo (Nat.le_add_right _ _), r.ls, r.slw (fun i w _ h => ?_) (fun s w x h _ => ?_), inj_ghost r np, fun a ha => ?_, fun a ha => ?_, r.bdom, r.asB, r.evo.trans (Evo.new hp), ?_, fun q hq => ?_⟩
  · rw [List.getElem?_append_left (List.getElem?_eq_some_iff.mp h).1]; exact h
  · cases s with
    | no => exact h
    | val d =>
      obtain ⟨q1, v, q2, q3⟩ := h
      exact ⟨q1, v, q2, Rep.new hp (Rep.more hp bd_ghost d v q3)⟩
    | own ob =>
      obtain ⟨a, q1, q2, q3⟩ := h
      exact ⟨a, q1, q2, ORep.imp e (fun _ z => z.elim) (fun _ z => z) ob a (fun z => z) (ORep.more hp bd_ghost ob a q3)⟩
  · rcases mem a ha with z | z
    · exact r.new a z
    · rw [z]; exact r.evo.back hp
  · rcases mem a ha with z | z
    · exact e.dom a (r.odom a z)
    · rw [z, upd_same]; exact fun z => nomatch z
  · exact ⟨r.sto.len, r.sto.nd, fun n x hx => let ⟨a, h1, h2⟩ := r.sto.ob n x hx; ⟨a, h1, ORep.imp e (fun _ z => z.elim) (fun _ z => z) x a (fun z => z) (ORep.more hp bd_ghost x a h2)⟩⟩
  · exact Rep.new hp (Rep.more hp bd_ghost _ _ (r.kp q hq))
/-- it is written -/
theorem Rl.putGhost {t : HO} (r : Rl K B H0 as ks (ow ++ [some p]) sg S σ H) (hl : sg.length ≤ ow.length) (ht : H p = some t) (n1 : ∀ xs, t ≠ .tup xs) (n2 : ∀ ob w, t ≠ .frz ob w) : Rl K B H0 as ks (ow ++ [some p]) sg S σ (upd H p o) ∧ Evo (· = p) H (upd H p o) := by
  have hm : some p ∈ ow ++ [some p] := List.mem_append_right _ List.mem_cons_self
  have e : Evo (· = p) H (upd H p o) := Evo.put ht n1 n2 rfl
  have bda : ∀ b, b = p → Bd B (ow ++ [some p]) b := fun b z => .inr (z ▸ hm)
  have gl : (ow ++ [some p])[ow.length]? = some (some p) := by rw [List.getElem?_append_right (Nat.le_refl _)]; simp
  have e0 : Evo (· ∈ as) H0 (upd H p o) := by
    have n0 := r.new p hm
    refine ⟨fun b o q n => ?_, fun b xs q => ?_, fun b ob w q => ?_, fun b q => e.dom b (r.evo.dom b q)⟩
    · rw [upd_ne (ne_of_none q n0)]; exact r.evo.keep b o q n
    · rw [upd_ne (ne_of_none q n0)]; exact r.evo.tups b xs q
    · rw [upd_ne (ne_of_none q n0)]; exact r.evo.frzs b ob w q
  refine ⟨⟨r.lo, r.ls, fun i s hs => ?_, r.inj, r.new, fun a ha => e.dom a (r.odom a ha), r.bdom, r.asB, e0, ⟨r.sto.len, r.sto.nd, fun n x hx => ?_⟩, fun q hq => Rep.imp e bda (fun _ z => z) _ _ (r.kp q hq)⟩, e⟩
  · obtain ⟨w, x, g1, g2, g3⟩ := r.sl i s hs
    refine ⟨w, x, g1, g2, ?_⟩
    cases s with
    | no => exact g3
    | val d =>
      obtain ⟨q1, v, q2, q3⟩ := g3
      exact ⟨q1, v, q2, Rep.imp e bda (fun _ z => z) d v q3⟩
    | own ob =>
      obtain ⟨a, q1, q2, q3⟩ := g3
      subst q1
      refine ⟨a, rfl, q2, ORep.imp e bda (fun _ z => z) ob a (fun z => ?_) q3⟩
      have := r.inj i ow.length p (z ▸ g1) gl
      have := (List.getElem?_eq_some_iff.mp hs).1
      omega
  · obtain ⟨b, q1, q2⟩ := r.sto.ob n x hx
    exact ⟨b, q1, ORep.imp e bda (fun _ z => z) x b (fun z => r.ownAs hm (z ▸ List.mem_of_getElem? q1)) q2⟩
/-- names forgotten -/
def wipeS (sg : List Sl) : List Nat → List Sl
  | [] => sg
  | v :: vs => (wipeS sg vs).set v .no
theorem wipeS_length (sg : List Sl) : ∀ vs : List Nat, (wipeS sg vs).length = sg.length
  | [] => rfl
  | v :: vs => by unfold wipeS; rw [List.length_set, wipeS_length sg vs]
theorem Rl.setNo (r : Rl K B H0 as ks ow sg S σ H) (i : Nat) (hn : isOwn sg[i]? = false) (x : Option V) : Rl K B H0 as ks ow (sg.set i .no) S (σ.set i x) H := by
  refine ⟨by simpa only [List.length_set] using r.lo, by simpa using r.ls, fun j s hs => ?_, r.inj, r.new, r.odom, r.bdom, r.asB, r.evo, r.sto, r.kp⟩
  by_cases hij : i = j
  · subst hij
    have hl : i < sg.length := by
      have := (List.getElem?_eq_some_iff.mp hs).1
      simpa using this
    rw [List.getElem?_set_self hl] at hs
    cases hs
    exact ⟨none, x, r.owNone hl hn, List.getElem?_set_self (by rw [r.ls]; exact hl), rfl⟩
  · rw [List.getElem?_set_ne hij] at hs ⊢
    exact r.sl j s hs
theorem isOwn_wipeS {sg : List Sl} {i : Nat} (h : isOwn sg[i]? = false) : ∀ vs : List Nat, isOwn (wipeS sg vs)[i]? = false
  | [] => h
  | v :: vs => by
    have ih := isOwn_wipeS h vs
    unfold wipeS
    by_cases hv : v = i
    · subst hv
      by_cases hl : v < (wipeS sg vs).length
      · rw [List.getElem?_set_self hl]; rfl
      · rw [List.getElem?_eq_none (by simpa using hl)]; rfl
    · rw [List.getElem?_set_ne hv]; exact ih
theorem Rl.wipe (r : Rl K B H0 as ks ow sg S σ H) : ∀ vs : List Nat, (∀ v ∈ vs, isOwn sg[v]? = false) → Rl K B H0 as ks ow (wipeS sg vs) S (L2.wipe σ vs) H
  | [], _ => r
  | v :: vs, h => by
    have ih := Rl.wipe r vs fun u hu => h u (List.mem_cons_of_mem _ hu)
    unfold wipeS L2.wipe
    exact ih.setNo v (isOwn_wipeS (h v List.mem_cons_self) vs) none
theorem wipe_get {σ : L2.St} {i : Nat} : ∀ {vs : List Nat}, (L2.wipe σ vs)[i]? = if i ∈ vs ∧ i < σ.length then some none else σ[i]?
  | [] => by rw [if_neg (by simp)]; rfl
  | v :: vs => by
    unfold L2.wipe
    have ih := wipe_get (σ := σ) (i := i) (vs := vs)
    by_cases hv : v = i
    · subst hv
      by_cases hl : v < σ.length
      · rw [List.getElem?_set_self (by rw [wipe_length]; exact hl), if_pos ⟨List.mem_cons_self, hl⟩]
      · rw [List.getElem?_eq_none (by rw [List.length_set, wipe_length]; omega), if_neg (fun z => hl z.2), List.getElem?_eq_none (by omega)]
    · rw [List.getElem?_set_ne hv, ih]
      have : (i ∈ v :: vs) ↔ i ∈ vs := by simp [Ne.symm hv]
      by_cases h : i ∈ vs ∧ i < σ.length
      · rw [if_pos h, if_pos ⟨this.mpr h.1, h.2⟩]
      · rw [if_neg h, if_neg (fun z => h ⟨this.mp z.1, z.2⟩)]
theorem wipe_back {σ τ : L2.St} {vs : List Nat} (hl : τ.length = σ.length) (h : ∀ j : Nat, j ∉ vs → τ[j]? = (L2.wipe σ vs)[j]?) : L2.wipe τ vs = L2.wipe σ vs := by
  refine List.ext_getElem? fun j => ?_
  rw [wipe_get]
  by_cases hj : j ∈ vs
  · rw [wipe_get, hl]
    by_cases hlt : j < σ.length
    · rw [if_pos ⟨hj, hlt⟩, if_pos ⟨hj, hlt⟩]
    · rw [if_neg (fun z => hlt z.2), if_neg (fun z => hlt z.2), List.getElem?_eq_none (by omega), List.getElem?_eq_none (by omega)]
  · rw [if_neg (fun z => hj z.1), h j hj]
end

/-! ### one reading for all contexts with the same K, mg -/
def canE (K : PySem.W.Frag) (mg : Str → Option Value) (W : WX2) (wk : Bool) (m : ME) : TE := fun σ H Q => ∃ B H0 as ks ow sg S, Rl K B H0 as ks ow sg S σ H ∧ Den ⟨K, mg, B, H0, as, ks, W⟩ ow ((⟨K, mg, B, H0, as, ks, W⟩ : Ct).rp ow wk) (m sg S) H Q
theorem PE2.can {X : Cx} {W : WX2} {wk : Bool} {e : Expr} {m : ME} (h : PE2 X W wk e m) : PE X e (canE X.K X.mg W wk m) := by
  obtain ⟨t, h1, h2⟩ := h
  exact ⟨fun pins s σ H Q I ⟨B, H0, as, ks, ow, sg, S, r, q⟩ => h1.run pins s σ H Q I (h2 _ _ _ _ _ _ _ _ _ _ r q)⟩
def canT (K : PySem.W.Frag) (mg : Str → Option Value) (W : WX2) (m : MT) : TT := fun σ H Q => ∃ B H0 as ks ow sg S, Rl K B H0 as ks ow sg S σ H ∧ Den ⟨K, mg, B, H0, as, ks, W⟩ ow rpB (m sg S) H Q
theorem PT2.can {X : Cx} {W : WX2} {e : Expr} {m : MT} (h : PT2 X W e m) : PT X e (canT X.K X.mg W m) := by
  obtain ⟨t, h1, h2⟩ := h
  exact ⟨fun pins s σ H Q I ⟨B, H0, as, ks, ow, sg, S, r, q⟩ => h1.run pins s σ H Q I (h2 _ _ _ _ _ _ _ _ _ _ r q)⟩
def canG (K : PySem.W.Frag) (tch : List Nat) (g : D → List Sl → Option (List Sl)) : TG := fun v σ H Q => ∃ B H0 as ks ow sg S d sg1, Rl K B H0 as ks ow sg S σ H ∧ Rep K as (Bd B ow) H d v ∧ g d sg = some sg1 ∧
  (∀ σ', Rl K B H0 as ks ow sg1 S σ' H → OnlyAt tch σ σ' → Q σ' H)
theorem PG2.can {X : Cx} {tg : Expr} {tch : List Nat} {g : D → List Sl → Option (List Sl)} (h : PG2 X tg tch g) : PG X tg (canG X.K tch g) := by
  obtain ⟨t, h1, h2⟩ := h
  exact ⟨fun pins s σ H v u Q I rv ⟨B, H0, as, ks, ow, sg, S, d, sg1, r, q1, q2, q3⟩ => h1.run pins s σ H v u Q I rv (h2 _ _ _ _ _ _ _ _ _ _ _ _ _ r q1 q2 q3)⟩
/-! ### tests of a comprehension -/
def PTs2 (X : Cx) (W : WX2) (ifs : List Expr) (m : MT) : Prop := PTs X ifs (canT X.K X.mg W m)
def mYes : MT := fun _ S => .ok (true, S)
section
variable {X : Cx} {W : WX2} {wk : Bool} {pos : Pos}
theorem ts2_nil : PTs2 X W [] mYes := ⟨fun pins s σ H Q I ⟨B, H0, as, ks, ow, sg, S, r, q⟩ => pts_nil.run pins s σ H Q I (q true H Evo.refl r.sto rfl)⟩
theorem ts2_one {c : Expr} {m : MT} (h : PT2 X W c m) : PTs2 X W [c] m := pts_one h.can
end
def W0 : WX2 := fun _ _ _ _ => False

/-! ### comprehensions -/
def lcR (g : D → List Sl → Option (List Sl)) (mt : MT) (me : ME) (sg : List Sl) : List D → List O → R (List D × List O)
  | [], S => .ok ([], S)
  | d :: ds, S => match g d sg with
    | none => .bad
    | some sg1 => match mt sg1 S with
      | .ok (true, S1) => match me sg1 S1 with
        | .ok (x, S2) => (lcR g mt me sg ds S2).bind fun y => .ok (x :: y.1, y.2)
        | _ => .bad
      | .ok (false, S1) => lcR g mt me sg ds S1
      | _ => .bad
def oLc (wk : Bool) (mi : MA) (g : D → List Sl → Option (List Sl)) (mt : MT) (me : ME) (vs : List Nat) : MO := fun sg S => (mi sg S).bind fun x =>
  if (decide (x.1.length ≤ 16777216) && (!wk || D.flatA x.1) && vs.all fun v => !isOwn sg[v]?) = true then (lcR g mt me (wipeS sg vs) x.1 x.2).bind fun y => .ok (.lst y.1, y.2) else .bad
section
variable {X : Cx} {W : WX2} {wk wi' : Bool} {pos : Pos}
theorem lc_den {tg iter elt : Expr} {ifs : List Expr} {vs tch : List Nat} {mi : MA} {g : D → List Sl → Option (List Sl)} {mt : MT} {me : ME} {wi : TI} (htch : ∀ j ∈ tch, j ∈ vs)
    (hi : ∀ B H0 as ks ow sg S σ H (R : It → Hp → Prop), Rl X.K B H0 as ks ow sg S σ H → Den (ctOf X W B H0 as ks) ow (rpI (ctOf X W B H0 as ks) (if wk then (· ∈ as) else Bd B ow)) (mi sg S) H R → wi σ H R)
    {B : Addr → Prop} {H0 : Hp} {as : List Addr} {ks : List (D × V)} {ow : List (Option Addr)} {sg : List Sl} {S : List O} {σ : L2.St} {H : Hp} {Q : VK} (r : Rl X.K B H0 as ks ow sg S σ H)
    (h : DenO (ctOf X W B H0 as ks) ow (oLc wk mi g mt me vs sg S) H Q) : tLc wi (canG X.K tch g) (canT X.K X.mg W0 mt) (canE X.K X.mg W0 false me) vs σ H Q := by
  refine hi _ _ _ _ _ _ _ _ _ _ r (DenO.bind h fun ds S1 J H1 e0 e1 s1 q1 h1 => ?_)
  clear e0
  by_cases hc : (decide (ds.length ≤ 16777216) && (!wk || D.flatA ds) && vs.all fun v => !isOwn sg[v]?) = true
  · simp only [if_pos hc] at h1
    rw [Bool.and_eq_true, Bool.and_eq_true] at hc
    have hlen : ds.length ≤ 16777216 := of_decide_eq_true hc.1.1
    have hfl : wk = true → D.flatA ds = true := fun z => by
      have := hc.1.2
      rw [z] at this
      exact this
    have hno : ∀ v ∈ vs, isOwn sg[v]? = false := fun v hv => by
      have := List.all_eq_true.mp hc.2 v hv
      simpa using this
    obtain ⟨dk, vk, rk, wk2⟩ := q1
    have r1 := r.step e1 s1
    intro p hp
    have r2 : Rl X.K B H0 as ks (ow ++ [some p]) sg S1 σ (upd H1 p (.lst [])) := r1.ghost hp
    have hlo : (wipeS sg vs).length ≤ ow.length := by rw [wipeS_length]; exact r.lo
    have pas : p ∉ as := fun z => r1.bdDom p (r1.asBd p z) hp
    have evH : Evo (· ∈ as) H1 (upd H1 p (.lst [])) := Evo.new hp
    -- what the walked thing needs
    have rk' : Rep X.K as (if wk then (· ∈ as) else Bd B (ow ++ [some p])) (upd H1 p (.lst [])) dk vk := by
      cases wk with
      | true => exact Rep.new hp rk
      | false => exact Rep.new hp (Rep.more hp bd_ghost _ _ rk)
    have asW : ∀ a, a ∈ as → (if wk then (· ∈ as) else Bd B (ow ++ [some p])) a := fun a h => asWk r2 a h
    refine ⟨fun i m H' => m = ds.length - i ∧ i ≤ ds.length ∧ ∃ acc vacc S', Rl X.K B H0 as ks (ow ++ [some p]) (wipeS sg vs) S' (L2.wipe σ vs) H' ∧ (∀ a o, H1 a = some o → a ∉ as → H' a = some o) ∧ Evo (fun a => a ∈ as) H1 H' ∧ Rep X.K as (if wk then (· ∈ as) else Bd B (ow ++ [some p])) H' dk vk ∧
      H' p = some (.lst vacc) ∧ RepA X.K as (Bd B (ow ++ [some p])) H' acc vacc ∧ acc.length ≤ i ∧ DenO (ctOf X W B H0 as ks) ow (((lcR g mt me (wipeS sg vs) (ds.drop i) S').bind fun y => .ok (acc ++ y.1, y.2)).bind fun y => .ok (.lst y.1, y.2)) H1 Q,
      ⟨_, rfl, Nat.zero_le _, [], [], S1, r2.wipe vs hno, evH.keep, evH, rk', upd_same, rfl, Nat.le_refl _, ?_⟩, ?_⟩
    · revert h1
      rw [List.drop_zero]
      show DenO _ _ ((lcR g mt me (wipeS sg vs) ds S1).bind _) H1 Q → _
      cases lcR g mt me (wipeS sg vs) ds S1 with
      | ok a => exact fun h => h
      | ex => exact fun h => h
      | bad => exact fun h => h
    rintro i m H2 ⟨em, hi2, acc, vacc, S2, r2, kp2, ev2, rk2, hp2, ra2, la2, h2⟩
    have wi2 := wk2 _ H2 rk2 i
    by_cases hlt : i < ds.length
    · right
      have ed : ds[i]? = some ds[i] := List.getElem?_eq_getElem hlt
      obtain ⟨go, yl⟩ := wi2.2 _ ed
      refine ⟨go, fun H' => i + 1 ≤ ds.length ∧ ∃ acc vacc S', Rl X.K B H0 as ks (ow ++ [some p]) (wipeS sg vs) S' (L2.wipe σ vs) H' ∧ (∀ a o, H1 a = some o → a ∉ as → H' a = some o) ∧ Evo (fun a => a ∈ as) H1 H' ∧ Rep X.K as (if wk then (· ∈ as) else Bd B (ow ++ [some p])) H' dk vk ∧
        H' p = some (.lst vacc) ∧ RepA X.K as (Bd B (ow ++ [some p])) H' acc vacc ∧ acc.length ≤ i + 1 ∧ DenO (ctOf X W B H0 as ks) ow (((lcR g mt me (wipeS sg vs) (ds.drop (i + 1)) S').bind fun y => .ok (acc ++ y.1, y.2)).bind fun y => .ok (.lst y.1, y.2)) H1 Q,
        fun H' q => ⟨ds.length - (i + 1), by omega, rfl, q.1, q.2⟩, fun x H3 y => ?_⟩
      obtain ⟨e3, rx⟩ := yl x H3 y
      have r3 := r2.step e3.any (r2.stoNew e3)
      have rx' : Rep X.K as (Bd B (ow ++ [some p])) H3 ds[i] x := by
        cases wk with
        | false => exact rx
        | true =>
          have fl : ∀ (l : List D) (k : Nat) (d : D), D.flatA l = true → l[k]? = some d → d.flat = true := by
            intro l
            induction l with
            | nil => intro k d _ h; simp at h
            | cons c l ih =>
              intro k d hf h
              have hf' : (c.flat && D.flatA l) = true := hf
              rw [Bool.and_eq_true] at hf'
              cases k with
              | zero => simp at h; subst h; exact hf'.1
              | succ k => exact ih k d hf'.2 (by simpa using h)
          exact Rep.ofFlat _ _ (fl ds i _ (hfl rfl) ed) rx
      rw [List.drop_eq_getElem_cons hlt] at h2
      simp only [lcR] at h2
      cases eg : g ds[i] (wipeS sg vs) with
      | none => simp only [eg] at h2; exact False.elim h2
      | some sg1 =>
        simp only [eg] at h2
        refine ⟨B, H0, as, ks, ow ++ [some p], wipeS sg vs, S2, ds[i], sg1, r3, rx', eg, fun σ4 r4 k4 => ⟨wipe_back (k4.1.trans (wipe_length σ vs)) fun j hj => k4.2 j fun z => hj (htch j z), ?_⟩⟩
        -- the test, then the element
        have ev3 : Evo (· ∈ as) H1 H3 := ev2.trans e3.any
        have hp3 : H3 p = some (.lst vacc) := e3.keep _ _ hp2 fun z => z
        have ra3 := RepA.imp (B' := Bd B (ow ++ [some p])) e3 (fun _ z => z.elim) (fun _ z => z) _ _ ra2
        have rk3 := Rep.imp (B' := if wk then (· ∈ as) else Bd B (ow ++ [some p])) e3 (fun _ z => z.elim) (fun _ z => z) _ _ rk2
        cases et : mt sg1 S2 with
        | ex e sg5 S5 => simp only [et] at h2; exact False.elim h2
        | bad => simp only [et] at h2; exact False.elim h2
        | ok z =>
          obtain ⟨b, S3⟩ := z
          refine ⟨B, H0, as, ks, ow ++ [some p], sg1, S2, r4, ?_⟩
          rw [et]
          rintro b' H4 e4 s4 rfl
          have r5 := r4.step e4 s4
          have ev4 : Evo (· ∈ as) H1 H4 := ev3.trans e4
          have hp4 : H4 p = some (.lst vacc) := e4.keep _ _ hp3 pas
          have ra4 := RepA.imp (B' := Bd B (ow ++ [some p])) e4 r4.asBd (fun _ z => z) _ _ ra3
          have rk4 := Rep.imp (B' := if wk then (· ∈ as) else Bd B (ow ++ [some p])) e4 asW (fun _ z => z) _ _ rk3
          cases b' with
          | false =>
            simp only [et] at h2
            exact ⟨hlt, acc, vacc, S3, (r3.step e4 s4), fun a o q n => ev4.keep a o q n, ev4, rk4, hp4, ra4, by omega, h2⟩
          | true =>
            simp only [et] at h2
            cases em2 : me sg1 S3 with
            | ex e sg5 S5 => simp only [em2] at h2; exact False.elim h2
            | bad => simp only [em2] at h2; exact False.elim h2
            | ok z =>
              obtain ⟨d, S4⟩ := z
              simp only [em2] at h2
              refine ⟨B, H0, as, ks, ow ++ [some p], sg1, S3, r5, ?_⟩
              rw [em2]
              intro v H5 e5 s5 rv
              have r6 := (r3.step e4 s4).step e5 s5
              have ev5 : Evo (· ∈ as) H1 H5 := ev4.trans e5
              have hp5 : H5 p = some (.lst vacc) := e5.keep _ _ hp4 pas
              have ra5 := RepA.imp (B' := Bd B (ow ++ [some p])) e5 r4.asBd (fun _ z => z) _ _ ra4
              have rk5 := Rep.imp (B' := if wk then (· ∈ as) else Bd B (ow ++ [some p])) e5 asW (fun _ z => z) _ _ rk4
              have lv : vacc.length < 16777216 := by rw [← ra5.length]; omega
              refine ⟨vacc, hp5, lineL lv, ?_⟩
              obtain ⟨r7, e7⟩ := r6.putGhost (o := .lst (vacc ++ [v])) hlo hp5 (fun _ z => by cases z) (fun _ _ z => by cases z)
              have bp : ∀ b, b = p → Bd B (ow ++ [some p]) b := fun b z => .inr (z ▸ List.mem_append_right _ List.mem_cons_self)
              have ev7 : Evo (· ∈ as) H1 (upd H5 p (.lst (vacc ++ [v]))) := by
                refine ⟨fun a o q n => ?_, fun a xs q => ?_, fun a ob w q => ?_, fun a q => e7.dom a (ev5.dom a q)⟩
                · rw [upd_ne (ne_of_none q hp)]; exact ev5.keep a o q n
                · rw [upd_ne (ne_of_none q hp)]; exact ev5.tups a xs q
                · rw [upd_ne (ne_of_none q hp)]; exact ev5.frzs a ob w q
              have rk7 : Rep X.K as (if wk then (· ∈ as) else Bd B (ow ++ [some p])) (upd H5 p (.lst (vacc ++ [v]))) dk vk := by
                cases wk with
                | false => exact Rep.imp e7 bp (fun _ z => z) _ _ rk5
                | true =>
                  -- what is walked was there ahead of the new list
                  exact Rep.imp ev7 (fun _ z => z) (fun _ z => z) _ _ rk
              refine ⟨hlt, acc ++ [d], vacc ++ [v], S4, r7, ev7.keep, ev7, rk7, upd_same, ?_, by rw [List.length_append]; show _ + 1 ≤ _; omega, ?_⟩
              · exact RepA.imp e7 bp (fun _ z => z) _ _ (ra5.append (RepA.one rv))
              · revert h2
                cases lcR g mt me (wipeS sg vs) (ds.drop (i + 1)) S4 with
                | ok y =>
                  intro h2
                  simp only [R.bind, List.append_assoc, List.singleton_append] at h2 ⊢
                  exact h2
                | ex => exact fun h => h
                | bad => exact fun h => h
    · left
      have ei : i = ds.length := by omega
      subst ei
      refine ⟨wi2.1 (Nat.le_refl _), ?_⟩
      rw [List.drop_length] at h2
      simp only [lcR, R.bind, List.append_nil] at h2
      exact h2 p H2 hp ev2 (r2.sto.weak bd_ghost') ⟨vacc, hp2, RepA.imp (W := fun _ => False) Evo.refl (fun _ z => z.elim) bd_ghost' _ _ ra2⟩
  · simp only [if_neg hc] at h1
    exact False.elim h1
end
end D2

namespace D2
open PySem PySem.Spec PyProof.Rows L2

section
variable {X : Cx} {W : WX2} {wk : Bool} {pos spos : Pos}
abbrev blkW (X : Cx) (P : Cx → Prop) (scope : Scope) : Prop := ∀ (s : Shared) (H : Hp) (C : Addr) (cl : List (Str × Addr)) (fp : List Addr), P (X.blk s H scope (compEnvC scope cl C X.env) fp)
/-- [elt for tg in iter if ..] -/
theorem f2_lc {elt tg iter : Expr} {ifs : List Expr} {scope : Scope} (own : List (Str × Nat)) {mi : MA} {g : D → List Sl → Option (List Sl)} {mt : MT} {me : ME} {tch : List Nat} (hc : X.calm = true) (hN : X.N.Nodup) (hi : PI2 X W wk tg iter mi) (ok : BlkOk X.N X.env.scope scope own)
    (hg : ∀ (s : Shared) (H : Hp) (C : Addr) (cl : List (Str × Addr)) (fp : List Addr), PG2 (X.blk s H scope (compEnvC scope cl C X.env) fp) tg tch g) (ht : ∀ (s : Shared) (H : Hp) (C : Addr) (cl : List (Str × Addr)) (fp : List Addr), PTs2 (X.blk s H scope (compEnvC scope cl C X.env) fp) W0 ifs mt)
    (he : ∀ (s : Shared) (H : Hp) (C : Addr) (cl : List (Str × Addr)) (fp : List Addr), PE2 (X.blk s H scope (compEnvC scope cl C X.env) fp) W0 false elt me) (htch : ∀ j ∈ tch, j ∈ own.map (·.2) := by decide) (hs : ∀ x, foldedSetIterable iter X.env x = pure x := by intro _; rfl) :
    PF2 X W (.ListComp elt [⟨tg, iter, ifs, 0⟩] scope pos) (oLc wk mi g mt me (own.map (·.2))) := by
  obtain ⟨wi, a1, a2⟩ := hi
  refine ⟨_, pe_lc (te := canE X.K X.mg W0 false me) (tt := canT X.K X.mg W0 mt) (g := canG X.K tch g) hc hN a1 ok (fun s H C cl fp => (hg s H C cl fp).can) (fun s H C cl fp => ht s H C cl fp) (fun s H C cl fp => (he s H C cl fp).can) hs, fun B H0 as ks ow sg S σ H Q r h => ?_⟩
  exact lc_den (tg := tg) (iter := iter) (elt := elt) (ifs := ifs) htch a2 r h
/-- name = [..] on one line -/
theorem lc_own {wi : TI} {tch vs : List Nat} {g : D → List Sl → Option (List Sl)} {mt : MT} {me : ME} {mi : MA} (i : Nat) {B : Addr → Prop} {H0 : Hp} {as : List Addr} {ks : List (D × V)} {ow : List (Option Addr)} {sg : List Sl} {S : List O} {σ : L2.St} {H : Hp} {Dd : Ends} (r : Rl X.K B H0 as ks ow sg S σ H)
    (k : ∀ Q : VK, DenO (ctOf X W B H0 as ks) ow (oLc wk mi g mt me vs sg S) H Q → tLc wi (canG X.K tch g) (canT X.K X.mg W0 mt) (canE X.K X.mg W0 false me) vs σ H Q)
    (h : DenS (ctOf X W B H0 as ks) (mSetO i (oLc wk mi g mt me vs) sg S) Dd) : tAsg (tLc wi (canG X.K tch g) (canT X.K X.mg W0 mt) (canE X.K X.mg W0 false me) vs) (gName i) Dd σ H := by
  refine k _ ?_
  unfold mSetO at h
  revert h
  cases oLc wk mi g mt me vs sg S with
  | ok x =>
    obtain ⟨o, S'⟩ := x
    intro h a H' ha e s q
    by_cases il : i < sg.length
    · simp only [R.bind, if_pos il] at h
      exact h _ _ H' (r.setOwn i il ha e s q)
    · simp only [R.bind, if_neg il] at h
      exact False.elim h
  | ex e' sg S' => exact fun h => h
  | bad => exact fun h => h
theorem s2_ownLc (i : Nat) {y : Str} {py : Pos} {elt tg iter : Expr} {ifs : List Expr} {scope : Scope} (own : List (Str × Nat)) {mi : MA} {g : D → List Sl → Option (List Sl)} {mt : MT} {me : ME} {tch : List Nat} (hc : X.calm = true) (hN : X.N.Nodup) (hy : X.N[i]? = some y) (hyl : X.env.scope.names.lookup y = some .local)
    (hsw : swapsWith (.ListComp elt [⟨tg, iter, ifs, 0⟩] scope pos) (some (.Name y py)) spos.line X.env = pure true) (hi : PI2 X W wk tg iter mi) (ok : BlkOk X.N X.env.scope scope own)
    (hg : ∀ (s : Shared) (H : Hp) (C : Addr) (cl : List (Str × Addr)) (fp : List Addr), PG2 (X.blk s H scope (compEnvC scope cl C X.env) fp) tg tch g) (ht : ∀ (s : Shared) (H : Hp) (C : Addr) (cl : List (Str × Addr)) (fp : List Addr), PTs2 (X.blk s H scope (compEnvC scope cl C X.env) fp) W0 ifs mt)
    (he : ∀ (s : Shared) (H : Hp) (C : Addr) (cl : List (Str × Addr)) (fp : List Addr), PE2 (X.blk s H scope (compEnvC scope cl C X.env) fp) W0 false elt me) (htch : ∀ j ∈ tch, j ∈ own.map (·.2) := by decide) (hs : ∀ x, foldedSetIterable iter X.env x = pure x := by intro _; rfl) :
    PS2 X W (.Assign [.Name y py] (.ListComp elt [⟨tg, iter, ifs, 0⟩] scope pos) spos) (mSetO i (oLc wk mi g mt me (own.map (·.2)))) := by
  obtain ⟨wi, a1, a2⟩ := hi
  refine ⟨_, ps_setLc (te := canE X.K X.mg W0 false me) (tt := canT X.K X.mg W0 mt) (g := canG X.K tch g) hc hN hy hyl hsw a1 ok (fun s H C cl fp => (hg s H C cl fp).can) (fun s H C cl fp => ht s H C cl fp) (fun s H C cl fp => (he s H C cl fp).can) hs, fun B H0 as ks ow sg S σ H Dd r h => ?_⟩
  exact lc_own i r (fun Q q => lc_den (tg := tg) (iter := iter) (elt := elt) (ifs := ifs) htch a2 r q) h
/-- a name's own new list is let go at once -/
def mAft (i : Nat) (m : MS) : MS := fun sg S => (m sg S).bind fun x => .ok (x.1, frz i x.2.1, x.2.2)
abbrev mSetF (i : Nat) (m : MO) : MS := mAft i (mSetO i m)
theorem s2_after (i : Nat) {st : Stmt} {m : MS} (h : PS2 X W st m) : PS2 X W st (mAft i m) := by
  obtain ⟨t, h1, h2⟩ := h
  refine ⟨t, h1, fun B H0 as ks ow sg S σ H Dd r h => h2 _ _ _ _ _ _ _ _ _ _ r ?_⟩
  unfold mAft at h
  revert h
  cases m sg S with
  | ok x =>
    obtain ⟨fl, sg', S'⟩ := x
    cases fl with
    | nx => exact fun h ow' σ' H' r' => let ⟨ow2, r2⟩ := r'.frz i; h ow2 σ' H' r2
    | bk => exact fun h ow' σ' H' r' => let ⟨ow2, r2⟩ := r'.frz i; h ow2 σ' H' r2
    | ct => exact fun h ow' σ' H' r' => let ⟨ow2, r2⟩ := r'.frz i; h ow2 σ' H' r2
    | rt d => exact fun h => h
  | ex => exact fun h => h
  | bad => exact fun h => h
theorem s2_letGo (i : Nat) {st : Stmt} {mo : MO} (h : PS2 X W st (mSetO i mo)) : PS2 X W st (mSetF i mo) := s2_after i h
end

/-! ### the defs -/
/-- what a def computes -/
abbrev FD := List D → List O → R (D × List O)
def Fn2 (K : PySem.W.Frag) (n : Nat) (F : FD) : Sp := fun vs H Q _ => vs.length = n ∧ ∃ (B : Addr → Prop) (as : List Addr) (S : List O) (ds : List D), (∀ a, B a → H a ≠ none) ∧ (∀ a, a ∈ as → B a) ∧ Sto K as B H S ∧ RepA K as B H ds vs ∧
  match F ds S with
  | .ok (d, S') => ∀ v H', Evo (· ∈ as) H H' → Sto K as B H' S' → Rep K as B H' d v → Q v H'
  | _ => False
def startS (N : List Str) (ds : List D) : List Sl := ds.map Sl.val ++ List.replicate (N.length - ds.length) Sl.no
def fnR : R (Fl × List Sl × List O) → R (D × List O)
  | .ok (.nx, _, S) => .ok (.non, S)
  | .ok (.rt d, _, S) => .ok (d, S)
  | .ok _ => .bad
  | .ex e sg S => .ex e sg S
  | .bad => .bad
def fnF (N : List Str) (m : MS) : FD := fun ds S => fnR (m (startS N ds) S)
theorem rl_start {K : PySem.W.Frag} {B : Addr → Prop} {H : Hp} {as : List Addr} {S : List O} {N : List Str} {ds : List D} {vs : List V} (hB : ∀ a, B a → H a ≠ none) (hA : ∀ a, a ∈ as → B a) (hS : Sto K as B H S) (hR : RepA K as B H ds vs) :
    Rl K B H as [] (List.replicate (startS N ds).length none) (startS N ds) S (L2.start N vs) H := by
  have nomem : ∀ a (n : Nat), some a ∉ (List.replicate n none : List (Option Addr)) := fun a n z => by
    have := List.eq_of_mem_replicate z
    cases this
  have bd : ∀ a, Bd B (List.replicate (startS N ds).length none) a → B a := fun a h => h.elim id fun z => absurd z (nomem a _)
  refine ⟨by simp, by simp [startS, L2.start, hR.length], fun i s hs => ?_, fun i j a h _ => absurd (List.mem_of_getElem? h) (nomem a _), fun a h => absurd h (nomem a _), fun a h => absurd h (nomem a _), hB, hA, Evo.refl, hS.weak bd, fun p hp => by cases hp⟩
  have hl : i < (startS N ds).length := (List.getElem?_eq_some_iff.mp hs).1
  refine ⟨none, (L2.start N vs).getD i none, by rw [List.getElem?_replicate, if_pos hl], ?_, ?_⟩
  · rw [List.getD_eq_getElem?_getD]
    have : i < (L2.start N vs).length := by simp [startS, L2.start, hR.length] at hl ⊢; omega
    rw [List.getElem?_eq_getElem this]; rfl
  · unfold startS at hs
    by_cases hi : i < ds.length
    · rw [List.getElem?_append_left (by simpa using hi), List.getElem?_map] at hs
      cases e : ds[i]? with
      | none => rw [e] at hs; cases hs
      | some d =>
        rw [e] at hs
        cases hs
        obtain ⟨v, hv, rv⟩ := hR.get e
        refine ⟨rfl, v, ?_, Rep.imp (W := fun _ => False) Evo.refl (fun _ z => z.elim) bd d v rv⟩
        have hi' : i < vs.length := by rw [← hR.length]; exact hi
        rw [List.getD_eq_getElem?_getD]
        unfold L2.start
        rw [List.getElem?_append_left (by simpa using hi'), List.getElem?_map, hv]; rfl
    · rw [List.getElem?_append_right (by simpa using hi), List.getElem?_replicate] at hs
      split at hs
      · cases hs; rfl
      · cases hs
section
variable {P : Program} {w : World} {K : PySem.W.Frag} {mg : Str → Option Value} {base : Heap}
/-- THE RULE for a def: its body -/
theorem fn2_ok {x qual : Str} {st : Stmt} {f : Addr} {fd : FuncData} {N ps : List Str} {k : Nat} {m : MS} (F : Fun K x qual st f fd) (Sc : FnScope N ps (defScope st))
    (body : ∀ (cdv : Value) (A : Around) (outer : List Env) (s : Shared) (H : Hp) (E : XK), Room k (A.deeper (envOfC qual (defScope st) s.heap.objs.size f cdv)) → PSs2 (cxOf CX0 P w K mg base N qual (defScope st) f cdv A outer s H E).nox W0 (defBody st) m) :
    FnOk P w K mg base CX0 (k + 1) f fd ps (Fn2 K ps.length (fnF N m)) := by
  refine F.ok Sc (fun vs H Q E h => h.1) (fun cdv A outer s H vs Q E hr h => ?_)
  obtain ⟨hl, B, as, S, ds, hB, hA, hS, hR, hF⟩ := h
  obtain ⟨t, p, sim⟩ := body cdv A outer s H E hr
  refine ⟨t, p, sim B H as [] _ (startS N ds) S (L2.start N vs) H _ (rl_start hB hA hS hR) ?_⟩
  unfold fnF at hF
  revert hF
  cases m (startS N ds) S with
  | ok z =>
    obtain ⟨fl, sg', S'⟩ := z
    cases fl with
    | nx => exact fun hF ow' σ' H' r' => hF .non H' r'.evo (r'.sto.weak bdB) rfl
    | bk => exact fun hF => False.elim hF
    | ct => exact fun hF => False.elim hF
    | rt d => exact fun hF v H' e s q => hF v H' e s q
  | ex e sg S' => exact fun hF => False.elim hF
  | bad => exact fun hF => False.elim hF
theorem FnOk.none {f : Addr} {fd : FuncData} {ps : List Str} {n : Nat} : FnOk P w K mg base CX0 0 f fd ps (Fn2 K n fun _ _ => .bad) := by
  have no : ∀ vs H Q E, ¬ Fn2 K n (fun _ _ => .bad) vs H Q E := fun vs H Q E h => by
    obtain ⟨_, _, _, _, _, _, _, _, _, z⟩ := h
    exact z
  exact ⟨fun vs H Q E h => absurd h (no vs H Q E), fun A outer s H args us vs Q E _ _ _ _ h => absurd h (no vs H Q E)⟩
end
section
variable {X : Cx} {W : WX2} {wk : Bool} {pos : Pos}
def mCall (F : FD) (ms : MA) : ME := fun sg S => (ms sg S).bind fun x => match F x.1 x.2 with
  | .ok y => .ok y
  | _ => .bad
theorem e2_call {F : FD} {ms : MA} {k : Nat} {f : Addr} {fd : FuncData} {ps : List Str} {x : Str} {p : Pos} {e : Expr} {es : List Expr} {n : Nat} (G : FnOk X.prog X.w X.K X.mg X.base CX0 k f fd ps (Fn2 X.K n F)) (hr : Room k X.A) (hg : Gl X x) (hm : X.mg x = some (.ref f)) (hk : PySem.W.keepIn X.K (.ref f) = true) (hb : Binds X.K fd ps [])
    (ha : PA2 X W false (e :: es) ms) (hn : ∀ sg S ds S', ms sg S = .ok (ds, S') → ds.length = n) (hdb : (x == ("__debug__" : Str)) = false := by decide) (he : starEach (e :: es) X.env = (false, eval e X.env) :: starEach es X.env := by rfl) (hpl : (backTo pos (starEach es X.env)).any (·.1) = false := by rfl) :
    PE2 X W false (.Call (.Name x p) (e :: es) [] pos) (mCall F ms) := by
  obtain ⟨t, a1, a2⟩ := ha
  refine ⟨_, pe_call G hr hg hm hk hb .nil pass0 a1 hdb he hpl, fun B H0 as ks ow sg S σ H Q r h => ?_⟩
  refine a2 _ _ _ _ _ _ _ _ _ _ r (Den.bind h fun ds S1 vs H1 e0 e1 s1 q1 h1 => ?_)
  have r1 := r.step e1 s1
  rw [List.append_nil]
  refine ⟨by rw [← q1.length]; exact hn _ _ _ _ e0, Bd B ow, as, S1, ds, r1.bdDom, r1.asBd, r1.sto, q1, ?_⟩
  cases eF : F ds S1 with
  | ok z =>
    obtain ⟨d, S'⟩ := z
    simp only [eF] at h1
    exact fun v H' e s q => h1 v H' e s q
  | ex => simp only [eF] at h1; exact False.elim h1
  | bad => simp only [eF] at h1; exact False.elim h1
theorem nil_len {n : Nat} : ∀ sg S ds S', mNil sg S = .ok (ds, S') → ds.length = 0 := fun sg S ds S' h => by
  cases h
  rfl
theorem cons_len {m : ME} {ms : MA} {n : Nat} (h : ∀ sg S ds S', ms sg S = .ok (ds, S') → ds.length = n) : ∀ sg S ds S', mCons m ms sg S = .ok (ds, S') → ds.length = n + 1 := fun sg S ds S' e => by
  unfold mCons at e
  cases e1 : m sg S with
  | ok x =>
    rw [e1] at e
    simp only [R.bind] at e
    cases e2 : ms sg x.2 with
    | ok y =>
      rw [e2] at e
      cases e
      rw [List.length_cons, h _ _ y.1 y.2 e2]
    | ex => rw [e2] at e; cases e
    | bad => rw [e2] at e; cases e
  | ex => rw [e1] at e; cases e
  | bad => rw [e1] at e; cases e
/-! a call of a def that touches no object: its arguments may be weak -/
mutual
def D.noref : D → Bool
  | .tup ds => D.norefA ds
  | .lst ds => D.norefA ds
  | .dic _ ds => D.norefA ds
  | .ref _ => false
  | _ => true
def D.norefA : List D → Bool
  | [] => true
  | d :: ds => d.noref && D.norefA ds
end
mutual
theorem Rep.noref {K : PySem.W.Frag} {as bs : List Addr} {B : Addr → Prop} {H : Hp} : ∀ (d : D) (v : V), d.noref = true → Rep K as B H d v → Rep K bs B H d v
  | .non, _, _, h => h
  | .bl _, _, _, h => h
  | .int _, _, _, h => h
  | .str _, _, _, h => h
  | .tup ds, v, f, h => by
    obtain ⟨a, xs, e1, h1, h2⟩ := h
    exact ⟨a, xs, e1, h1, RepA.noref ds xs f h2⟩
  | .lst ds, v, f, h => by
    obtain ⟨a, xs, e1, nb, h1, h2⟩ := h
    exact ⟨a, xs, e1, nb, h1, RepA.noref ds xs f h2⟩
  | .dic ks ds, v, f, h => by
    obtain ⟨a, xs, e1, nb, h1, hl, h2⟩ := h
    exact ⟨a, xs, e1, nb, h1, hl, RepA.noref ds xs f h2⟩
  | .rng _ _, _, _, h => h
  | .ref _, _, f, _ => nomatch f
theorem RepA.noref {K : PySem.W.Frag} {as bs : List Addr} {B : Addr → Prop} {H : Hp} : ∀ (ds : List D) (xs : List V), D.norefA ds = true → RepA K as B H ds xs → RepA K bs B H ds xs
  | [], _, _, h => h
  | d :: ds, xs, f, h => by
    obtain ⟨v, vs, e1, h1, h2⟩ := h
    have f' : (d.noref && D.norefA ds) = true := f
    rw [Bool.and_eq_true] at f'
    exact ⟨v, vs, e1, Rep.noref d v f'.1 h1, RepA.noref ds vs f'.2 h2⟩
end
mutual
theorem Rep.ofNil {K : PySem.W.Frag} {bs : List Addr} {B : Addr → Prop} {H : Hp} : ∀ (d : D) (v : V), Rep K [] B H d v → Rep K bs B H d v
  | .non, _, h => h
  | .bl _, _, h => h
  | .int _, _, h => h
  | .str _, _, h => h
  | .tup ds, v, h => by
    obtain ⟨a, xs, e1, h1, h2⟩ := h
    exact ⟨a, xs, e1, h1, RepA.ofNil ds xs h2⟩
  | .lst ds, v, h => by
    obtain ⟨a, xs, e1, nb, h1, h2⟩ := h
    exact ⟨a, xs, e1, nb, h1, RepA.ofNil ds xs h2⟩
  | .dic ks ds, v, h => by
    obtain ⟨a, xs, e1, nb, h1, hl, h2⟩ := h
    exact ⟨a, xs, e1, nb, h1, hl, RepA.ofNil ds xs h2⟩
  | .rng _ _, _, h => h
  | .ref _, v, h => by
    obtain ⟨a, _, h2⟩ := h
    simp at h2
theorem RepA.ofNil {K : PySem.W.Frag} {bs : List Addr} {B : Addr → Prop} {H : Hp} : ∀ (ds : List D) (xs : List V), RepA K [] B H ds xs → RepA K bs B H ds xs
  | [], _, h => h
  | d :: ds, xs, h => by
    obtain ⟨v, vs, e1, h1, h2⟩ := h
    exact ⟨v, vs, e1, Rep.ofNil d v h1, RepA.ofNil ds vs h2⟩
end
def mCallP (F : FD) (ms : MA) : ME := fun sg S => (ms sg S).bind fun x => if D.norefA x.1 = true then match F x.1 [] with
  | .ok (d, []) => .ok (d, x.2)
  | _ => .bad
  else .bad
theorem e2_callP {F : FD} {ms : MA} {k : Nat} {f : Addr} {fd : FuncData} {ps : List Str} {x : Str} {p : Pos} {e : Expr} {es : List Expr} {n : Nat} (G : FnOk X.prog X.w X.K X.mg X.base CX0 k f fd ps (Fn2 X.K n F)) (hr : Room k X.A) (hg : Gl X x) (hm : X.mg x = some (.ref f)) (hk : PySem.W.keepIn X.K (.ref f) = true) (hb : Binds X.K fd ps [])
    (ha : PA2 X W wk (e :: es) ms) (hn : ∀ sg S ds S', ms sg S = .ok (ds, S') → ds.length = n) (hdb : (x == ("__debug__" : Str)) = false := by decide) (he : starEach (e :: es) X.env = (false, eval e X.env) :: starEach es X.env := by rfl) (hpl : (backTo pos (starEach es X.env)).any (·.1) = false := by rfl) :
    PE2 X W wk (.Call (.Name x p) (e :: es) [] pos) (mCallP F ms) := by
  obtain ⟨t, a1, a2⟩ := ha
  refine ⟨_, pe_call G hr hg hm hk hb .nil pass0 a1 hdb he hpl, fun B H0 as ks ow sg S σ H Q r h => ?_⟩
  refine a2 _ _ _ _ _ _ _ _ _ _ r (Den.bind h fun ds S1 vs H1 e0 e1 s1 q1 h1 => ?_)
  have r1 := r.step e1 s1
  rw [List.append_nil]
  by_cases hf : D.norefA ds = true
  · simp only [if_pos hf] at h1
    refine ⟨by rw [← q1.length]; exact hn _ _ _ _ e0, (if wk then (· ∈ as) else Bd B ow), [], [], ds, fun a ha => r1.bdDom a (wkBd r1 a ha), (fun a ha => absurd ha List.not_mem_nil), ⟨rfl, List.nodup_nil, (fun n o z => by simp at z)⟩, RepA.noref ds vs hf q1, ?_⟩
    cases eF : F ds [] with
    | ok z =>
      obtain ⟨d, S'⟩ := z
      cases S' with
      | nil =>
        simp only [eF] at h1
        intro v H' e s q
        have e' : Evo (fun _ => False) H1 H' := e.weak fun a z => by cases z
        exact h1 v H' e'.any (r1.stoNew e') (Rep.ofNil d v q)
      | cons o S' => simp only [eF] at h1; exact False.elim h1
    | ex => simp only [eF] at h1; exact False.elim h1
    | bad => simp only [eF] at h1; exact False.elim h1
  · simp only [if_neg hf] at h1
    exact False.elim h1

/-! ### a method that changes a name's own object -/
def O.isL : O → Bool
  | .lst _ => true
  | _ => false
def O.isD : O → Bool
  | .dic _ _ => true
  | _ => false
def OwnOk (K : PySem.W.Frag) (T : String) (c : O → Bool) (f : O → List D → Option (O × D)) (r : V → List V → Hp → VK → Prop) : Prop := ∀ (as : List Addr) (Bs : Addr → Prop) (H : Hp) (o : O) (a : Addr), ORep K as Bs H o a → Bs a → c o = true →
  tyV K T (.ref a) H ∧ ∀ H2 ds vs o' z (Q : VK), ORep K as Bs H2 o a → RepA K as Bs H2 ds vs → f o ds = some (o', z) → (∀ u ho, ORep K as Bs (upd H2 a ho) o' a → Rep K as Bs (upd H2 a ho) z u → Q u (upd H2 a ho)) → r (.ref a) vs H2 Q
def mOwn (i : Nat) (c : O → Bool) (f : O → List D → Option (O × D)) (ms : MA) : List Sl → List O → R (D × List Sl × List O) := fun sg S => match sg[i]? with
  | some (.own o) => if c o = true then (ms sg S).bind fun x => match f o x.1 with
      | some (o', z) => .ok (z, sg.set i (.own o'), x.2)
      | none => .bad
    else .bad
  | _ => .bad
def mOwnE (i : Nat) (c : O → Bool) (f : O → List D → Option (O × D)) (ms : MA) : MS := fun sg S => (mOwn i c f ms sg S).bind fun x => .ok (.nx, x.2)
def mOwnS (i j : Nat) (c : O → Bool) (f : O → List D → Option (O × D)) (ms : MA) : MS := fun sg S => (mOwn i c f ms sg S).bind fun x => .ok (.nx, x.2.1.set j (.val x.1), x.2.2)
theorem own_den {T : String} {c : O → Bool} {f : O → List D → Option (O × D)} {r2 : V → List V → Hp → VK → Prop} {i : Nat} {ms : MA} {t : TA} (hop : OwnOk X.K T c f r2)
    (a2 : ∀ B H0 as ks ow sg S σ H (Q : List V → Hp → Prop), Rl X.K B H0 as ks ow sg S σ H → Den (ctOf X W B H0 as ks) ow ((ctOf X W B H0 as ks).rpa ow false) (ms sg S) H Q → t σ H Q)
    {B : Addr → Prop} {H0 : Hp} {as : List Addr} {ks : List (D × V)} {ow : List (Option Addr)} {sg : List Sl} {S : List O} {σ : L2.St} {H : Hp} {Dd : Ends} {k : D × List Sl × List O → R (Fl × List Sl × List O)} (r : Rl X.K B H0 as ks ow sg S σ H)
    (h : DenS (ctOf X W B H0 as ks) ((mOwn i c f ms sg S).bind k) Dd) (Q : VK)
    (hQ : ∀ u z sg' S' H', Rl X.K B H0 as ks ow sg' S' σ H' → Rep X.K as (Bd B ow) H' z u → DenS (ctOf X W B H0 as ks) (k (z, sg', S')) Dd → Q u H') :
    tVar i σ H fun x H1 => tyV X.K T x H1 ∧ t σ H1 fun xs H2 => r2 x xs H2 Q := by
  cases e : sg[i]? with
  | none => simp only [mOwn, e] at h; exact False.elim h
  | some s =>
    cases s with
    | no => simp only [mOwn, e] at h; exact False.elim h
    | val d => simp only [mOwn, e] at h; exact False.elim h
    | own o =>
      obtain ⟨w, x, h1, h2, a, h3, h4, h5⟩ := r.sl i _ e
      subst h3
      subst h4
      have ha := List.mem_of_getElem? h1
      by_cases hc : c o = true
      · simp only [mOwn, e, if_pos hc] at h
        obtain ⟨ty, go⟩ := hop as (Bd B ow) H o a h5 (.inr ha) hc
        refine ⟨_, h2, ty, a2 _ _ _ _ _ _ _ _ _ _ r ?_⟩
        revert h
        cases ms sg S with
        | ok y =>
          obtain ⟨ds, S1⟩ := y
          intro h vs H2 e2 s2 q2
          have r2 := r.step e2 s2
          have o2 : ORep X.K as (Bd B ow) H2 o a := ORep.imp e2 r.asBd (fun _ z => z) o a (r.ownAs ha) h5
          cases ef : f o ds with
          | none => simp only [R.bind, ef] at h; exact False.elim h
          | some p =>
            obtain ⟨o', z⟩ := p
            simp only [R.bind, ef] at h
            exact go H2 ds vs o' z Q o2 q2 ef fun u ho k1 k2 => hQ u z _ S1 _ (r2.putOwn e h1 k1) k2 h
        | ex => exact fun h => h
        | bad => exact fun h => h
      · simp only [mOwn, e, if_neg hc] at h; exact False.elim h
section
variable {x y meth : Str} {px py apos cpos : Pos} {e : Expr} {es : List Expr} {T id : String} {c : O → Bool} {f : O → List D → Option (O × D)} {r2 : V → List V → Hp → VK → Prop} {ms : MA}
/-- x.meth(e, ..) -/
theorem s2_ownE (i : Nat) (pa : PlainAttrs T) (slot : Slot T meth id) (hty : typeOf (.builtin id) = pure (.type "method_descriptor")) (hm : MtR X id r2) (hop : OwnOk X.K T c f r2) (ha : PA2 X W false (e :: es) ms)
    (hN : X.N[i]? = some x := by rfl) (hv : Vis X.env.scope x := by first | exact Or.inl rfl | exact Or.inr (Or.inl rfl) | exact Or.inr (Or.inr rfl)) (hd : (x == ("__debug__" : Str)) = false := by decide) (hcd : (x == ("__classdict__" : Str)) = false := by decide)
    (hbase : attributeBase (.Name x px) meth X.env (eval (.Name x px) X.env) = eval (.Name x px) X.env := by rfl)
    (hfew : ((backTo cpos (starEach (e :: es) X.env)).all (fun x => !x.1) && (backToKw cpos (keywordEach [] X.env)).all (fun x => x.1.isSome)
      && decide ((e :: es).length + ([] : List Keyword).length + (if ([] : List Keyword).isEmpty then 0 else 1) < 30)) = true := by rfl)
    (hline : (apos.endLine == cpos.line) = true := by rfl) (hs : starEach (e :: es) X.env = (false, eval e X.env) :: starEach es X.env := by rfl) (hplain : (backTo cpos (starEach es X.env)).any (·.1) = false := by rfl)
    (hsw : swapsWith (.Call (.Attribute (.Name x px) meth apos) (e :: es) [] cpos) none pos.line X.env = pure false := by rfl) :
    PS2 X W (.Expr (.Call (.Attribute (.Name x px) meth apos) (e :: es) [] cpos) pos) (mOwnE i c f ms) := by
  obtain ⟨t, a1, a2⟩ := ha
  refine ⟨_, ps_expr (pe_bm pa slot hty hm (pe_var hN hv hd hcd) a1 hbase hfew hline hs hplain) hsw, fun B H0 as ks ow sg S σ H Dd r h => ?_⟩
  exact own_den hop a2 r h _ fun u z sg' S' H' r' q' h' => h' _ _ _ r'
theorem s2_ownE0 (i : Nat) (pa : PlainAttrs T) (slot : Slot T meth id) (hty : typeOf (.builtin id) = pure (.type "method_descriptor")) (hm : MtR X id r2) (hop : OwnOk X.K T c f r2)
    (hN : X.N[i]? = some x := by rfl) (hv : Vis X.env.scope x := by first | exact Or.inl rfl | exact Or.inr (Or.inl rfl) | exact Or.inr (Or.inr rfl)) (hd : (x == ("__debug__" : Str)) = false := by decide) (hcd : (x == ("__classdict__" : Str)) = false := by decide)
    (hbase : attributeBase (.Name x px) meth X.env (eval (.Name x px) X.env) = eval (.Name x px) X.env := by rfl) (hline : (apos.endLine == cpos.line) = true := by rfl)
    (hsw : swapsWith (.Call (.Attribute (.Name x px) meth apos) [] [] cpos) none pos.line X.env = pure false := by rfl) :
    PS2 X W (.Expr (.Call (.Attribute (.Name x px) meth apos) [] [] cpos) pos) (mOwnE i c f mNil) := by
  refine ⟨_, ps_expr (pe_bm0 pa slot hty hm (pe_var hN hv hd hcd) hbase hline) hsw, fun B H0 as ks ow sg S σ H Dd r h => ?_⟩
  exact own_den (W := W) (ms := mNil) (t := tNil) hop (fun B H0 as ks ow sg S σ H Q r h => h [] H Evo.refl r.sto rfl) r h _ fun u z sg' S' H' r' q' h' => h' _ _ _ r'
/-- y = x.meth() -/
theorem s2_ownS0 (i j : Nat) (pa : PlainAttrs T) (slot : Slot T meth id) (hty : typeOf (.builtin id) = pure (.type "method_descriptor")) (hm : MtR X id r2) (hop : OwnOk X.K T c f r2) (hND : X.N.Nodup)
    (hN : X.N[i]? = some x := by rfl) (hv : Vis X.env.scope x := by first | exact Or.inl rfl | exact Or.inr (Or.inl rfl) | exact Or.inr (Or.inr rfl)) (hd : (x == ("__debug__" : Str)) = false := by decide) (hcd : (x == ("__classdict__" : Str)) = false := by decide)
    (hbase : attributeBase (.Name x px) meth X.env (eval (.Name x px) X.env) = eval (.Name x px) X.env := by rfl) (hline : (apos.endLine == cpos.line) = true := by rfl)
    (hj : X.N[j]? = some y := by rfl) (hy : Loc X.env.scope y := by first | exact Or.inl rfl | exact Or.inr rfl) (hf : X.fn y = true ∨ X.env.scope.names.lookup y = some .local := by first | exact .inl rfl | exact .inr rfl)
    (hsw : swapsWithSole [.Name y py] (.Call (.Attribute (.Name x px) meth apos) [] [] cpos) pos.line X.env = pure false := by rfl) (hw : swappedStores [.Name y py] (.Call (.Attribute (.Name x px) meth apos) [] [] cpos) X.env = pure none := by rfl) (h1 : (assignEach [.Name y py] X.env).map (·.2) = [assign (.Name y py) X.env] := by rfl) :
    PS2 X W (.Assign [.Name y py] (.Call (.Attribute (.Name x px) meth apos) [] [] cpos) pos) (mOwnS i j c f mNil) := by
  refine ⟨_, ps_asg (pe_bm0 pa slot hty hm (pe_var hN hv hd hcd) hbase hline) (pg_name hND hj hy hf) hsw hw h1, fun B H0 as ks ow sg S σ H Dd r h => ?_⟩
  exact own_den (W := W) (ms := mNil) (t := tNil) hop (fun B H0 as ks ow sg S σ H Q r h => h [] H Evo.refl r.sto rfl) r h _ fun u z sg' S' H' r' q' h' => h' _ _ _ (r'.setVal j q')
end
/-! the methods -/
theorem tyL {K : PySem.W.Frag} {H : Hp} {a : Addr} {xs : List V} (h : H a = some (.lst xs)) : tyV K "list" (.ref a) H := .inl ⟨rfl, xs, SqL.of h⟩
theorem put_rep {K : PySem.W.Frag} {as : List Addr} {Bs : Addr → Prop} {H : Hp} {a : Addr} {t u : HO} {ds : List D} {xs : List V} (ht : H a = some t) (n1 : ∀ xs, t ≠ .tup xs) (n2 : ∀ ob w, t ≠ .frz ob w) (hb : Bs a) (h : RepA K as Bs H ds xs) : RepA K as Bs (upd H a u) ds xs :=
  RepA.imp (W := (· = a)) (Evo.put ht n1 n2 rfl) (fun b z => z ▸ hb) (fun _ z => z) _ _ h
def O.append : O → List D → Option (O × D)
  | .lst ds, [d] => if ds.length < 16777216 then some (.lst (ds ++ [d]), .non) else none
  | _, _ => none
theorem own_append {K : PySem.W.Frag} : OwnOk K "list" O.isL O.append rAppend := by
  intro as Bs H o a ho hb hc
  cases o <;> try (cases hc; done)
  rename_i xs
  obtain ⟨vs, g1, g2⟩ := ho
  refine ⟨tyL g1, fun H2 ds ws o' z Q h2 hd e q => ?_⟩
  obtain ⟨vs, g1, g2⟩ := h2
  match ds, e with
  | [d], e =>
    simp only [O.append] at e
    split at e
    · rename_i hl
      cases e
      obtain ⟨w, r, ew, k1, k2⟩ := hd
      have k2' : r = [] := k2
      subst k2'
      refine ⟨a, vs, w, rfl, ew, g1, lineL (by rw [← g2.length]; exact hl), q .non _ ⟨vs ++ [w], upd_same, ?_⟩ rfl⟩
      exact put_rep g1 (fun _ z => by cases z) (fun _ _ z => by cases z) hb (g2.append (RepA.one k1))
    · cases e
def O.extend : O → List D → Option (O × D)
  | .lst ds, [.lst es] => if ds.length + es.length ≤ 16777216 then some (.lst (ds ++ es), .non) else none
  | _, _ => none
theorem own_extend {K : PySem.W.Frag} : OwnOk K "list" O.isL O.extend rExtend := by
  intro as Bs H o a ho hb hc
  cases o <;> try (cases hc; done)
  rename_i xs
  obtain ⟨vs, g1, g2⟩ := ho
  refine ⟨tyL g1, fun H2 ds ws o' z Q h2 hd e q => ?_⟩
  obtain ⟨vs, g1, g2⟩ := h2
  match ds, e with
  | [.lst es], e =>
    simp only [O.extend] at e
    split at e
    · rename_i hl
      cases e
      obtain ⟨w, r, ew, k1, k2⟩ := hd
      have k2' : r = [] := k2
      subst k2'
      obtain ⟨b, us, eb, nb, k3, k4⟩ := k1
      subst eb
      refine ⟨a, b, vs, us, rfl, ew, g1, k3, lineN (by rw [← g2.length, ← k4.length]; exact hl), q .non _ ⟨vs ++ us, upd_same, ?_⟩ rfl⟩
      exact put_rep g1 (fun _ z => by cases z) (fun _ _ z => by cases z) hb (g2.append k4)
    · cases e
def O.pop : O → List D → Option (O × D)
  | .lst ds, [] => match ds[ds.length - 1]? with
    | some d => some (.lst ds.dropLast, d)
    | none => none
  | _, _ => none
theorem own_pop {K : PySem.W.Frag} : OwnOk K "list" O.isL O.pop rPop := by
  intro as Bs H o a ho hb hc
  cases o <;> try (cases hc; done)
  rename_i xs
  obtain ⟨vs, g1, g2⟩ := ho
  refine ⟨tyL g1, fun H2 ds ws o' z Q h2 hd e q => ?_⟩
  obtain ⟨vs, g1, g2⟩ := h2
  cases ds with
  | cons _ _ => cases e
  | nil =>
    have hd' : ws = [] := hd
    subst hd'
    simp only [O.pop] at e
    split at e
    · rename_i d hl
      cases e
      obtain ⟨v, k1, k2⟩ := g2.get hl
      rw [g2.length] at k1
      refine ⟨a, vs, v, rfl, rfl, g1, k1, q v _ ⟨vs.dropLast, upd_same, ?_⟩ ?_⟩
      · exact put_rep g1 (fun _ z => by cases z) (fun _ _ z => by cases z) hb g2.dropLast
      · exact Rep.imp (W := (· = a)) (Evo.put g1 (fun _ z => by cases z) (fun _ _ z => by cases z) rfl) (fun b z => z ▸ hb) (fun _ z => z) _ _ k2
    · cases e
end
end D2

namespace D2
open PySem PySem.Spec PyProof.Rows L2

/-! ### a dict as two lists -/
def dicPut (ks : List Key) (ds : List D) (k : Key) (d : D) : List Key × List D :=
  if (ks.any fun j => decide (j = k)) = true then (ks, List.zipWith (fun j e => if j = k then d else e) ks ds) else (ks ++ [k], ds ++ [d])
section
variable {K : PySem.W.Frag} {as : List Addr} {B : Addr → Prop} {H : Hp}
theorem zip_any (k : Key) : ∀ {ks : List Key} {xs : List V}, ks.length = xs.length → ((ks.zip xs).any fun kv => decide (kv.1 = k)) = ks.any fun j => decide (j = k)
  | [], xs, _ => by simp
  | j :: ks, [], h => by cases h
  | j :: ks, x :: xs, h => by
    rw [List.zip_cons_cons, List.any_cons, List.any_cons, zip_any k (by simpa using h)]
theorem zip_put (k : Key) (v : V) : ∀ {ks : List Key} {xs : List V}, ks.length = xs.length → (ks.zip xs).map (fun kv => if kv.1 = k then (kv.1, v) else kv) = ks.zip (List.zipWith (fun j e => if j = k then v else e) ks xs)
  | [], xs, _ => by simp
  | j :: ks, [], h => by cases h
  | j :: ks, x :: xs, h => by
    rw [List.zip_cons_cons, List.map_cons, List.zipWith_cons_cons, List.zip_cons_cons, zip_put k v (by simpa using h)]
    by_cases e : j = k
    · simp [e]
    · simp [e]
theorem rep_zipPut (k : Key) {d : D} {v : V} (hd : Rep K as B H d v) : ∀ {ks : List Key} {ds : List D} {xs : List V}, RepA K as B H ds xs → RepA K as B H (List.zipWith (fun j e => if j = k then d else e) ks ds) (List.zipWith (fun j e => if j = k then v else e) ks xs)
  | [], ds, xs, _ => by
    simp only [List.zipWith_nil_left]
    exact rfl
  | j :: ks, [], xs, h => by
    have e : xs = [] := h
    subst e
    exact rfl
  | j :: ks, c :: ds, xs, h => by
    obtain ⟨w, ws, e1, h1, h2⟩ := h
    subst e1
    rw [List.zipWith_cons_cons, List.zipWith_cons_cons]
    refine RepA.cons ?_ (rep_zipPut k hd h2)
    by_cases e : j = k
    · rw [if_pos e, if_pos e]; exact hd
    · rw [if_neg e, if_neg e]; exact h1
theorem dicPut_rep {ks : List Key} {ds : List D} {xs : List V} (k : Key) {d : D} {v : V} (hl : ks.length = xs.length) (h : RepA K as B H ds xs) (hd : Rep K as B H d v) :
    ∃ ys, putK (ks.zip xs) k v = (dicPut ks ds k d).1.zip ys ∧ (dicPut ks ds k d).1.length = ys.length ∧ RepA K as B H (dicPut ks ds k d).2 ys := by
  unfold putK dicPut
  rw [zip_any k hl]
  by_cases c : (ks.any fun j => decide (j = k)) = true
  · rw [if_pos c, if_pos c]
    refine ⟨_, zip_put k v hl, ?_, rep_zipPut k hd h⟩
    show ks.length = (List.zipWith _ ks xs).length
    rw [List.length_zipWith, ← hl]
    exact (Nat.min_self _).symm
  · rw [if_neg c, if_neg c]
    refine ⟨xs ++ [v], ?_, ?_, h.append (RepA.one hd)⟩
    · rw [List.zip_append hl]; rfl
    · simp [hl]
end

/-! ### x[k] = e -/
def O.put : O → D → D → Option O
  | .lst ds, .int j, d => match ixN ds.length j with
    | some p => some (.lst (ds.set p d))
    | none => none
  | .dic ks ds, k, d => match k.key? with
    | some k => if ks.length < 16777216 then some (.dic (dicPut ks ds k d).1 (dicPut ks ds k d).2) else none
    | none => none
  | _, _, _ => none
def rPut : TSet := fun o i v H Q => rSetL o i v H Q ∨ ∃ a H', o = .ref a ∧ DPut H a i v H' ∧ Q H'
theorem set_any {X : Cx} (hu : X.A.units + 1 < cLine) : PSet X rPut := by
  intro pins s σ H o i v ov iv u Q I ro ri rv h
  rcases h with h | ⟨a, H', rfl, g, q⟩
  · exact set_list pins s σ H o i v ov iv u Q I ro ri rv h
  · cases ro
    exact d_setItem hu I g ri rv fun s' I' => ⟨H', I', q⟩
theorem put_ok {K : PySem.W.Frag} {as : List Addr} {Bs : Addr → Prop} {H : Hp} {o o' : O} {a : Addr} {i d : D} {iv v : V} {Q : Hp → Prop} (ho : ORep K as Bs H o a) (hb : Bs a) (hi : Rep K as Bs H i iv) (hd : Rep K as Bs H d v) (e : o.put i d = some o')
    (q : ∀ u, ORep K as Bs (upd H a u) o' a → Q (upd H a u)) : rPut (.ref a) iv v H Q := by
  cases o with
  | lst ds =>
    cases i <;> try (cases e; done)
    rename_i j
    obtain ⟨xs, g1, g2⟩ := ho
    simp only [O.put] at e
    cases c : ixN ds.length j with
    | none => rw [c] at e; cases e
    | some p =>
      rw [c] at e
      cases e
      refine .inl ⟨a, xs, j, p, rfl, hi, g1, by rw [← g2.length]; exact c, q _ ⟨xs.set p v, upd_same, ?_⟩⟩
      exact put_rep g1 (fun _ z => by cases z) (fun _ _ z => by cases z) hb (g2.set p hd)
  | dic ks ds =>
    obtain ⟨xs, g1, gl, g2⟩ := ho
    simp only [O.put] at e
    cases c : i.key? with
    | none => rw [c] at e; cases e
    | some k =>
      rw [c] at e
      simp only at e
      split at e
      · rename_i hl
        cases e
        have ek := key_rep hi c
        subst ek
        obtain ⟨ys, y1, y2, y3⟩ := dicPut_rep k gl g2 hd
        refine .inr ⟨a, _, rfl, DPut.k (k := k) g1 (by rw [List.length_zip]; exact lineL (by omega)), q _ ⟨ys, by rw [upd_same, y1], y2, ?_⟩⟩
        exact put_rep g1 (fun _ z => by cases z) (fun _ _ z => by cases z) hb y3
      · cases e
section
variable {X : Cx} {W : WX2} {wk : Bool} {pos : Pos}
def mPut (i : Nat) (me mk : ME) : MS := fun sg S => (me sg S).bind fun x => match sg[i]? with
  | some (.own o) => (mk sg x.2).bind fun k => match o.put k.1 x.1 with
    | some o' => .ok (.nx, sg.set i (.own o'), k.2)
    | none => .bad
  | some (.val (.ref n)) => (mk sg x.2).bind fun k => match k.2[n]? with
    | some o => match o.put k.1 x.1 with
      | some o' => .ok (.nx, sg, k.2.set n o')
      | none => .bad
    | none => .bad
  | _ => .bad
theorem s2_put (i : Nat) {x : Str} {px p2 : Pos} {k e : Expr} {me mk : ME} (hu : X.A.units + 1 < cLine) (he : PE2 X W false e me) (hk : PE2 X W false k mk)
    (hN : X.N[i]? = some x := by rfl) (hv : Vis X.env.scope x := by first | exact Or.inl rfl | exact Or.inr (Or.inl rfl) | exact Or.inr (Or.inr rfl)) (hd : (x == ("__debug__" : Str)) = false := by decide) (hcd : (x == ("__classdict__" : Str)) = false := by decide)
    (ha : ∀ v, assign (.Subscript (.Name x px) k p2) X.env v = (do
      let ov ← PySem.holding [v] (eval (.Name x px) X.env)
      let iv ← PySem.holding [v, ov] (eval k X.env)
      standAt p2
      PySem.holding [v, ov, iv] (setItem ov iv v)
      release [v, ov, iv] []) := by intro _; rfl)
    (hs : swapsWithSole [.Subscript (.Name x px) k p2] e pos.line X.env = pure false := by rfl) (hw : swappedStores [.Subscript (.Name x px) k p2] e X.env = pure none := by rfl)
    (h1 : (assignEach [.Subscript (.Name x px) k p2] X.env).map (·.2) = [assign (.Subscript (.Name x px) k p2) X.env] := by rfl) : PS2 X W (.Assign [.Subscript (.Name x px) k p2] e pos) (mPut i me mk) := by
  obtain ⟨t, a1, a2⟩ := he
  obtain ⟨u, b1, b2⟩ := hk
  refine ⟨_, ps_asg a1 (pg_sub (pe_var hN hv hd hcd) b1 (set_any hu) ha) hs hw h1, fun B H0 as ks ow sg S σ H Dd r h => ?_⟩
  refine a2 _ _ _ _ _ _ _ _ _ _ r (DenS.bindE h fun d S1 v H1 e0 e1 s1 q1 h1 => ?_)
  have r1 := r.step e1 s1
  cases e : sg[i]? with
  | none => simp only [e] at h1; exact False.elim h1
  | some s =>
    cases s with
    | no => simp only [e] at h1; exact False.elim h1
    | own o =>
      simp only [e] at h1
      obtain ⟨w, xx, g1, g2, a, g3, g4, g5⟩ := r1.sl i _ e
      subst g3
      subst g4
      have hm := List.mem_of_getElem? g1
      refine ⟨.ref a, g2, ?_⟩
      refine b2 _ _ _ _ _ _ _ _ _ _ r1 (DenS.bindE h1 fun kd S2 kv H2 c0 e2 s2 q2 h2 => ?_)
      have r2 := r1.step e2 s2
      cases ep : o.put kd d with
      | none => simp only [ep] at h2; exact False.elim h2
      | some o' =>
        simp only [ep] at h2
        have g6 : ORep X.K as (Bd B ow) H2 o a := ORep.imp e2 r.asBd (fun _ z => z) o a (r1.ownAs hm) g5
        have q1' := Rep.imp (B' := Bd B ow) e2 r.asBd (fun _ z => z) d v q1
        exact put_ok g6 (.inr hm) q2 q1' ep fun u k1 => h2 _ _ _ (r2.putOwn e g1 k1)
    | val vd =>
      cases vd <;> try (simp only [e] at h1; exact False.elim h1)
      rename_i n
      simp only [e] at h1
      obtain ⟨w, xx, g1, g2, g3, vv, g4, g5⟩ := r1.sl i _ e
      subst g4
      obtain ⟨a, ea, hn⟩ := g5
      subst ea
      refine ⟨.ref a, g2, ?_⟩
      refine b2 _ _ _ _ _ _ _ _ _ _ r1 (DenS.bindE h1 fun kd S2 kv H2 c0 e2 s2 q2 h2 => ?_)
      have r2 := r1.step e2 s2
      cases eo : S2[n]? with
      | none => simp only [eo] at h2; exact False.elim h2
      | some o =>
        simp only [eo] at h2
        cases ep : o.put kd d with
        | none => simp only [ep] at h2; exact False.elim h2
        | some o' =>
          simp only [ep] at h2
          obtain ⟨a', ha', g6⟩ := r2.sto.ob n o eo
          rw [hn] at ha'
          cases ha'
          have q1' := Rep.imp (B' := Bd B ow) e2 r.asBd (fun _ z => z) d v q1
          obtain ⟨t, ht, n1, n2⟩ := g6.there
          exact put_ok g6 (r.asBd a (List.mem_of_getElem? hn)) q2 q1' ep fun u k1 => h2 _ _ _ (r2.putSto hn ht n1 n2 k1).1
/-! ### x[k]: also of an object that several may change -/
def ixS (S : List O) : D → D → Option D
  | .ref n, y => match S[n]? with
    | some o => D.ixo o.toD y
    | none => none
  | x, y => D.ixo x y
def mIx (ma mb : ME) : ME := fun sg S => (ma sg S).bind fun x => (mb sg x.2).bind fun y => R.of ((ixS y.2 x.1 y.1).map fun z => (z, y.2))
theorem e2_sub {a b : Expr} {ma mb : ME} (hu : X.A.units + 1 < cLine) (ha : PE2 X W wk a ma) (hb : PE2 X W wk b mb) (hs : PlainIx b) : PE2 X W wk (.Subscript a b pos) (mIx ma mb) := by
  obtain ⟨ta, a1, a2⟩ := ha
  obtain ⟨tb, b1, b2⟩ := hb
  refine ⟨_, pe_ix (ix_all hu) a1 b1 hs, fun B H0 as ks ow sg S σ H Q r h => ?_⟩
  refine a2 _ _ _ _ _ _ _ _ _ _ r (Den.bind h fun x S1 v H1 c1 e1 s1 q1 h1 => ?_)
  have r1 := r.step e1 s1
  refine b2 _ _ _ _ _ _ _ _ _ _ r1 (Den.bind h1 fun y S2 w H2 c2 e2 s2 q2 h2 => ?_)
  clear c1 c2 h1
  have r2 := r1.step e2 s2
  have q1' := Rep.imp (B' := if wk then (· ∈ as) else Bd B ow) e2 (asWk r) (fun _ z => z) x v q1
  cases e : ixS S2 x y with
  | none =>
    simp only [e] at h2
    exact False.elim h2
  | some z =>
    simp only [e] at h2
    have fin : ∀ u H', Evo (fun _ => False) H2 H' → Rep X.K as (if wk then (· ∈ as) else Bd B ow) H' z u → Q u H' := fun u H' e3 q3 => h2 u H' e3.any (r2.stoNew e3) q3
    have dflt : D.ixo x y = some z → rIx2 X.K v w H2 Q := fun e => ok_ix as (Bd B ow) (· ∈ as) H2 x y z v w Q r.asBd r2.bdDom q1' q2 e fin
    cases x with
    | ref n =>
      simp only [ixS] at e
      cases eo : S2[n]? with
      | none => rw [eo] at e; cases e
      | some o =>
        rw [eo] at e
        simp only at e
        obtain ⟨a, ea, hn0⟩ := q1'
        have hn : as[n]? = some a := hn0
        subst ea
        obtain ⟨a', ha', g6⟩ := r2.sto.ob n o eo
        rw [hn] at ha'
        cases ha'
        -- the object is read as a list that no one changes just now
        have g7 : Rep X.K as (fun _ => False) H2 o.toD (.ref a) := g6.rep (fun _ z => z.elim) fun z => z
        cases o with
        | lst ds =>
          obtain ⟨xs, g1, g2⟩ := g6
          cases y <;> try (simp only [O.toD, D.ixo] at e; cases e; done)
          rename_i i
          obtain ⟨u, k1, k2⟩ := atI_rep g2 e
          exact .inl (.inl ⟨a, xs, i, u, rfl, q2, SqL.of g1, k1, fin _ _ Evo.refl (Rep.imp (W := fun _ => False) Evo.refl (fun _ z => z.elim) (wkBd r) _ _ k2)⟩)
        | dic ks2 ds =>
          obtain ⟨xs, g1, gl, g2⟩ := g6
          simp only [O.toD, D.ixo] at e
          split at e
          · rename_i k c1
            have ek := key_rep q2 c1
            subst ek
            obtain ⟨u, k1, k2⟩ := (dicGet_val (j := k) gl g2).2 z e
            exact .inr ⟨a, u, rfl, .inl ⟨_, k, .inl g1, rfl, k1.symm⟩, fin _ _ Evo.refl (Rep.imp (W := fun _ => False) Evo.refl (fun _ z => z.elim) (wkBd r) _ _ k2)⟩
          · cases e
    | _ => exact dflt e

/-! ### {k: v, ..} -/
abbrev MP := List Sl → List O → R (List (D × D) × List O)
def mPn : MP := fun _ S => .ok ([], S)
def mPc (mk mv : ME) (mp : MP) : MP := fun sg S => (mk sg S).bind fun k => (mv sg k.2).bind fun v => (mp sg v.2).bind fun p => .ok ((k.1, v.1) :: p.1, p.2)
def rpP (c : Ct) (ow : List (Option Addr)) : Hp → List (D × D) → List (V × V) → Prop := fun H ds vs => RepA c.K c.as (Bd c.B ow) H (ds.map (·.1)) (vs.map (·.1)) ∧ RepA c.K c.as (Bd c.B ow) H (ds.map (·.2)) (vs.map (·.2)) ∧ ds.length = vs.length
def PP2 (X : Cx) (W : WX2) (pos : Pos) (keys : List (Option Expr)) (values : List Expr) (m : MP) : Prop := ∃ trs, PPs X pos keys values trs ∧ ∀ B H0 as ks ow sg S σ H (Q : List (V × V) → Hp → Prop), Rl X.K B H0 as ks ow sg S σ H →
  Den (ctOf X W B H0 as ks) ow (rpP (ctOf X W B H0 as ks) ow) (m sg S) H Q → tPairs trs σ H Q
theorem p2_nil : PP2 X W pos [] [] mPn := ⟨_, pps_nil, fun B H0 as ks ow sg S σ H Q r h => h [] H Evo.refl r.sto ⟨rfl, rfl, rfl⟩⟩
theorem p2_cons {k v : Expr} {keys : List (Option Expr)} {values : List Expr} {mk mv : ME} {mp : MP} (hk : PE2 X W false k mk) (hv : PE2 X W false v mv) (hr : PP2 X W pos keys values mp) : PP2 X W pos (some k :: keys) (v :: values) (mPc mk mv mp) := by
  obtain ⟨tk, a1, a2⟩ := hk
  obtain ⟨tv, b1, b2⟩ := hv
  obtain ⟨tr, c1, c2⟩ := hr
  refine ⟨_, pps_cons a1 b1 c1, fun B H0 as ks ow sg S σ H Q r h => ?_⟩
  refine a2 _ _ _ _ _ _ _ _ _ _ r (Den.bind h fun x S1 u H1 _ e1 s1 q1 h1 => ?_)
  have r1 := r.step e1 s1
  refine b2 _ _ _ _ _ _ _ _ _ _ r1 (Den.bind h1 fun y S2 w H2 _ e2 s2 q2 h2 => ?_)
  have r2 := r1.step e2 s2
  refine c2 _ _ _ _ _ _ _ _ _ _ r2 (Den.bind h2 fun p S3 vs H3 _ e3 s3 q3 h3 => ?_)
  obtain ⟨k1, k2, k3⟩ := q3
  refine h3 ((u, w) :: vs) H3 Evo.refl s3 ⟨RepA.cons ?_ k1, RepA.cons ?_ k2, by simp [k3]⟩
  · exact Rep.imp (B' := Bd B ow) (e2.trans e3) r.asBd (fun _ z => z) _ _ q1
  · exact Rep.imp (B' := Bd B ow) e3 r.asBd (fun _ z => z) _ _ q2
def dicMerge : List (Key × D) → List Key → List D → List Key × List D
  | [], ks, ds => (ks, ds)
  | (k, d) :: r, ks, ds => dicMerge r (dicPut ks ds k d).1 (dicPut ks ds k d).2
def keyed : List (D × D) → Option (List (Key × D))
  | [] => some []
  | (k, d) :: r => match k.key?, keyed r with
    | some k, some r => some ((k, d) :: r)
    | _, _ => none
def oDisp (mp : MP) : MO := fun sg S => (mp sg S).bind fun x => match keyed x.1 with
  | some ps => if ps.length ≤ 15 then .ok (.dic (dicMerge ps [] []).1 (dicMerge ps [] []).2, x.2) else .bad
  | none => .bad
theorem merge_rep {K : PySem.W.Frag} {as : List Addr} {Bs : Addr → Prop} {H : Hp} : ∀ {ps : List (Key × D)} {kvs : List (Key × V)} {ks : List Key} {ds : List D} {xs : List V}, ps.map (·.1) = kvs.map (·.1) → RepA K as Bs H (ps.map (·.2)) (kvs.map (·.2)) → ks.length = xs.length → RepA K as Bs H ds xs →
    ∃ ys, mergeK (ks.zip xs) kvs = (dicMerge ps ks ds).1.zip ys ∧ (dicMerge ps ks ds).1.length = ys.length ∧ RepA K as Bs H (dicMerge ps ks ds).2 ys
  | [], [], ks, ds, xs, _, _, hl, h => ⟨xs, rfl, hl, h⟩
  | [], _ :: _, _, _, _, e, _, _, _ => by cases e
  | _ :: _, [], _, _, _, e, _, _, _ => by cases e
  | (k, d) :: ps, (k', v) :: kvs, ks, ds, xs, e, r, hl, h => by
    rw [List.map_cons, List.map_cons] at e
    have e1 : k = k' := (List.cons.inj e).1
    have e2 := (List.cons.inj e).2
    subst e1
    obtain ⟨w, ws, ew, r1, r2⟩ := r
    have ew1 := (List.cons.inj ew).1
    have ew2 := (List.cons.inj ew).2
    simp only at ew1
    subst ew1
    rw [← ew2] at r2
    obtain ⟨ys, y1, y2, y3⟩ := dicPut_rep k hl h r1
    obtain ⟨zs, z1, z2, z3⟩ := merge_rep (ps := ps) (kvs := kvs) (ks := (dicPut ks ds k d).1) (ds := (dicPut ks ds k d).2) (xs := ys) e2 r2 y2 y3
    refine ⟨zs, ?_, z2, z3⟩
    show mergeK (putK (ks.zip xs) k v) kvs = _
    rw [y1]
    exact z1
theorem keyed_rep {K : PySem.W.Frag} {as : List Addr} {Bs : Addr → Prop} {H : Hp} : ∀ {ds : List (D × D)} {vs : List (V × V)} {ps : List (Key × D)}, RepA K as Bs H (ds.map (·.1)) (vs.map (·.1)) → RepA K as Bs H (ds.map (·.2)) (vs.map (·.2)) → ds.length = vs.length → keyed ds = some ps →
    ∃ kvs : List (Key × V), vs = kvs.map (fun kv => (kV kv.1, kv.2)) ∧ ps.map (·.1) = kvs.map (·.1) ∧ RepA K as Bs H (ps.map (·.2)) (kvs.map (·.2)) ∧ ps.length = kvs.length
  | [], [], ps, _, _, _, e => by
    cases e
    exact ⟨[], rfl, rfl, rfl, rfl⟩
  | [], _ :: _, _, _, _, e, _ => by cases e
  | _ :: _, [], _, _, _, e, _ => by cases e
  | (k, d) :: ds, (u, v) :: vs, ps, r1, r2, hl, e => by
    simp only [keyed] at e
    cases ek : k.key? with
    | none => rw [ek] at e; cases e
    | some k' =>
      cases er : keyed ds with
      | none => rw [ek, er] at e; cases e
      | some r =>
        rw [ek, er] at e
        cases e
        obtain ⟨w, ws, ew, a1, a2⟩ := r1
        obtain ⟨w', ws', ew', b1, b2⟩ := r2
        have f1 := (List.cons.inj ew).1
        have f2 := (List.cons.inj ew).2
        have f3 := (List.cons.inj ew').1
        have f4 := (List.cons.inj ew').2
        simp only at f1 f3
        subst f1 f3
        rw [← f2] at a2
        rw [← f4] at b2
        obtain ⟨kvs, k1, k2, k3, k4⟩ := keyed_rep (ds := ds) (vs := vs) a2 b2 (by simpa using hl) er
        have ev := key_rep a1 ek
        refine ⟨(k', v) :: kvs, by rw [List.map_cons, ← k1, ev], by rw [List.map_cons, List.map_cons, k2], RepA.cons b1 k3, by simp [k4]⟩
theorem f2_disp {keys : List (Option Expr)} {values : List Expr} {mp : MP} (h : PP2 X W pos keys values mp) (hall : keys.all (·.isSome) = true) (hl : keys.length = values.length) (h0 : keys ≠ []) (h15 : keys.length ≤ 15) : PF2 X W (.Dict keys values pos) (oDisp mp) := by
  obtain ⟨trs, a1, a2⟩ := h
  refine ⟨_, pe_disp a1 hall hl h0 h15, fun B H0 as ks ow sg S σ H Q r h p hp => ?_⟩
  have r1 : Rl X.K B H0 as ks (ow ++ [some p]) sg S σ (upd H p (.dK [])) := r.ghost hp
  have pas : p ∉ as := fun z => r.bdDom p (r.asBd p z) hp
  have evH : Evo (· ∈ as) H (upd H p (.dK [])) := Evo.new hp
  refine a2 _ _ _ _ _ _ _ _ _ _ r1 ?_
  revert h
  unfold oDisp
  cases mp sg S with
  | ok y =>
    obtain ⟨ds, S1⟩ := y
    intro h vs H2 e2 s2 q2
    obtain ⟨k1, k2, k3⟩ := q2
    have hp2 : H2 p = some (.dK []) := e2.keep _ _ upd_same pas
    refine ⟨hp2, ?_⟩
    simp only [R.bind] at h
    cases ek : keyed ds with
    | none => simp only [ek] at h; exact False.elim h
    | some ps =>
      simp only [ek] at h
      by_cases h15 : ps.length ≤ 15
      · simp only [if_pos h15] at h
        obtain ⟨kvs, l1, l2, l3, l4⟩ := keyed_rep k1 k2 k3 ek
        refine ⟨kvs, l1, by rw [← l4]; exact h15, ?_⟩
        have r2 := r1.step e2 s2
        have bp : ∀ b, b = p → Bd B (ow ++ [some p]) b := fun b z => .inr (z ▸ List.mem_append_right _ List.mem_cons_self)
        have ep : Evo (· = p) H2 (upd H2 p (.dK (mergeK [] kvs))) := Evo.put hp2 (fun _ z => by cases z) (fun _ _ z => by cases z) rfl
        obtain ⟨ys, y1, y2, y3⟩ := merge_rep (ks := []) (ds := []) (xs := []) l2 l3 rfl rfl
        have ev : Evo (· ∈ as) H (upd H2 p (.dK (mergeK [] kvs))) := by
          have e02 := evH.trans e2
          refine ⟨fun a o q n => ?_, fun a xs q => ?_, fun a ob w q => ?_, fun a q => ep.dom a (e02.dom a q)⟩
          · rw [upd_ne (ne_of_none q hp)]; exact e02.keep a o q n
          · rw [upd_ne (ne_of_none q hp)]; exact e02.tups a xs q
          · rw [upd_ne (ne_of_none q hp)]; exact e02.frzs a ob w q
        refine h p _ hp ev ?_ ⟨ys, ?_, y2, ?_⟩
        · exact ((r2.putGhost r.lo hp2 (fun _ z => by cases z) (fun _ _ z => by cases z)).1.sto).weak bd_ghost'
        · rw [upd_same]
          exact congrArg (fun z => some (HO.dK z)) y1
        · exact RepA.imp (W := fun _ => False) Evo.refl (fun _ z => z.elim) bd_ghost' _ _ (RepA.imp ep bp (fun _ z => z) _ _ y3)
      · simp only [if_neg h15] at h; exact False.elim h
  | ex => exact fun h => h
  | bad => exact fun h => h
/-- d.get(k, x) -/
def dGet2 : D → D → D → Option D
  | .dic ks ds, k, x => match k.key? with
    | some k => some ((dicGet ks ds k).getD x)
    | none => none
  | _, _, _ => none
def mGet2 (md mk mx : ME) : ME := fun sg S => (md sg S).bind fun d => match d.1 with
  | .dic ks ds => (mk sg d.2).bind fun k => (mx sg k.2).bind fun x => R.of ((dGet2 (.dic ks ds) k.1 x.1).map fun z => (z, x.2))
  | _ => .bad
theorem e2_get2 {o e f : Expr} {md mk mx : ME} {apos : Pos} (hu : X.A.units + 1 < cLine) (ho : PE2 X W wk o md) (he : PE2 X W wk e mk) (hf : PE2 X W wk f mx) (m : M2 X o "get" apos e f pos) : PE2 X W wk (.Call (.Attribute o "get" apos) [e, f] [] pos) (mGet2 md mk mx) := by
  obtain ⟨t, a1, a2⟩ := ho
  obtain ⟨u, b1, b2⟩ := he
  obtain ⟨w, c1, c2⟩ := hf
  refine ⟨_, pe_dget2 hu a1 b1 c1 m, fun B H0 as ks ow sg S σ H Q r h => ?_⟩
  refine a2 _ _ _ _ _ _ _ _ _ _ r (Den.bind h fun d S1 v H1 c0 e1 s1 q1 h1 => ?_)
  clear c0
  cases d <;> try exact False.elim h1
  rename_i dk dd
  simp only at h1
  have r1 := r.step e1 s1
  obtain ⟨a, xs, ea, nb, g1, gl, g2⟩ := id q1
  subst ea
  refine ⟨a, rfl, .inl ⟨_, g1⟩, ?_⟩
  refine b2 _ _ _ _ _ _ _ _ _ _ r1 (Den.bind h1 fun k S2 kv H2 _ e2 s2 q2 h2 => ?_)
  have r2 := r1.step e2 s2
  refine c2 _ _ _ _ _ _ _ _ _ _ r2 (Den.bind h2 fun x S3 xv H3 _ e3 s3 q3 h3 => ?_)
  have r3 := r2.step e3 s3
  have q1' := Rep.imp (B' := if wk then (· ∈ as) else Bd B ow) (e2.trans e3) (asWk r) (fun _ z => z) _ _ q1
  have q2' := Rep.imp (B' := if wk then (· ∈ as) else Bd B ow) e3 (asWk r) (fun _ z => z) _ _ q2
  obtain ⟨a', ys, ea, nb', k1, kl, k2⟩ := q1'
  cases ea
  cases ek : k.key? with
  | none => simp only [dGet2, ek] at h3; exact False.elim h3
  | some kk =>
    simp only [dGet2, ek] at h3
    have ev := key_rep q2' ek
    subst ev
    refine ⟨valV (dk.zip ys) kk, .inl ⟨_, kk, k1, rfl, rfl⟩, ?_⟩
    have gv := dicGet_val (j := kk) kl k2
    cases c : dicGet dk dd kk with
    | none =>
      rw [gv.1 c]
      rw [c] at h3
      exact h3 xv H3 Evo.refl s3 q3
    | some z =>
      obtain ⟨zv, z1, z2⟩ := gv.2 z c
      rw [z1]
      rw [c] at h3
      exact h3 zv H3 Evo.refl s3 z2
end
end D2

namespace D2
open PySem PySem.Spec PyProof.Rows L2

section
variable {K : PySem.W.Frag} {wk : Bool}
def on1 (g : D → Option D) : List D → Option D
  | [d] => g d
  | _ => none
def on2 (g : D → D → Option D) : List D → Option D
  | [d, e] => g d e
  | _ => none
theorem ok_on1 {g : D → Option D} {r : List V → Hp → VK → Prop} (h : ∀ (as : List Addr) (Bs Bw : Addr → Prop) (H : Hp) (d z : D) (v : V) (Q : VK), (∀ a, Bw a → Bs a) → (∀ a, Bs a → H a ≠ none) →
    Rep K as (if wk then Bw else Bs) H d v → g d = some z → (∀ u H', Evo (fun _ => False) H H' → Rep K as (if wk then Bw else Bs) H' z u → Q u H') → r [v] H Q) : CallOk K wk (on1 g) r := by
  intro as Bs Bw H ds z vs Q h1 h2 hr e q
  match ds, e with
  | [d], e =>
    obtain ⟨v, ws, ev, k1, k2⟩ := hr
    have k2' : ws = [] := k2
    subst k2'
    subst ev
    exact h as Bs Bw H d z v Q h1 h2 k1 e q
theorem ok_on2 {g : D → D → Option D} {r : List V → Hp → VK → Prop} (h : ∀ (as : List Addr) (Bs Bw : Addr → Prop) (H : Hp) (c d z : D) (u v : V) (Q : VK), (∀ a, Bw a → Bs a) → (∀ a, Bs a → H a ≠ none) →
    Rep K as (if wk then Bw else Bs) H c u → Rep K as (if wk then Bw else Bs) H d v → g c d = some z → (∀ u H', Evo (fun _ => False) H H' → Rep K as (if wk then Bw else Bs) H' z u → Q u H') → r [u, v] H Q) : CallOk K wk (on2 g) r := by
  intro as Bs Bw H ds z vs Q h1 h2 hr e q
  match ds, e with
  | [c, d], e =>
    obtain ⟨u, ws, ev, k1, v, ws2, ev2, k2, k3⟩ := hr
    have k3' : ws2 = [] := k3
    subst k3'
    subst ev2
    subst ev
    exact h as Bs Bw H c d z u v Q h1 h2 k1 k2 e q
def D.len : D → Option D
  | .tup ds => some (.int (ds.length : Int))
  | .lst ds => some (.int (ds.length : Int))
  | .str x => if x.length ≤ 16777216 then some (.int (x.length : Int)) else none
  | .dic ks _ => some (.int (ks.length : Int))
  | _ => none
def rLenD : List V → Hp → VK → Prop := fun xs H Q => ∃ p kvs, xs = [.ref p] ∧ Rd H p (.dK kvs) ∧ Q (.int kvs.length) H
theorem call_lenRd {X : Cx} : CallR X (.builtin "len") rLenD := by
  intro pins s σ H vs us Q I r h
  obtain ⟨p, kvs, rfl, hd, q⟩ := h
  rw [Vals.ref1 r]
  exact d_len I hd fun t s' I' => ⟨.int kvs.length, H, I', ⟨_, rfl⟩, q⟩
def rLen2 (K : PySem.W.Frag) : List V → Hp → VK → Prop := fun xs H Q => (∃ p ys, xs = [.ref p] ∧ (SqL K H p ys ∨ SqT K H p ys) ∧ Q (.int ys.length) H) ∨ ((∃ z, xs = [.str z] ∧ z.length ≤ sizeLine ∧ Q (.int z.length) H) ∨ rLenD xs H Q)
theorem call_len2 {X : Cx} : CallR X (.builtin "len") (rLen2 X.K) := call_len_seq.or (call_len_str.or call_lenRd)
theorem ok_len : CallOk K wk (on1 D.len) (rLen2 K) := by
  refine ok_on1 fun as Bs Bw H d z v Q h1 h2 hr e q => ?_
  cases d with
  | tup ds =>
    cases e
    obtain ⟨a, xs, ev, g1, g2⟩ := hr
    subst ev
    exact .inl ⟨a, xs, rfl, .inr g1, by rw [← g2.length]; exact q _ _ Evo.refl rfl⟩
  | lst ds =>
    cases e
    obtain ⟨a, xs, ev, nb, g1, g2⟩ := hr
    subst ev
    exact .inl ⟨a, xs, rfl, .inl (SqL.of g1), by rw [← g2.length]; exact q _ _ Evo.refl rfl⟩
  | str x =>
    simp only [D.len] at e
    split at e
    · rename_i hl
      cases e
      have ev : v = .str x := hr
      subst ev
      exact .inr (.inl ⟨x, rfl, lineN hl, q _ _ Evo.refl rfl⟩)
    · cases e
  | dic ks ds =>
    cases e
    obtain ⟨a, xs, ev, nb, g1, gl, g2⟩ := hr
    subst ev
    refine .inr (.inr ⟨a, _, rfl, g1, ?_⟩)
    rw [List.length_zip, ← gl, Nat.min_self]
    exact q _ _ Evo.refl rfl
  | _ => cases e
/-- int(n), int(flag), int(text) -/
def D.toInt : D → Option D
  | .int i => some (.int i)
  | .bl k => some (.int (if k then 1 else 0))
  | .str a => if a.length ≤ 640 then (PySem.intText? a).map D.int else none
  | _ => none
def rInt2 : List V → Hp → VK → Prop := fun xs H Q => ((∃ i, xs = [.int i] ∧ Q (.int i) H) ∨ ∃ k, xs = [.bl k] ∧ Q (.int (if k then 1 else 0)) H) ∨ (∃ a n, xs = [.str a] ∧ PySem.intText? a = some n ∧ a.length ≤ 640 ∧ Q (.int n) H)
theorem call_int2 {X : Cx} : CallR X (.type "int") rInt2 := call_int1.or call_int_str
theorem ok_int : CallOk K wk (on1 D.toInt) rInt2 := by
  refine ok_on1 fun as Bs Bw H d z v Q h1 h2 hr e q => ?_
  cases d with
  | int i => cases e; exact .inl (.inl ⟨i, congrArg (fun x => [x]) hr, q _ _ Evo.refl rfl⟩)
  | bl k => cases e; exact .inl (.inr ⟨k, congrArg (fun x => [x]) hr, q _ _ Evo.refl rfl⟩)
  | str a =>
    simp only [D.toInt] at e
    split at e
    · rename_i hl
      obtain ⟨n, e1, e2⟩ := Option.map_eq_some_iff.mp e
      subst e2
      exact .inr ⟨a, n, congrArg (fun x => [x]) hr, e1, hl, q _ _ Evo.refl rfl⟩
    · cases e
  | _ => cases e
def D.abs : D → Option D
  | .int i => some (.int (if i < 0 then -i else i))
  | _ => none
theorem ok_abs : CallOk K wk (on1 D.abs) (fun xs H Q => ∃ i, xs = [.int i] ∧ Q (.int (if i < 0 then -i else i)) H) := by
  refine ok_on1 fun as Bs Bw H d z v Q h1 h2 hr e q => ?_
  cases d <;> try (cases e; done)
  rename_i i
  cases e
  exact ⟨i, congrArg (fun x => [x]) hr, q _ _ Evo.refl rfl⟩
/-- str(n) -/
def D.toStr : D → Option D
  | .int i => if i.natAbs.log2 < 1920 then some (.str (Str.ofString (toString i))) else none
  | .str x => some (.str x)
  | _ => none
def rStr1 : List V → Hp → VK → Prop := fun xs H Q => ∃ i, xs = [.int i] ∧ i.natAbs.log2 < 1920 ∧ Q (.str (toString i)) H
def D.toStrI : D → Option D
  | .int i => if i.natAbs.log2 < 1920 then some (.str (Str.ofString (toString i))) else none
  | _ => none
theorem ok_strI : CallOk K wk (on1 D.toStrI) rStr1 := by
  refine ok_on1 fun as Bs Bw H d z v Q h1 h2 hr e q => ?_
  cases d <;> try (cases e; done)
  rename_i i
  simp only [D.toStrI] at e
  split at e
  · rename_i hl
    cases e
    exact ⟨i, congrArg (fun x => [x]) hr, hl, q _ _ Evo.refl rfl⟩
  · cases e
/-- max, min of two ints -/
def D.max2 : D → D → Option D
  | .int i, .int j => some (.int (if j > i then j else i))
  | _, _ => none
def D.min2 : D → D → Option D
  | .int i, .int j => some (.int (if j < i then j else i))
  | _, _ => none
theorem ok_max2 : CallOk K wk (on2 D.max2) (fun xs H Q => ∃ i j, xs = [.int i, .int j] ∧ Q (.int (if j > i then j else i)) H) := by
  refine ok_on2 fun as Bs Bw H c d z u v Q h1 h2 hr hs e q => ?_
  cases c <;> try (cases e; done)
  cases d <;> try (cases e; done)
  rename_i i j
  cases e
  have eu : u = .int i := hr
  have ev : v = .int j := hs
  subst eu ev
  exact ⟨i, j, rfl, q _ _ Evo.refl rfl⟩
theorem ok_min2 : CallOk K wk (on2 D.min2) (fun xs H Q => ∃ i j, xs = [.int i, .int j] ∧ Q (.int (if j < i then j else i)) H) := by
  refine ok_on2 fun as Bs Bw H c d z u v Q h1 h2 hr hs e q => ?_
  cases c <;> try (cases e; done)
  cases d <;> try (cases e; done)
  rename_i i j
  cases e
  have eu : u = .int i := hr
  have ev : v = .int j := hs
  subst eu ev
  exact ⟨i, j, rfl, q _ _ Evo.refl rfl⟩
/-- of a list of ints -/
def D.intsL (f : List Int → Option D) : D → Option D
  | .lst ds => match D.ints ds with
    | some ns => f ns
    | none => none
  | _ => none
theorem intsL_rep {as : List Addr} {B : Addr → Prop} {H : Hp} {d z : D} {v : V} {f : List Int → Option D} (hr : Rep K as B H d v) (e : D.intsL f d = some z) : ∃ a ns, v = .ref a ∧ H a = some (.lst (ns.map V.int)) ∧ f ns = some z := by
  cases d <;> try (cases e; done)
  rename_i ds
  simp only [D.intsL] at e
  split at e
  · rename_i ns hn
    obtain ⟨a, xs, ev, nb, g1, g2⟩ := hr
    exact ⟨a, ns, ev, by rw [← ints_rep g2 hn]; exact g1, e⟩
  · cases e
theorem ok_sum : CallOk K wk (on1 (D.intsL fun ns => some (.int ns.sum))) (rSum K) := by
  refine ok_on1 fun as Bs Bw H d z v Q h1 h2 hr e q => ?_
  obtain ⟨a, ns, ev, g, e2⟩ := intsL_rep hr e
  cases e2
  exact ⟨a, ns, by rw [ev], SqL.of g, q _ _ Evo.refl rfl⟩
def maxI : List Int → Option Int
  | [] => none
  | n :: ns => some (ns.foldl max n)
def minI : List Int → Option Int
  | [] => none
  | n :: ns => some (ns.foldl min n)
theorem foldl_max : ∀ (ns : List Int) (n m : Int), m ∈ n :: ns → (∀ y ∈ n :: ns, y ≤ m) → ns.foldl max n = m
  | [], n, m, h1, h2 => by
    have : m = n := by simpa using h1
    simp [this]
  | k :: ns, n, m, h1, h2 => by
    refine foldl_max ns (max n k) m ?_ ?_
    · have hn := h2 n List.mem_cons_self
      have hk := h2 k (List.mem_cons_of_mem _ List.mem_cons_self)
      rcases List.mem_cons.mp h1 with e | h1
      · subst e
        have : max m k = m := by omega
        rw [this]; exact List.mem_cons_self
      · rcases List.mem_cons.mp h1 with e | h1
        · subst e
          have : max n m = m := by omega
          rw [this]; exact List.mem_cons_self
        · exact List.mem_cons_of_mem _ h1
    · intro y hy
      rcases List.mem_cons.mp hy with e | hy
      · have hn := h2 n List.mem_cons_self
        have hk := h2 k (List.mem_cons_of_mem _ List.mem_cons_self)
        omega
      · exact h2 y (List.mem_cons_of_mem _ (List.mem_cons_of_mem _ hy))
theorem foldl_min : ∀ (ns : List Int) (n m : Int), m ∈ n :: ns → (∀ y ∈ n :: ns, m ≤ y) → ns.foldl min n = m
  | [], n, m, h1, h2 => by
    have : m = n := by simpa using h1
    simp [this]
  | k :: ns, n, m, h1, h2 => by
    refine foldl_min ns (min n k) m ?_ ?_
    · have hn := h2 n List.mem_cons_self
      have hk := h2 k (List.mem_cons_of_mem _ List.mem_cons_self)
      rcases List.mem_cons.mp h1 with e | h1
      · subst e
        have : min m k = m := by omega
        rw [this]; exact List.mem_cons_self
      · rcases List.mem_cons.mp h1 with e | h1
        · subst e
          have : min n m = m := by omega
          rw [this]; exact List.mem_cons_self
        · exact List.mem_cons_of_mem _ h1
    · intro y hy
      rcases List.mem_cons.mp hy with e | hy
      · have hn := h2 n List.mem_cons_self
        have hk := h2 k (List.mem_cons_of_mem _ List.mem_cons_self)
        omega
      · exact h2 y (List.mem_cons_of_mem _ (List.mem_cons_of_mem _ hy))
theorem ok_maxL : CallOk K wk (on1 (D.intsL fun ns => (maxI ns).map D.int)) (rMax K) := by
  refine ok_on1 fun as Bs Bw H d z v Q h1 h2 hr e q => ?_
  obtain ⟨a, ns, ev, g, e2⟩ := intsL_rep hr e
  cases ns with
  | nil => cases e2
  | cons n ns =>
    cases e2
    refine ⟨a, n :: ns, by rw [ev], SqL.of g, Nat.zero_lt_succ _, fun m hm hle => ?_⟩
    have := foldl_max ns n m hm hle
    rw [this] at q
    exact q _ _ Evo.refl rfl
theorem ok_minL : CallOk K wk (on1 (D.intsL fun ns => (minI ns).map D.int)) (rMin K) := by
  refine ok_on1 fun as Bs Bw H d z v Q h1 h2 hr e q => ?_
  obtain ⟨a, ns, ev, g, e2⟩ := intsL_rep hr e
  cases ns with
  | nil => cases e2
  | cons n ns =>
    cases e2
    refine ⟨a, n :: ns, by rw [ev], SqL.of g, Nat.zero_lt_succ _, fun m hm hle => ?_⟩
    have := foldl_min ns n m hm hle
    rw [this] at q
    exact q _ _ Evo.refl rfl
/-- sorted of ints -/
def insI (n : Int) : List Int → List Int
  | [] => [n]
  | m :: ms => if n ≤ m then n :: m :: ms else m :: insI n ms
def sortI : List Int → List Int
  | [] => []
  | n :: ns => insI n (sortI ns)
theorem insI_perm (n : Int) : ∀ l : List Int, (insI n l).Perm (n :: l)
  | [] => List.Perm.refl _
  | m :: ms => by
    unfold insI
    split
    · exact List.Perm.refl _
    · exact ((insI_perm n ms).cons m).trans (List.Perm.swap n m ms)
theorem sortI_perm : ∀ l : List Int, (sortI l).Perm l
  | [] => List.Perm.refl _
  | n :: ns => (insI_perm n (sortI ns)).trans ((sortI_perm ns).cons n)
theorem insI_sorted (n : Int) : ∀ l : List Int, l.Pairwise (· ≤ ·) → (insI n l).Pairwise (· ≤ ·)
  | [], _ => List.pairwise_singleton _ _
  | m :: ms, h => by
    have h' := List.pairwise_cons.mp h
    unfold insI
    split
    · rename_i hnm
      refine List.pairwise_cons.mpr ⟨fun y hy => ?_, h⟩
      rcases List.mem_cons.mp hy with e | hy
      · rw [e]; exact hnm
      · exact Int.le_trans hnm (h'.1 y hy)
    · rename_i hnm
      refine List.pairwise_cons.mpr ⟨fun y hy => ?_, insI_sorted n ms h'.2⟩
      have := (insI_perm n ms).mem_iff.mp hy
      rcases List.mem_cons.mp this with e | hy
      · rw [e]; omega
      · exact h'.1 y hy
theorem sortI_sorted : ∀ l : List Int, (sortI l).Pairwise (· ≤ ·)
  | [] => List.Pairwise.nil
  | n :: ns => insI_sorted n _ (sortI_sorted ns)
theorem sorted_one {l m : List Int} (h : l.Perm m) (h1 : l.Pairwise (· ≤ ·)) (h2 : m.Pairwise (· ≤ ·)) : l = m :=
  h.eq_of_pairwise (fun a b _ _ hab hba => Int.le_antisymm hab hba) h1 h2
theorem ok_sortI : CallOk K wk (on1 (D.intsL fun ns => some (.lst ((sortI ns).map D.int)))) (rSortedI K) := by
  refine ok_on1 fun as Bs Bw H d z v Q h1 h2 hr e q => ?_
  obtain ⟨a, ns, ev, g, e2⟩ := intsL_rep hr e
  cases e2
  refine ⟨a, ns, by rw [ev], SqL.of g, fun ns' p perm hs hp => ?_⟩
  have := sorted_one (perm.trans (sortI_perm ns).symm) hs (sortI_sorted ns)
  subst this
  exact q _ _ (Evo.new hp) (repNewL h1 h2 hp (rep_ints _))
/-- any, all of a list of truth values -/
def D.blsL (f : List Bool → Option D) : D → Option D
  | .lst ds => match D.bls ds with
    | some ns => f ns
    | none => none
  | _ => none
theorem blsL_rep {as : List Addr} {B : Addr → Prop} {H : Hp} {d z : D} {v : V} {f : List Bool → Option D} (hr : Rep K as B H d v) (e : D.blsL f d = some z) : ∃ a ns, v = .ref a ∧ H a = some (.lst (ns.map V.bl)) ∧ f ns = some z := by
  cases d <;> try (cases e; done)
  rename_i ds
  simp only [D.blsL] at e
  split at e
  · rename_i ns hn
    obtain ⟨a, xs, ev, nb, g1, g2⟩ := hr
    exact ⟨a, ns, ev, by rw [← bls_rep g2 hn]; exact g1, e⟩
  · cases e
theorem ok_any : CallOk K wk (on1 (D.blsL fun ns => some (.bl (ns.any id)))) (rAny K) := by
  refine ok_on1 fun as Bs Bw H d z v Q h1 h2 hr e q => ?_
  obtain ⟨a, ns, ev, g, e2⟩ := blsL_rep hr e
  cases e2
  exact ⟨a, ns, by rw [ev], SqL.of g, q _ _ Evo.refl rfl⟩
theorem ok_all : CallOk K wk (on1 (D.blsL fun ns => some (.bl (ns.all id)))) (rAll K) := by
  refine ok_on1 fun as Bs Bw H d z v Q h1 h2 hr e q => ?_
  obtain ⟨a, ns, ev, g, e2⟩ := blsL_rep hr e
  cases e2
  exact ⟨a, ns, by rw [ev], SqL.of g, q _ _ Evo.refl rfl⟩
/-- tuple(x), list(x) -/
def D.toTup : D → Option D
  | .lst ds => some (.tup ds)
  | .tup ds => some (.tup ds)
  | _ => none
theorem ok_tup : CallOk K wk (on1 D.toTup) (fun xs H Q => ∃ p ys, xs = [.ref p] ∧ ((SqL K H p ys ∧ ∀ l, H l = none → Q (.ref l) (upd H l (.tup ys))) ∨ (SqT K H p ys ∧ Q (.ref p) H))) := by
  refine ok_on1 fun as Bs Bw H d z v Q h1 h2 hr e q => ?_
  cases d <;> try (cases e; done)
  · rename_i ds
    cases e
    obtain ⟨a, xs, ev, g1, g2⟩ := hr
    subst ev
    exact ⟨a, xs, rfl, .inr ⟨g1, q _ _ Evo.refl ⟨a, xs, rfl, g1, g2⟩⟩⟩
  · rename_i ds
    cases e
    obtain ⟨a, xs, ev, nb, g1, g2⟩ := hr
    subst ev
    exact ⟨a, xs, rfl, .inl ⟨SqL.of g1, fun l hl => q _ _ (Evo.new hl) (repNewT hl g2)⟩⟩
def D.toLst : D → Option D
  | .lst ds => some (.lst ds)
  | .tup ds => some (.lst ds)
  | _ => none
theorem ok_lst : CallOk K wk (on1 D.toLst) (fun xs H Q => ∃ p ys, xs = [.ref p] ∧ (SqL K H p ys ∨ SqT K H p ys) ∧ ∀ l, H l = none → Q (.ref l) (upd H l (.lst ys))) := by
  refine ok_on1 fun as Bs Bw H d z v Q h1 h2 hr e q => ?_
  cases d <;> try (cases e; done)
  · rename_i ds
    cases e
    obtain ⟨a, xs, ev, g1, g2⟩ := hr
    subst ev
    exact ⟨a, xs, rfl, .inr g1, fun l hl => q _ _ (Evo.new hl) (repNewL h1 h2 hl g2)⟩
  · rename_i ds
    cases e
    obtain ⟨a, xs, ev, nb, g1, g2⟩ := hr
    subst ev
    exact ⟨a, xs, rfl, .inl (SqL.of g1), fun l hl => q _ _ (Evo.new hl) (repNewL h1 h2 hl g2)⟩
end

/-! ### methods of values -/
section
variable {X : Cx} {W : WX2} {wk : Bool} {pos : Pos}
def MethOk (K : PySem.W.Frag) (wk : Bool) (T : String) (c : D → Bool) (f : D → List D → Option D) (r : V → List V → Hp → VK → Prop) : Prop := ∀ (as : List Addr) (Bs Bw : Addr → Prop) (H : Hp) (x : D) (v : V), (∀ a, Bw a → Bs a) → (∀ a, Bs a → H a ≠ none) → Rep K as (if wk then Bw else Bs) H x v → c x = true →
  tyV K T v H ∧ ∀ H2 ds vs z (Q : VK), (∀ a, Bs a → H2 a ≠ none) → Rep K as (if wk then Bw else Bs) H2 x v → RepA K as (if wk then Bw else Bs) H2 ds vs → f x ds = some z → (∀ u H', Evo (fun _ => False) H2 H' → Rep K as (if wk then Bw else Bs) H' z u → Q u H') → r v vs H2 Q
def mMeth (c : D → Bool) (f : D → List D → Option D) (mo : ME) (ms : MA) : ME := fun sg S => (mo sg S).bind fun x => if c x.1 = true then (ms sg x.2).bind fun y => R.of ((f x.1 y.1).map fun z => (z, y.2)) else .bad
theorem meth_den {T : String} {c : D → Bool} {f : D → List D → Option D} {r2 : V → List V → Hp → VK → Prop} {to : TE} {ta : TA} {mo : ME} {ms : MA} (hop : MethOk X.K wk T c f r2)
    (a2 : ∀ B H0 as ks ow sg S σ H (Q : VK), Rl X.K B H0 as ks ow sg S σ H → Den (ctOf X W B H0 as ks) ow ((ctOf X W B H0 as ks).rp ow wk) (mo sg S) H Q → to σ H Q)
    (b2 : ∀ B H0 as ks ow sg S σ H (Q : List V → Hp → Prop), Rl X.K B H0 as ks ow sg S σ H → Den (ctOf X W B H0 as ks) ow ((ctOf X W B H0 as ks).rpa ow wk) (ms sg S) H Q → ta σ H Q)
    {B : Addr → Prop} {H0 : Hp} {as : List Addr} {ks : List (D × V)} {ow : List (Option Addr)} {sg : List Sl} {S : List O} {σ : L2.St} {H : Hp} {Q : VK} (r : Rl X.K B H0 as ks ow sg S σ H)
    (h : Den (ctOf X W B H0 as ks) ow ((ctOf X W B H0 as ks).rp ow wk) (mMeth c f mo ms sg S) H Q) : to σ H fun x H1 => tyV X.K T x H1 ∧ ta σ H1 fun xs H2 => r2 x xs H2 Q := by
  refine a2 _ _ _ _ _ _ _ _ _ _ r (Den.bind h fun x S1 v H1 _ e1 s1 q1 h1 => ?_)
  have r1 := r.step e1 s1
  by_cases hc : c x = true
  · simp only [if_pos hc] at h1
    obtain ⟨ty, go⟩ := hop as (Bd B ow) (· ∈ as) H1 x v r.asBd r1.bdDom q1 hc
    refine ⟨ty, b2 _ _ _ _ _ _ _ _ _ _ r1 (Den.bind h1 fun y S2 ws H2 _ e2 s2 q2 h2 => ?_)⟩
    have r2 := r1.step e2 s2
    have q1' := Rep.imp (B' := if wk then (· ∈ as) else Bd B ow) e2 (asWk r) (fun _ z => z) x v q1
    cases e : f x y with
    | none => simp only [e] at h2; exact False.elim h2
    | some z =>
      simp only [e] at h2
      exact go H2 y ws z Q r2.bdDom q1' q2 e fun u H' e3 q3 => h2 u H' e3.any (r2.stoNew e3) q3
  · simp only [if_neg hc] at h1; exact False.elim h1
theorem e2_meth {o e : Expr} {es : List Expr} {meth : Str} {apos : Pos} {T id : String} {c : D → Bool} {f : D → List D → Option D} {r2 : V → List V → Hp → VK → Prop} {mo : ME} {ms : MA} (pa : PlainAttrs T) (slot : Slot T meth id) (hty : typeOf (.builtin id) = pure (.type "method_descriptor")) (hm : MtR X id r2) (hop : MethOk X.K wk T c f r2)
    (ho : PE2 X W wk o mo) (ha : PA2 X W wk (e :: es) ms) (hbase : attributeBase o meth X.env (eval o X.env) = eval o X.env := by rfl)
    (hfew : ((backTo pos (starEach (e :: es) X.env)).all (fun x => !x.1) && (backToKw pos (keywordEach [] X.env)).all (fun x => x.1.isSome)
      && decide ((e :: es).length + ([] : List Keyword).length + (if ([] : List Keyword).isEmpty then 0 else 1) < 30)) = true := by rfl)
    (hline : (apos.endLine == pos.line) = true := by rfl) (hs : starEach (e :: es) X.env = (false, eval e X.env) :: starEach es X.env := by rfl) (hplain : (backTo pos (starEach es X.env)).any (·.1) = false := by rfl) :
    PE2 X W wk (.Call (.Attribute o meth apos) (e :: es) [] pos) (mMeth c f mo ms) := by
  obtain ⟨t, a1, a2⟩ := ho
  obtain ⟨u, b1, b2⟩ := ha
  exact ⟨_, pe_bm pa slot hty hm a1 b1 hbase hfew hline hs hplain, fun B H0 as ks ow sg S σ H Q r h => meth_den hop a2 b2 r h⟩
theorem e2_meth0 {o : Expr} {meth : Str} {apos : Pos} {T id : String} {c : D → Bool} {f : D → List D → Option D} {r2 : V → List V → Hp → VK → Prop} {mo : ME} (pa : PlainAttrs T) (slot : Slot T meth id) (hty : typeOf (.builtin id) = pure (.type "method_descriptor")) (hm : MtR X id r2) (hop : MethOk X.K wk T c f r2)
    (ho : PE2 X W wk o mo) (hbase : attributeBase o meth X.env (eval o X.env) = eval o X.env := by rfl) (hline : (apos.endLine == pos.line) = true := by rfl) : PE2 X W wk (.Call (.Attribute o meth apos) [] [] pos) (mMeth c f mo mNil) := by
  obtain ⟨t, a1, a2⟩ := ho
  refine ⟨_, pe_bm0 pa slot hty hm a1 hbase hline, fun B H0 as ks ow sg S σ H Q r h => ?_⟩
  exact meth_den (W := W) (ta := tNil) (ms := mNil) hop a2 (fun B H0 as ks ow sg S σ H Q r h => h [] H Evo.refl r.sto rfl) r h
/-- xs.index(y), flat things: the first place -/
def flatD : D → Bool
  | .int _ => true
  | .str _ => true
  | .non => true
  | _ => false
def idxD (y : D) : List D → Option Nat
  | [] => none
  | d :: ds => if D.eqv d y = true then some 0 else (idxD y ds).map (· + 1)
def D.index : D → List D → Option D
  | .lst ds, [y] => if (flatD y && ds.all flatD) = true then (idxD y ds).map fun (j : Nat) => D.int (j : Int) else none
  | _, _ => none
theorem flatD_rep {K : PySem.W.Frag} {as : List Addr} {B : Addr → Prop} {H : Hp} {d : D} {v : V} (h : Rep K as B H d v) (f : flatD d = true) : flatV v = true := by
  cases d <;> try (cases f; done)
  · have e : v = .non := h; subst e; rfl
  · rename_i i; have e : v = .int i := h; subst e; rfl
  · rename_i i; have e : v = .str i := h; subst e; rfl
theorem flatD_eqv {K : PySem.W.Frag} {as : List Addr} {B : Addr → Prop} {H : Hp} {d c : D} {v u : V} (h : Rep K as B H d v) (g : Rep K as B H c u) (f1 : flatD d = true) (f2 : flatD c = true) : eqV v u = D.eqv d c := by
  cases d <;> try (cases f1; done)
  all_goals
    cases c <;> try (cases f2; done)
    all_goals
      simp only [Rep] at h g
      subst h g
      simp [eqV, D.eqv, D.pd, PyData.eqv]
end
end D2

namespace PySem
set_option maxHeartbeats 1000000 in
theorem meets_enumerate_newT (t : Addr) (items : Array Value) :
    Meets (Builtin.«enumerate.__new__» ⟨[.type "enumerate", .ref t], []⟩) (fun _ R s => s.heap.IsTuple t items ∧
      R (.ok (.ret (.ref (s.heap.push { cls := .type "tuple_iterator", data := .fields #[.ref t, .int 0 0] }).objs.size)))
        { s with heap := (s.heap.push { cls := .type "tuple_iterator", data := .fields #[.ref t, .int 0 0] }).push { cls := .type "enumerate", data := .fields #[.none, .bool false, .ref s.heap.objs.size, rawInt 0, .none, .none] } }) :=
  .of_wp fun prog w A R s h => by
    obtain ⟨hT, h⟩ := h
    obtain ⟨hp, g, d, tk, os⟩ := s
    have hsub := sub_enumerate
    wp_walk
    refine wpAny_stack_any fun st => wpAny_pure ?_
    split
    · rename_i c _ _ _ _ _
      cases (c == Value.type "enumerate")
      · wp_walk using wpAny_pyIter_tuple hT
        exact ⟨_, rfl, h⟩
      · wp_walk using wpAny_pyIter_tuple hT
        exact ⟨_, rfl, h⟩
    · wp_walk using wpAny_pyIter_tuple hT
      exact ⟨_, rfl, h⟩
section
variable {prog : Program} {w : World} {A : Around} {E : Value → Shared → Prop} {s : Shared}
theorem call_enumerate_tuple {t : Addr} {items : Array Value} {Q : Value → Shared → Prop} (hT : s.heap.IsTuple t items)
    (h : ∀ h', IsEnum h' (s.heap.objs.size + 1) s.heap.objs.size 0 .none → h'.IsTupleIter s.heap.objs.size t 0 → h'.objs.size = s.heap.objs.size + 2 →
      (∀ b o, s.heap.get? b = some o → h'.get? b = some o) → Q (.ref (s.heap.objs.size + 1)) { s with heap := h' }) :
    wpAny (model prog w) A (call (.type "enumerate") [.ref t]) Q E s := by
  refine callType_new F.called_enumerate (by decide) (F.typeCall_enumerate_1 _) (F.newCall_enumerate_1 _) (fun obj => F.args_object_init_2 obj _) F.entry_enumerate_new
    (meets_enumerate_newT t items) ⟨hT, ?_⟩
  have hz : (s.heap.push { cls := .type "tuple_iterator", data := .fields #[.ref t, .int 0 0] }).objs.size = s.heap.objs.size + 1 := Heap.size_push ..
  show _ ∧ _
  rw [hz]
  have he : IsEnum ((s.heap.push { cls := .type "tuple_iterator", data := .fields #[.ref t, .int 0 0] }).push
      { cls := .type "enumerate", data := .fields #[.none, .bool false, .ref s.heap.objs.size, rawInt 0, .none, .none] }) (s.heap.objs.size + 1) s.heap.objs.size 0 .none := by
    have := Heap.get?_push_size (s.heap.push { cls := .type "tuple_iterator", data := .fields #[.ref t, .int 0 0] })
      (o := { cls := .type "enumerate", data := .fields #[.none, .bool false, .ref s.heap.objs.size, rawInt 0, .none, .none] }) rfl
    rw [hz] at this; exact this
  refine ⟨⟨_, he, rfl⟩, h _ he ⟨_, Heap.get?_push_of_some _ (Heap.get?_push_size _ rfl), rfl, rfl⟩ (by rw [Heap.size_push, hz]) fun b o x => Heap.get?_push_of_some _ (Heap.get?_push_of_some _ x)⟩
end
end PySem
namespace D2
open PySem PySem.Spec PyProof.Rows L2

/-! ### enumerate(a tuple) -/
def Iet (K : PySem.W.Frag) (a : Addr) : It :=
  ⟨fun i H => ∃ (xs : List V) (x : V), SqT K H a xs ∧ xs[i]? = some x, fun i H v H' => ∃ T x, v = .ref T ∧ H T = none ∧ H' = upd H T (.tup [.int (i : Nat), x]) ∧ ∀ xs, SqT K H a xs → xs[i]? = some x, fun i H => ∃ xs : List V, SqT K H a xs ∧ xs.length ≤ i⟩
theorem turn_enumT {P : Program} {w : World} {K : PySem.W.Frag} {elts : List Expr} {kk : Nat} {tpos : Pos} (a e it : Addr) :
    Turn P w K (.Tuple elts kk tpos) (Iet K a) [e, it] e (fun i h => (∃ old, IsEnum h e it ((i : Nat) : Int) old) ∧ h.IsTupleIter it a i ∧ e ≠ it) where
  mem := by simp
  obj := fun i h st b hb => by
    obtain ⟨⟨old, he⟩, ⟨o, ho, hc, hd⟩, _⟩ := st
    have e' : b = e ∨ b = it := by simpa using hb
    rcases e' with z | z
    · rw [z]; exact ⟨_, he, fun v q => nomatch q⟩
    · rw [z]; exact ⟨o, ho, fun v q => by rw [hd] at q; cases q⟩
  keep := fun i h h' st k => let ⟨⟨old, he⟩, hi, hne⟩ := st; ⟨⟨old, k e (by simp) _ he⟩, hi.at fun o q => k it (by simp) o q, hne⟩
  item := by
    intro X hP hw hK hc i pins s σ H E I hf st hg
    subst hP hw hK
    obtain ⟨⟨old, he⟩, hit, hne⟩ := st
    obtain ⟨xs, x, hq, hx⟩ := hg
    obtain ⟨its, rv, p, hz⟩ := I.tuple hq
    obtain ⟨u, hu, ru⟩ := rv.get hx
    have hel : e < s.heap.objs.size := Heap.lt_size he
    have hil : it < s.heap.objs.size := by obtain ⟨_, q, _⟩ := hit; exact Heap.lt_size q
    have hT : s.heap.IsTuple a its.toArray := p
    have hat : a ≠ it := fun z => by
      obtain ⟨o, ho, hc, hd⟩ := hit
      obtain ⟨o', ho', hc', hd'⟩ := hT
      rw [z, ho] at ho'; cases ho'
      obtain ⟨_, hd'⟩ := hd'
      rw [hd] at hd'; cases hd'
    have hae : e ≠ a := fun z => by
      obtain ⟨o', ho', hc', _, hd'⟩ := hT
      have he' : s.heap.get? a = _ := z ▸ he
      rw [he'] at ho'; cases ho'
      cases hd'
    have hh : X.A.in1.handled = none := I.ok.hd hc
    have D := Draws.tuple (prog := X.prog) (w := X.w) (A := X.A.in1) hh it a hat its.toArray
    have hlt : i < its.toArray.size := by
      have := (List.getElem?_eq_some_iff.mp hu).1
      simpa using this
    refine wpAny_pyNext_enum_itemD D he ⟨hit, hT⟩ hlt hne (by simp only [List.mem_cons, List.not_mem_nil, or_false, not_or]; exact ⟨hne, hae⟩) fun y h' tk hy ho hst hT3 hsz hk => ?_
    have hy' : its[i]? = some y := by simpa using hy
    rw [hu] at hy'
    cases hy'
    refine ⟨_, rfl, wpAny_letOwnedTupleGo_enum (s := { s with heap := h', toks := tk + 1 }) ho fun h'' he' sb => ?_⟩
    have hT2 : h''.get? s.heap.objs.size = some { cls := .type "tuple", data := .seq #[.int i tk, u] } := (sb.2 _ (Nat.ne_of_gt hel)).trans hT3
    have new : ObjOk X.prog X.w (upd H s.heap.objs.size (.tup [.int (i : Nat), x])) h'' s.heap.objs.size (.tup [.int (i : Nat), x]) :=
      ⟨by show 2 ≤ sizeLine; decide, [.int i tk, u], .cons ⟨_, rfl⟩ (.cons ru .nil), ⟨_, hT2, rfl, _, rfl⟩⟩
    have I1 : Inv X pins σ (upd H s.heap.objs.size (.tup [.int (i : Nat), x])) { s with heap := h'', toks := tk + 1 } :=
      I.turnedNew (ch := [e, it]) (fun b ob hb q => (sb.2 b (fun z => hb (by simp [z]))).trans (hk b ob (fun z => hb (by simp [z])) (fun z => hb (by simp [z])) q)) hf (Nat.le_refl _) new
    refine ⟨.ref s.heap.objs.size, _, I1, rfl, ⟨_, x, rfl, I.hok.fresh (Nat.le_refl _), rfl, fun ys hy => by rw [I.tuple_inj hy hq]; exact hx⟩, ⟨⟨u, ?_⟩, hst.1.at fun o q => (sb.2 it (Ne.symm hne)).trans q, hne⟩, fun b hb => ?_⟩
    · have e1 : ((i + 1 : Nat) : Int) = (i : Int) + 1 := by omega
      rw [e1]; exact he'
    · have hb' : b < s.heap.objs.size := by
        have e' : b = e ∨ b = it := by simpa using hb
        rcases e' with z | z
        · rw [z]; exact hel
        · rw [z]; exact hil
      rw [upd_ne (Nat.ne_of_lt hb')]
      exact (hf b hb).1
  done := by
    intro X hP hw hK hc i pins s σ H E I hf st hg
    subst hP hw hK
    obtain ⟨⟨old, he⟩, hit, hne⟩ := st
    obtain ⟨xs, hq, hx⟩ := hg
    obtain ⟨its, rv, p, hz⟩ := I.tuple hq
    obtain ⟨f0, f1, f2, f3, f4, f5⟩ := hf it (by simp)
    have hl := rv.length
    have hT : s.heap.IsTuple a its.toArray := p
    have hT' := hT
    have hh : X.A.in1.handled = none := I.ok.hd hc
    have hsz : its.toArray.size ≤ i := by simp; omega
    unfold pyNext
    refine wpAny_bind (wpAny_attempt (wpAny_callSpecial?_slot (name := Str.ofString "__next__") ⟨_, he, rfl⟩ PySem.F.slot_enumerate_next
      (wpAny_call_entry PySem.F.slot_enumerate_next ⟨_, he, rfl⟩ PySem.F.entry_enumerate_next ?_ (PySem.F.args_enumerate_next_1 _))))
    show wpAny _ _ (field (.ref e) 2 >>= _) _ _ _
    refine wpAny_bind (wpAny_field he rfl (x := .ref it) rfl ?_)
    refine wpAny_bind (wpAny_nextOf_tuple_end hh hit hT (by simp; omega) fun h' x he' hx' => ?_)
    obtain ⟨o, ho, hc⟩ := hx'
    refine wpAny_bind (wpAny_isInstance (T := "StopIteration") (b := true) ⟨o, ho, hc⟩ isSubtype_stop ?_)
    exact wpAny_pure ⟨rfl, I.turned (t' := s.toks) (fun b o hb q => he' b o hb q) f0 f1 f3 f4 f5⟩
  self := fun A i s Q E st h => let ⟨⟨_, he⟩, _⟩ := st; wpAny_pyIter_enum he h
def iEnumT (K : PySem.W.Frag) (ta : TA) : TI := fun σ H R => ta σ H fun vs H1 => ∃ a xs, vs = [.ref a] ∧ SqT K H1 a xs ∧ R (Iet K a) H1
theorem pi_enumT {X : Cx} {e : Expr} {ta : TA} {p pos tpos : Pos} {elts : List Expr} {kk : Nat} (hg : Gl X "enumerate") (hm : X.mg "enumerate" = none) (ha : PA X [e] ta) (hs : starEach [e] X.env = [(false, eval e X.env)] := by rfl) :
    PI X (.Tuple elts kk tpos) (.Call (.Name "enumerate" p) [e] [] pos) (iEnumT X.K ta) := by
  refine ⟨fun pins s σ H R I h => ?_⟩
  refine Call_ (ld_blt I hg hm boot_enumerate (PyProof.Rows.callWith_type1 (thn (ha.run pos pins s σ H _ I h) fun us s1 ⟨vs, H1, I1, r1, q1⟩ => ?_) hs rfl))
  obtain ⟨a, xs, ex, hq, q⟩ := q1
  subst ex
  cases r1 with
  | cons r rr =>
    cases rr
    cases r
    obtain ⟨its, rv, p', hz⟩ := I1.tuple hq
    refine call_enumerate_tuple (show s1.heap.IsTuple a its.toArray from p') fun h' he hit hsz hk => wpAny_pyIter_enum he ?_
    have I2 : Inv X pins σ H1 { s1 with heap := h' } := I1.kept (t' := s1.toks) hk
    refine ⟨s1.heap.objs.size + 1, [s1.heap.objs.size + 1, s1.heap.objs.size], _, _, H1, rfl, I2, turn_enumT a (s1.heap.objs.size + 1) s1.heap.objs.size, ⟨⟨.none, he⟩, hit, Nat.succ_ne_self _⟩, fun b hb => ?_, q⟩
    have e' : b = s1.heap.objs.size + 1 ∨ b = s1.heap.objs.size := by simpa using hb
    have hle : s1.heap.objs.size ≤ b := by
      rcases e' with z | z
      · rw [z]; exact Nat.le_add_right _ _
      · rw [z]; exact Nat.le_refl _
    exact I1.fpOk hle (I1.hok.fresh hle)
section
variable {X : Cx} {W : WX2} {wk : Bool} {pos : Pos}
def oneT : List D → Option (List D)
  | [.tup ds] => some ds
  | _ => none
theorem oneT_eq {ds es : List D} (h : oneT ds = some es) : ds = [.tup es] := by
  match ds, h with
  | [.tup _], rfl => rfl
def mIeT (ms : MA) : MA := fun sg S => (ms sg S).bind fun x => match oneT x.1 with
  | some ds => .ok (enumD 0 ds, x.2)
  | none => .bad
theorem i2_enumT {e : Expr} {ms : MA} {p tpos : Pos} {elts : List Expr} {kk : Nat} (hg : Gl X "enumerate") (hm : X.mg "enumerate" = none) (ha : PA2 X W wk [e] ms) (hs : starEach [e] X.env = [(false, eval e X.env)] := by rfl) :
    PI2 X W wk (.Tuple elts kk tpos) (.Call (.Name "enumerate" p) [e] [] pos) (mIeT ms) := by
  obtain ⟨t, a1, a2⟩ := ha
  refine ⟨_, pi_enumT hg hm a1 hs, fun B H0 as ks ow sg S σ H R r h => ?_⟩
  refine a2 _ _ _ _ _ _ _ _ _ _ r (Den.bind h fun d S1 v H1 e0 e1 s1 q1 h1 => ?_)
  clear e0
  cases ej : oneT d with
  | none => simp only [ej] at h1; exact False.elim h1
  | some ds =>
    simp only [ej] at h1
    rw [oneT_eq ej] at q1
    obtain ⟨x, xs, ev, k1, k2⟩ := q1
    have k2' : xs = [] := k2
    subst k2'
    obtain ⟨a, ys, ex, g1, g2⟩ := id k1
    subst ex
    refine ⟨a, ys, ev, g1, h1 _ H1 Evo.refl s1 ⟨.tup ds, .ref a, k1, fun B2 H2 rp i => ?_⟩⟩
    obtain ⟨a', zs, ev', l1, l2⟩ := rp
    cases ev'
    refine ⟨fun hi => ⟨zs, l1, by rw [enumD_len] at hi; rw [← l2.length]; exact hi⟩, fun d hd => ?_⟩
    obtain ⟨x, hx, ed⟩ := enumD_get hd
    obtain ⟨w, w1, w2⟩ := l2.get hx
    refine ⟨⟨zs, w, l1, w1⟩, fun y H3 ⟨T, z, ey, hT, e3, hz⟩ => ?_⟩
    have := hz zs l1
    rw [w1] at this
    cases this
    subst ey e3 ed
    refine ⟨Evo.new hT, repNewT hT (RepA.cons ?_ (RepA.one w2))⟩
    have e0 : 0 + i = i := Nat.zero_add i
    rw [e0]
    exact rfl
/-! ### index -/
theorem idxD_rep {K : PySem.W.Frag} {as : List Addr} {B : Addr → Prop} {H : Hp} {y : D} {w : V} (hy : Rep K as B H y w) (fy : flatD y = true) : ∀ {ds : List D} {vs : List V} {j : Nat}, RepA K as B H ds vs → ds.all flatD = true → idxD y ds = some j →
    ∃ z, vs[j]? = some z ∧ eqV z w = true ∧ ∀ (m : Nat) (z' : V), m < j → vs[m]? = some z' → eqV z' w = false
  | [], vs, j, h, _, e => by cases e
  | d :: ds, vs, j, h, f, e => by
    obtain ⟨v, ws, ev, h1, h2⟩ := h
    subst ev
    rw [List.all_cons, Bool.and_eq_true] at f
    have q := flatD_eqv h1 hy f.1 fy
    simp only [idxD] at e
    split at e
    · rename_i c
      cases e
      exact ⟨v, rfl, by rw [q]; exact c, fun m z' hm => by cases hm⟩
    · rename_i c
      obtain ⟨k, e1, e2⟩ := Option.map_eq_some_iff.mp e
      subst e2
      obtain ⟨z, z1, z2, z3⟩ := idxD_rep hy fy h2 f.2 e1
      refine ⟨z, by simpa using z1, z2, fun m z' hm hz => ?_⟩
      cases m with
      | zero =>
        simp at hz
        subst hz
        rw [q]
        simpa using c
      | succ m => exact z3 m z' (by omega) (by simpa using hz)
def D.isL : D → Bool
  | .lst _ => true
  | _ => false
def D.isS : D → Bool
  | .str _ => true
  | _ => false
theorem flatA_rep {K : PySem.W.Frag} {as : List Addr} {B : Addr → Prop} {H : Hp} : ∀ {ds : List D} {vs : List V}, RepA K as B H ds vs → ds.all flatD = true → vs.all flatV = true
  | [], vs, h, _ => by
    have e : vs = [] := h
    subst e
    rfl
  | d :: ds, vs, h, f => by
    obtain ⟨v, ws, ev, h1, h2⟩ := h
    subst ev
    rw [List.all_cons, Bool.and_eq_true] at f
    rw [List.all_cons, flatD_rep h1 f.1, flatA_rep h2 f.2]
    rfl
theorem meth_index {K : PySem.W.Frag} : MethOk K wk "list" D.isL D.index (rIndex K) := by
  intro as Bs Bw H x v h1 h2 hr hc
  cases x <;> try (cases hc; done)
  rename_i ds
  obtain ⟨a, xs, ev, nb, g1, g2⟩ := hr
  subst ev
  refine ⟨.inl ⟨rfl, xs, SqL.of g1⟩, fun H2 es vs z Q h3 hr ha e q => ?_⟩
  obtain ⟨a', ys, ev, nb, g1, g2⟩ := hr
  cases ev
  match es, e with
  | [y], e =>
    simp only [D.index] at e
    split at e
    · rename_i c
      rw [Bool.and_eq_true] at c
      obtain ⟨j, e1, e2⟩ := Option.map_eq_some_iff.mp e
      subst e2
      obtain ⟨w, ws, ew, k1, k2⟩ := ha
      have k2' : ws = [] := k2
      subst k2'
      obtain ⟨z, z1, z2, z3⟩ := idxD_rep k1 c.1 g2 c.2 e1
      exact ⟨a, ys, w, j, z, rfl, ew, SqL.of g1, flatD_rep k1 c.1, flatA_rep g2 c.2, z1, z2, z3, q _ _ Evo.refl rfl⟩
    · cases e
/-- index in a tuple of texts that the module holds -/
def idxS (z : Str) : List Str → Option Nat
  | [] => none
  | y :: ys => if y = z then some 0 else (idxS z ys).map (· + 1)
theorem idxS_spec (z : Str) : ∀ (ys : List Str) (j : Nat), idxS z ys = some j → ys[j]? = some z ∧ ∀ m, m < j → ys[m]? ≠ some z
  | [], j, e => by cases e
  | y :: ys, j, e => by
    simp only [idxS] at e
    split at e
    · rename_i c
      cases e
      exact ⟨by simp [c], fun m hm => by cases hm⟩
    · rename_i c
      obtain ⟨k, e1, e2⟩ := Option.map_eq_some_iff.mp e
      subst e2
      obtain ⟨h1, h2⟩ := idxS_spec z ys k e1
      refine ⟨by simpa using h1, fun m hm => ?_⟩
      cases m with
      | zero => simpa using c
      | succ m => simpa using h2 m (by omega)
def D.idxIn (l : List Str) : D → Option D
  | .str z => (idxS z l).map fun (j : Nat) => D.int (j : Int)
  | _ => none
theorem e2_gIdx {x : Str} {px apos : Pos} {a : Addr} {l : List Str} {e : Expr} {m : ME} (hg : Gl X x) (hm : X.mg x = some (.ref a)) (ho : ∃ o, X.K.lookup a = some o ∧ o.cls = .type "tuple" ∧ o.dict = none) (hS : ∀ H, SqT X.K H a (l.map V.str)) (he : PE2 X W wk e m) (hd : (x == ("__debug__" : Str)) = false := by decide)
    (hbase : attributeBase (.Name x px) "index" X.env (eval (.Name x px) X.env) = eval (.Name x px) X.env := by rfl)
    (hfew : ((backTo pos (starEach [e] X.env)).all (fun x => !x.1) && (backToKw pos (keywordEach [] X.env)).all (fun x => x.1.isSome)
      && decide (([e] : List Expr).length + ([] : List Keyword).length + (if ([] : List Keyword).isEmpty then 0 else 1) < 30)) = true := by rfl)
    (hline : (apos.endLine == pos.line) = true := by rfl) (hs : starEach [e] X.env = (false, eval e X.env) :: starEach [] X.env := by rfl) (hplain : (backTo pos (starEach [] X.env)).any (·.1) = false := by rfl) :
    PE2 X W wk (.Call (.Attribute (.Name x px) "index" apos) [e] [] pos) (mUn (D.idxIn l) m) := by
  obtain ⟨t, a1, a2⟩ := he
  refine ⟨_, pe_bm PySem.F.plainAttrs_tuple PySem.F.slot_tuple_index PySem.F.type_tuple_index mt_tup_index (pe_glob (v := V.ref a) hg hm rfl hd) (pa_cons a1 pa_nil hs) hbase hfew hline hs hplain, fun B H0 as ks ow sg S σ H Q r h => ?_⟩
  refine ⟨.inr (.inl ⟨rfl, ho⟩), a2 _ _ _ _ _ _ _ _ _ _ r (Den.bind h fun d S1 v H1 e0 e1 s1 q1 h1 => ?_)⟩
  clear e0
  cases d <;> try exact False.elim h1
  rename_i z
  simp only [D.idxIn] at h1
  cases ei : idxS z l with
  | none => rw [ei] at h1; exact False.elim h1
  | some j =>
    rw [ei] at h1
    have ev : v = .str z := q1
    subst ev
    obtain ⟨h3, h4⟩ := idxS_spec z l j ei
    exact ⟨a, l, z, j, rfl, rfl, hS H1, h3, h4, h1 _ H1 Evo.refl s1 rfl⟩
/-! ### slices -/
abbrev MOp := List Sl → List O → R (Option Int × List O)
def PO2 (X : Cx) (W : WX2) (e : Option Expr) (m : MOp) : Prop := ∃ t : TO, PO X e t ∧ ∀ B H0 as ks ow sg S σ H (Q : Option Int → Hp → Prop), Rl X.K B H0 as ks ow sg S σ H →
  Den (ctOf X W B H0 as ks) ow (fun _ a b => b = a) (m sg S) H Q → t σ H Q
def mNoP : MOp := fun _ S => .ok (none, S)
def mPart (m : ME) : MOp := fun sg S => (m sg S).bind fun x => match x.1 with
  | .int i => .ok (some i, x.2)
  | _ => .bad
theorem o2_none : PO2 X W none mNoP := ⟨_, po_none, fun B H0 as ks ow sg S σ H Q r h => h none H Evo.refl r.sto rfl⟩
theorem o2_some {e : Expr} {m : ME} (h : PE2 X W wk e m) : PO2 X W (some e) (mPart m) := by
  obtain ⟨t, a1, a2⟩ := h
  refine ⟨_, po_some a1, fun B H0 as ks ow sg S σ H Q r h => ?_⟩
  refine a2 _ _ _ _ _ _ _ _ _ _ r (Den.bind h fun d S1 v H1 e0 e1 s1 q1 h1 => ?_)
  clear e0
  cases d <;> try exact False.elim h1
  rename_i i
  exact ⟨i, q1, h1 _ H1 Evo.refl s1 rfl⟩
def cutD (xs : List D) (lo hi : Option Int) : List D := (xs.drop (HT.sIx xs.length 0 lo)).take (HT.sIx xs.length xs.length hi - HT.sIx xs.length 0 lo)
def D.slo (lo hi : Option Int) : D → Option D
  | .lst ds => some (.lst (cutD ds lo hi))
  | .tup ds => some (.tup (cutD ds lo hi))
  | .str z => if z.length ≤ 16777216 then some (.str (cutS z lo hi)) else none
  | _ => none
theorem cut_rep {K : PySem.W.Frag} {as : List Addr} {B : Addr → Prop} {H : Hp} {ds : List D} {xs : List V} (h : RepA K as B H ds xs) (lo hi : Option Int) : RepA K as B H (cutD ds lo hi) (cutV xs lo hi) := by
  unfold cutD cutV
  rw [h.length]
  exact (h.drop _).take _
def rSl2 (K : PySem.W.Frag) : V → Option Int → Option Int → Hp → VK → Prop := fun x lo hi H Q => rSlL K x lo hi H Q ∨ (rSlA K x lo hi H Q ∨ rSlS x lo hi H Q)
theorem sl_all : SlR X (rSl2 X.K) := sl_list.or (sl_tupA.or sl_str)
def mSl (m : ME) (ml mh : MOp) : ME := fun sg S => (m sg S).bind fun x => (ml sg x.2).bind fun l => (mh sg l.2).bind fun u => R.of ((D.slo l.1 u.1 x.1).map fun z => (z, u.2))
theorem e2_slice {e : Expr} {lo hi : Option Expr} {m : ME} {ml mh : MOp} {p2 : Pos} (he : PE2 X W wk e m) (hl : PO2 X W lo ml) (hh : PO2 X W hi mh) : PE2 X W wk (.Subscript e (.Slice lo hi none p2) pos) (mSl m ml mh) := by
  obtain ⟨t, a1, a2⟩ := he
  obtain ⟨u, b1, b2⟩ := hl
  obtain ⟨w, c1, c2⟩ := hh
  refine ⟨_, pe_slice sl_all a1 b1 c1, fun B H0 as ks ow sg S σ H Q r h => ?_⟩
  refine a2 _ _ _ _ _ _ _ _ _ _ r (Den.bind h fun d S1 v H1 _ e1 s1 q1 h1 => ?_)
  have r1 := r.step e1 s1
  refine b2 _ _ _ _ _ _ _ _ _ _ r1 (Den.bind h1 fun l S2 l' H2 _ e2 s2 q2 h2 => ?_)
  have r2 := r1.step e2 s2
  refine c2 _ _ _ _ _ _ _ _ _ _ r2 (Den.bind h2 fun k S3 k' H3 _ e3 s3 q3 h3 => ?_)
  have r3 := r2.step e3 s3
  have q2' : l' = l := q2
  have q3' : k' = k := q3
  subst q2' q3'
  have q1' := Rep.imp (B' := if wk then (· ∈ as) else Bd B ow) (e2.trans e3) (asWk r) (fun _ z => z) _ _ q1
  cases d with
  | lst ds =>
    obtain ⟨a, xs, ev, nb, g1, g2⟩ := q1'
    exact .inl ⟨a, xs, ev, SqL.of g1, fun p hp => h3 _ _ (Evo.new hp) (r3.stoNew (Evo.new hp)) (repNewL r.asBd r3.bdDom hp (cut_rep g2 _ _))⟩
  | tup ds =>
    obtain ⟨a, xs, ev, g1, g2⟩ := q1'
    refine .inr (.inl ⟨a, xs, ev, g1, fun hw => h3 _ _ Evo.refl s3 ⟨a, xs, rfl, g1, ?_⟩, fun _ p hp => h3 _ _ (Evo.new hp) (r3.stoNew (Evo.new hp)) (repNewT hp (cut_rep g2 _ _))⟩)
    have := cut_rep g2 l' k'
    unfold cutV at this
    rw [hw.1, hw.2, List.drop_zero, Nat.sub_zero, List.take_length] at this
    exact this
  | str z =>
    simp only [D.slo] at h3
    split at h3
    · rename_i hz
      exact .inr (.inr ⟨z, q1', lineN hz, h3 _ _ Evo.refl s3 rfl⟩)
    · exact False.elim h3
  | _ => exact False.elim h3
end
end D2

namespace D2
open PySem PySem.Spec PyProof.Rows L2

/-! ### the law's own drawer of numbers: a list that all defs share -/
def spBegin (K : PySem.W.Frag) : Sp := fun vs H Q _ => ∃ (a : Addr) (ns : List Int), vs = [.ref a] ∧ SqL K H a (ns.map V.int) ∧ ns.length ≤ 63 ∧
  ∀ (p q : Addr) (seed : Int) (H' : Hp), 0 ≤ seed → seed < 2147483647 → p ≠ q → Evo (fun _ => False) H H' → H' p = some (.lst [.ref q, .int 0, .int 0, .int seed]) → H' q = some (.lst (ns.map V.int)) → Q (.ref p) H'
def spLaw (K : PySem.W.Frag) : Sp := fun vs H Q _ => ∃ (a : Addr) (ns : List Int), vs = [.ref a] ∧ SqL K H a (ns.map V.int) ∧ ns.length ≤ 63 ∧ ∀ H', Q (.bl true) H'
def drawer (ns : List Int) (seed : Int) : O := .lst [.lst (ns.map D.int), .int 0, .int 0, .int seed]
def lawS (n : Nat) : List Sl := .no :: .val (.ref 0) :: List.replicate n .no
theorem rl_law {K : PySem.W.Frag} {p q : Addr} {ns : List Int} {seed : Int} {H : Hp} {σ : L2.St} {n : Nat} (hσ : σ.length = n + 2) (h1 : σ[1]? = some (some (.ref p))) (npq : p ≠ q) (hp : H p = some (.lst [.ref q, .int 0, .int 0, .int seed])) (hq : H q = some (.lst (ns.map V.int))) :
    Rl K (· = p) H [p] [] (List.replicate (n + 2) none) (lawS n) [drawer ns seed] σ H := by
  have nomem : ∀ a (n : Nat), some a ∉ (List.replicate n none : List (Option Addr)) := fun a n z => by
    have := List.eq_of_mem_replicate z
    cases this
  have bd : ∀ a, Bd (· = p) (List.replicate (n + 2) none) a → a = p := fun a h => h.elim id fun z => absurd z (nomem a _)
  refine ⟨by simp [lawS], by simp [lawS, hσ], fun i s hs => ?_, fun i j a h _ => absurd (List.mem_of_getElem? h) (nomem a _), fun a h => absurd h (nomem a _), fun a h => absurd h (nomem a _), fun a h => ?_, fun a h => List.mem_singleton.mp h, Evo.refl, ⟨rfl, List.pairwise_singleton _ _, fun m o hm => ?_⟩, fun p hp => by cases hp⟩
  · have hl : i < (lawS n).length := (List.getElem?_eq_some_iff.mp hs).1
    have hl' : i < n + 2 := by simpa [lawS] using hl
    have hx : i < σ.length := by omega
    refine ⟨none, σ[i], by rw [List.getElem?_replicate, if_pos hl'], List.getElem?_eq_getElem hx, ?_⟩
    match i, hs, hx with
    | 0, hs, hx => cases hs; rfl
    | 1, hs, hx =>
      cases hs
      refine ⟨rfl, .ref p, ?_, p, rfl, rfl⟩
      rw [List.getElem?_eq_getElem hx] at h1
      exact Option.some.inj h1
    | i + 2, hs, hx =>
      have hs' : (List.replicate n Sl.no)[i]? = some s := hs
      rw [List.getElem?_replicate] at hs'
      split at hs'
      · cases hs'; rfl
      · cases hs'
  · rw [h, hp]
    exact fun z => nomatch z
  · match m, hm with
    | 0, hm =>
      cases hm
      refine ⟨p, rfl, [.ref q, .int 0, .int 0, .int seed], hp, .ref q, _, rfl, ⟨q, _, rfl, fun z => npq (bd q z).symm, hq, rep_ints ns⟩, .int 0, _, rfl, rfl, .int 0, _, rfl, rfl, .int seed, _, rfl, rfl, rfl⟩
    | m + 1, hm => cases hm
theorem sqL_ints {K : PySem.W.Frag} {H : Hp} {a : Addr} {ns : List Int} (h : SqL K H a (ns.map V.int)) {i : Nat} {x : V} (e : (ns.map V.int)[i]? = some x) : ∃ z, x = V.int z := by
  rw [List.getElem?_map] at e
  cases q : ns[i]? with
  | none => rw [q] at e; cases e
  | some z => rw [q] at e; exact ⟨z, (Option.some.inj e).symm⟩
theorem units64 {A : Around} {k : Nat} (hr : Room k A) : A.units + 64 < cLine := Nat.lt_of_le_of_lt (by omega) hr.un
/-! constants of the module: tuples of texts -/
def strsOf : List Value → Option (List Str)
  | [] => some []
  | .str x _ :: vs => (strsOf vs).map (x :: ·)
  | _ :: _ => none
theorem vals_strs : ∀ {vs : List Value} {l : List Str}, strsOf vs = some l → Vals (l.map V.str) vs
  | [], l, h => by cases h; exact .nil
  | v :: vs, l, h => by
    cases v <;> try (cases h; done)
    rename_i x t
    simp only [strsOf, Option.map_eq_some_iff] at h
    obtain ⟨ms, h1, h2⟩ := h
    subst h2
    exact .cons ⟨_, rfl⟩ (vals_strs h1)
theorem sqT_const {K : PySem.W.Frag} {H : Hp} {a : Addr} {od : Option Addr} {osl : Array (Option Value)} {its : Array Value} {n : Nat} {l : List Str} (h : K.lookup a = some ⟨.type "tuple", od, .seq its n, osl⟩) (hv : strsOf its.toList = some l) (hl : l.length ≤ sizeLine) : SqT K H a (l.map V.str) := by
  have q := vals_strs hv
  refine .inr ⟨_, its, n, h, rfl, rfl, ?_, q⟩
  have := q.length
  rw [List.length_map] at this
  simp at this
  omega
theorem rep_const {K : PySem.W.Frag} {as : List Addr} {B : Addr → Prop} {H : Hp} {a : Addr} {od : Option Addr} {osl : Array (Option Value)} {its : Array Value} {n : Nat} {l : List Str} (h : K.lookup a = some ⟨.type "tuple", od, .seq its n, osl⟩) (hv : strsOf its.toList = some l) (hl : l.length ≤ sizeLine) : Rep K as B H (.tup (l.map D.str)) (.ref a) :=
  ⟨a, _, rfl, sqT_const h hv hl, rep_strs l⟩
/-- walking the top: as in the guides, for spLaw -/
theorem walkL {l : PySem.W.OpenLaw} {q : Program} {loose : List Str} {XP : (Str → Option Value) → Heap → Prop} {YP : World → Heap → Prop} {d : DefRec} {K : Params → PySem.W.Frag} {k : Nat} (hn : l.most = some 63) (hdf : d.params.defaults = []) (hr : Room k callerA)
    (hY : ∀ (w : World) (h : Heap), YP w h → (K w.params).In h)
    (F : ∀ (w : World) (mg : Str → Option Value) (fa : Addr) (h : Heap), (K w.params).In h → h.Ns mainGlobals mg → mg d.name = some (.ref fa) →
      ∃ fd : FuncData, (∀ (s : Shared) (u : Value), BindsTo s fd ⟨[u], []⟩ [("script", u)]) ∧ ∀ base : Heap, (K w.params).In base → base.Ns mainGlobals mg → FnOk l.prog w (K w.params) mg base CX0 k fa fd ["script"] (spLaw (K w.params))) :
    PySem.W.WalkO q loose XP YP l.row.toRowW d [] (fun f vs => PySem.call f vs) :=
  L2.walk_of (n := 63) (k := k) (x := "script") (CX := fun _ => CX0) (sp := fun w => spLaw (K w.params)) hn (by decide) hdf hr hY F (fun _ _ a ns hl _ hS => ⟨a, ns, rfl, hS, hl, fun _ => rfl⟩) fun _ _ _ _ _ z => z
end D2

namespace D2
open PySem PySem.Spec PyProof.Rows L2

section
variable {X : Cx} {W : WX2} {wk wk' : Bool} {pos : Pos}
/-! ### ranges whose bounds read a name's own object; ranges with a step -/
theorem i2_rng1x {tg a : Expr} {ms : MA} {p : Pos} (hg : Gl X "range") (hm : X.mg "range" = none) (ha : PA2 X W wk [a] ms) (hs : starEach [a] X.env = [(false, eval a X.env)] := by rfl) : PI2 X W wk' tg (.Call (.Name "range" p) [a] [] pos) (mIr1 ms) := by
  obtain ⟨t, a1, a2⟩ := ha
  refine ⟨_, pi_range1 hg hm a1 hs, fun B H0 as ks ow sg S σ H R r h => ?_⟩
  refine a2 _ _ _ _ _ _ _ _ _ _ r (Den.bind h fun d S1 v H1 e0 e1 s1 q1 h1 => ?_)
  clear e0
  cases ej : one1 d with
  | none => simp only [ej] at h1; exact False.elim h1
  | some j =>
    simp only [ej] at h1
    have ev := one1_rep q1 ej
    by_cases hc : lim62 j = true
    · simp only [if_pos hc] at h1
      have hc' := lim62_of hc
      refine ⟨j, ev, hc'.1, hc'.2, h1 _ H1 Evo.refl s1 ⟨.non, .non, rfl, fun B2 H2 _ i => ⟨fun hi => by rw [rngD_len] at hi; exact hi, fun d hd => ?_⟩⟩⟩
      obtain ⟨hi, ed⟩ := rngD_get hd
      refine ⟨hi, fun x H3 ⟨e3, ex⟩ => ?_⟩
      subst e3 ex ed
      exact ⟨Evo.refl, rfl⟩
    · simp only [if_neg hc] at h1
      exact False.elim h1
theorem i2_rng2x {tg a b : Expr} {ms : MA} {p : Pos} (hg : Gl X "range") (hm : X.mg "range" = none) (ha : PA2 X W wk [a, b] ms) (hs : starEach [a, b] X.env = [(false, eval a X.env), (false, eval b X.env)] := by rfl) (hs2 : starEach [b] X.env = [(false, eval b X.env)] := by rfl) :
    PI2 X W wk' tg (.Call (.Name "range" p) [a, b] [] pos) (mIr2 ms) := by
  obtain ⟨t, a1, a2⟩ := ha
  refine ⟨_, pi_range2 hg hm a1 hs hs2, fun B H0 as ks ow sg S σ H R r h => ?_⟩
  refine a2 _ _ _ _ _ _ _ _ _ _ r (Den.bind h fun d S1 v H1 e0 e1 s1 q1 h1 => ?_)
  clear e0
  cases ej : two2 d with
  | none => simp only [ej] at h1; exact False.elim h1
  | some p =>
    obtain ⟨i, j⟩ := p
    simp only [ej] at h1
    have ev := two2_rep q1 ej
    by_cases hc : (lim62 i && lim62 j) = true
    · simp only [if_pos hc] at h1
      rw [Bool.and_eq_true] at hc
      have c1 := lim62_of hc.1
      have c2 := lim62_of hc.2
      refine ⟨i, j, ev, ⟨c1.1, c1.2, c2.1, c2.2⟩, h1 _ H1 Evo.refl s1 ⟨.non, .non, rfl, fun B2 H2 _ k => ⟨fun hi => by rw [rngD_len] at hi; exact hi, fun d hd => ?_⟩⟩⟩
      obtain ⟨hi, ed⟩ := rngD_get hd
      refine ⟨hi, fun x H3 ⟨e3, ex⟩ => ?_⟩
      subst e3 ex ed
      exact ⟨Evo.refl, rfl⟩
    · simp only [if_neg hc] at h1
      exact False.elim h1
def rngC (lo c : Int) (n : Nat) : List D := (List.range n).map fun (k : Nat) => D.int (lo + (k : Int) * c)
theorem rngC_len (lo c : Int) (n : Nat) : (rngC lo c n).length = n := by simp [rngC]
theorem rngC_get {lo c : Int} {n i : Nat} {d : D} (h : (rngC lo c n)[i]? = some d) : i < n ∧ d = .int (lo + (i : Int) * c) := by
  unfold rngC at h
  rw [List.getElem?_map] at h
  by_cases hi : i < n
  · rw [List.getElem?_range hi] at h
    exact ⟨hi, (Option.some.inj h).symm⟩
  · rw [List.getElem?_eq_none (by simpa using hi)] at h
    cases h
def thr3 : List D → Option (Int × Int × Int)
  | [.int i, .int j, .int k] => some (i, j, k)
  | _ => none
theorem thr3_rep {K : PySem.W.Frag} {as : List Addr} {B : Addr → Prop} {H : Hp} {ds : List D} {vs : List V} {i j k : Int} (h : RepA K as B H ds vs) (e : thr3 ds = some (i, j, k)) : vs = [.int i, .int j, .int k] := by
  match ds, e, h with
  | [.int i, .int j, .int k], rfl, h =>
    obtain ⟨x, xs, ev, k1, y, ys, ev2, k2, z, zs, ev3, k4, k5⟩ := h
    have k5' : zs = [] := k5
    have k1' : x = .int i := k1
    have k2' : y = .int j := k2
    have k4' : z = .int k := k4
    rw [ev, ev2, ev3, k1', k2', k4', k5']
def rgOk (i j c : Int) : Bool := decide (0 < c ∧ c < 1073741824) && Builtin.Range.small i j c
def mIr3 (ms : MA) : MA := fun sg S => (ms sg S).bind fun x => match thr3 x.1 with
  | some (i, j, c) => if rgOk i j c = true then .ok (rngC i c (Builtin.Range.rangeSize i j c).toNat, x.2) else .bad
  | none => .bad
theorem rgOk_of {i j c : Int} (h : rgOk i j c = true) : RgC i j c (Builtin.Range.rangeSize i j c).toNat := by
  unfold rgOk at h
  rw [Bool.and_eq_true] at h
  have h1 : 0 < c ∧ c < 1073741824 := of_decide_eq_true h.1
  refine ⟨by omega, by omega, h.2, ?_⟩
  have h0 : 0 ≤ Builtin.Range.rangeSize i j c := by
    unfold Builtin.Range.rangeSize
    split
    · split
      · rename_i h2 h3
        have := Int.ediv_nonneg (a := j - i - 1) (b := c) (by omega) (by omega)
        first | omega | (show (0 : Int) ≤ _; omega)
      · omega
    · first | omega | (split <;> omega)
  omega
theorem i2_rng3x {tg a b c : Expr} {ms : MA} {p : Pos} (hg : Gl X "range") (hm : X.mg "range" = none) (ha : PA2 X W wk [a, b, c] ms) (hs : starEach [a, b, c] X.env = (false, eval a X.env) :: starEach [b, c] X.env := by rfl) (hpl : (backTo pos (starEach [b, c] X.env)).any (·.1) = false := by rfl) :
    PI2 X W wk' tg (.Call (.Name "range" p) [a, b, c] [] pos) (mIr3 ms) := by
  obtain ⟨t, a1, a2⟩ := ha
  refine ⟨_, pi_range3 hg hm a1 hs hpl, fun B H0 as ks ow sg S σ H R r h => ?_⟩
  refine a2 _ _ _ _ _ _ _ _ _ _ r (Den.bind h fun d S1 v H1 e0 e1 s1 q1 h1 => ?_)
  clear e0
  cases ej : thr3 d with
  | none => simp only [ej] at h1; exact False.elim h1
  | some p =>
    obtain ⟨i, j, c⟩ := p
    simp only [ej] at h1
    have ev := thr3_rep q1 ej
    by_cases hc : rgOk i j c = true
    · simp only [if_pos hc] at h1
      refine ⟨i, j, c, _, ev, rgOk_of hc, h1 _ H1 Evo.refl s1 ⟨.non, .non, rfl, fun B2 H2 _ k => ⟨fun hi => by rw [rngC_len] at hi; exact hi, fun d hd => ?_⟩⟩⟩
      obtain ⟨hi, ed⟩ := rngC_get hd
      refine ⟨hi, fun x H3 ⟨e3, ex⟩ => ?_⟩
      subst e3 ex ed
      exact ⟨Evo.refl, rfl⟩
    · simp only [if_neg hc] at h1
      exact False.elim h1
/-! ### list(range(n)) -/
def oLrg (m : ME) : MO := fun sg S => (m sg S).bind fun x => match x.1 with
  | .int n => if decide (0 ≤ n ∧ n ≤ 16777216) = true then .ok (.lst (rngD 0 n.toNat), x.2) else .bad
  | _ => .bad
theorem repA_map {K : PySem.W.Frag} {as : List Addr} {B : Addr → Prop} {H : Hp} {α : Type} {f : α → D} {g : α → V} : ∀ {l : List α}, (∀ x ∈ l, Rep K as B H (f x) (g x)) → RepA K as B H (l.map f) (l.map g)
  | [], _ => rfl
  | x :: l, h => RepA.cons (h x List.mem_cons_self) (repA_map fun y hy => h y (List.mem_cons_of_mem _ hy))
theorem f2_lrng {e : Expr} {m : ME} {p p2 q : Pos} (hc : X.calm = true) (hg : Gl X "list") (hm : X.mg "list" = none) (hg2 : Gl X "range") (hm2 : X.mg "range" = none) (he : PE2 X W wk e m)
    (n1 : starEach [e] X.env = (false, eval e X.env) :: starEach [] X.env := by rfl) (n2 : starEach [.Call (.Name "range" p2) [e] [] q] X.env = (false, eval (.Call (.Name "range" p2) [e] [] q) X.env) :: starEach [] X.env := by rfl) :
    PF2 X W (.Call (.Name "list" p) [.Call (.Name "range" p2) [e] [] q] [] pos) (oLrg m) := by
  obtain ⟨t, a1, a2⟩ := he
  refine ⟨_, pe_listRg hc hg hm (prg_1 hg2 hm2 a1 n1) n2, fun B H0 as ks ow sg S σ H Q r h => ?_⟩
  refine a2 _ _ _ _ _ _ _ _ _ _ r (DenO.bind h fun x S1 v H1 c1 e1 s1 q1 h1 => ?_)
  clear c1
  cases x <;> try exact False.elim h1
  rename_i n
  by_cases hl : 0 ≤ n ∧ n ≤ 16777216
  · simp only [decide_eq_true hl, if_true] at h1
    refine ⟨n, q1, RgOk.of_le (Int.le_refl _) hl.2 (by decide) hl.1, fun p hp => h1 p _ hp (Evo.new hp) (boxNew hp s1) ⟨rgV 0 n, upd_same, boxNewA hp ?_⟩⟩
    unfold rgV rngD
    rw [Int.sub_zero]
    exact repA_map fun k _ => rfl
  · simp only [decide_eq_false hl] at h1
    exact False.elim h1
/-! ### tests x is None -/
theorem t2_isN {a : Expr} {m : ME} {j pos'} (h : PE2 X W wk a m) : PT2 X W (.Compare a [.Is] [.Constant .none j pos'] pos) (mTst (mIsN false m)) := by
  obtain ⟨t, h1, h2⟩ := h
  refine ⟨_, pt_cmp (pc_isN h1) rfl, fun B H0 as ks ow sg S σ H Q r h => ?_⟩
  rw [show mTst (mIsN false m) sg S = (m sg S).bind (fun x => .ok ((match x.1 with | .non => true | _ => false), x.2)) from by
    unfold mTst mIsN
    cases m sg S with
    | ok x => rfl
    | ex => rfl
    | bad => rfl] at h
  refine h2 _ _ _ _ _ _ _ _ _ _ r (Den.bind h fun d S1 v H1 e0 e1 s1 q1 h1 => ?_)
  refine ⟨decide (v = V.non), rfl, ?_⟩
  rw [isN_rep q1]
  exact h1 _ H1 Evo.refl s1 (by cases d <;> rfl)
theorem t2_notN {a : Expr} {m : ME} {j pos'} (h : PE2 X W wk a m) : PT2 X W (.Compare a [.IsNot] [.Constant .none j pos'] pos) (mTst (mIsN true m)) := by
  obtain ⟨t, h1, h2⟩ := h
  refine ⟨_, pt_cmp (pc_notN h1) rfl, fun B H0 as ks ow sg S σ H Q r h => ?_⟩
  rw [show mTst (mIsN true m) sg S = (m sg S).bind (fun x => .ok ((match x.1 with | .non => false | _ => true), x.2)) from by
    unfold mTst mIsN
    cases m sg S with
    | ok x => rfl
    | ex => rfl
    | bad => rfl] at h
  refine h2 _ _ _ _ _ _ _ _ _ _ r (Den.bind h fun d S1 v H1 e0 e1 s1 q1 h1 => ?_)
  refine ⟨!decide (v = V.non), rfl, ?_⟩
  rw [isN_rep q1]
  exact h1 _ H1 Evo.refl s1 (by cases d <;> rfl)
/-! ### x.append(y.pop(e)) -/
def popAt (ys : List D) (k : Int) : Option (List D × D) := if decide (0 ≤ k ∧ k < (ys.length : Int) ∧ k < 4611686018427387904) = true then match ys[k.toNat]? with
    | some d => some (ys.eraseIdx k.toNat, d)
    | none => none
  else none
def mAppPop (i j : Nat) (m : ME) : MS := fun sg S => match sg[i]?, sg[j]? with
  | some (.own (.lst xs)), some (.own (.lst ys)) => (m sg S).bind fun z => match z.1 with
    | .int k => match popAt ys k with
      | some (ys', d) => if xs.length < 16777216 then .ok (.nx, (sg.set j (.own (.lst ys'))).set i (.own (.lst (xs ++ [d]))), z.2) else .bad
      | none => .bad
    | _ => .bad
  | _, _ => .bad
theorem RepA.eraseIdx {K : PySem.W.Frag} {as : List Addr} {B : Addr → Prop} {H : Hp} : ∀ {ds : List D} {xs : List V} (n : Nat), RepA K as B H ds xs → RepA K as B H (ds.eraseIdx n) (xs.eraseIdx n)
  | [], xs, n, h => by
    have e : xs = [] := h
    subst e
    exact rfl
  | d :: ds, xs, 0, h => by
    obtain ⟨v, vs, e1, h1, h2⟩ := h
    subst e1
    exact h2
  | d :: ds, xs, n + 1, h => by
    obtain ⟨v, vs, e1, h1, h2⟩ := h
    subst e1
    exact RepA.cons h1 (RepA.eraseIdx n h2)
theorem s2_appPop (i j : Nat) {x y : Str} {px py apos cpos apos2 cpos2 : Pos} {e : Expr} {me : ME} (hij : i ≠ j)
    (pa : PlainAttrs "list") (slot : Slot "list" "append" "list.append") (hty : typeOf (.builtin "list.append") = pure (.type "method_descriptor")) (slot2 : Slot "list" "pop" "list.pop") (hty2 : typeOf (.builtin "list.pop") = pure (.type "method_descriptor")) (he : PE2 X W wk e me)
    (hN : X.N[i]? = some x := by rfl) (hv : Vis X.env.scope x := by first | exact Or.inl rfl | exact Or.inr (Or.inl rfl) | exact Or.inr (Or.inr rfl)) (hd : (x == ("__debug__" : Str)) = false := by decide) (hcd : (x == ("__classdict__" : Str)) = false := by decide)
    (hN2 : X.N[j]? = some y := by rfl) (hv2 : Vis X.env.scope y := by first | exact Or.inl rfl | exact Or.inr (Or.inl rfl) | exact Or.inr (Or.inr rfl)) (hd2 : (y == ("__debug__" : Str)) = false := by decide) (hcd2 : (y == ("__classdict__" : Str)) = false := by decide)
    (b2 : attributeBase (.Name y py) "pop" X.env (eval (.Name y py) X.env) = eval (.Name y py) X.env := by rfl)
    (f2 : ((backTo cpos2 (starEach [e] X.env)).all (fun x => !x.1) && (backToKw cpos2 (keywordEach [] X.env)).all (fun x => x.1.isSome)
      && decide (([e] : List Expr).length + ([] : List Keyword).length + (if ([] : List Keyword).isEmpty then 0 else 1) < 30)) = true := by rfl)
    (l2 : (apos2.endLine == cpos2.line) = true := by rfl) (s2 : starEach [e] X.env = (false, eval e X.env) :: starEach [] X.env := by rfl) (p2 : (backTo cpos2 (starEach [] X.env)).any (·.1) = false := by rfl)
    (b1 : attributeBase (.Name x px) "append" X.env (eval (.Name x px) X.env) = eval (.Name x px) X.env := by rfl)
    (f1 : ((backTo cpos (starEach [.Call (.Attribute (.Name y py) "pop" apos2) [e] [] cpos2] X.env)).all (fun x => !x.1) && (backToKw cpos (keywordEach [] X.env)).all (fun x => x.1.isSome)
      && decide (([.Call (.Attribute (.Name y py) "pop" apos2) [e] [] cpos2] : List Expr).length + ([] : List Keyword).length + (if ([] : List Keyword).isEmpty then 0 else 1) < 30)) = true := by rfl)
    (l1 : (apos.endLine == cpos.line) = true := by rfl) (s1 : starEach [.Call (.Attribute (.Name y py) "pop" apos2) [e] [] cpos2] X.env = (false, eval (.Call (.Attribute (.Name y py) "pop" apos2) [e] [] cpos2) X.env) :: starEach [] X.env := by rfl) (p1 : (backTo cpos (starEach [] X.env)).any (·.1) = false := by rfl)
    (hsw : swapsWith (.Call (.Attribute (.Name x px) "append" apos) [.Call (.Attribute (.Name y py) "pop" apos2) [e] [] cpos2] [] cpos) none pos.line X.env = pure false := by rfl) :
    PS2 X W (.Expr (.Call (.Attribute (.Name x px) "append" apos) [.Call (.Attribute (.Name y py) "pop" apos2) [e] [] cpos2] [] cpos) pos) (mAppPop i j me) := by
  obtain ⟨t, a1, a2⟩ := he
  refine ⟨_, ps_expr (pe_bm pa slot hty mt_append (pe_var hN hv hd hcd) (pa_cons (pe_bm pa slot2 hty2 mt_popAt (pe_var hN2 hv2 hd2 hcd2) (pa_cons a1 pa_nil s2) b2 f2 l2 s2 p2) pa_nil s1) b1 f1 l1 s1 p1) hsw, fun B H0 as ks ow sg S σ H Dd r h => ?_⟩
  unfold mAppPop at h
  cases ei : sg[i]? with
  | none => simp only [ei] at h; exact False.elim h
  | some si =>
    cases si with
    | no => simp only [ei] at h; exact False.elim h
    | val d => simp only [ei] at h; exact False.elim h
    | own oi =>
      cases oi with
      | dic _ _ => simp only [ei] at h; exact False.elim h
      | lst xs =>
        cases ej : sg[j]? with
        | none => simp only [ei, ej] at h; exact False.elim h
        | some sj =>
          cases sj with
          | no => simp only [ei, ej] at h; exact False.elim h
          | val d => simp only [ei, ej] at h; exact False.elim h
          | own oj =>
            cases oj with
            | dic _ _ => simp only [ei, ej] at h; exact False.elim h
            | lst ys =>
              simp only [ei, ej] at h
              obtain ⟨wi, xi, i1, i2, a, i3, i4, i5⟩ := r.sl i _ ei
              subst i3 i4
              obtain ⟨wj, xj, j1, j2, b, j3, j4, j5⟩ := r.sl j _ ej
              subst j3 j4
              obtain ⟨vs, v1, v2⟩ := i5
              obtain ⟨us, u1, u2⟩ := j5
              refine ⟨_, i2, tyL v1, ⟨_, j2, tyL u1, a2 _ _ _ _ _ _ _ _ _ _ r (DenS.bindE h fun d S1 v H1 c1 e1 s1 q1 h1 => ?_)⟩⟩
              clear c1
              cases d <;> try exact False.elim h1
              rename_i k
              have ev : v = .int k := q1
              subst ev
              have r1 := r.step e1 s1
              simp only [popAt] at h1
              by_cases hk : 0 ≤ k ∧ k < (ys.length : Int) ∧ k < 4611686018427387904
              · simp only [decide_eq_true hk, if_true] at h1
                have hb : k.toNat < ys.length := by omega
                rw [List.getElem?_eq_getElem hb] at h1
                simp only [] at h1
                by_cases hl : xs.length < 16777216
                · rw [if_pos hl] at h1
                  obtain ⟨us', w1, w2⟩ : ORep X.K as (Bd B ow) H1 (.lst ys) b := ORep.imp e1 r.asBd (fun _ z => z) _ b (r.ownAs (List.mem_of_getElem? j1)) ⟨us, u1, u2⟩
                  obtain ⟨z, z1, z2⟩ := w2.get (List.getElem?_eq_getElem hb)
                  refine ⟨b, us', k, k.toNat, z, rfl, rfl, w1, by omega, by omega, ?_, z1, ?_⟩
                  · unfold seqIndex?
                    rw [← w2.length]
                    have e0 : ¬ k < 0 := by omega
                    simp only [if_neg e0]
                    rw [if_pos (by simp; omega)]
                  · have mj := List.mem_of_getElem? j1
                    have mi := List.mem_of_getElem? i1
                    have r2 := r1.putOwn (o' := .lst (ys.eraseIdx k.toNat)) (u := .lst (us'.eraseIdx k.toNat)) ej j1 ⟨us'.eraseIdx k.toNat, upd_same, put_rep w1 (fun _ z => by cases z) (fun _ _ z => by cases z) (.inr mj) (w2.eraseIdx _)⟩
                    have z2' := Rep.imp (W := (· = b)) (B' := Bd B ow) (Evo.put (o' := .lst (us'.eraseIdx k.toNat)) w1 (fun _ z => by cases z) (fun _ _ z => by cases z) rfl) (fun c z => z ▸ .inr mj) (fun _ z => z) _ _ z2
                    have ei2 : (sg.set j (.own (.lst (ys.eraseIdx k.toNat))))[i]? = some (.own (.lst xs)) := by rw [List.getElem?_set_ne (Ne.symm hij)]; exact ei
                    obtain ⟨wi2, xi2, k1, k2, a', k3, k4, k5⟩ := r2.sl i _ ei2
                    rw [i1] at k1
                    cases k1
                    cases k3
                    obtain ⟨vs', g1, g2⟩ := k5
                    refine ⟨a, vs', z, rfl, rfl, g1, lineL (by rw [← g2.length]; exact hl), ?_⟩
                    exact h1 _ _ _ (r2.putOwn ei2 i1 ⟨vs' ++ [z], upd_same, put_rep g1 (fun _ z => by cases z) (fun _ _ z => by cases z) (.inr mi) (g2.append (RepA.one z2'))⟩)
                · rw [if_neg hl] at h1
                  exact False.elim h1
              · simp only [decide_eq_false hk] at h1
                exact False.elim h1
end

/-! ### sorted(set(x)), x a list of tuples of ints: those that differ, ascending -/
def insU (n : List Int) : List (List Int) → List (List Int)
  | [] => [n]
  | m :: ms => if n = m then m :: ms else if TS.code 1000000 n < TS.code 1000000 m then n :: m :: ms else m :: insU n ms
def sortU : List (List Int) → List (List Int)
  | [] => []
  | n :: ns => insU n (sortU ns)
theorem mem_insU {n x : List Int} : ∀ {l : List (List Int)}, x ∈ insU n l ↔ x = n ∨ x ∈ l
  | [] => by simp [insU]
  | m :: ms => by
    unfold insU
    split
    · rename_i h
      subst h
      simp
    · split
      · simp
      · rw [List.mem_cons, mem_insU (l := ms), List.mem_cons]
        constructor
        · rintro (h | h | h)
          · exact .inr (.inl h)
          · exact .inl h
          · exact .inr (.inr h)
        · rintro (h | h | h)
          · exact .inr (.inl h)
          · exact .inl h
          · exact .inr (.inr h)
theorem mem_sortU {x : List Int} : ∀ {l : List (List Int)}, x ∈ sortU l ↔ x ∈ l
  | [] => by simp [sortU]
  | n :: ns => by rw [sortU, mem_insU, mem_sortU, List.mem_cons]
theorem code_inj {B : Int} : ∀ {r q : List Int}, r.length = q.length → TS.Bd B r → TS.Bd B q → TS.code B r = TS.code B q → r = q
  | [], [], _, _, _, _ => rfl
  | [], _ :: _, h, _, _, _ => by cases h
  | _ :: _, [], h, _, _, _ => by cases h
  | d :: r, e :: q, h, h1, h2, hc => by
    have hl : r.length = q.length := by simpa using h
    rcases Int.lt_trichotomy d e with c | c | c
    · have := TS.code_lt hl h1.tail h2.tail c
      omega
    · subst c
      have hc' : TS.code B r = TS.code B q := by
        rcases Int.lt_trichotomy (TS.code B r) (TS.code B q) with k | k | k
        · have := (TS.code_same (d := d) hl).mpr k
          omega
        · exact k
        · have := (TS.code_same (d := d) hl.symm).mpr k
          omega
      rw [code_inj hl h1.tail h2.tail hc']
    · have := TS.code_lt hl.symm h2.tail h1.tail c
      omega
def U3 (d : Nat) (n : List Int) : Prop := n.length = d ∧ TS.Bd 1000000 n
theorem insU_sorted {d : Nat} {n : List Int} (hn : U3 d n) : ∀ {l : List (List Int)}, (∀ m ∈ l, U3 d m) → l.Pairwise (fun a b => TS.code 1000000 a < TS.code 1000000 b) → (insU n l).Pairwise (fun a b => TS.code 1000000 a < TS.code 1000000 b)
  | [], _, _ => List.pairwise_singleton _ _
  | m :: ms, hu, hp => by
    obtain ⟨p1, p2⟩ := List.pairwise_cons.mp hp
    unfold insU
    split
    · exact hp
    · rename_i hne
      split
      · rename_i hlt
        refine List.pairwise_cons.mpr ⟨fun y hy => ?_, hp⟩
        rcases List.mem_cons.mp hy with e | hy
        · rw [e]; exact hlt
        · exact Int.lt_trans hlt (p1 y hy)
      · rename_i hlt
        refine List.pairwise_cons.mpr ⟨fun y hy => ?_, insU_sorted hn (fun x hx => hu x (List.mem_cons_of_mem _ hx)) p2⟩
        rcases mem_insU.mp hy with e | hy
        · rw [e]
          have hm := hu m List.mem_cons_self
          have : TS.code 1000000 n ≠ TS.code 1000000 m := fun z => hne (code_inj (hn.1.trans hm.1.symm) hn.2 hm.2 z)
          omega
        · exact p1 y hy
theorem sortU_sorted {d : Nat} : ∀ {l : List (List Int)}, (∀ m ∈ l, U3 d m) → (sortU l).Pairwise (fun a b => TS.code 1000000 a < TS.code 1000000 b)
  | [], _ => List.Pairwise.nil
  | n :: ns, hu => insU_sorted (hu n List.mem_cons_self) (fun m hm => hu m (List.mem_cons_of_mem _ (mem_sortU.mp hm))) (sortU_sorted fun m hm => hu m (List.mem_cons_of_mem _ hm))
theorem strict_one {α : Type} {f : α → Int} : ∀ {l m : List α}, l.Pairwise (fun a b => f a < f b) → m.Pairwise (fun a b => f a < f b) → (∀ x, x ∈ l ↔ x ∈ m) → l = m
  | [], [], _, _, _ => rfl
  | [], y :: m, _, _, h => absurd ((h y).mpr List.mem_cons_self) (by simp)
  | x :: l, [], _, _, h => absurd ((h x).mp List.mem_cons_self) (by simp)
  | x :: l, y :: m, hl, hm, h => by
    obtain ⟨l1, l2⟩ := List.pairwise_cons.mp hl
    obtain ⟨m1, m2⟩ := List.pairwise_cons.mp hm
    have exy : x = y := by
      rcases List.mem_cons.mp ((h x).mp List.mem_cons_self) with e | hx
      · exact e
      · rcases List.mem_cons.mp ((h y).mpr List.mem_cons_self) with e | hy
        · exact e.symm
        · have h1 := l1 y hy
          have h2 := m1 x hx
          omega
    subst exy
    rw [strict_one l2 m2 fun z => ?_]
    constructor
    · intro hz
      rcases List.mem_cons.mp ((h z).mp (List.mem_cons_of_mem _ hz)) with e | hz2
      · subst e
        have := l1 z hz
        omega
      · exact hz2
    · intro hz
      rcases List.mem_cons.mp ((h z).mpr (List.mem_cons_of_mem _ hz)) with e | hz2
      · subst e
        have := m1 z hz
        omega
      · exact hz2
def tupI (ns : List Int) : D := .tup (ns.map D.int)
def tupsOf : List D → Option (List (List Int))
  | [] => some []
  | .tup ds :: r => match D.ints ds, tupsOf r with
    | some n, some m => some (n :: m)
    | _, _ => none
  | _ => none
theorem tupsOf_map : ∀ l : List (List Int), tupsOf (l.map tupI) = some l
  | [] => rfl
  | n :: l => by
    rw [List.map_cons, tupI, tupsOf, ints_map, tupsOf_map l]
def okU (l : List (List Int)) : Bool := decide (l.length < 64) && l.all fun ns => decide (ns.length = (l.headD []).length) && (decide (1 ≤ ns.length) && ns.all fun i => decide (0 ≤ i ∧ i < 1000000))
def D.sset : D → Option D
  | .lst ds => match tupsOf ds with
    | some l => if okU l = true then some (.lst ((sortU l).map tupI)) else none
    | none => none
  | _ => none
section
variable {K : PySem.W.Frag} {as : List Addr} {B : Addr → Prop} {H : Hp}
theorem tups_rep : ∀ {ds : List D} {vs : List V} {l : List (List Int)}, RepA K as B H ds vs → tupsOf ds = some l → ∃ ks : List (Addr × List Int), vs = (ks.map fun p => V.ref p.1) ∧ ks.map (·.2) = l ∧ ∀ p ∈ ks, SqT K H p.1 (p.2.map V.int)
  | [], vs, l, h, e => by
    have e' : vs = [] := h
    subst e'
    cases e
    exact ⟨[], rfl, rfl, fun p hp => by cases hp⟩
  | d :: ds, vs, l, h, e => by
    obtain ⟨v, ws, e1, h1, h2⟩ := h
    subst e1
    cases d <;> try (cases e; done)
    rename_i es
    simp only [tupsOf] at e
    split at e
    · rename_i n m hn hm
      cases e
      obtain ⟨ks, k1, k2, k3⟩ := tups_rep h2 hm
      obtain ⟨a, xs, ev, g1, g2⟩ := h1
      subst ev k1
      rw [ints_rep g2 hn] at g1
      refine ⟨(a, n) :: ks, rfl, by rw [List.map_cons, k2], fun p hp => ?_⟩
      rcases List.mem_cons.mp hp with e | hp
      · subst e; exact g1
      · exact k3 p hp
    · cases e
theorem rep_tups : ∀ {ks : List (Addr × List Int)}, (∀ p ∈ ks, SqT K H p.1 (p.2.map V.int)) → RepA K as B H ((ks.map (·.2)).map tupI) (ks.map fun p => V.ref p.1)
  | [], _ => rfl
  | p :: ks, h => RepA.cons ⟨p.1, p.2.map V.int, rfl, h p List.mem_cons_self, rep_ints _⟩ (rep_tups fun q hq => h q (List.mem_cons_of_mem _ hq))
end
theorem okU_of {l : List (List Int)} (h : okU l = true) : l.length < 64 ∧ ∃ d, 1 ≤ d ∧ ∀ n ∈ l, U3 d n := by
  unfold okU at h
  rw [Bool.and_eq_true, List.all_eq_true] at h
  refine ⟨of_decide_eq_true h.1, ?_⟩
  cases l with
  | nil => exact ⟨1, Nat.le_refl _, fun n hn => by cases hn⟩
  | cons m l =>
    refine ⟨m.length, ?_, fun n hn => ?_⟩
    · have := h.2 m List.mem_cons_self
      rw [Bool.and_eq_true, Bool.and_eq_true] at this
      exact of_decide_eq_true this.2.1
    · have := h.2 n hn
      rw [Bool.and_eq_true, Bool.and_eq_true, List.all_eq_true] at this
      exact ⟨of_decide_eq_true this.1, fun i hi => of_decide_eq_true (this.2.2 i hi)⟩
section
variable {X : Cx} {W : WX2} {wk : Bool} {pos : Pos}
theorem e2_sset {e : Expr} {m : ME} {p p2 q : Pos} (hc : X.calm = true) (hu : X.A.units + 64 < cLine) (hg : Gl X "sorted") (hm : X.mg "sorted" = none) (hg2 : Gl X "set") (hm2 : X.mg "set" = none) (he : PE2 X W wk e m)
    (v1 : bootBuiltins "sorted" = some (.builtin "sorted") := by decide +kernel) (v2 : bootBuiltins "set" = some (.type "set") := by decide +kernel)
    (n1 : starEach [e] X.env = (false, eval e X.env) :: starEach [] X.env := by rfl) (n2 : starEach [.Call (.Name "set" p2) [e] [] q] X.env = (false, eval (.Call (.Name "set" p2) [e] [] q) X.env) :: starEach [] X.env := by rfl)
    (pl1 : (backTo q (starEach [] X.env)).any (·.1) = false := by rfl) (pl2 : (backTo pos (starEach [] X.env)).any (·.1) = false := by rfl) :
    PE2 X W wk (.Call (.Name "sorted" p) [.Call (.Name "set" p2) [e] [] q] [] pos) (mUn D.sset m) := by
  obtain ⟨t, a1, a2⟩ := he
  refine ⟨_, pe_callB (cr_sortedT hc) hg hm v1 (pa_cons (pe_callTy (cr_setOfT hc hu) hg2 hm2 v2 (pa_cons a1 pa_nil n1) (by decide) (by decide) n1 pl1) pa_nil n2) (by decide) (by decide) n2 pl2, fun B H0 as ks ow sg S σ H Q r h => ?_⟩
  refine a2 _ _ _ _ _ _ _ _ _ _ r (Den.bind h fun d S1 v H1 e0 e1 s1 q1 h1 => ?_)
  clear e0
  have r1 := r.step e1 s1
  cases es : D.sset d with
  | none => simp only [es] at h1; exact False.elim h1
  | some z =>
    simp only [es] at h1
    cases d <;> try (cases es; done)
    rename_i ds
    simp only [D.sset] at es
    split at es
    · rename_i l hl
      split at es
      · rename_i hok
        cases es
        obtain ⟨h64, dd, hd1, hU⟩ := okU_of hok
        obtain ⟨a, xs, ev, nb, g1, g2⟩ := q1
        subst ev
        obtain ⟨kk, k1, k2, k3⟩ := tups_rep g2 hl
        subst k1
        refine ⟨a, kk, rfl, SqL.of g1, k3, by rw [← k2, List.length_map] at h64; exact h64, fun b L hb l1 l2 => ?_⟩
        have k3' : ∀ p ∈ L, SqT X.K (upd H1 b (SetTO X.prog X.w b L)) p.1 (p.2.map V.int) := fun p hp => (Evo.new (W := fun _ => False) hb).sqT (k3 p (l1 p hp))
        have hUL : ∀ p ∈ L, U3 dd p.2 := fun p hp => hU p.2 (by rw [← k2]; exact List.mem_map.mpr ⟨p, l1 p hp, rfl⟩)
        refine ⟨b, L, dd, 1000000, rfl, upd_same, k3', hd1, hUL, fun L' c pm nd hf pw hcn => ?_⟩
        have hcb : c ≠ b := fun z => by subst z; rw [upd_same] at hcn; cases hcn
        have hc1 : H1 c = none := by rw [upd_ne hcb] at hcn; exact hcn
        have eL : L'.map (·.2) = sortU l := by
          refine strict_one (f := TS.code 1000000) ?_ (sortU_sorted hU) fun x => ?_
          · rw [List.pairwise_map]
            have nd' := List.pairwise_map.mp nd
            refine (nd'.and pw).imp_of_mem fun {x y} hx hy hxy => ?_
            have hx' := hUL x (pm.mem_iff.mp hx)
            have hy' := hUL y (pm.mem_iff.mp hy)
            have : TS.code 1000000 x.2 ≠ TS.code 1000000 y.2 := fun z => hxy.1 (code_inj (hx'.1.trans hy'.1.symm) hx'.2 hy'.2 z)
            have := hxy.2
            omega
          · rw [mem_sortU, ← k2, List.mem_map, List.mem_map]
            constructor
            · rintro ⟨p, hp, e⟩
              exact ⟨p, l1 p (pm.mem_iff.mp hp), e⟩
            · rintro ⟨p, hp, e⟩
              obtain ⟨p', hp', e'⟩ := List.mem_map.mp (l2 p hp)
              exact ⟨p', pm.mem_iff.mpr hp', e'.trans e⟩
        have ev3 : Evo (fun _ => False) H1 (upd (upd H1 b (SetTO X.prog X.w b L)) c (.lst (L'.map fun q => V.ref q.1))) := (Evo.new hb).trans (Evo.new hcn)
        refine h1 _ _ ev3.any (r1.stoNew ev3) ⟨c, _, rfl, newB r.asBd r1.bdDom hc1, upd_same, ?_⟩
        rw [← eL]
        refine RepA.new hcn (rep_tups fun p hp => k3' p (pm.mem_iff.mp hp))
      · cases es
    · cases es
end
/-! ### constants of the module: tuples of ints -/
def intsOf : List Value → Option (List Int)
  | [] => some []
  | .int x _ :: vs => (intsOf vs).map (x :: ·)
  | _ :: _ => none
theorem vals_ints : ∀ {vs : List Value} {l : List Int}, intsOf vs = some l → Vals (l.map V.int) vs
  | [], l, h => by cases h; exact .nil
  | v :: vs, l, h => by
    cases v <;> try (cases h; done)
    rename_i x t
    simp only [intsOf, Option.map_eq_some_iff] at h
    obtain ⟨ms, h1, h2⟩ := h
    subst h2
    exact .cons ⟨_, rfl⟩ (vals_ints h1)
theorem rep_constI {K : PySem.W.Frag} {as : List Addr} {B : Addr → Prop} {H : Hp} {a : Addr} {od : Option Addr} {osl : Array (Option Value)} {its : Array Value} {n : Nat} {l : List Int} (h : K.lookup a = some ⟨.type "tuple", od, .seq its n, osl⟩) (hv : intsOf its.toList = some l) (hl : l.length ≤ sizeLine) : Rep K as B H (.tup (l.map D.int)) (.ref a) := by
  have q := vals_ints hv
  refine ⟨a, _, rfl, .inr ⟨_, its, n, h, rfl, rfl, ?_, q⟩, rep_ints l⟩
  have := q.length
  rw [List.length_map] at this
  simp at this
  omega
end D2

namespace D2
open PySem PySem.Spec PyProof.Rows L2
/-! ### set(x), x a list of ints: its members stay known to sorted -/
section
variable {Pg : Program} {u : World} {Ar : Around} {Ex : Value → Shared → Prop} {sh : Shared}
theorem lst_vals {its : Array Value} {zs : List Int} (hz : IntsAre its.toList zs) : its.size = zs.length ∧ ∀ (j : Nat) (v : Value), its[j]? = some v → ∃ k t, zs[j]? = some k ∧ v = .int k t := by
  have q := hz.length
  rw [Array.length_toList] at q
  refine ⟨q, fun j v hv => ?_⟩
  have hj := (Array.getElem?_eq_some_iff.mp hv).1
  rw [q] at hj
  obtain ⟨t, et⟩ := IntsAre.int_at hz j v (by rwa [Array.getElem?_toList])
  exact ⟨zs[j], t, List.getElem?_eq_getElem hj, by rw [et, List.getD_eq_getElem?_getD, List.getElem?_eq_getElem hj] <;> rfl⟩
theorem set_of_lst {al : Addr} {its : Array Value} (zs : List Int) {Qq : Value → Shared → Prop} (un : Ar.handled = none) (li : sh.heap.IsList al its) (hz : IntsAre its.toList zs) (sm : zs.length + 1 < scanBound)
    (go : ∀ (hp : Heap) (tk n : Nat), SetR u hp sh.heap.objs.size (fun j => decide (j ∈ zs)) n → n ≤ zs.length → (∀ b o, sh.heap.get? b = some o → hp.get? b = some o) → Qq (.ref sh.heap.objs.size) { sh with heap := hp, toks := tk }) :
    wpAny (model Pg u) Ar (call (.type "set") [.ref al]) Qq Ex sh := by
  obtain ⟨sz, vals⟩ := lst_vals hz
  obtain ⟨cc, rest, mro0⟩ := F.called_set.mro
  have k1 := F.called_set.made; have k2 := F.called_set.sub; have k3 := F.called_set.notType; have k4 := F.called_set.canCreate; have k5 := F.typeCall_set_1 (.ref al)
  refine wpAny_call (codeAny_of_tree (?_ : wpAny _ _ (callAny (.type "set") _) _ _ _))
  refine wpAny_pure ⟨Code.quiet_builtin _ (by decide +kernel), codeAny_builtin F.entry_type_call (?_)⟩
  rw [Around.under_plain (weight_type_call_type "set" [Value.ref al] []) rfl]
  repeat (any_goals (first | assumption | wp_step; done | wp_step))
  refine codeAny_mono (code_set_led1 (.ref al) (E := Ex) (Q₁ := fun ob s1 => ob = .ref sh.heap.objs.size ∧ s1 = { sh with heap := sh.heap.push ({ cls := .type "set", dict := none, data := .set #[] 0 (.fresh 0 0 (!u.params.followText "set-order")) } : Obj) }) ⟨rfl, rfl⟩) fun r0 s1 hr0 => ?_
  match r0, hr0 with
  | .error e0, hr0 => exact hr0
  | .ok (.ret ob), hr0 =>
    obtain ⟨rfl, rfl⟩ := hr0
    have at0 : (sh.heap.push ({ cls := .type "set", dict := none, data := .set #[] 0 (.fresh 0 0 (!u.params.followText "set-order")) } : Obj)).get? sh.heap.objs.size = some ({ cls := .type "set", dict := none, data := .set #[] 0 (.fresh 0 0 (!u.params.followText "set-order")) } : Obj) := Heap.get?_push_size _ rfl
    have ty0 : Shared.TypeIs { sh with heap := sh.heap.push ({ cls := .type "set", dict := none, data := .set #[] 0 (.fresh 0 0 (!u.params.followText "set-order")) } : Obj) } (.ref sh.heap.objs.size) "set" := ⟨_, at0, rfl⟩
    have k6 := F.called_set.init.lookup; have k7 := F.called_set.init.bind (.ref sh.heap.objs.size)
    repeat (any_goals (first | assumption | wp_step; done | wp_step))
    refine codeAny_mono (codeAny_call_builtin (R := wants (fun r2 s2 => r2 = .none ∧ ∃ hp tk n, s2 = { sh with heap := hp, toks := tk } ∧ SetR u hp sh.heap.objs.size (fun j => decide (j ∈ zs)) n ∧ n ≤ zs.length ∧ (∀ b o, sh.heap.get? b = some o → hp.get? b = some o)) Ex)
      F.called_set.init.plain F.entry_set_init (check_set_init_1 ty0 ?inn)) fun r2 s2 hr2 => ?outt
    case outt =>
      match r2, hr2 with
      | .error e2, hr2 => exact hr2
      | .ok (.ret v2), hr2 =>
        obtain ⟨rfl, hp, tk, n, rfl, y1, y2, y3⟩ := hr2
        repeat (any_goals (first | assumption | wp_step; done | wp_step))
        exact go _ _ _ y1 y2 y3
    case inn =>
      obtain ⟨⟨oc, od, ot, os⟩, g0, c0, nn, d0⟩ := li
      simp only at c0 d0
      subst c0 d0
      have g1 : (sh.heap.push ({ cls := .type "set", dict := none, data := .set #[] 0 (.fresh 0 0 (!u.params.followText "set-order")) } : Obj)).get? al = some { cls := .type "list", dict := od, data := .seq its nn, slots := os } := Heap.get?_push_of_some _ g0
      have li1 : (sh.heap.push ({ cls := .type "set", dict := none, data := .set #[] 0 (.fresh 0 0 (!u.params.followText "set-order")) } : Obj)).IsList al its := ⟨_, g1, rfl, nn, rfl⟩
      have q1 := F.sub_list_set; have q2 := F.sub_list_frozenset; have q3 : (Value.type "list" == Value.type "dict") = false := by decide
      unfold Builtin.«set.__init__» noKeywords Builtin.Frozenset.updateFrom
      generalize eP : pyIter = PP
      wp_walk
      subst eP
      refine wpAny_pyIter_list li1 (wpAny_bind (wpAny_runValue ?_))
      have below : al < sh.heap.objs.size := Heap.lt_size g0
      have un3 : Ar.in1.in1.in1.handled = none := by simp only [un, Around.in1]
      have sz1 : (sh.heap.push ({ cls := .type "set", dict := none, data := .set #[] 0 (.fresh 0 0 (!u.params.followText "set-order")) } : Obj)).objs.size = sh.heap.objs.size + 1 := Heap.size_push ..
      have far : al ≠ (sh.heap.push ({ cls := .type "set", dict := none, data := .set #[] 0 (.fresh 0 0 (!u.params.followText "set-order")) } : Obj)).objs.size := by rw [sz1]; exact Nat.ne_of_lt (Nat.lt_succ_of_lt below)
      have out0 : sh.heap.objs.size ∉ [(sh.heap.push ({ cls := .type "set", dict := none, data := .set #[] 0 (.fresh 0 0 (!u.params.followText "set-order")) } : Obj)).objs.size, al] := by
        rw [sz1]
        simp only [List.mem_cons, List.not_mem_nil, or_false, not_or]
        exact And.intro (Nat.ne_of_lt (Nat.lt_succ_self _)) (Nat.ne_of_gt below)
      refine set_update_ints ((Walks.list un3 _ al far its).toS) sh.heap.objs.size out0 zs sz sm vals (its.size - 0) 0 _ (by omega) (Nat.zero_le _) ⟨⟨_, Heap.get?_push_size _ rfl, rfl, rfl⟩, (li1.push _)⟩ ⟨0, Nat.le_refl 0, setR_new_at (Heap.get?_push_of_some _ at0)⟩ fun s9 n9 mv hn9 sr9 => ?_
      obtain ⟨hp9, gn9, dr9, tk9, os9⟩ := s9
      obtain rfl : gn9 = sh.gens := mv.gens
      obtain rfl : dr9 = sh.drawn := mv.drawn
      obtain rfl : os9 = sh.os := mv.os
      refine wpAny_pure (?_ : wpAny _ _ (ret Value.none) _ _ _)
      rw [sz] at hn9
      refine wpAny_pure ⟨rfl, hp9, tk9, n9, rfl, sr9, hn9, fun b o eb => ?_⟩
      have lb : b < sh.heap.objs.size := Heap.lt_size eb
      refine mv.heap b o (fun z => ?_) (Heap.get?_push_of_some _ (Heap.get?_push_of_some _ eb))
      rw [sz1] at z
      simp only [List.mem_cons, List.not_mem_nil, or_false] at z
      exact z.elim (fun z => Nat.ne_of_lt lb z) fun z => Nat.ne_of_lt (Nat.lt_succ_of_lt lb) z
end
end D2
namespace D2
open PySem PySem.Spec PyProof.Rows L2
def rSetLst (K : PySem.W.Frag) (u : World) : List V → Hp → VK → Prop := fun xs H Q => ∃ (l : Addr) (zs : List Int), xs = [V.ref l] ∧ SqL K H l (zs.map V.int) ∧ zs.length < 64 ∧ ∀ a n, H a = none → n ≤ zs.length → Q (.ref a) (upd H a (SetO u a (fun j => decide (j ∈ zs)) n))
theorem cr_setLst {X : Cx} (calm : X.calm = true) : CallR X (.type "set") (rSetLst X.K X.w) := by
  intro pins s σ H xs us Q I r h
  obtain ⟨l, zs, rfl, sq, few, q⟩ := h
  obtain ⟨its, rv, pl, _⟩ := I.list sq
  rw [Vals.ref1 r]
  refine set_of_lst zs (I.ok.hd calm) pl.isList (by simpa using L2.intsAre_of rv) (by unfold scanBound; omega) fun hp tk n R hn keep => ?_
  exact ⟨.ref s.heap.objs.size, upd H s.heap.objs.size (SetO X.w s.heap.objs.size (fun j => decide (j ∈ zs)) n), I.laid (t' := tk) keep (Nat.le_refl _) (setO_new R), rfl, q _ _ (I.hok.fresh (Nat.le_refl _)) hn⟩
/-- those that differ, ascending -/
def insS (n : Int) : List Int → List Int
  | [] => [n]
  | m :: ms => if n = m then m :: ms else if n < m then n :: m :: ms else m :: insS n ms
def sortS : List Int → List Int
  | [] => []
  | n :: ns => insS n (sortS ns)
theorem mem_insS {n x : Int} : ∀ {l : List Int}, x ∈ insS n l ↔ x = n ∨ x ∈ l
  | [] => by simp [insS]
  | m :: ms => by
    unfold insS
    split
    · rename_i h
      subst h
      simp
    · split
      · simp
      · rw [List.mem_cons, mem_insS (l := ms), List.mem_cons]
        constructor
        · rintro (h | h | h)
          · exact .inr (.inl h)
          · exact .inl h
          · exact .inr (.inr h)
        · rintro (h | h | h)
          · exact .inr (.inl h)
          · exact .inl h
          · exact .inr (.inr h)
theorem mem_sortS {x : Int} : ∀ {l : List Int}, x ∈ sortS l ↔ x ∈ l
  | [] => by simp [sortS]
  | n :: ns => by rw [sortS, mem_insS, mem_sortS, List.mem_cons]
theorem insS_sorted {n : Int} : ∀ {l : List Int}, l.Pairwise (· < ·) → (insS n l).Pairwise (· < ·)
  | [], _ => List.pairwise_singleton _ _
  | m :: ms, hp => by
    obtain ⟨p1, p2⟩ := List.pairwise_cons.mp hp
    unfold insS
    split
    · exact hp
    · split
      · refine List.pairwise_cons.mpr ⟨fun y hy => ?_, hp⟩
        rcases List.mem_cons.mp hy with e | hy
        · omega
        · have := p1 y hy
          omega
      · refine List.pairwise_cons.mpr ⟨fun y hy => ?_, insS_sorted p2⟩
        rcases mem_insS.mp hy with e | hy
        · omega
        · exact p1 y hy
theorem sortS_sorted : ∀ {l : List Int}, (sortS l).Pairwise (· < ·)
  | [] => List.Pairwise.nil
  | n :: ns => insS_sorted sortS_sorted
theorem insS_len {n : Int} : ∀ {l : List Int}, (insS n l).length ≤ l.length + 1
  | [] => Nat.le_refl _
  | m :: ms => by
    unfold insS
    split
    · simp
    · split
      · simp
      · have := insS_len (n := n) (l := ms)
        simp
        omega
theorem sortS_len : ∀ {l : List Int}, (sortS l).length ≤ l.length
  | [] => Nat.le_refl _
  | n :: ns => Nat.le_trans insS_len (Nat.succ_le_succ sortS_len)
def D.ssetI : D → Option D := D.intsL fun ns => if ns.length < 64 then some (.lst ((sortS ns).map D.int)) else none
section
variable {X : Cx} {W : WX2} {wk : Bool} {pos : Pos}
theorem e2_ssetI {e : Expr} {m : ME} {p p2 q : Pos} (hc : X.calm = true) (hu : X.A.units + 64 < cLine) (hg : Gl X "sorted") (hm : X.mg "sorted" = none) (hg2 : Gl X "set") (hm2 : X.mg "set" = none) (he : PE2 X W wk e m)
    (v1 : bootBuiltins "sorted" = some (.builtin "sorted") := by decide +kernel) (v2 : bootBuiltins "set" = some (.type "set") := by decide +kernel)
    (n1 : starEach [e] X.env = (false, eval e X.env) :: starEach [] X.env := by rfl) (n2 : starEach [.Call (.Name "set" p2) [e] [] q] X.env = (false, eval (.Call (.Name "set" p2) [e] [] q) X.env) :: starEach [] X.env := by rfl)
    (pl1 : (backTo q (starEach [] X.env)).any (·.1) = false := by rfl) (pl2 : (backTo pos (starEach [] X.env)).any (·.1) = false := by rfl) :
    PE2 X W wk (.Call (.Name "sorted" p) [.Call (.Name "set" p2) [e] [] q] [] pos) (mUn D.ssetI m) := by
  obtain ⟨t, a1, a2⟩ := he
  refine ⟨_, pe_callB (cr_sortedSet hc) hg hm v1 (pa_cons (pe_callTy (cr_setLst hc) hg2 hm2 v2 (pa_cons a1 pa_nil n1) (by decide) (by decide) n1 pl1) pa_nil n2) (by decide) (by decide) n2 pl2, fun B H0 as ks ow sg S σ H Q r h => ?_⟩
  refine a2 _ _ _ _ _ _ _ _ _ _ r (Den.bind h fun d S1 v H1 e0 e1 s1 q1 h1 => ?_)
  clear e0
  have r1 := r.step e1 s1
  cases es : D.ssetI d with
  | none => simp only [es] at h1; exact False.elim h1
  | some z =>
    simp only [es] at h1
    obtain ⟨a, ns, ev, g, e2⟩ := intsL_rep q1 es
    subst ev
    split at e2
    · rename_i h64
      cases e2
      refine ⟨a, ns, rfl, SqL.of g, h64, fun b n hb hn => ⟨b, _, n, rfl, upd_same, by omega, fun ms c pw hmem hlen hcn => ?_⟩⟩
      have hcb : c ≠ b := fun z => by subst z; rw [upd_same] at hcn; cases hcn
      have hc1 : H1 c = none := by rw [upd_ne hcb] at hcn; exact hcn
      have em : ms = sortS ns := strict_one (f := fun x => x) pw sortS_sorted fun x => by
        rw [hmem, mem_sortS]
        exact decide_eq_true_iff
      subst em
      have ev3 : Evo (fun _ => False) H1 (upd (upd H1 b (SetO X.w b (fun j => decide (j ∈ ns)) n)) c (.lst ((sortS ns).map V.int))) := (Evo.new hb).trans (Evo.new hcn)
      exact h1 _ _ ev3.any (r1.stoNew ev3) ⟨c, _, rfl, newB r.asBd r1.bdDom hc1, upd_same, rep_ints _⟩
    · cases e2
end
end D2

namespace D2
open PySem PySem.Spec PyProof.Rows L2
section
variable {X : Cx} {W : WX2} {wk : Bool} {pos : Pos}
/-! ### a range as a value -/
theorem cr_range1 : CallR X (.type "range") (fun vs H Q => ∃ j, vs = [V.int j] ∧ ∀ p, H p = none → Q (.ref p) (upd H p (.rng 0 j))) := by
  intro pins s σ H vs us Q I r h
  obtain ⟨j, rfl, q⟩ := h
  cases r with
  | cons r rr =>
    cases rr
    obtain ⟨t, rfl⟩ := r
    refine call_range_1 ⟨.ref s.heap.objs.size, upd H s.heap.objs.size (.rng 0 j), I.laid (t' := _) (fun b o e => Heap.get?_push_of_some _ e) (Nat.le_refl _) ?_, rfl, q _ (I.hok.fresh (Nat.le_refl _))⟩
    exact ⟨_, _, _, Heap.get?_push_size _ rfl⟩
def D.mkRng : D → Option D
  | .int j => if lim62 j = true then some (.rng 0 j) else none
  | _ => none
theorem ok_rng1 {K : PySem.W.Frag} : CallOk K wk (on1 D.mkRng) (fun vs H Q => ∃ j, vs = [V.int j] ∧ ∀ p, H p = none → Q (.ref p) (upd H p (.rng 0 j))) := by
  refine ok_on1 fun as Bs Bw H d z v Q h1 h2 hr e q => ?_
  cases d <;> try (cases e; done)
  rename_i j
  simp only [D.mkRng] at e
  split at e
  · cases e
    exact ⟨j, congrArg (fun x => [x]) hr, fun p hp => q _ _ (Evo.new hp) ⟨p, rfl, newB h1 h2 hp, upd_same⟩⟩
  · cases e
def iRngV (tl : TE) : TI := fun σ H R => tl σ H fun x H1 => ∃ a lo hi, x = .ref a ∧ H1 a = some (.rng lo hi) ∧ (-(2 ^ 62) ≤ lo ∧ lo < 2 ^ 62 ∧ -(2 ^ 62) ≤ hi ∧ hi < 2 ^ 62) ∧ R (Itr lo (hi - lo).toNat) H1
theorem pi_rngV {tg l : Expr} {tl : TE} (hl : PE X l tl) : PI X tg l (iRngV tl) := by
  refine ⟨fun pins s σ H R I h => ?_⟩
  refine thn (hl.run pins s σ H _ I h) fun v s1 ⟨x, H1, I1, r1, q1⟩ => ?_
  obtain ⟨a, lo, hi, e, ha, ⟨b1, b2, b3, b4⟩, q⟩ := q1
  subst e
  cases r1
  obtain ⟨t, u, w, hg⟩ : ∃ t u v, s1.heap.get? a = some { cls := .type "range", data := .fields #[.int lo t, .int hi u, .int 1 v] } := I1.hok a _ ha
  refine wpAny_pyIter_range (t := t) (u := u) (v := w) hg (small_one b1 b2 b3 b4) ⟨s1.heap.objs.size, [s1.heap.objs.size], _, _, H1, rfl, I1.kept (t' := s1.toks) fun b o e => Heap.get?_push_of_some _ e, turn_range _ lo (hi - lo).toNat, ?_, fun b hb => ?_, q⟩
  · have e1 : lo + ((0 : Nat) : Int) * 1 = lo := by simp
    have e2 : (((hi - lo).toNat : Nat) : Int) - ((0 : Nat) : Int) = Builtin.Range.rangeSize lo hi 1 := by rw [rangeSize_one]; split <;> omega
    show IsRangeIter _ _ (lo + ((0 : Nat) : Int) * 1) ((((hi - lo).toNat : Nat) : Int) - ((0 : Nat) : Int)) 1
    rw [e1, e2]; exact Heap.get?_push_size _ rfl
  · rw [show b = s1.heap.objs.size by simpa using hb]
    exact I1.fpOk (Nat.le_refl _) (I1.hok.fresh (Nat.le_refl _))
def mIrv (m : ME) : MA := fun sg S => (m sg S).bind fun x => match x.1 with
  | .rng lo hi => if (lim62 lo && lim62 hi) = true then .ok (rngD lo (hi - lo).toNat, x.2) else .bad
  | _ => .bad
theorem i2_rngV {tg e : Expr} {m : ME} (h : PE2 X W wk e m) : PI2 X W wk tg e (mIrv m) := by
  obtain ⟨t, a1, a2⟩ := h
  refine ⟨_, pi_rngV a1, fun B H0 as ks ow sg S σ H R r h => ?_⟩
  refine a2 _ _ _ _ _ _ _ _ _ _ r (Den.bind h fun d S1 v H1 e0 e1 s1 q1 h1 => ?_)
  clear e0
  cases d <;> try exact False.elim h1
  rename_i lo hi
  obtain ⟨a, ev, nb, g1⟩ := id q1
  simp only [] at h1
  by_cases hc : (lim62 lo && lim62 hi) = true
  · rw [if_pos hc] at h1
    rw [Bool.and_eq_true] at hc
    have c1 := lim62_of hc.1
    have c2 := lim62_of hc.2
    refine ⟨a, lo, hi, ev, g1, ⟨c1.1, c1.2, c2.1, c2.2⟩, h1 _ H1 Evo.refl s1 ⟨.non, .non, rfl, fun B2 H2 _ k => ⟨fun hk => by rw [rngD_len] at hk; exact hk, fun d hd => ?_⟩⟩⟩
    obtain ⟨hi2, ed⟩ := rngD_get hd
    refine ⟨hi2, fun x H3 ⟨e3, ex⟩ => ?_⟩
    subst e3 ex ed
    exact ⟨Evo.refl, rfl⟩
  · rw [if_neg hc] at h1
    exact False.elim h1
/-! ### (*xs, e, ..) -/
def unroll : D → Option (List D)
  | .tup ds => some ds
  | .lst ds => some ds
  | _ => none
def mStar (m : ME) (ms : MA) : MA := fun sg S => (m sg S).bind fun x => match unroll x.1 with
  | some ds => (ms sg x.2).bind fun y => .ok (ds ++ y.1, y.2)
  | none => .bad
theorem a2_star {e : Expr} {p : Pos} {es : List Expr} {m : ME} {ms : MA} (he : PE2 X W wk e m) (hr : PA2 X W wk es ms) (hs : starEach (.Starred e p :: es) X.env = (true, eval e X.env) :: starEach es X.env := by rfl) : PA2 X W wk (.Starred e p :: es) (mStar m ms) := by
  obtain ⟨t, h1, h2⟩ := he
  obtain ⟨u, g1, g2⟩ := hr
  refine ⟨_, StX.pa_star h1 g1 hs, fun B H0 as ks ow sg S σ H Q r h => ?_⟩
  refine h2 _ _ _ _ _ _ _ _ _ _ r (Den.bind h fun d S1 v H1 e0 e1 s1 q1 h1 => ?_)
  clear e0
  have r1 := r.step e1 s1
  cases eu : unroll d with
  | none => simp only [eu] at h1; exact False.elim h1
  | some ds =>
    simp only [eu] at h1
    have both : ∃ a xs, v = V.ref a ∧ (SqT X.K H1 a xs ∨ SqL X.K H1 a xs) ∧ RepA X.K as (if wk then (· ∈ as) else Bd B ow) H1 ds xs := by
      cases d <;> try (cases eu; done)
      · cases eu
        obtain ⟨a, xs, ev, k1, k2⟩ := q1
        exact ⟨a, xs, ev, .inl k1, k2⟩
      · cases eu
        obtain ⟨a, xs, ev, nb, k1, k2⟩ := q1
        exact ⟨a, xs, ev, .inr (SqL.of k1), k2⟩
    obtain ⟨a, xs, ev, hsq, hre⟩ := both
    refine ⟨a, xs, ev, hsq, g2 _ _ _ _ _ _ _ _ _ _ r1 (Den.bind h1 fun ys S2 ws H2 c2 e2 s2 q2 h2 => ?_)⟩
    clear c2
    refine h2 _ H2 Evo.refl s2 (RepA.append ?_ q2)
    exact RepA.imp (B' := if wk then (· ∈ as) else Bd B ow) e2 (asWk r) (fun _ z => z) _ _ hre
/-! ### never reached -/
def mNever : MS := fun _ _ => .bad
theorem s2_never {st : Stmt} : PS2 X W st mNever := ⟨_, ps_never, fun B H0 as ks ow sg S σ H Dd r h => False.elim h⟩
end
end D2

namespace D2
open PySem PySem.Spec PyProof.Rows L2
/-! ### max(x, default=d), x a list of ints -/
section
variable {Pg : Program} {u : World} {Ar : Around} {Ex : Value → Shared → Prop}
theorem max_args (a d : Value) : argsOk "max" ⟨[a], [(Str.ofString "default", d)]⟩ := by unfold argsOk; kernel_rfl
/-- a built-in with keywords that goes on as another code -/
theorem kw_tree {id : String} {b : Builtin} {args : List Value} {kw : List (Str × Value)} {Qq : Value → Shared → Prop} {sh : Shared} (k1 : builtinKind id = none) (k2 : plainId id = true) (k3 : entryFor table id = some b) (k4 : argsOk id ⟨args, kw⟩)
    (run : wpAny (model Pg u) Ar.in1 (b ⟨args, kw⟩) (fun fin sh' => match fin with
      | .done f => (match (Except.ok f : Result) with | .ok (.ret v) => Qq v sh' | .ok _ => False | .error e => Ex e sh')
      | .again c' => c'.quiet = true ∧ codeAny (model Pg u) Ar c' (fun r sh'' => match r with | .ok (.ret v) => Qq v sh'' | .ok _ => False | .error e => Ex e sh'') sh') Ex sh) : wpAny (model Pg u) Ar (call (.builtin id) args kw) Qq Ex sh := by
  refine wpAny_call (codeAny_call_builtin k2 k3 (?_ : wpAny _ _ _ _ _ _))
  simp only [checkBuiltinCall, k1]
  generalize esig : Manifest.signature? id = sg
  cases sg with
  | none => exact wpAny_pure run
  | some g =>
    have ok2 : Bind.checkArgs id g ⟨args, kw⟩ = pure () := by simpa only [argsOk, esig] using k4
    simp only [ok2]
    exact wpAny_pure run
theorem gtI (m m0 : Int) (t t0 : Tok) (sh : Shared) (Q : Value → Shared → Prop) (Ex : Value → Shared → Prop) (h : Q (.bool (decide (m > m0))) sh) : wpAny (model Pg u) Ar (richCompare .Gt (.int m t) (.int m0 t0)) Q Ex sh :=
  CmpOf.ints_gt (P := fun i v => ∃ t, v = .int (if i = 0 then m else m0) t) (fun i => if i = 0 then m else m0) (fun i v h => h) 0 1 (.int m t) (.int m0 t0) sh Q Ex ⟨t, rfl⟩ ⟨t0, rfl⟩ h
theorem max_more {it bx : Addr} {fp wr : List Addr} {zs : List Int} {Pv : Nat → Value → Prop} {St : Nat → Heap → Prop} {dv : Value} {Rr : Result → Shared → Prop} (Wk : Walks Pg u Ar.in1 it fp wr zs.length Pv St) (far : bx ∉ fp) (val : ∀ i v, Pv i v → ∃ m t, zs[i]? = some m ∧ v = .int m t) :
    ∀ (left j : Nat) (sh : Shared) (m0 : Int) (t0 : Tok) (n : Nat), left + j = zs.length → St j sh.heap → m0 ∈ zs.take j → (∀ y ∈ zs.take j, y ≤ m0) → sh.heap.get? bx = some { cls := .type "list", dict := none, data := .seq #[.int m0 t0, .int m0 t0] n, slots := #[] } →
      (∀ m t hp tk, m ∈ zs → (∀ y ∈ zs, y ≤ m) → (∀ b o, b ∉ wr → b ≠ bx → sh.heap.get? b = some o → hp.get? b = some o) → Rr (.ok (.ret (.int m t))) { sh with heap := hp, toks := tk }) →
      codeAny (model Pg u) Ar (.builtin "max.loop" ⟨[.ref it, .none, .ref bx], [(Str.ofString "default", dv)]⟩) Rr sh := by
  have off : bx ∉ wr := fun z => far (Wk.sub _ z)
  have nm : (toString "max" ++ toString ".loop" : String) = "max.loop" := by decide
  intro left
  induction left with
  | zero =>
    intro j sh m0 t0 n hj st in0 le0 ob goal
    have hj' : j = zs.length := by omega
    subst hj'
    rw [List.take_length] at in0 le0
    refine codeAny_builtin F.entry_max_loop (?_ : wpAny _ _ _ _ _ _)
    rw [Around.under_plainId F.plain_max_loop ⟨_, _⟩]
    show wpAny _ Ar.in1 (seqItems? (.ref bx) >>= _) _ _ sh
    refine wpAny_bind (wpAny_seqItems ob rfl ?_)
    show wpAny _ Ar.in1 (tryCatch (pyNext (.ref it)) _ >>= _) _ _ sh
    refine wpAny_bind (wpAny_tryCatch (Wk.done sh _ _ st fun hp tk kp => ?_))
    have ob' := kp bx _ off ob
    show wpAny _ Ar.in1 (updateSeq bx (fun _ => #[]) >>= _) _ _ _
    refine wpAny_bind ?_
    refine wpAny_updateSeq ob' rfl (wpAny_bind (wpAny_letGo (wpAny_pure ?_)))
    exact goal m0 t0 _ tk in0 le0 fun b o hw hb e => (Heap.get?_update_other _ _ (Ne.symm hb)).trans (kp b o hw e)
  | succ left ih =>
    intro j sh m0 t0 n hj st in0 le0 ob goal
    have hlt : j < zs.length := by omega
    refine codeAny_builtin F.entry_max_loop (?_ : wpAny _ _ _ _ _ _)
    rw [Around.under_plainId F.plain_max_loop ⟨_, _⟩]
    show wpAny _ Ar.in1 (seqItems? (.ref bx) >>= _) _ _ sh
    refine wpAny_bind (wpAny_seqItems ob rfl ?_)
    show wpAny _ Ar.in1 (tryCatch (pyNext (.ref it)) _ >>= _) _ _ sh
    refine wpAny_bind (wpAny_tryCatch (Wk.item j sh _ _ hlt st fun v hp tk pv st' kp => ?_))
    have ob' := kp bx _ off ob
    obtain ⟨m, t, hz, ev⟩ := val j v pv
    subst ev
    have tk1 : zs.take (j + 1) = zs.take j ++ [m] := by rw [List.take_add_one, hz]; rfl
    show wpAny _ Ar.in1 (tryCatch (holding [.int m t, .int m t] (richCompare .Gt (.int m t) (.int m0 t0) >>= _)) _ >>= _) _ _ _
    refine wpAny_bind (wpAny_tryCatch (wpAny_holding (wpAny_bind (gtI m m0 t t0 _ _ _ ?_))))
    refine wpAny_bind (wpAny_holding (wpAny_truthy_bool ?_))
    refine wpAny_bind (wpAny_letGo (wpAny_pure ?_))
    by_cases c : m > m0
    · rw [decide_eq_true c]
      simp only [if_true]
      refine wpAny_bind ?_
      refine wpAny_updateSeq ob' rfl (wpAny_bind (wpAny_letGo ?_))
      rw [nm]
      refine wpAny_pure ⟨plainId_quiet F.plain_max_loop _, ih (j + 1) _ m t _ (by omega) (Wk.frame _ _ _ st' fun b hb o e => ?_) (by rw [tk1]; simp) (fun y hy => ?_) (Heap.get?_update_self _ ob' rfl) fun m2 t2 hp2 tk2 i2 l2 kp2 => ?_⟩
      · exact (Heap.get?_update_other _ _ (fun z : bx = b => far (by rw [z]; exact hb))).trans e
      · rw [tk1] at hy
        rcases List.mem_append.mp hy with hy | hy
        · have := le0 y hy
          omega
        · rw [List.mem_singleton.mp hy]
          exact Int.le_refl _
      · exact goal m2 t2 hp2 tk2 i2 l2 fun b o hw hb e => kp2 b o hw hb ((Heap.get?_update_other _ _ (Ne.symm hb)).trans (kp b o hw e))
    · rw [decide_eq_false c]
      simp only [Bool.false_eq_true, if_false]
      refine wpAny_bind (wpAny_letGo ?_)
      rw [nm]
      refine wpAny_pure ⟨plainId_quiet F.plain_max_loop _, ih (j + 1) _ m0 t0 _ (by omega) st' (by rw [tk1]; exact List.mem_append_left _ in0) (fun y hy => ?_) ob' fun m2 t2 hp2 tk2 i2 l2 kp2 => ?_⟩
      · rw [tk1] at hy
        rcases List.mem_append.mp hy with hy | hy
        · exact le0 y hy
        · rw [List.mem_singleton.mp hy]
          omega
      · exact goal m2 t2 hp2 tk2 i2 l2 fun b o hw hb e => kp2 b o hw hb (kp b o hw e)
end
end D2
namespace D2
open PySem PySem.Spec PyProof.Rows L2
section
variable {Pg : Program} {u : World} {Ar : Around} {Ex : Value → Shared → Prop}
theorem max_zero {it bx : Addr} {fp wr : List Addr} {zs : List Int} {Pv : Nat → Value → Prop} {St : Nat → Heap → Prop} {dv : Value} {Rr : Result → Shared → Prop} (Wk : Walks Pg u Ar.in1 it fp wr zs.length Pv St) (far : bx ∉ fp) (val : ∀ i v, Pv i v → ∃ m t, zs[i]? = some m ∧ v = .int m t)
    {sh : Shared} {n : Nat} (st : St 0 sh.heap) (ob : sh.heap.get? bx = some { cls := .type "list", dict := none, data := .seq #[] n, slots := #[] })
    (goal0 : zs = [] → ∀ hp tk, (∀ b o, b ∉ wr → b ≠ bx → sh.heap.get? b = some o → hp.get? b = some o) → Rr (.ok (.ret dv)) { sh with heap := hp, toks := tk })
    (goal : ∀ m t hp tk, m ∈ zs → (∀ y ∈ zs, y ≤ m) → (∀ b o, b ∉ wr → b ≠ bx → sh.heap.get? b = some o → hp.get? b = some o) → Rr (.ok (.ret (.int m t))) { sh with heap := hp, toks := tk }) :
    codeAny (model Pg u) Ar (.builtin "max.loop" ⟨[.ref it, .none, .ref bx], [(Str.ofString "default", dv)]⟩) Rr sh := by
  have off : bx ∉ wr := fun z => far (Wk.sub _ z)
  have nm : (toString "max" ++ toString ".loop" : String) = "max.loop" := by decide
  refine codeAny_builtin F.entry_max_loop (?_ : wpAny _ _ _ _ _ _)
  rw [Around.under_plainId F.plain_max_loop ⟨_, _⟩]
  show wpAny _ Ar.in1 (seqItems? (.ref bx) >>= _) _ _ sh
  refine wpAny_bind (wpAny_seqItems ob rfl ?_)
  show wpAny _ Ar.in1 (tryCatch (pyNext (.ref it)) _ >>= _) _ _ sh
  cases zs with
  | nil =>
    refine wpAny_bind (wpAny_tryCatch (Wk.done sh _ _ st fun hp tk kp => ?_))
    show wpAny _ Ar.in1 (rule _ >>= fun _ => ret dv) _ _ _
    refine wpAny_bind (wpAny_rule (wpAny_pure ?_))
    exact goal0 rfl hp tk fun b o hw _ e => kp b o hw e
  | cons z zs =>
    refine wpAny_bind (wpAny_tryCatch (Wk.item 0 sh _ _ (Nat.succ_pos _) st fun v hp tk pv st' kp => ?_))
    have ob' := kp bx _ off ob
    obtain ⟨m, t, hz, ev⟩ := val 0 v pv
    subst ev
    obtain rfl : z = m := by simpa using hz
    show wpAny _ Ar.in1 (updateSeq bx (fun _ => #[.int z t, .int z t]) >>= _) _ _ _
    refine wpAny_bind ?_
    refine wpAny_updateSeq ob' rfl ?_
    rw [nm]
    refine wpAny_pure ⟨plainId_quiet F.plain_max_loop _, max_more Wk far val zs.length 1 _ z t _ (by simp) (Wk.frame _ _ _ st' fun b hb o e => ?_) (by simp) (fun y hy => ?_) (Heap.get?_update_self _ ob' rfl) fun m2 t2 hp2 tk2 i2 l2 kp2 => ?_⟩
    · exact (Heap.get?_update_other _ _ (fun q : bx = b => far (by rw [q]; exact hb))).trans e
    · have : y = z := by simpa using hy
      omega
    · exact goal m2 t2 hp2 tk2 i2 l2 fun b o hw hb e => kp2 b o hw hb ((Heap.get?_update_other _ _ (Ne.symm hb)).trans (kp b o hw e))
theorem call_maxD {l : Addr} {its : Array Value} {zs : List Int} {dv : Value} {sh : Shared} {Qq : Value → Shared → Prop} (un : Ar.handled = none) (li : sh.heap.IsList l its) (hz : IntsAre its.toList zs)
    (goal0 : zs = [] → ∀ hp tk, (∀ b o, sh.heap.get? b = some o → hp.get? b = some o) → Qq dv { sh with heap := hp, toks := tk })
    (goal : ∀ m t hp tk, m ∈ zs → (∀ y ∈ zs, y ≤ m) → (∀ b o, sh.heap.get? b = some o → hp.get? b = some o) → Qq (.int m t) { sh with heap := hp, toks := tk }) :
    wpAny (model Pg u) Ar (call (.builtin "max") [.ref l] [(Str.ofString "default", dv)]) Qq Ex sh := by
  obtain ⟨sz, vals⟩ := lst_vals hz
  have nm : (toString "max" ++ toString ".loop" : String) = "max.loop" := by decide
  refine kw_tree F.kind_max F.plain_max F.entry_max (max_args _ _) ?_
  show wpAny _ Ar.in1 (Builtin.Builtins.bindParams "max" ["key", "default"] 0 ⟨[], [(Str.ofString "default", dv)]⟩ >>= _) _ _ sh
  refine wpAny_bind (wpAny_of_eq (show Builtin.Builtins.bindParams "max" ["key", "default"] 0 ⟨[], [(Str.ofString "default", dv)]⟩ = pure [none, some dv] from rfl) ?_)
  refine wpAny_bind (wpAny_pure ?_)
  refine wpAny_bind (wpAny_pyIter_list li ?_)
  refine wpAny_bind (wpAny_newObj_type ?_)
  have h3 : Ar.in1.handled = none := by simp only [un, Around.in1]
  have below : l < sh.heap.objs.size := Heap.lt_size li.choose_spec.1
  have s1 : (sh.heap.push { cls := .type "list_iterator", data := .fields #[.ref l, .int 0 0] }).objs.size = sh.heap.objs.size + 1 := Heap.size_push ..
  rw [nm]
  have wk := Walks.list (prog := Pg) (w := u) h3 sh.heap.objs.size l (Nat.ne_of_lt below) its
  rw [sz] at wk
  refine wpAny_pure ⟨plainId_quiet F.plain_max_loop _, max_zero wk (by
    rw [s1]
    simp only [List.mem_cons, List.not_mem_nil, or_false, not_or]
    exact ⟨Nat.ne_of_gt (Nat.lt_succ_self _), Nat.ne_of_gt (Nat.lt_succ_of_lt below)⟩) vals ⟨⟨_, Heap.get?_push_of_some _ (Heap.get?_push_size _ rfl), rfl, rfl⟩, (li.push _).push _⟩ (Heap.get?_push_size _ rfl) (fun e0 hp tk kp => goal0 e0 hp tk fun b o e => ?_) fun m t hp tk i l2 kp => goal m t hp tk i l2 fun b o e => ?_⟩
  all_goals
    have lb := Heap.lt_size e
    refine kp b o (fun z => Nat.ne_of_lt lb (by simpa using z)) (by rw [s1]; exact Nat.ne_of_lt (Nat.lt_succ_of_lt lb)) (Heap.get?_push_of_some _ (Heap.get?_push_of_some _ e))
end
section
variable {X : Cx} {W : WX2} {wk : Bool} {pos : Pos}
def rMaxDf (K : PySem.W.Frag) : List V → List V → Hp → VK → Prop := fun vs zs H Q => ∃ (a : Addr) (ns : List Int) (z : V), vs = [V.ref a] ∧ zs = [z] ∧ SqL K H a (ns.map V.int) ∧ (ns = [] → Q z H) ∧ ∀ m, m ∈ ns → (∀ y ∈ ns, y ≤ m) → Q (.int m) H
theorem cr_maxDf (calm : X.calm = true) : CallRK X (.builtin "max") [Str.ofString "default"] (rMaxDf X.K) := by
  intro pins s σ H xs zs us ws Q I r1 r2 h
  obtain ⟨l, ns, z, e1, e2, sq, q0, q1⟩ := h
  subst e1 e2
  obtain ⟨its, rv, pl, _⟩ := I.list sq
  rw [Vals.ref1 r1]
  cases r2 with
  | cons rz rr =>
    cases rr
    rename_i w
    refine call_maxD (I.ok.hd calm) pl.isList (by simpa using L2.intsAre_of rv) (fun e0 hp tk kp => ?_) fun m t hp tk im lm kp => ?_
    · exact ⟨z, H, I.kept kp, rz, q0 e0⟩
    · exact ⟨.int m, H, I.kept kp, ⟨t, rfl⟩, q1 m im lm⟩
def D.maxDf : D → D → Option D
  | .lst ds, z => match D.ints ds with
    | some [] => some z
    | some ns => (maxI ns).map D.int
    | none => none
  | _, _ => none
theorem e2_maxDf {a c : Expr} {ma mc : ME} {p kpos : Pos} (calm : X.calm = true) (hg : Gl X "max") (hm : X.mg "max" = none) (ha : PE2 X W wk a ma) (hc : PE2 X W wk c mc)
    (v1 : bootBuiltins "max" = some (.builtin "max") := by decide +kernel) (n1 : starEach [a] X.env = (false, eval a X.env) :: starEach [] X.env := by rfl)
    (he : backTo pos (starEach [a] X.env) = (false, eval a X.env) :: backTo pos (starEach [] X.env) := by rfl) (hpl : (backTo pos (starEach [a] X.env)).any (·.1) = false := by rfl)
    (hall : (backToKw pos (keywordEach [⟨some (Str.ofString "default"), c, kpos⟩] X.env)).all (·.1.isSome) = true := by rfl) (hnone : (backToKw pos (keywordEach [⟨some (Str.ofString "default"), c, kpos⟩] X.env)).any (·.1.isNone) = false := by rfl)
    (hks : (backToKw pos (keywordEach [⟨some (Str.ofString "default"), c, kpos⟩] X.env)).filterMap (·.1) = [Str.ofString "default"] := by rfl) :
    PE2 X W wk (.Call (.Name "max" p) [a] [⟨some (Str.ofString "default"), c, kpos⟩] pos) (mBin D.maxDf ma mc) := by
  obtain ⟨ta, a1, a2⟩ := ha
  obtain ⟨tc, c1, c2⟩ := hc
  refine ⟨_, pe_callBK (cr_maxDf calm) hg hm v1 (pa_cons a1 pa_nil n1) (pk_cons c1 pk_nil) (by decide) (by decide) he hpl hall hnone hks, fun B H0 as ks ow sg S σ H Q r h => ?_⟩
  refine a2 _ _ _ _ _ _ _ _ _ _ r (Den.bind h fun x S1 v H1 k1 e1 s1 q1 h1 => ?_)
  clear k1
  have r1 := r.step e1 s1
  refine c2 _ _ _ _ _ _ _ _ _ _ r1 (Den.bind h1 fun y S2 w H2 k2 e2 s2 q2 h2 => ?_)
  clear k2
  have r2 := r1.step e2 s2
  have q1' := Rep.imp (B' := if wk then (· ∈ as) else Bd B ow) e2 (asWk r) (fun _ z => z) x v q1
  cases e : D.maxDf x y with
  | none => simp only [e] at h2; exact False.elim h2
  | some z =>
    simp only [e] at h2
    cases x <;> try (cases e; done)
    rename_i ds
    simp only [D.maxDf] at e
    obtain ⟨b, xs, ev, nb, g1, g2⟩ := q1'
    cases en : D.ints ds with
    | none => rw [en] at e; cases e
    | some ns =>
      rw [en] at e
      rw [ints_rep g2 en] at g1
      refine ⟨b, ns, w, by rw [ev], rfl, SqL.of g1, fun e0 => ?_, fun m hm hle => ?_⟩
      · subst e0
        cases e
        exact h2 w H2 Evo.refl s2 q2
      · cases ns with
        | nil => cases hm
        | cons n ns =>
          simp only [maxI, Option.map_some] at e
          cases e
          rw [foldl_max ns n m hm hle] at h2
          exact h2 _ H2 Evo.refl s2 rfl
end
end D2

namespace D2
open PySem PySem.Spec PyProof.Rows L2

/-! ### reading what a def computes: r is an answer with P, or an exception with E -/
abbrev EP' := Exn → List Sl → List O → Prop
@[irreducible] def Wp {α : Type} (r : R α) (P : α → Prop) (E : EP') : Prop := match r with
  | .ok a => P a
  | .ex e sg S => E e sg S
  | .bad => False
def noE : EP' := fun _ _ _ => False
theorem wp_ok {α : Type} {a : α} {P : α → Prop} {E : EP'} : Wp (.ok a) P E = P a := by unfold Wp; rfl
theorem wp_ex {α : Type} {e : Exn} {sg : List Sl} {S : List O} {P : α → Prop} {E : EP'} : Wp (.ex e sg S) P E = E e sg S := by unfold Wp; rfl
theorem wp_bad {α : Type} {P : α → Prop} {E : EP'} : Wp .bad P E = False := by unfold Wp; rfl
theorem wp_okI {α : Type} {a : α} {P : α → Prop} {E : EP'} (h : P a) : Wp (.ok a) P E := by rw [wp_ok]; exact h
theorem wp_okE {α : Type} {a : α} {P : α → Prop} {E : EP'} (h : Wp (.ok a) P E) : P a := by rw [wp_ok] at h; exact h
theorem wp_exE {α : Type} {e : Exn} {sg : List Sl} {S : List O} {P : α → Prop} {E : EP'} (h : Wp (.ex e sg S) P E) : E e sg S := by rw [wp_ex] at h; exact h
theorem wp_badE {α : Type} {P : α → Prop} {E : EP'} (h : Wp .bad P E) : False := by rw [wp_bad] at h; exact h
theorem Wp.mono {α : Type} {r : R α} {P P' : α → Prop} {E E' : EP'} (h : Wp r P E) (hP : ∀ a, P a → P' a) (hE : ∀ e sg S, E e sg S → E' e sg S) : Wp r P' E' := by
  cases r with
  | ok a => rw [wp_ok] at h ⊢; exact hP a h
  | ex e sg S => rw [wp_ex] at h ⊢; exact hE e sg S h
  | bad => rw [wp_bad] at h ⊢; exact h
theorem Wp.imp {α : Type} {r : R α} {P P' : α → Prop} {E : EP'} (h : Wp r P E) (hP : ∀ a, P a → P' a) : Wp r P' E := h.mono hP fun _ _ _ z => z
theorem Wp.no {α : Type} {r : R α} {P P' : α → Prop} {E : EP'} (h : Wp r P noE) (hP : ∀ a, P a → P' a) : Wp r P' E := h.mono hP fun _ _ _ z => z.elim
theorem Wp.ok {α : Type} {r : R α} {P : α → Prop} (h : Wp r P noE) : ∃ a, r = .ok a ∧ P a := by
  cases r with
  | ok a => rw [wp_ok] at h; exact ⟨a, rfl, h⟩
  | ex e sg S => rw [wp_ex] at h; exact False.elim h
  | bad => rw [wp_bad] at h; exact False.elim h
theorem wp_eq {α : Type} {r : R α} {a : α} {P : α → Prop} {E : EP'} (h : r = .ok a) : Wp r P E = P a := by rw [h, wp_ok]
theorem wp_bind {α β : Type} {r : R α} {f : α → R β} {P : β → Prop} {E : EP'} : Wp (r.bind f) P E = Wp r (fun x => Wp (f x) P E) E := by
  cases r with
  | ok a => rw [wp_ok]; rfl
  | ex e sg S => rw [wp_ex, show (R.ex e sg S : R α).bind f = .ex e sg S from rfl, wp_ex]
  | bad => rw [wp_bad, show (R.bad : R α).bind f = .bad from rfl, wp_bad]
/-- an option that must be there -/
def kO (o : Option D) (S : List O) (P : D × List O → Prop) : Prop := match o with
  | some z => P (z, S)
  | none => False
theorem kO_some {z : D} {S : List O} {P : D × List O → Prop} : kO (some z) S P = P (z, S) := by with_unfolding_all rfl
theorem wp_of {o : Option D} {S : List O} {P : D × List O → Prop} {E : EP'} : Wp (R.of (o.map fun z => (z, S))) P E = kO o S P := by
  cases o <;> (with_unfolding_all rfl)
theorem kO_eq {o : Option D} {z : D} {S : List O} {P : D × List O → Prop} (h : o = some z) : kO o S P = P (z, S) := by rw [h]; rfl
section
variable {P : D × List O → Prop} {Pb : Bool × List O → Prop} {Ps : Fl × List Sl × List O → Prop} {Pa : List D × List O → Prop} {Po : O × List O → Prop} {E : EP'} {sg : List Sl} {S : List O} {m ma mb mc : ME} {ms : MA} {mt mu : MT} {f g : D → D → Option D} {h : D → Option D}

/-! expressions -/
def kVar (s : Option Sl) (S : List O) (P : D × List O → Prop) : Prop := match s with
  | some (.val d) => P (d, S)
  | _ => False
def kVarW (s : Option Sl) (S : List O) (P : D × List O → Prop) : Prop := match s with
  | some (.val d) => P (d, S)
  | some (.own (.lst ds)) => P (.lst ds, S)
  | some (.own (.dic ks ds)) => P (.dic ks ds, S)
  | _ => False
theorem w_C {d : D} : Wp (mC d sg S) P E = P (d, S) := by with_unfolding_all rfl
theorem w_Var {i : Nat} : Wp (mVar i sg S) P E = kVar sg[i]? S P := by
  unfold mVar kVar
  cases sg[i]? with
  | none => with_unfolding_all rfl
  | some s => cases s <;> (with_unfolding_all rfl)
theorem w_VarW {i : Nat} : Wp (mVarW i sg S) P E = kVarW sg[i]? S P := by
  unfold mVarW kVarW
  cases sg[i]? with
  | none => with_unfolding_all rfl
  | some s =>
    cases s with
    | no => with_unfolding_all rfl
    | val d => with_unfolding_all rfl
    | own o => cases o <;> (with_unfolding_all rfl)
theorem kVar_val {d : D} : kVar (some (.val d)) S P = P (d, S) := by with_unfolding_all rfl
theorem kVarW_val {d : D} : kVarW (some (.val d)) S P = P (d, S) := by with_unfolding_all rfl
theorem kVarW_lst {ds : List D} : kVarW (some (.own (.lst ds))) S P = P (.lst ds, S) := by with_unfolding_all rfl
theorem kVarW_dic {ks : List Key} {ds : List D} : kVarW (some (.own (.dic ks ds))) S P = P (.dic ks ds, S) := by with_unfolding_all rfl
def kFlat (P : D × List O → Prop) : D × List O → Prop := fun x => x.1.flat = true ∧ P x
theorem w_Flat : Wp (mFlat m sg S) P E = Wp (m sg S) (kFlat P) E := by
  unfold mFlat
  rw [wp_bind]
  congr 1
  funext x
  by_cases hx : x.1.flat = true
  · simp [hx, kFlat, wp_ok]
  · simp [hx, kFlat, Wp]
theorem kFlat_eq {x : D × List O} : kFlat P x = (x.1.flat = true ∧ P x) := by with_unfolding_all rfl
def kBin2 (f : D → D → Option D) (x : D) (P : D × List O → Prop) : D × List O → Prop := fun y => kO (f x y.1) y.2 P
def kBin (f : D → D → Option D) (mb : ME) (sg : List Sl) (P : D × List O → Prop) (E : EP') : D × List O → Prop := fun x => Wp (mb sg x.2) (kBin2 f x.1 P) E
theorem w_Bin : Wp (mBin f ma mb sg S) P E = Wp (ma sg S) (kBin f mb sg P E) E := by
  unfold mBin kBin kBin2
  simp only [wp_bind, wp_of]
theorem kBin_eq {x : D} : kBin f mb sg P E (x, S) = Wp (mb sg S) (kBin2 f x P) E := by with_unfolding_all rfl
theorem kBin2_eq {x y : D} : kBin2 f x P (y, S) = kO (f x y) S P := by with_unfolding_all rfl
def kUn (h : D → Option D) (P : D × List O → Prop) : D × List O → Prop := fun x => kO (h x.1) x.2 P
theorem w_Un : Wp (mUn h m sg S) P E = Wp (m sg S) (kUn h P) E := by
  unfold mUn kUn
  simp only [wp_bind, wp_of]
theorem kUn_eq {x : D} : kUn h P (x, S) = kO (h x) S P := by with_unfolding_all rfl
def kTup (P : D × List O → Prop) : List D × List O → Prop := fun x => x.1.length ≤ 16777216 ∧ P (.tup x.1, x.2)
theorem w_Tup : Wp (mTup ms sg S) P E = Wp (ms sg S) (kTup P) E := by
  unfold mTup
  rw [wp_bind]
  congr 1
  funext x
  by_cases hx : x.1.length ≤ 16777216
  · simp [hx, kTup, wp_ok]
  · simp [hx, kTup, Wp]
theorem kTup_eq {ds : List D} : kTup P (ds, S) = (ds.length ≤ 16777216 ∧ P (.tup ds, S)) := by with_unfolding_all rfl
def kLst (P : D × List O → Prop) : List D × List O → Prop := fun x => x.1.length ≤ 16777216 ∧ P (.lst x.1, x.2)
theorem w_Lst : Wp (mLst ms sg S) P E = Wp (ms sg S) (kLst P) E := by
  unfold mLst
  rw [wp_bind]
  congr 1
  funext x
  by_cases hx : x.1.length ≤ 16777216
  · simp [hx, kLst, wp_ok]
  · simp [hx, kLst, Wp]
theorem kLst_eq {ds : List D} : kLst P (ds, S) = (ds.length ≤ 16777216 ∧ P (.lst ds, S)) := by with_unfolding_all rfl
theorem w_Nil : Wp (mNil sg S) Pa E = Pa ([], S) := by with_unfolding_all rfl
def kCons2 (x : D) (P : List D × List O → Prop) : List D × List O → Prop := fun y => P (x :: y.1, y.2)
def kCons (ms : MA) (sg : List Sl) (P : List D × List O → Prop) (E : EP') : D × List O → Prop := fun x => Wp (ms sg x.2) (kCons2 x.1 P) E
theorem w_Cons : Wp (mCons m ms sg S) Pa E = Wp (m sg S) (kCons ms sg Pa E) E := by
  unfold mCons kCons kCons2
  simp only [wp_bind, wp_ok]
theorem kCons_eq {x : D} : kCons ms sg Pa E (x, S) = Wp (ms sg S) (kCons2 x Pa) E := by with_unfolding_all rfl
theorem kCons2_eq {x : D} {ys : List D} : kCons2 x Pa (ys, S) = Pa (x :: ys, S) := by with_unfolding_all rfl
def kAnd (mb : ME) (sg : List Sl) (P : D × List O → Prop) (E : EP') : D × List O → Prop := fun x => match x.1 with
  | .bl b => if b = true then Wp (mb sg x.2) P E else P (.bl false, x.2)
  | _ => False
theorem w_And : Wp (mAnd ma mb sg S) P E = Wp (ma sg S) (kAnd mb sg P E) E := by
  unfold mAnd
  rw [wp_bind]
  congr 1
  funext x
  obtain ⟨d, T⟩ := x
  cases d <;> try (with_unfolding_all rfl)
  rename_i b
  cases b <;> (with_unfolding_all rfl)
theorem kAnd_eq {b : Bool} : kAnd mb sg P E (.bl b, S) = if b = true then Wp (mb sg S) P E else P (.bl false, S) := by with_unfolding_all rfl
def kOr (mb : ME) (sg : List Sl) (P : D × List O → Prop) (E : EP') : D × List O → Prop := fun x => match x.1 with
  | .bl b => if b = true then P (.bl true, x.2) else Wp (mb sg x.2) P E
  | _ => False
theorem w_Or : Wp (mOr ma mb sg S) P E = Wp (ma sg S) (kOr mb sg P E) E := by
  unfold mOr
  rw [wp_bind]
  congr 1
  funext x
  obtain ⟨d, T⟩ := x
  cases d <;> try (with_unfolding_all rfl)
  rename_i b
  cases b <;> (with_unfolding_all rfl)
theorem kOr_eq {b : Bool} : kOr mb sg P E (.bl b, S) = if b = true then P (.bl true, S) else Wp (mb sg S) P E := by with_unfolding_all rfl
/-! tests -/
def kTst (P : Bool × List O → Prop) : D × List O → Prop := fun x => match x.1 with
  | .bl b => P (b, x.2)
  | _ => False
theorem w_Tst : Wp (mTst m sg S) Pb E = Wp (m sg S) (kTst Pb) E := by
  unfold mTst
  rw [wp_bind]
  congr 1
  funext x
  obtain ⟨d, T⟩ := x
  cases d <;> (with_unfolding_all rfl)
theorem kTst_eq {b : Bool} : kTst Pb (.bl b, S) = Pb (b, S) := by with_unfolding_all rfl
def kTru (P : Bool × List O → Prop) : D × List O → Prop := fun x => match x.1.truth with
  | some b => P (b, x.2)
  | none => False
theorem w_Tru : Wp (mTru m sg S) Pb E = Wp (m sg S) (kTru Pb) E := by
  unfold mTru
  rw [wp_bind]
  congr 1
  funext x
  obtain ⟨d, T⟩ := x
  unfold kTru
  cases d.truth <;> (with_unfolding_all rfl)
theorem kTru_bl {b : Bool} : kTru Pb (.bl b, S) = Pb (b, S) := by with_unfolding_all rfl
theorem kTru_int {i : Int} : kTru Pb (.int i, S) = Pb (i != 0, S) := by with_unfolding_all rfl
theorem kTru_tup {ds : List D} : kTru Pb (.tup ds, S) = Pb (!ds.isEmpty, S) := by with_unfolding_all rfl
theorem kTru_lst {ds : List D} : kTru Pb (.lst ds, S) = Pb (!ds.isEmpty, S) := by with_unfolding_all rfl
theorem kTru_non : kTru Pb (.non, S) = Pb (false, S) := by with_unfolding_all rfl
theorem kTru_str {x : Str} (hx : x.length ≤ 16777216) : kTru Pb (.str x, S) = Pb ((x.length : Int) != 0, S) := by
  simp [kTru, D.truth, hx]
def kNotT (P : Bool × List O → Prop) : Bool × List O → Prop := fun x => P (!x.1, x.2)
theorem w_NotT : Wp (mNotT mt sg S) Pb E = Wp (mt sg S) (kNotT Pb) E := by
  unfold mNotT
  rw [wp_bind]
  with_unfolding_all rfl
theorem kNotT_eq {b : Bool} : kNotT Pb (b, S) = Pb (!b, S) := by with_unfolding_all rfl
def kAndT (mu : MT) (sg : List Sl) (P : Bool × List O → Prop) (E : EP') : Bool × List O → Prop := fun x => if x.1 = true then Wp (mu sg x.2) P E else P (false, x.2)
theorem w_AndT : Wp (mAndT mt mu sg S) Pb E = Wp (mt sg S) (kAndT mu sg Pb E) E := by
  unfold mAndT
  rw [wp_bind]
  congr 1
  funext x
  obtain ⟨b, T⟩ := x
  cases b <;> (with_unfolding_all rfl)
theorem kAndT_eq {b : Bool} : kAndT mu sg Pb E (b, S) = if b = true then Wp (mu sg S) Pb E else Pb (false, S) := by with_unfolding_all rfl
def kOrT (mu : MT) (sg : List Sl) (P : Bool × List O → Prop) (E : EP') : Bool × List O → Prop := fun x => if x.1 = true then P (true, x.2) else Wp (mu sg x.2) P E
theorem w_OrT : Wp (mOrT mt mu sg S) Pb E = Wp (mt sg S) (kOrT mu sg Pb E) E := by
  unfold mOrT
  rw [wp_bind]
  congr 1
  funext x
  obtain ⟨b, T⟩ := x
  cases b <;> (with_unfolding_all rfl)
theorem kOrT_eq {b : Bool} : kOrT mu sg Pb E (b, S) = if b = true then Pb (true, S) else Wp (mu sg S) Pb E := by with_unfolding_all rfl
def isNon : D → Bool
  | .non => true
  | _ => false
def kIsN (neg : Bool) (P : D × List O → Prop) : D × List O → Prop := fun x => P (.bl (if isNon x.1 = true then !neg else neg), x.2)
theorem w_IsN {neg : Bool} : Wp (mIsN neg m sg S) P E = Wp (m sg S) (kIsN neg P) E := by
  unfold mIsN
  rw [wp_bind]
  congr 1
  funext x
  obtain ⟨d, T⟩ := x
  cases d <;> (with_unfolding_all rfl)
theorem kIsN_eq {neg : Bool} {d : D} : kIsN neg P (d, S) = P (.bl (if isNon d = true then !neg else neg), S) := by with_unfolding_all rfl
def kIf (ma mb : ME) (sg : List Sl) (P : D × List O → Prop) (E : EP') : Bool × List O → Prop := fun x => if x.1 = true then Wp (ma sg x.2) P E else Wp (mb sg x.2) P E
theorem w_If : Wp (mIf mt ma mb sg S) P E = Wp (mt sg S) (kIf ma mb sg P E) E := by
  unfold mIf
  rw [wp_bind]
  congr 1
  funext x
  obtain ⟨b, T⟩ := x
  cases b <;> (with_unfolding_all rfl)
theorem kIf_eq {b : Bool} : kIf ma mb sg P E (b, S) = if b = true then Wp (ma sg S) P E else Wp (mb sg S) P E := by with_unfolding_all rfl
def kCh3 (o : Option D) (g : D → D → Option D) (y : D) (mc : ME) (sg : List Sl) (S : List O) (P : D × List O → Prop) (E : EP') : Prop := match o with
  | some (.bl b) => if b = true then Wp (mc sg S) (kBin2 g y P) E else P (.bl false, S)
  | _ => False
def kCh2 (f g : D → D → Option D) (x : D) (mc : ME) (sg : List Sl) (P : D × List O → Prop) (E : EP') : D × List O → Prop := fun y => kCh3 (f x y.1) g y.1 mc sg y.2 P E
def kCh1 (f g : D → D → Option D) (mb mc : ME) (sg : List Sl) (P : D × List O → Prop) (E : EP') : D × List O → Prop := fun x => Wp (mb sg x.2) (kCh2 f g x.1 mc sg P E) E
theorem w_Chain : Wp (mChain f g ma mb mc sg S) P E = Wp (ma sg S) (kCh1 f g mb mc sg P E) E := by
  unfold mChain kCh1
  rw [wp_bind]
  congr 1
  funext x
  rw [wp_bind]
  congr 1
  funext y
  unfold kCh2 kCh3
  cases e : f x.1 y.1 with
  | none => with_unfolding_all rfl
  | some d =>
    cases d <;> try (with_unfolding_all rfl)
    rename_i b
    cases b
    · with_unfolding_all rfl
    · simp only [if_true, wp_bind, wp_of]
      with_unfolding_all rfl
theorem kCh1_eq {x : D} : kCh1 f g mb mc sg P E (x, S) = Wp (mb sg S) (kCh2 f g x mc sg P E) E := by with_unfolding_all rfl
theorem kCh2_eq {x y : D} : kCh2 f g x mc sg P E (y, S) = kCh3 (f x y) g y mc sg S P E := by with_unfolding_all rfl
theorem kCh3_eq {b : Bool} {y : D} : kCh3 (some (.bl b)) g y mc sg S P E = if b = true then Wp (mc sg S) (kBin2 g y P) E else P (.bl false, S) := by with_unfolding_all rfl
/-! calls -/
def kBi (fl : List D → Option D) (P : D × List O → Prop) : List D × List O → Prop := fun x => kO (fl x.1) x.2 P
theorem w_Bi {fl : List D → Option D} : Wp (mBi fl ms sg S) P E = Wp (ms sg S) (kBi fl P) E := by
  unfold mBi kBi
  simp only [wp_bind, wp_of]
theorem kBi_eq {fl : List D → Option D} {ds : List D} : kBi fl P (ds, S) = kO (fl ds) S P := by with_unfolding_all rfl
theorem on1_eq {gg : D → Option D} {x : D} : on1 gg [x] = gg x := by with_unfolding_all rfl
theorem on2_eq {gg : D → D → Option D} {x y : D} : on2 gg [x, y] = gg x y := by with_unfolding_all rfl
def kMeth2 (fm : D → List D → Option D) (x : D) (P : D × List O → Prop) : List D × List O → Prop := fun y => kO (fm x y.1) y.2 P
def kMeth (c : D → Bool) (fm : D → List D → Option D) (ms : MA) (sg : List Sl) (P : D × List O → Prop) (E : EP') : D × List O → Prop := fun x => c x.1 = true ∧ Wp (ms sg x.2) (kMeth2 fm x.1 P) E
theorem w_Meth {c : D → Bool} {fm : D → List D → Option D} : Wp (mMeth c fm m ms sg S) P E = Wp (m sg S) (kMeth c fm ms sg P E) E := by
  unfold mMeth
  rw [wp_bind]
  congr 1
  funext x
  by_cases hx : c x.1 = true
  · simp only [hx, kMeth, if_true, true_and, wp_bind, wp_of]
    with_unfolding_all rfl
  · simp [hx, kMeth, Wp]
theorem kMeth_eq {c : D → Bool} {fm : D → List D → Option D} {x : D} : kMeth c fm ms sg P E (x, S) = (c x = true ∧ Wp (ms sg S) (kMeth2 fm x P) E) := by with_unfolding_all rfl
theorem kMeth2_eq {fm : D → List D → Option D} {x : D} {ys : List D} : kMeth2 fm x P (ys, S) = kO (fm x ys) S P := by with_unfolding_all rfl
def kIx2 (x : D) (P : D × List O → Prop) : D × List O → Prop := fun y => kO (ixS y.2 x y.1) y.2 P
def kIx (mb : ME) (sg : List Sl) (P : D × List O → Prop) (E : EP') : D × List O → Prop := fun x => Wp (mb sg x.2) (kIx2 x.1 P) E
theorem w_Ix : Wp (mIx ma mb sg S) P E = Wp (ma sg S) (kIx mb sg P E) E := by
  unfold mIx kIx kIx2
  simp only [wp_bind, wp_of]
theorem kIx_eq {x : D} : kIx mb sg P E (x, S) = Wp (mb sg S) (kIx2 x P) E := by with_unfolding_all rfl
theorem kIx2_eq {x y : D} : kIx2 x P (y, S) = kO (ixS S x y) S P := by with_unfolding_all rfl
def kGet3 (ks : List Key) (ds : List D) (k : D) (P : D × List O → Prop) : D × List O → Prop := fun x => kO (dGet2 (.dic ks ds) k x.1) x.2 P
def kGet2 (ks : List Key) (ds : List D) (mx : ME) (sg : List Sl) (P : D × List O → Prop) (E : EP') : D × List O → Prop := fun k => Wp (mx sg k.2) (kGet3 ks ds k.1 P) E
def kGet1 (mk mx : ME) (sg : List Sl) (P : D × List O → Prop) (E : EP') : D × List O → Prop := fun d => match d.1 with
  | .dic ks ds => Wp (mk sg d.2) (kGet2 ks ds mx sg P E) E
  | _ => False
theorem w_Get2 : Wp (mGet2 ma mb mc sg S) P E = Wp (ma sg S) (kGet1 mb mc sg P E) E := by
  unfold mGet2
  rw [wp_bind]
  congr 1
  funext x
  obtain ⟨d, T⟩ := x
  cases d <;> try (with_unfolding_all rfl)
  unfold kGet1 kGet2 kGet3
  simp only [wp_bind, wp_of]
theorem kGet1_eq {ks : List Key} {ds : List D} : kGet1 mb mc sg P E (.dic ks ds, S) = Wp (mb sg S) (kGet2 ks ds mc sg P E) E := by with_unfolding_all rfl
theorem kGet2_eq {ks : List Key} {ds : List D} {k : D} : kGet2 ks ds mc sg P E (k, S) = Wp (mc sg S) (kGet3 ks ds k P) E := by with_unfolding_all rfl
theorem kGet3_eq {ks : List Key} {ds : List D} {k x : D} : kGet3 ks ds k P (x, S) = kO (dGet2 (.dic ks ds) k x) S P := by with_unfolding_all rfl
def kPart (P : Option Int × List O → Prop) : D × List O → Prop := fun x => match x.1 with
  | .int i => P (some i, x.2)
  | _ => False
theorem w_NoP {Pp : Option Int × List O → Prop} : Wp (mNoP sg S) Pp E = Pp (none, S) := by with_unfolding_all rfl
theorem w_Part {Pp : Option Int × List O → Prop} : Wp (mPart m sg S) Pp E = Wp (m sg S) (kPart Pp) E := by
  unfold mPart
  rw [wp_bind]
  congr 1
  funext x
  obtain ⟨d, T⟩ := x
  cases d <;> (with_unfolding_all rfl)
theorem kPart_eq {Pp : Option Int × List O → Prop} {i : Int} : kPart Pp (.int i, S) = Pp (some i, S) := by with_unfolding_all rfl
def kSl3 (x : D) (lo : Option Int) (P : D × List O → Prop) : Option Int × List O → Prop := fun u => kO (D.slo lo u.1 x) u.2 P
def kSl2 (x : D) (mh : MOp) (sg : List Sl) (P : D × List O → Prop) (E : EP') : Option Int × List O → Prop := fun l => Wp (mh sg l.2) (kSl3 x l.1 P) E
def kSl1 (ml mh : MOp) (sg : List Sl) (P : D × List O → Prop) (E : EP') : D × List O → Prop := fun x => Wp (ml sg x.2) (kSl2 x.1 mh sg P E) E
theorem w_Sl {ml mh : MOp} : Wp (mSl m ml mh sg S) P E = Wp (m sg S) (kSl1 ml mh sg P E) E := by
  unfold mSl kSl1 kSl2 kSl3
  simp only [wp_bind, wp_of]
theorem kSl1_eq {ml mh : MOp} {x : D} : kSl1 ml mh sg P E (x, S) = Wp (ml sg S) (kSl2 x mh sg P E) E := by with_unfolding_all rfl
theorem kSl2_eq {mh : MOp} {x : D} {l : Option Int} : kSl2 x mh sg P E (l, S) = Wp (mh sg S) (kSl3 x l P) E := by with_unfolding_all rfl
theorem kSl3_eq {x : D} {l u : Option Int} : kSl3 x l P (u, S) = kO (D.slo l u x) S P := by with_unfolding_all rfl
def kCall (F : FD) (P : D × List O → Prop) : List D × List O → Prop := fun x => Wp (F x.1 x.2) P noE
theorem w_Call {F : FD} : Wp (mCall F ms sg S) P E = Wp (ms sg S) (kCall F P) E := by
  unfold mCall kCall
  rw [wp_bind]
  congr 1
  funext x
  cases F x.1 x.2 <;> (with_unfolding_all rfl)
theorem kCall_eq {F : FD} {ds : List D} : kCall F P (ds, S) = Wp (F ds S) P noE := by with_unfolding_all rfl
def kCallP (F : FD) (P : D × List O → Prop) : List D × List O → Prop := fun x => D.norefA x.1 = true ∧ Wp (F x.1 []) (fun y => y.2 = [] ∧ P (y.1, x.2)) noE
theorem w_CallP {F : FD} : Wp (mCallP F ms sg S) P E = Wp (ms sg S) (kCallP F P) E := by
  unfold mCallP
  rw [wp_bind]
  congr 1
  funext x
  by_cases hx : D.norefA x.1 = true
  · simp only [hx, kCallP, if_true, true_and]
    cases F x.1 [] with
    | ok y =>
      obtain ⟨d, T⟩ := y
      cases T <;> simp [Wp]
    | ex => with_unfolding_all rfl
    | bad => with_unfolding_all rfl
  · simp [hx, kCallP, Wp]
theorem kCallP_eq {F : FD} {ds : List D} : kCallP F P (ds, S) = (D.norefA ds = true ∧ Wp (F ds []) (fun y => y.2 = [] ∧ P (y.1, S)) noE) := by with_unfolding_all rfl
/-! new lists -/
variable {mo : MO}
def kOfO (P : D × List O → Prop) : O × List O → Prop := fun x => P (x.1.toD, x.2)
theorem w_OfO : Wp (mOfO mo sg S) P E = Wp (mo sg S) (kOfO P) E := by
  unfold mOfO
  rw [wp_bind]
  with_unfolding_all rfl
theorem kOfO_eq {o : O} : kOfO P (o, S) = P (o.toD, S) := by with_unfolding_all rfl
theorem toD_lst {ds : List D} : (O.lst ds).toD = .lst ds := by with_unfolding_all rfl
theorem toD_dic {ks : List Key} {ds : List D} : (O.dic ks ds).toD = .dic ks ds := by with_unfolding_all rfl
def kLstO (P : O × List O → Prop) : List D × List O → Prop := fun x => x.1.length ≤ 16777216 ∧ P (.lst x.1, x.2)
theorem w_LstO : Wp (oLst ms sg S) Po E = Wp (ms sg S) (kLstO Po) E := by
  unfold oLst
  rw [wp_bind]
  congr 1
  funext x
  by_cases hx : x.1.length ≤ 16777216
  · simp [hx, kLstO, wp_ok]
  · simp [hx, kLstO, Wp]
theorem kLstO_eq {ds : List D} : kLstO Po (ds, S) = (ds.length ≤ 16777216 ∧ Po (.lst ds, S)) := by with_unfolding_all rfl
theorem w_DicO : Wp (oDic sg S) Po E = Po (.dic [] [], S) := by with_unfolding_all rfl
def kRep2 (x : D) (P : O × List O → Prop) : D × List O → Prop := fun y => match x, y.1 with
  | .lst xs, .int k => decide (-4611686018427387904 ≤ k ∧ k < 4611686018427387904 ∧ xs.length * k.toNat ≤ 16777216) = true ∧ P (.lst (List.replicate k.toNat xs).flatten, y.2)
  | _, _ => False
def kRep (mb : ME) (sg : List Sl) (P : O × List O → Prop) (E : EP') : D × List O → Prop := fun x => Wp (mb sg x.2) (kRep2 x.1 P) E
theorem w_Rep : Wp (oRep ma mb sg S) Po E = Wp (ma sg S) (kRep mb sg Po E) E := by
  unfold oRep kRep
  rw [wp_bind]
  congr 1
  funext x
  rw [wp_bind]
  congr 1
  funext y
  obtain ⟨d, T⟩ := x
  obtain ⟨d', T'⟩ := y
  cases d <;> try (with_unfolding_all rfl)
  cases d' <;> try (with_unfolding_all rfl)
  unfold kRep2
  simp only []
  split
  · rename_i hd
    simp only [hd, wp_ok, true_and]
  · rename_i hd
    simp [hd, Wp]
theorem kRep_eq {x : D} : kRep mb sg Po E (x, S) = Wp (mb sg S) (kRep2 x Po) E := by with_unfolding_all rfl
theorem kRep2_eq {xs : List D} {k : Int} : kRep2 (.lst xs) Po (.int k, S) = (decide (-4611686018427387904 ≤ k ∧ k < 4611686018427387904 ∧ xs.length * k.toNat ≤ 16777216) = true ∧ Po (.lst (List.replicate k.toNat xs).flatten, S)) := by with_unfolding_all rfl
theorem w_Pn {Pp : List (D × D) × List O → Prop} : Wp (mPn sg S) Pp E = Pp ([], S) := by with_unfolding_all rfl
def kPc3 (k v : D) (P : List (D × D) × List O → Prop) : List (D × D) × List O → Prop := fun p => P ((k, v) :: p.1, p.2)
def kPc2 (k : D) (mp : MP) (sg : List Sl) (P : List (D × D) × List O → Prop) (E : EP') : D × List O → Prop := fun v => Wp (mp sg v.2) (kPc3 k v.1 P) E
def kPc1 (mv : ME) (mp : MP) (sg : List Sl) (P : List (D × D) × List O → Prop) (E : EP') : D × List O → Prop := fun k => Wp (mv sg k.2) (kPc2 k.1 mp sg P E) E
theorem w_Pc {mp : MP} {Pp : List (D × D) × List O → Prop} : Wp (mPc ma mb mp sg S) Pp E = Wp (ma sg S) (kPc1 mb mp sg Pp E) E := by
  unfold mPc kPc1 kPc2 kPc3
  simp only [wp_bind, wp_ok]
theorem kPc1_eq {mp : MP} {Pp : List (D × D) × List O → Prop} {k : D} : kPc1 mb mp sg Pp E (k, S) = Wp (mb sg S) (kPc2 k mp sg Pp E) E := by with_unfolding_all rfl
theorem kPc2_eq {mp : MP} {Pp : List (D × D) × List O → Prop} {k v : D} : kPc2 k mp sg Pp E (v, S) = Wp (mp sg S) (kPc3 k v Pp) E := by with_unfolding_all rfl
theorem kPc3_eq {Pp : List (D × D) × List O → Prop} {k v : D} {ps : List (D × D)} : kPc3 k v Pp (ps, S) = Pp ((k, v) :: ps, S) := by with_unfolding_all rfl
def kDisp2 (o : Option (List (Key × D))) (S : List O) (P : O × List O → Prop) : Prop := match o with
  | some ps => ps.length ≤ 15 ∧ P (.dic (dicMerge ps [] []).1 (dicMerge ps [] []).2, S)
  | none => False
def kDisp (P : O × List O → Prop) : List (D × D) × List O → Prop := fun x => kDisp2 (keyed x.1) x.2 P
theorem w_Disp {mp : MP} : Wp (oDisp mp sg S) Po E = Wp (mp sg S) (kDisp Po) E := by
  unfold oDisp
  rw [wp_bind]
  congr 1
  funext x
  unfold kDisp kDisp2
  cases keyed x.1 with
  | none => with_unfolding_all rfl
  | some ps =>
    by_cases hx : ps.length ≤ 15
    · simp [hx, wp_ok]
    · simp [hx, Wp]
theorem kDisp_eq {ps : List (D × D)} : kDisp Po (ps, S) = kDisp2 (keyed ps) S Po := by with_unfolding_all rfl
theorem kDisp2_eq {ps : List (Key × D)} : kDisp2 (some ps) S Po = (ps.length ≤ 15 ∧ Po (.dic (dicMerge ps [] []).1 (dicMerge ps [] []).2, S)) := by with_unfolding_all rfl
theorem keyed_nil : keyed [] = some [] := by with_unfolding_all rfl
theorem keyed_S {x : Str} {d : D} {r : List (D × D)} : keyed ((.str x, d) :: r) = (keyed r).map fun q => (.inr x, d) :: q := by
  simp only [keyed, D.key?]
  cases keyed r <;> (with_unfolding_all rfl)
theorem keyed_I {x : Int} {d : D} {r : List (D × D)} : keyed ((.int x, d) :: r) = (keyed r).map fun q => (.inl x, d) :: q := by
  simp only [keyed, D.key?]
  cases keyed r <;> (with_unfolding_all rfl)
def kLc2 (P : O × List O → Prop) : List D × List O → Prop := fun y => P (.lst y.1, y.2)
def kLc (wk : Bool) (g : D → List Sl → Option (List Sl)) (mt : MT) (me : ME) (vs : List Nat) (sg : List Sl) (P : O × List O → Prop) (E : EP') : List D × List O → Prop := fun x =>
  x.1.length ≤ 16777216 ∧ (!wk || D.flatA x.1) = true ∧ (vs.all fun v => !isOwn sg[v]?) = true ∧ Wp (lcR g mt me (wipeS sg vs) x.1 x.2) (kLc2 P) E
theorem w_Lc {wk : Bool} {mi : MA} {gg : D → List Sl → Option (List Sl)} {vs : List Nat} : Wp (oLc wk mi gg mt m vs sg S) Po E = Wp (mi sg S) (kLc wk gg mt m vs sg Po E) E := by
  unfold oLc
  rw [wp_bind]
  congr 1
  funext x
  unfold kLc
  by_cases hx : (decide (x.1.length ≤ 16777216) && (!wk || D.flatA x.1) && vs.all fun v => !isOwn sg[v]?) = true
  · rw [if_pos hx, wp_bind]
    simp only [Bool.and_eq_true, decide_eq_true_eq] at hx
    simp only [hx, true_and]
    with_unfolding_all rfl
  · rw [if_neg hx]
    simp only [Bool.and_eq_true, decide_eq_true_eq] at hx
    apply propext
    constructor
    · intro z; exact (wp_badE z).elim
    · intro ⟨z1, z2, z3, _⟩; exact absurd ⟨⟨z1, z2⟩, z3⟩ hx
theorem kLc_eq {wk : Bool} {gg : D → List Sl → Option (List Sl)} {vs : List Nat} {ds : List D} : kLc wk gg mt m vs sg Po E (ds, S) =
  (ds.length ≤ 16777216 ∧ (!wk || D.flatA ds) = true ∧ (vs.all fun v => !isOwn sg[v]?) = true ∧ Wp (lcR gg mt m (wipeS sg vs) ds S) (kLc2 Po) E) := by with_unfolding_all rfl
theorem kLc2_eq {ds : List D} : kLc2 Po (ds, S) = Po (.lst ds, S) := by with_unfolding_all rfl
/-! what is walked -/
def kIl (P : List D × List O → Prop) : D × List O → Prop := fun x => match x.1 with
  | .lst ds => P (ds, x.2)
  | _ => False
theorem w_Il : Wp (mIl m sg S) Pa E = Wp (m sg S) (kIl Pa) E := by
  unfold mIl
  rw [wp_bind]
  congr 1
  funext x
  obtain ⟨d, T⟩ := x
  cases d <;> (with_unfolding_all rfl)
theorem kIl_eq {ds : List D} : kIl Pa (.lst ds, S) = Pa (ds, S) := by with_unfolding_all rfl
def kIt (P : List D × List O → Prop) : D × List O → Prop := fun x => match x.1 with
  | .tup ds => P (ds, x.2)
  | _ => False
theorem w_It : Wp (mIt m sg S) Pa E = Wp (m sg S) (kIt Pa) E := by
  unfold mIt
  rw [wp_bind]
  congr 1
  funext x
  obtain ⟨d, T⟩ := x
  cases d <;> (with_unfolding_all rfl)
theorem kIt_eq {ds : List D} : kIt Pa (.tup ds, S) = Pa (ds, S) := by with_unfolding_all rfl
def kIr1 (P : List D × List O → Prop) : List D × List O → Prop := fun x => match one1 x.1 with
  | some j => lim62 j = true ∧ P (rngD 0 j.toNat, x.2)
  | none => False
theorem w_Ir1 : Wp (mIr1 ms sg S) Pa E = Wp (ms sg S) (kIr1 Pa) E := by
  unfold mIr1
  rw [wp_bind]
  congr 1
  funext x
  unfold kIr1
  cases one1 x.1 with
  | none => with_unfolding_all rfl
  | some j =>
    by_cases hx : lim62 j = true
    · simp [hx, wp_ok]
    · simp [hx, Wp]
theorem kIr1_eq {j : Int} : kIr1 Pa ([.int j], S) = (lim62 j = true ∧ Pa (rngD 0 j.toNat, S)) := by with_unfolding_all rfl
def kIr2 (P : List D × List O → Prop) : List D × List O → Prop := fun x => match two2 x.1 with
  | some (i, j) => (lim62 i && lim62 j) = true ∧ P (rngD i (j - i).toNat, x.2)
  | none => False
theorem w_Ir2 : Wp (mIr2 ms sg S) Pa E = Wp (ms sg S) (kIr2 Pa) E := by
  unfold mIr2
  rw [wp_bind]
  congr 1
  funext x
  unfold kIr2
  cases two2 x.1 with
  | none => with_unfolding_all rfl
  | some p =>
    obtain ⟨i, j⟩ := p
    by_cases hx : (lim62 i && lim62 j) = true
    · simp [hx, wp_ok]
    · simp [hx, Wp]
theorem kIr2_eq {i j : Int} : kIr2 Pa ([.int i, .int j], S) = ((lim62 i && lim62 j) = true ∧ Pa (rngD i (j - i).toNat, S)) := by with_unfolding_all rfl
def kIe (P : List D × List O → Prop) : List D × List O → Prop := fun x => match oneL x.1 with
  | some ds => P (enumD 0 ds, x.2)
  | none => False
theorem w_Ie : Wp (mIe ms sg S) Pa E = Wp (ms sg S) (kIe Pa) E := by
  unfold mIe
  rw [wp_bind]
  congr 1
  funext x
  unfold kIe
  cases oneL x.1 <;> (with_unfolding_all rfl)
theorem kIe_eq {ds : List D} : kIe Pa ([.lst ds], S) = Pa (enumD 0 ds, S) := by with_unfolding_all rfl
def kIeT (P : List D × List O → Prop) : List D × List O → Prop := fun x => match oneT x.1 with
  | some ds => P (enumD 0 ds, x.2)
  | none => False
theorem w_IeT : Wp (mIeT ms sg S) Pa E = Wp (ms sg S) (kIeT Pa) E := by
  unfold mIeT
  rw [wp_bind]
  congr 1
  funext x
  unfold kIeT
  cases oneT x.1 <;> (with_unfolding_all rfl)
theorem kIeT_eq {ds : List D} : kIeT Pa ([.tup ds], S) = Pa (enumD 0 ds, S) := by with_unfolding_all rfl
theorem w_Yes : Wp (mYes sg S) Pb E = Pb (true, S) := by with_unfolding_all rfl
/-! statements -/
variable {m1 m2 : MS}
def kSeq (m2 : MS) (P : Fl × List Sl × List O → Prop) (E : EP') : Fl × List Sl × List O → Prop := fun x => match x.1 with
  | .nx => Wp (m2 x.2.1 x.2.2) P E
  | f => P (f, x.2)
theorem w_Seq : Wp (mSeq m1 m2 sg S) Ps E = Wp (m1 sg S) (kSeq m2 Ps E) E := by
  unfold mSeq
  rw [wp_bind]
  congr 1
  funext x
  obtain ⟨fl, T⟩ := x
  cases fl <;> (with_unfolding_all rfl)
theorem kSeq_nx : kSeq m2 Ps E (.nx, sg, S) = Wp (m2 sg S) Ps E := by with_unfolding_all rfl
theorem kSeq_bk : kSeq m2 Ps E (.bk, sg, S) = Ps (.bk, sg, S) := by with_unfolding_all rfl
theorem kSeq_ct : kSeq m2 Ps E (.ct, sg, S) = Ps (.ct, sg, S) := by with_unfolding_all rfl
theorem kSeq_rt {d : D} : kSeq m2 Ps E (.rt d, sg, S) = Ps (.rt d, sg, S) := by with_unfolding_all rfl
theorem w_Nx : Wp (mNx sg S) Ps E = Ps (.nx, sg, S) := by with_unfolding_all rfl
theorem w_Bk : Wp (mBk sg S) Ps E = Ps (.bk, sg, S) := by with_unfolding_all rfl
theorem w_Ct : Wp (mCt sg S) Ps E = Ps (.ct, sg, S) := by with_unfolding_all rfl
theorem w_RetN : Wp (mRetN sg S) Ps E = Ps (.rt .non, sg, S) := by with_unfolding_all rfl
def kRet (sg : List Sl) (P : Fl × List Sl × List O → Prop) : D × List O → Prop := fun x => P (.rt x.1, sg, x.2)
theorem w_Ret : Wp (mRet m sg S) Ps E = Wp (m sg S) (kRet sg Ps) E := by
  unfold mRet
  rw [wp_bind]
  with_unfolding_all rfl
theorem kRet_eq {d : D} : kRet sg Ps (d, S) = Ps (.rt d, sg, S) := by with_unfolding_all rfl
def kDrop (sg : List Sl) (P : Fl × List Sl × List O → Prop) : D × List O → Prop := fun x => P (.nx, sg, x.2)
theorem w_Drop : Wp (mDrop m sg S) Ps E = Wp (m sg S) (kDrop sg Ps) E := by
  unfold mDrop
  rw [wp_bind]
  with_unfolding_all rfl
theorem kDrop_eq {d : D} : kDrop sg Ps (d, S) = Ps (.nx, sg, S) := by with_unfolding_all rfl
def kIfS (m1 m2 : MS) (sg : List Sl) (P : Fl × List Sl × List O → Prop) (E : EP') : Bool × List O → Prop := fun x => if x.1 = true then Wp (m1 sg x.2) P E else Wp (m2 sg x.2) P E
theorem w_IfS : Wp (mIfS mt m1 m2 sg S) Ps E = Wp (mt sg S) (kIfS m1 m2 sg Ps E) E := by
  unfold mIfS
  rw [wp_bind]
  congr 1
  funext x
  obtain ⟨b, T⟩ := x
  cases b <;> (with_unfolding_all rfl)
theorem kIfS_eq {b : Bool} : kIfS m1 m2 sg Ps E (b, S) = if b = true then Wp (m1 sg S) Ps E else Wp (m2 sg S) Ps E := by with_unfolding_all rfl
theorem w_Frz {i : Nat} : Wp (mFrz i m1 sg S) Ps E = Wp (m1 (frz i sg) S) Ps E := by with_unfolding_all rfl
def kSet (i : Nat) (sg : List Sl) (P : Fl × List Sl × List O → Prop) : D × List O → Prop := fun x => P (.nx, sg.set i (.val x.1), x.2)
theorem w_Set {i : Nat} : Wp (mSet i m sg S) Ps E = Wp (m sg S) (kSet i sg Ps) E := by
  unfold mSet
  rw [wp_bind]
  with_unfolding_all rfl
theorem kSet_eq {i : Nat} {d : D} : kSet i sg Ps (d, S) = Ps (.nx, sg.set i (.val d), S) := by with_unfolding_all rfl
def kSetO (i : Nat) (sg : List Sl) (P : Fl × List Sl × List O → Prop) : O × List O → Prop := fun x => i < sg.length ∧ P (.nx, sg.set i (.own x.1), x.2)
theorem w_SetO {i : Nat} : Wp (mSetO i mo sg S) Ps E = Wp (mo sg S) (kSetO i sg Ps) E := by
  unfold mSetO
  rw [wp_bind]
  congr 1
  funext x
  unfold kSetO
  by_cases hx : i < sg.length
  · simp [hx, wp_ok]
  · simp [hx, Wp]
theorem kSetO_eq {i : Nat} {o : O} : kSetO i sg Ps (o, S) = (i < sg.length ∧ Ps (.nx, sg.set i (.own o), S)) := by with_unfolding_all rfl
def kAft (i : Nat) (P : Fl × List Sl × List O → Prop) : Fl × List Sl × List O → Prop := fun x => P (x.1, frz i x.2.1, x.2.2)
theorem w_Aft {i : Nat} : Wp (mAft i m1 sg S) Ps E = Wp (m1 sg S) (kAft i Ps) E := by
  unfold mAft
  rw [wp_bind]
  with_unfolding_all rfl
theorem kAft_eq {i : Nat} {fl : Fl} : kAft i Ps (fl, sg, S) = Ps (fl, frz i sg, S) := by with_unfolding_all rfl
def kAsg2 (o : Option (List Sl)) (S : List O) (P : Fl × List Sl × List O → Prop) : Prop := match o with
  | some sg1 => P (.nx, sg1, S)
  | none => False
def kAsg (gg : D → List Sl → Option (List Sl)) (sg : List Sl) (P : Fl × List Sl × List O → Prop) : D × List O → Prop := fun x => kAsg2 (gg x.1 sg) x.2 P
theorem w_Asg {gg : D → List Sl → Option (List Sl)} : Wp (mAsg m gg sg S) Ps E = Wp (m sg S) (kAsg gg sg Ps) E := by
  unfold mAsg
  rw [wp_bind]
  congr 1
  funext x
  unfold kAsg kAsg2
  cases gg x.1 sg <;> (with_unfolding_all rfl)
theorem kAsg_eq {gg : D → List Sl → Option (List Sl)} {d : D} : kAsg gg sg Ps (d, S) = kAsg2 (gg d sg) S Ps := by with_unfolding_all rfl
theorem kAsg2_eq {sg1 : List Sl} : kAsg2 (some sg1) S Ps = Ps (.nx, sg1, S) := by with_unfolding_all rfl
def kFor (gg : D → List Sl → Option (List Sl)) (body : MS) (sg : List Sl) (P : Fl × List Sl × List O → Prop) (E : EP') : List D × List O → Prop := fun x => Wp (loopM gg body x.1 sg x.2) P E
theorem w_For {mi : MA} {gg : D → List Sl → Option (List Sl)} : Wp (mFor mi gg m1 sg S) Ps E = Wp (mi sg S) (kFor gg m1 sg Ps E) E := by
  unfold mFor kFor
  rw [wp_bind]
theorem kFor_eq {gg : D → List Sl → Option (List Sl)} {ds : List D} : kFor gg m1 sg Ps E (ds, S) = Wp (loopM gg m1 ds sg S) Ps E := by with_unfolding_all rfl
theorem w_While {n : Nat} : Wp (mWhile n mt m1 sg S) Ps E = Wp (whileM mt m1 n sg S) Ps E := by with_unfolding_all rfl
/-! a change of an object -/
def kPutO (i : Nat) (o : O) (sg : List Sl) (d : D) (P : Fl × List Sl × List O → Prop) : D × List O → Prop := fun k => match o.put k.1 d with
  | some o' => P (.nx, sg.set i (.own o'), k.2)
  | none => False
def kPutR2 (o : Option O) (n : Nat) (sg : List Sl) (d k : D) (S : List O) (P : Fl × List Sl × List O → Prop) : Prop := match o with
  | some o => match o.put k d with
    | some o' => P (.nx, sg, S.set n o')
    | none => False
  | none => False
def kPutR (n : Nat) (sg : List Sl) (d : D) (P : Fl × List Sl × List O → Prop) : D × List O → Prop := fun k => kPutR2 k.2[n]? n sg d k.1 k.2 P
def kPut2 (s : Option Sl) (i : Nat) (mk : ME) (sg : List Sl) (d : D) (S : List O) (P : Fl × List Sl × List O → Prop) (E : EP') : Prop := match s with
  | some (.own o) => Wp (mk sg S) (kPutO i o sg d P) E
  | some (.val (.ref n)) => Wp (mk sg S) (kPutR n sg d P) E
  | _ => False
def kPut (i : Nat) (mk : ME) (sg : List Sl) (P : Fl × List Sl × List O → Prop) (E : EP') : D × List O → Prop := fun x => kPut2 sg[i]? i mk sg x.1 x.2 P E
theorem w_Put {i : Nat} : Wp (mPut i ma mb sg S) Ps E = Wp (ma sg S) (kPut i mb sg Ps E) E := by
  unfold mPut
  rw [wp_bind]
  congr 1
  funext x
  unfold kPut kPut2
  cases sg[i]? with
  | none => with_unfolding_all rfl
  | some s =>
    cases s with
    | no => with_unfolding_all rfl
    | own o =>
      simp only [wp_bind]
      congr 1
      funext y
      unfold kPutO
      cases o.put y.1 x.1 <;> (with_unfolding_all rfl)
    | val d =>
      cases d <;> try (with_unfolding_all rfl)
      rename_i n
      simp only [wp_bind]
      congr 1
      funext y
      unfold kPutR kPutR2
      cases y.2[n]? with
      | none => with_unfolding_all rfl
      | some o =>
        simp only []
        cases o.put y.1 x.1 <;> (with_unfolding_all rfl)
theorem kPut_eq {i : Nat} {d : D} : kPut i mb sg Ps E (d, S) = kPut2 sg[i]? i mb sg d S Ps E := by with_unfolding_all rfl
theorem kPut2_own {i : Nat} {o : O} {d : D} : kPut2 (some (.own o)) i mb sg d S Ps E = Wp (mb sg S) (kPutO i o sg d Ps) E := by with_unfolding_all rfl
theorem kPut2_ref {i n : Nat} {d : D} : kPut2 (some (.val (.ref n))) i mb sg d S Ps E = Wp (mb sg S) (kPutR n sg d Ps) E := by with_unfolding_all rfl
theorem kPutO_eq {i : Nat} {o o' : O} {d k : D} (e : o.put k d = some o') : kPutO i o sg d Ps (k, S) = Ps (.nx, sg.set i (.own o'), S) := by
  simp [kPutO, e]
theorem kPutR_eq {n : Nat} {d k : D} : kPutR n sg d Ps (k, S) = kPutR2 S[n]? n sg d k S Ps := by with_unfolding_all rfl
theorem kPutR2_eq {n : Nat} {o o' : O} {d k : D} (e : o.put k d = some o') : kPutR2 (some o) n sg d k S Ps = Ps (.nx, sg, S.set n o') := by
  simp [kPutR2, e]
def kOwn2 (i : Nat) (fo : O → List D → Option (O × D)) (o : O) (sg : List Sl) (P : D × List Sl × List O → Prop) : List D × List O → Prop := fun x => match fo o x.1 with
  | some (o', z) => P (z, sg.set i (.own o'), x.2)
  | none => False
def kOwn (s : Option Sl) (i : Nat) (c : O → Bool) (fo : O → List D → Option (O × D)) (ms : MA) (sg : List Sl) (S : List O) (P : D × List Sl × List O → Prop) (E : EP') : Prop := match s with
  | some (.own o) => c o = true ∧ Wp (ms sg S) (kOwn2 i fo o sg P) E
  | _ => False
theorem w_Own {i : Nat} {c : O → Bool} {fo : O → List D → Option (O × D)} {Pw : D × List Sl × List O → Prop} : Wp (mOwn i c fo ms sg S) Pw E = kOwn sg[i]? i c fo ms sg S Pw E := by
  unfold mOwn kOwn
  cases sg[i]? with
  | none => with_unfolding_all rfl
  | some s =>
    cases s with
    | no => with_unfolding_all rfl
    | val d => with_unfolding_all rfl
    | own o =>
      by_cases hx : c o = true
      · simp only [hx, if_true, true_and, wp_bind]
        congr 1
        funext x
        unfold kOwn2
        cases fo o x.1 <;> (with_unfolding_all rfl)
      · simp [hx, Wp]
def kOwnE (P : Fl × List Sl × List O → Prop) : D × List Sl × List O → Prop := fun x => P (.nx, x.2)
def kOwnS (j : Nat) (P : Fl × List Sl × List O → Prop) : D × List Sl × List O → Prop := fun x => P (.nx, x.2.1.set j (.val x.1), x.2.2)
theorem w_OwnE {i : Nat} {c : O → Bool} {fo : O → List D → Option (O × D)} : Wp (mOwnE i c fo ms sg S) Ps E = kOwn sg[i]? i c fo ms sg S (kOwnE Ps) E := by
  unfold mOwnE
  rw [wp_bind, ← w_Own]
  with_unfolding_all rfl
theorem w_OwnS {i j : Nat} {c : O → Bool} {fo : O → List D → Option (O × D)} : Wp (mOwnS i j c fo ms sg S) Ps E = kOwn sg[i]? i c fo ms sg S (kOwnS j Ps) E := by
  unfold mOwnS
  rw [wp_bind, ← w_Own]
  with_unfolding_all rfl
theorem kOwn_eq {i : Nat} {c : O → Bool} {fo : O → List D → Option (O × D)} {o : O} {Pw : D × List Sl × List O → Prop} : kOwn (some (.own o)) i c fo ms sg S Pw E = (c o = true ∧ Wp (ms sg S) (kOwn2 i fo o sg Pw) E) := by with_unfolding_all rfl
theorem kOwn2_eq {i : Nat} {fo : O → List D → Option (O × D)} {o o' : O} {ds : List D} {z : D} {Pw : D × List Sl × List O → Prop} (e : fo o ds = some (o', z)) : kOwn2 i fo o sg Pw (ds, S) = Pw (z, sg.set i (.own o'), S) := by
  simp [kOwn2, e]
theorem kOwnE_eq {d : D} : kOwnE Ps (d, sg, S) = Ps (.nx, sg, S) := by with_unfolding_all rfl
theorem kOwnS_eq {j : Nat} {d : D} : kOwnS j Ps (d, sg, S) = Ps (.nx, sg.set j (.val d), S) := by with_unfolding_all rfl
/-! defs -/
def kFn (P : D × List O → Prop) : Fl × List Sl × List O → Prop := fun x => match x.1 with
  | .nx => P (.non, x.2.2)
  | .rt d => P (d, x.2.2)
  | _ => False
theorem w_Fn {N : List Str} {ds : List D} : Wp (fnF N m1 ds S) P E = Wp (m1 (startS N ds) S) (kFn P) E := by
  unfold fnF
  cases m1 (startS N ds) S with
  | ok x =>
    obtain ⟨fl, sg', S'⟩ := x
    cases fl <;> (with_unfolding_all rfl)
  | ex => with_unfolding_all rfl
  | bad => with_unfolding_all rfl
theorem kFn_nx : kFn P (.nx, sg, S) = P (.non, S) := by with_unfolding_all rfl
theorem kFn_rt {d : D} : kFn P (.rt d, sg, S) = P (d, S) := by with_unfolding_all rfl
/-! ### loops -/
def kLoop (J : List Sl → List O → Prop) (P : Fl × List Sl × List O → Prop) : Fl × List Sl × List O → Prop := fun x => match x.1 with
  | .nx => J x.2.1 x.2.2
  | .ct => J x.2.1 x.2.2
  | .bk => P (.nx, x.2)
  | .rt v => P (.rt v, x.2)
variable {J : List Sl → List O → Prop}
theorem kLoop_nx : kLoop J Ps (.nx, sg, S) = J sg S := by with_unfolding_all rfl
theorem kLoop_ct : kLoop J Ps (.ct, sg, S) = J sg S := by with_unfolding_all rfl
theorem kLoop_bk : kLoop J Ps (.bk, sg, S) = Ps (.nx, sg, S) := by with_unfolding_all rfl
theorem kLoop_rt {d : D} : kLoop J Ps (.rt d, sg, S) = Ps (.rt d, sg, S) := by with_unfolding_all rfl
theorem loopAux {gg : D → List Sl → Option (List Sl)} {body : MS} {P : Fl × List Sl × List O → Prop} {E : EP'} (Inv : Nat → List Sl → List O → Prop) : ∀ {ds : List D} {k : Nat} {sg : List Sl} {S : List O}, Inv k sg S →
    (∀ i d sg S, ds[i]? = some d → Inv (k + i) sg S → ∃ sg1, gg d sg = some sg1 ∧ Wp (body sg1 S) (kLoop (Inv (k + i + 1)) P) E) →
    (∀ sg S, Inv (k + ds.length) sg S → P (.nx, sg, S)) → Wp (loopM gg body ds sg S) P E
  | [], k, sg, S, h0, _, h2 => wp_okI (h2 sg S h0)
  | d :: ds, k, sg, S, h0, h1, h2 => by
    obtain ⟨sg1, e, q⟩ := h1 0 d sg S rfl h0
    unfold loopM
    simp only [e]
    rw [wp_bind]
    refine q.imp fun x hx => ?_
    obtain ⟨fl, sg2, S2⟩ := x
    have go : Inv (k + 1) sg2 S2 → Wp (loopM gg body ds sg2 S2) P E := fun hi => by
      refine loopAux Inv (k := k + 1) hi (fun i d sg S hd hk => ?_) (fun sg S hk => h2 sg S ?_)
      · have := h1 (i + 1) d sg S (by simpa using hd) (by rw [show k + (i + 1) = k + 1 + i by omega]; exact hk)
        rw [show k + (i + 1) + 1 = k + 1 + i + 1 by omega] at this
        exact this
      · rw [List.length_cons, show k + (ds.length + 1) = k + 1 + ds.length by omega]; exact hk
    cases fl with
    | nx => exact go hx
    | ct => exact go hx
    | bk => exact wp_okI hx
    | rt v => exact wp_okI hx
theorem Wp.loop {gg : D → List Sl → Option (List Sl)} {body : MS} {P : Fl × List Sl × List O → Prop} {E : EP'} (Inv : Nat → List Sl → List O → Prop) {ds : List D} {sg : List Sl} {S : List O} (h0 : Inv 0 sg S)
    (h1 : ∀ i d sg S, ds[i]? = some d → Inv i sg S → ∃ sg1, gg d sg = some sg1 ∧ Wp (body sg1 S) (kLoop (Inv (i + 1)) P) E)
    (h2 : ∀ sg S, Inv ds.length sg S → P (.nx, sg, S)) : Wp (loopM gg body ds sg S) P E :=
  loopAux Inv (k := 0) h0 (fun i d sg S hd hk => by rw [Nat.zero_add] at hk ⊢; exact h1 i d sg S hd hk) (fun sg S hk => h2 sg S (by rw [Nat.zero_add] at hk; exact hk))
theorem gNm_ok {i : Nat} {d : D} {sg : List Sl} (h : isOwn sg[i]? = false) : gNm i d sg = some (sg.set i (.val d)) := by
  unfold gNm
  rw [if_neg (by rw [h]; decide)]
def kWh (J : List Sl → List O → Prop) (P : Fl × List Sl × List O → Prop) : Fl × List Sl × List O → Prop := kLoop J P
/-- while: at most n turns are left -/
theorem Wp.wh {mt : MT} {body : MS} {P : Fl × List Sl × List O → Prop} {E : EP'} (Inv : Nat → List Sl → List O → Prop)
    (h1 : ∀ n sg S, Inv n sg S → Wp (mt sg S) (fun t => if t.1 = true then 0 < n ∧ Wp (body sg t.2) (kLoop (fun sg S => ∃ m, m < n ∧ Inv m sg S) P) E else P (.nx, sg, t.2)) E) : ∀ {N n : Nat} {sg : List Sl} {S : List O}, Inv n sg S → n < N → Wp (whileM mt body N sg S) P E
  | 0, n, sg, S, _, hn => absurd hn (by omega)
  | N + 1, n, sg, S, h0, hn => by
    unfold whileM
    rw [wp_bind]
    refine (h1 n sg S h0).imp fun t ht => ?_
    split
    · rename_i ct
      rw [if_pos ct] at ht
      rw [wp_bind]
      refine ht.2.imp fun x hx => ?_
      obtain ⟨fl, sg2, S2⟩ := x
      cases fl with
      | nx => obtain ⟨m, hm, hi⟩ := hx; exact Wp.wh Inv h1 hi (by omega)
      | ct => obtain ⟨m, hm, hi⟩ := hx; exact Wp.wh Inv h1 hi (by omega)
      | bk => exact wp_okI hx
      | rt v => exact wp_okI hx
    · rename_i ct
      rw [if_neg ct] at ht
      exact wp_okI ht
theorem lcAux {gg : D → List Sl → Option (List Sl)} {mt : MT} {me : ME} {P : List D × List O → Prop} {sg : List Sl} {E : EP'} (Inv : Nat → List D → List O → Prop) : ∀ {ds : List D} {k : Nat} {acc : List D} {S : List O}, Inv k acc S →
    (∀ i d acc S, ds[i]? = some d → Inv (k + i) acc S → ∃ sg1, gg d sg = some sg1 ∧ Wp (mt sg1 S) (fun t => if t.1 = true then Wp (me sg1 t.2) (fun x => Inv (k + i + 1) (acc ++ [x.1]) x.2) noE else Inv (k + i + 1) acc t.2) noE) →
    (∀ acc' S, Inv (k + ds.length) acc' S → P (acc', S)) → Wp (lcR gg mt me sg ds S) (fun y => P (acc ++ y.1, y.2)) E
  | [], k, acc, S, h0, _, h2 => by
    refine wp_okI ?_
    rw [List.append_nil]
    exact h2 acc S h0
  | d :: ds, k, acc, S, h0, h1, h2 => by
    obtain ⟨sg1, e, q⟩ := h1 0 d acc S rfl h0
    unfold lcR
    simp only [e]
    have step : ∀ {acc' : List D} {S' : List O}, Inv (k + 1) acc' S' → Wp (lcR gg mt me sg ds S') (fun y => P (acc' ++ y.1, y.2)) E := fun hi => by
      refine lcAux Inv (k := k + 1) hi (fun i d acc S hd hk => ?_) (fun acc' S hk => h2 acc' S ?_)
      · have := h1 (i + 1) d acc S (by simpa using hd) (by rw [show k + (i + 1) = k + 1 + i by omega]; exact hk)
        rw [show k + (i + 1) + 1 = k + 1 + i + 1 by omega] at this
        exact this
      · rw [List.length_cons, show k + (ds.length + 1) = k + 1 + ds.length by omega]; exact hk
    cases et : mt sg1 S with
    | ex => rw [et] at q; exact (wp_exE q).elim
    | bad => rw [et] at q; exact (wp_badE q).elim
    | ok t =>
      obtain ⟨b, S1⟩ := t
      rw [et] at q
      cases b with
      | false =>
        have q0 := wp_okE q
        have q' : Inv (k + 0 + 1) acc S1 := by simpa using q0
        exact step q'
      | true =>
        have q0 := wp_okE q
        have q' : Wp (me sg1 S1) (fun x => Inv (k + 0 + 1) (acc ++ [x.1]) x.2) noE := by simpa using q0
        simp only []
        cases ee : me sg1 S1 with
        | ex => rw [ee] at q'; exact (wp_exE q').elim
        | bad => rw [ee] at q'; exact (wp_badE q').elim
        | ok x =>
          obtain ⟨v, S2⟩ := x
          rw [ee] at q'
          simp only []
          rw [wp_bind]
          have q3 := wp_okE q'
          have q2 : Inv (k + 1) (acc ++ [v]) S2 := q3
          have r := step q2
          refine r.imp fun y hy => ?_
          refine wp_okI ?_
          rw [List.append_assoc] at hy
          exact hy
theorem Wp.lc {gg : D → List Sl → Option (List Sl)} {mt : MT} {me : ME} {P : List D × List O → Prop} {sg : List Sl} {E : EP'} (Inv : Nat → List D → List O → Prop) {ds : List D} {S : List O} (h0 : Inv 0 [] S)
    (h1 : ∀ i d acc S, ds[i]? = some d → Inv i acc S → ∃ sg1, gg d sg = some sg1 ∧ Wp (mt sg1 S) (fun t => if t.1 = true then Wp (me sg1 t.2) (fun x => Inv (i + 1) (acc ++ [x.1]) x.2) noE else Inv (i + 1) acc t.2) noE)
    (h2 : ∀ acc S, Inv ds.length acc S → P (acc, S)) : Wp (lcR gg mt me sg ds S) P E :=
  lcAux Inv (k := 0) (acc := []) h0 (fun i d acc S hd hk => by rw [Nat.zero_add] at hk ⊢; exact h1 i d acc S hd hk) (fun acc S hk => h2 acc S (by rw [Nat.zero_add] at hk; exact hk))
/-- a comprehension that changes nothing: as a list -/
theorem lc_pure {gg : D → List Sl → Option (List Sl)} {mt : MT} {me : ME} {sg : List Sl} {S : List O} {α : Type} {en : α → D} {p : α → Bool} {f : α → D} : ∀ {xs : List α},
    (∀ x, x ∈ xs → ∃ sg1, gg (en x) sg = some sg1 ∧ mt sg1 S = .ok (p x, S) ∧ (p x = true → me sg1 S = .ok (f x, S))) → lcR gg mt me sg (xs.map en) S = .ok ((xs.filter p).map f, S)
  | [], _ => rfl
  | x :: xs, h => by
    obtain ⟨sg1, e1, e2, e3⟩ := h x List.mem_cons_self
    have ih := lc_pure (xs := xs) fun y hy => h y (List.mem_cons_of_mem _ hy)
    rw [List.map_cons, lcR]
    simp only [e1, e2]
    cases hp : p x with
    | true =>
      simp only [e3 hp, ih, List.filter_cons, hp, if_true, List.map_cons]
      rfl
    | false =>
      simp only [ih, List.filter_cons, hp]
      rfl
end
end D2

namespace D2
open PySem PySem.Spec PyProof.Rows L2

/-! ### values of operators -/
section
variable {P : D × List O → Prop} {S : List O}
theorem o_addI {i j : Int} : kO (D.add (.int i) (.int j)) S P = P (.int (i + j), S) := by with_unfolding_all rfl
theorem ok_ite {c : Prop} [Decidable c] {d : D} : kO (if c then some d else none) S P = (c ∧ P (d, S)) := by
  by_cases h : c
  · simp [h, kO]
  · simp [h, kO]
theorem o_addS {x y : Str} : kO (D.add (.str x) (.str y)) S P = (x.length + y.length ≤ 16777216 ∧ P (.str (x ++ y), S)) := ok_ite
theorem o_addT {x y : List D} : kO (D.add (.tup x) (.tup y)) S P = (x.length + y.length ≤ 16777216 ∧ P (.tup (x ++ y), S)) := ok_ite
theorem o_addL {x y : List D} : kO (D.add (.lst x) (.lst y)) S P = (x.length + y.length ≤ 16777216 ∧ P (.lst (x ++ y), S)) := ok_ite
theorem o_sub {i j : Int} : kO (D.sub (.int i) (.int j)) S P = P (.int (i - j), S) := by with_unfolding_all rfl
theorem o_iop {C : Int → Int → Bool} {g : Int → Int → Int} {i j : Int} : kO (D.iop C g (.int i) (.int j)) S P = (C i j = true ∧ P (.int (g i j), S)) := ok_ite
theorem o_fdiv {i j : Int} : kO (D.fdiv (.int i) (.int j)) S P = ((0 < j ∧ j < 1073741824) ∧ P (.int (i / j), S)) := by
  rw [o_iop, decide_eq_true_eq]
theorem o_mod {i j : Int} : kO (D.mod (.int i) (.int j)) S P = (0 < j ∧ P (.int (i % j), S)) := by
  rw [o_iop, decide_eq_true_eq]
theorem o_pow {i j : Int} : kO (D.powI (.int i) (.int j)) S P = ((0 ≤ j ∧ j ≤ 1000000 ∧ -18446744073709551616 < i ∧ i < 18446744073709551616) ∧ P (.int (i ^ j.toNat), S)) := by
  rw [o_iop, decide_eq_true_eq, show (i.natAbs < 18446744073709551616) = (-18446744073709551616 < i ∧ i < 18446744073709551616) from propext (by omega)]
theorem o_shl {i j : Int} : kO (D.shl (.int i) (.int j)) S P = ((0 ≤ j ∧ j ≤ 1000000 ∧ -18446744073709551616 < i ∧ i < 18446744073709551616) ∧ P (.int (i * 2 ^ j.toNat), S)) := by
  rw [o_iop, decide_eq_true_eq, show (i.natAbs < 18446744073709551616) = (-18446744073709551616 < i ∧ i < 18446744073709551616) from propext (by omega)]
theorem o_shr {i j : Int} : kO (D.shr (.int i) (.int j)) S P = (0 ≤ j ∧ P (.int (i / 2 ^ j.toNat), S)) := by
  rw [o_iop, decide_eq_true_eq]
theorem o_and {i j : Int} : kO (D.and (.int i) (.int j)) S P = P (.int (Builtin.bitAnd i j), S) := by with_unfolding_all rfl
theorem o_or {i j : Int} : kO (D.or (.int i) (.int j)) S P = P (.int (Builtin.bitOr i j), S) := by with_unfolding_all rfl
theorem o_mul {i j : Int} : kO (D.mul (.int i) (.int j)) S P = (((-18446744073709551616 < i ∧ i < 18446744073709551616) ∨ (-18446744073709551616 < j ∧ j < 18446744073709551616)) ∧ P (.int (i * j), S)) := by
  unfold D.mul
  rw [ok_ite, decide_eq_true_eq]
theorem o_lt {i j : Int} : kO (D.lt (.int i) (.int j)) S P = P (.bl (decide (i < j)), S) := by with_unfolding_all rfl
theorem o_le {i j : Int} : kO (D.le (.int i) (.int j)) S P = P (.bl (decide (i ≤ j)), S) := by with_unfolding_all rfl
theorem o_gt {i j : Int} : kO (D.gt (.int i) (.int j)) S P = P (.bl (decide (j < i)), S) := by with_unfolding_all rfl
theorem o_ge {i j : Int} : kO (D.ge (.int i) (.int j)) S P = P (.bl (decide (j ≤ i)), S) := by with_unfolding_all rfl
theorem lt_eq {i j : Int} : D.lt (.int i) (.int j) = some (.bl (decide (i < j))) := by with_unfolding_all rfl
theorem le_eq {i j : Int} : D.le (.int i) (.int j) = some (.bl (decide (i ≤ j))) := by with_unfolding_all rfl
theorem gt_eq {i j : Int} : D.gt (.int i) (.int j) = some (.bl (decide (j < i))) := by with_unfolding_all rfl
theorem ge_eq {i j : Int} : D.ge (.int i) (.int j) = some (.bl (decide (j ≤ i))) := by with_unfolding_all rfl
theorem o_neg {i : Int} : kO (D.neg (.int i)) S P = P (.int (-i), S) := by with_unfolding_all rfl
theorem o_nob {b : Bool} : kO (D.nob (.bl b)) S P = P (.bl (!b), S) := by with_unfolding_all rfl
theorem eqv_int {i j : Int} : D.eqv (.int i) (.int j) = decide (i = j) := by
  simp only [D.eqv, D.pd, PyData.eqv]
  try rfl
theorem eqv_str {i j : Str} : D.eqv (.str i) (.str j) = decide (i = j) := by
  simp only [D.eqv, D.pd, PyData.eqv]
  try rfl
theorem eqv_bl {i j : Bool} : D.eqv (.bl i) (.bl j) = decide (i = j) := by
  simp only [D.eqv, D.pd, PyData.eqv]
  try rfl
theorem o_eqG {x y : D} : kO (D.eqo x y) S P = (x.okq 50 = true ∧ y.okq 50 = true ∧ P (.bl (D.eqv x y), S)) := by
  unfold D.eqo
  by_cases h : x.okq 50 = true
  · rw [if_pos h, ok_ite]
    simp [h]
  · simp [h, kO]
theorem o_neG {x y : D} : kO (D.neo x y) S P = (x.okq 50 = true ∧ y.okq 50 = true ∧ P (.bl (!D.eqv x y), S)) := by
  unfold D.neo
  by_cases h : x.okq 50 = true
  · rw [if_pos h, ok_ite]
    simp [h]
  · simp [h, kO]
theorem o_eqI {i j : Int} : kO (D.eqo (.int i) (.int j)) S P = P (.bl (decide (i = j)), S) := by
  rw [o_eqG, eqv_int]
  simp [D.okq]
theorem o_eqS {i j : Str} : kO (D.eqo (.str i) (.str j)) S P = P (.bl (decide (i = j)), S) := by
  rw [o_eqG, eqv_str]
  simp [D.okq]
theorem o_neI {i j : Int} : kO (D.neo (.int i) (.int j)) S P = P (.bl (!decide (i = j)), S) := by
  rw [o_neG, eqv_int]
  simp [D.okq]
theorem o_neS {i j : Str} : kO (D.neo (.str i) (.str j)) S P = P (.bl (!decide (i = j)), S) := by
  rw [o_neG, eqv_str]
  simp [D.okq]
theorem eqo_int {i j : Int} : D.eqo (.int i) (.int j) = some (.bl (decide (i = j))) := by
  simp [D.eqo, D.okq, eqv_int]
/-! parts -/
theorem ixS_tup {ds : List D} {i : Int} : ixS S (.tup ds) (.int i) = atI ds i := by with_unfolding_all rfl
theorem ixS_lst {ds : List D} {i : Int} : ixS S (.lst ds) (.int i) = atI ds i := by with_unfolding_all rfl
theorem ixS_dic {ks : List Key} {ds : List D} {y : D} : ixS S (.dic ks ds) y = D.ixo (.dic ks ds) y := by with_unfolding_all rfl
theorem ixS_ref0 {o : O} {y : D} : ixS (o :: S) (.ref 0) y = D.ixo o.toD y := by with_unfolding_all rfl
theorem ixS_ref1 {o p : O} {y : D} : ixS (o :: p :: S) (.ref 1) y = D.ixo p.toD y := by with_unfolding_all rfl
theorem ixo_tup {ds : List D} {i : Int} : D.ixo (.tup ds) (.int i) = atI ds i := by with_unfolding_all rfl
theorem ixo_lst {ds : List D} {i : Int} : D.ixo (.lst ds) (.int i) = atI ds i := by with_unfolding_all rfl
theorem ixo_dicI {ks : List Key} {ds : List D} {i : Int} : D.ixo (.dic ks ds) (.int i) = dicGet ks ds (.inl i) := by with_unfolding_all rfl
theorem ixo_dicS {ks : List Key} {ds : List D} {x : Str} : D.ixo (.dic ks ds) (.str x) = dicGet ks ds (.inr x) := by with_unfolding_all rfl
variable {α : Type} {x0 x1 x2 x3 x4 x5 x6 x7 x8 x9 : α} {xs : List α}
theorem atI_0 : atI (x0 :: xs) 0 = some x0 := atI_nat (j := 0) rfl
theorem atI_1 : atI (x0 :: x1 :: xs) 1 = some x1 := atI_nat (j := 1) rfl
theorem atI_2 : atI (x0 :: x1 :: x2 :: xs) 2 = some x2 := atI_nat (j := 2) rfl
theorem atI_3 : atI (x0 :: x1 :: x2 :: x3 :: xs) 3 = some x3 := atI_nat (j := 3) rfl
theorem atI_4 : atI (x0 :: x1 :: x2 :: x3 :: x4 :: xs) 4 = some x4 := atI_nat (j := 4) rfl
theorem atI_5 : atI (x0 :: x1 :: x2 :: x3 :: x4 :: x5 :: xs) 5 = some x5 := atI_nat (j := 5) rfl
theorem atI_6 : atI (x0 :: x1 :: x2 :: x3 :: x4 :: x5 :: x6 :: xs) 6 = some x6 := atI_nat (j := 6) rfl
theorem atI_7 : atI (x0 :: x1 :: x2 :: x3 :: x4 :: x5 :: x6 :: x7 :: xs) 7 = some x7 := atI_nat (j := 7) rfl
theorem atI_8 : atI (x0 :: x1 :: x2 :: x3 :: x4 :: x5 :: x6 :: x7 :: x8 :: xs) 8 = some x8 := atI_nat (j := 8) rfl
/-! places written -/
section
variable {Ps : Fl × List Sl × List O → Prop} {sg : List Sl} {d y0 y1 y2 y3 : D} {ys : List D} {n : Nat} {i : Nat}
theorem put_at {ds : List D} {j : Nat} {d : D} (h : j < ds.length) : O.put (.lst ds) (.int (j : Int)) d = some (.lst (ds.set j d)) := by
  unfold O.put
  have e : ixN ds.length (j : Int) = some j := by
    unfold ixN
    rw [if_pos (by omega), if_pos (by omega)]
    simp
  simp [e]
theorem pr_0 : kPutR2 (some (.lst (y0 :: ys))) n sg d (.int 0) S Ps = Ps (.nx, sg, S.set n (.lst (d :: ys))) := kPutR2_eq (put_at (j := 0) (by simp))
theorem pr_1 : kPutR2 (some (.lst (y0 :: y1 :: ys))) n sg d (.int 1) S Ps = Ps (.nx, sg, S.set n (.lst (y0 :: d :: ys))) := kPutR2_eq (put_at (j := 1) (by simp))
theorem pr_2 : kPutR2 (some (.lst (y0 :: y1 :: y2 :: ys))) n sg d (.int 2) S Ps = Ps (.nx, sg, S.set n (.lst (y0 :: y1 :: d :: ys))) := kPutR2_eq (put_at (j := 2) (by simp))
theorem pr_3 : kPutR2 (some (.lst (y0 :: y1 :: y2 :: y3 :: ys))) n sg d (.int 3) S Ps = Ps (.nx, sg, S.set n (.lst (y0 :: y1 :: y2 :: d :: ys))) := kPutR2_eq (put_at (j := 3) (by simp))
/-- a dict that a name owns -/
theorem po_dicI {ks : List Key} {ds : List D} {k : Int} : kPutO i (.dic ks ds) sg d Ps (.int k, S) = (ks.length < 16777216 ∧ Ps (.nx, sg.set i (.own (.dic (dicPut ks ds (.inl k) d).1 (dicPut ks ds (.inl k) d).2)), S)) := by
  unfold kPutO O.put
  simp only [D.key?]
  by_cases h : ks.length < 16777216
  · simp [h]
  · simp [h]
theorem po_dicS {ks : List Key} {ds : List D} {k : Str} : kPutO i (.dic ks ds) sg d Ps (.str k, S) = (ks.length < 16777216 ∧ Ps (.nx, sg.set i (.own (.dic (dicPut ks ds (.inr k) d).1 (dicPut ks ds (.inr k) d).2)), S)) := by
  unfold kPutO O.put
  simp only [D.key?]
  by_cases h : ks.length < 16777216
  · simp [h]
  · simp [h]
theorem po_lst {ds : List D} {j : Nat} (h : j < ds.length) : kPutO i (.lst ds) sg d Ps (.int (j : Int), S) = Ps (.nx, sg.set i (.own (.lst (ds.set j d))), S) := kPutO_eq (put_at h)
/-- a list that a name owns -/
theorem app_eq {ds : List D} {Pw : D × List Sl × List O → Prop} : kOwn2 i O.append (.lst ds) sg Pw ([d], S) = (ds.length < 16777216 ∧ Pw (.non, sg.set i (.own (.lst (ds ++ [d]))), S)) := by
  unfold kOwn2 O.append
  by_cases h : ds.length < 16777216
  · simp [h]
  · simp [h]
theorem ext_eq {ds es : List D} {Pw : D × List Sl × List O → Prop} : kOwn2 i O.extend (.lst ds) sg Pw ([.lst es], S) = (ds.length + es.length ≤ 16777216 ∧ Pw (.non, sg.set i (.own (.lst (ds ++ es))), S)) := by
  unfold kOwn2 O.extend
  by_cases h : ds.length + es.length ≤ 16777216
  · simp [h]
  · simp [h]
theorem isL_eq {ds : List D} : O.isL (.lst ds) = true := rfl
theorem isD_eq {ks : List Key} {ds : List D} : O.isD (.dic ks ds) = true := rfl
theorem DisL_eq {ds : List D} : D.isL (.lst ds) = true := rfl
end
/-! built-ins -/
theorem o_lenL {ds : List D} : kO (D.len (.lst ds)) S P = P (.int (ds.length : Int), S) := by with_unfolding_all rfl
theorem o_lenT {ds : List D} : kO (D.len (.tup ds)) S P = P (.int (ds.length : Int), S) := by with_unfolding_all rfl
theorem o_lenD {ks : List Key} {ds : List D} : kO (D.len (.dic ks ds)) S P = P (.int (ks.length : Int), S) := by with_unfolding_all rfl
theorem o_lenS {x : Str} : kO (D.len (.str x)) S P = (x.length ≤ 16777216 ∧ P (.int (x.length : Int), S)) := ok_ite
theorem o_toI {i : Int} : kO (D.toInt (.int i)) S P = P (.int i, S) := by with_unfolding_all rfl
theorem o_abs {i : Int} : kO (D.abs (.int i)) S P = P (.int (if i < 0 then -i else i), S) := by with_unfolding_all rfl
theorem o_strI {i : Int} : kO (D.toStrI (.int i)) S P = (i.natAbs.log2 < 1920 ∧ P (.str (Str.ofString (toString i)), S)) := ok_ite
theorem o_max2 {i j : Int} : kO (D.max2 (.int i) (.int j)) S P = P (.int (if j > i then j else i), S) := by with_unfolding_all rfl
theorem o_min2 {i j : Int} : kO (D.min2 (.int i) (.int j)) S P = P (.int (if j < i then j else i), S) := by with_unfolding_all rfl
theorem o_toT {ds : List D} : kO (D.toTup (.lst ds)) S P = P (.tup ds, S) := by with_unfolding_all rfl
theorem o_toTT {ds : List D} : kO (D.toTup (.tup ds)) S P = P (.tup ds, S) := by with_unfolding_all rfl
theorem o_toL {ds : List D} : kO (D.toLst (.lst ds)) S P = P (.lst ds, S) := by with_unfolding_all rfl
theorem o_toLT {ds : List D} : kO (D.toLst (.tup ds)) S P = P (.lst ds, S) := by with_unfolding_all rfl
theorem o_intsL {f : List Int → Option D} {ds : List D} {ns : List Int} (h : D.ints ds = some ns) : kO (D.intsL f (.lst ds)) S P = kO (f ns) S P := by
  simp only [D.intsL, h]
theorem o_sloT {lo hi : Option Int} {ds : List D} : kO (D.slo lo hi (.tup ds)) S P = P (.tup (D2.cutD ds lo hi), S) := by with_unfolding_all rfl
theorem o_sloL {lo hi : Option Int} {ds : List D} : kO (D.slo lo hi (.lst ds)) S P = P (.lst (D2.cutD ds lo hi), S) := by with_unfolding_all rfl
theorem o_sloS {lo hi : Option Int} {x : Str} : kO (D.slo lo hi (.str x)) S P = (x.length ≤ 16777216 ∧ P (.str (L2.cutS x lo hi), S)) := ok_ite
/-! targets -/
theorem g_Nm {i : Nat} {d : D} {sg : List Sl} : gNm i d sg = if isOwn sg[i]? = true then none else some (sg.set i (.val d)) := rfl
theorem g_Tu {n : Nat} {gs : List D → List Sl → Option (List Sl)} {ds : List D} {sg : List Sl} : gTu n gs (.tup ds) sg = if ds.length = n then gs ds sg else none := rfl
theorem g_Cons {g : D → List Sl → Option (List Sl)} {gs : List D → List Sl → Option (List Sl)} {d : D} {ds : List D} {sg : List Sl} : gsCons g gs (d :: ds) sg = (g d sg).bind fun sg1 => gs ds sg1 := rfl
theorem g_Nil {sg : List Sl} : gsNil [] sg = some sg := rfl
theorem own_val {d : D} : isOwn (some (.val d)) = false := rfl
theorem own_no : isOwn (some .no) = false := rfl
theorem frz_own {i : Nat} {sg : List Sl} {o : O} (h : sg[i]? = some (.own o)) : frz i sg = sg.set i (.val o.toD) := by
  simp [frz, h]
/-! dicts of unlike keys -/
theorem merge_app : ∀ (ps : List (Key × D)) (ks : List Key) (ds : List D), ks.length = ds.length → (ks ++ ps.map (·.1)).Nodup → dicMerge ps ks ds = (ks ++ ps.map (·.1), ds ++ ps.map (·.2))
  | [], ks, ds, _, _ => by simp [dicMerge]
  | (k, d) :: ps, ks, ds, hl, h => by
    have hk : (ks.any fun j => decide (j = k)) = false := by
      rw [List.any_eq_false]
      intro j hj e
      have e' : j = k := of_decide_eq_true e
      subst e'
      rw [List.nodup_append] at h
      exact h.2.2 j hj j (by simp) rfl
    have ep : dicPut ks ds k d = (ks ++ [k], ds ++ [d]) := by
      unfold dicPut
      rw [hk]
      rfl
    rw [dicMerge, ep]
    rw [merge_app ps (ks ++ [k]) (ds ++ [d]) (by simp [hl]) (by simpa using h)]
    simp
theorem merge_new {ps : List (Key × D)} (h : (ps.map (·.1)).Nodup) : dicMerge ps [] [] = (ps.map (·.1), ps.map (·.2)) := by
  have := merge_app ps [] [] rfl (by simpa using h)
  simpa using this
theorem dGet_cons {k j : Key} {ks : List Key} {d : D} {ds : List D} : dicGet (k :: ks) (d :: ds) j = if k = j then some d else dicGet ks ds j := rfl
theorem dGet_nil {j : Key} {ds : List D} : dicGet [] ds j = none := rfl
theorem dGet2_S {ks : List Key} {ds : List D} {x : Str} {z : D} : dGet2 (.dic ks ds) (.str x) z = some ((dicGet ks ds (.inr x)).getD z) := rfl
theorem dGet2_I {ks : List Key} {ds : List D} {x : Int} {z : D} : dGet2 (.dic ks ds) (.int x) z = some ((dicGet ks ds (.inl x)).getD z) := rfl
theorem idxD_str (f : Str) : ∀ l : List Str, idxD (.str f) (l.map D.str) = idxS f l
  | [] => rfl
  | y :: ys => by
    rw [List.map_cons, idxD, idxS, eqv_str, idxD_str f ys]
    by_cases h : y = f
    · simp [h]
    · simp [h]
theorem flat_strs : ∀ l : List Str, (l.map D.str).all flatD = true
  | [] => rfl
  | y :: ys => by
    rw [List.map_cons, List.all_cons, flat_strs ys]
    rfl
theorem index_str {f : Str} {l : List Str} {k : Nat} (h : idxS f l = some k) : D.index (.lst (l.map D.str)) [.str f] = some (.int (k : Int)) := by
  unfold D.index
  simp only [flat_strs, idxD_str, h]
  rfl
theorem cut_lo {ds : List D} {k : Nat} (h : k ≤ ds.length) : D2.cutD ds none (some (k : Int)) = ds.take k := by
  unfold D2.cutD HT.sIx
  simp only []
  rw [if_neg (by omega)]
  rw [Int.toNat_natCast, Nat.min_eq_left h]
  simp
theorem cut_hi {ds : List D} {k : Nat} (h : k ≤ ds.length) : D2.cutD ds (some (k : Int)) none = ds.drop k := by
  unfold D2.cutD HT.sIx
  simp only []
  rw [if_neg (by omega)]
  rw [Int.toNat_natCast, Nat.min_eq_left h]
  rw [List.take_of_length_le (by rw [List.length_drop]; exact Nat.le_refl _)]
theorem okqA_ints (n : Nat) : ∀ ns : List Int, D.okqA (ns.map D.int) n = true
  | [] => rfl
  | x :: ns => by
    rw [List.map_cons, D.okqA, okqA_ints n ns]
    cases n <;> rfl
theorem okqA_bls (n : Nat) : ∀ ns : List Bool, D.okqA (ns.map D.bl) n = true
  | [] => rfl
  | x :: ns => by
    rw [List.map_cons, D.okqA, okqA_bls n ns]
    cases n <;> rfl
/-! equal data -/
mutual
theorem eqv_refl : ∀ (d : D), D.eqv d d = true
  | .non => by simp [D.eqv, D.pd, PyData.eqv]
  | .bl b => by simp [D.eqv, D.pd, PyData.eqv]
  | .int b => by simp [D.eqv, D.pd, PyData.eqv]
  | .str b => by simp [D.eqv, D.pd, PyData.eqv]
  | .tup ds => by
    have := eqvA_refl ds
    simp only [D.eqv, D.pd, PyData.eqv]
    exact this
  | .lst ds => by
    have := eqvA_refl ds
    simp only [D.eqv, D.pd, PyData.eqv]
    exact this
  | .dic _ _ => by simp [D.eqv, D.pd, PyData.eqv]
  | .rng _ _ => by simp [D.eqv, D.pd, PyData.eqv]
  | .ref _ => by simp [D.eqv, D.pd, PyData.eqv]
theorem eqvA_refl : ∀ (ds : List D), PyData.eqvAll (D.pdA ds) (D.pdA ds) = true
  | [] => by simp [D.pdA, PyData.eqvAll]
  | d :: ds => by
    have h1 := eqv_refl d
    have h2 := eqvA_refl ds
    simp only [D.pdA, PyData.eqvAll, Bool.and_eq_true]
    exact ⟨h1, h2⟩
end
theorem o_eqR {x : D} : kO (D.eqo x x) S P = (x.okq 50 = true ∧ P (.bl true, S)) := by
  rw [o_eqG, eqv_refl]
  simp
theorem o_neR {x : D} : kO (D.neo x x) S P = (x.okq 50 = true ∧ P (.bl false, S)) := by
  rw [o_neG, eqv_refl]
  simp
end
end D2

namespace D2
open PySem PySem.Spec PyProof.Rows L2
section
variable {P : D × List O → Prop} {Ps : Fl × List Sl × List O → Prop} {Pa : List D × List O → Prop} {Po : O × List O → Prop} {E : EP'} {sg : List Sl} {S : List O} {m : ME} {ms : MA}
def kIr3 (P : List D × List O → Prop) : List D × List O → Prop := fun x => match thr3 x.1 with
  | some (i, j, c) => rgOk i j c = true ∧ P (rngC i c (Builtin.Range.rangeSize i j c).toNat, x.2)
  | none => False
theorem w_Ir3 : Wp (mIr3 ms sg S) Pa E = Wp (ms sg S) (kIr3 Pa) E := by
  unfold mIr3
  rw [wp_bind]
  congr 1
  funext x
  unfold kIr3
  cases h : thr3 x.1 with
  | none => with_unfolding_all rfl
  | some p =>
    obtain ⟨i, j, c⟩ := p
    by_cases hx : rgOk i j c = true
    · simp [hx, wp_ok]
    · simp [hx, Wp]
theorem kIr3_eq {i j c : Int} : kIr3 Pa ([.int i, .int j, .int c], S) = (rgOk i j c = true ∧ Pa (rngC i c (Builtin.Range.rangeSize i j c).toNat, S)) := by with_unfolding_all rfl
def kLrg (P : O × List O → Prop) : D × List O → Prop := fun x => match x.1 with
  | .int n => (0 ≤ n ∧ n ≤ 16777216) ∧ P (.lst (rngD 0 n.toNat), x.2)
  | _ => False
theorem w_Lrg : Wp (oLrg m sg S) Po E = Wp (m sg S) (kLrg Po) E := by
  unfold oLrg
  rw [wp_bind]
  congr 1
  funext x
  obtain ⟨d, T⟩ := x
  unfold kLrg
  cases d <;> try (with_unfolding_all rfl)
  rename_i n
  by_cases hx : 0 ≤ n ∧ n ≤ 16777216
  · simp [hx, wp_ok]
  · simp [hx, Wp]
theorem kLrg_eq {n : Int} : kLrg Po (.int n, S) = ((0 ≤ n ∧ n ≤ 16777216) ∧ Po (.lst (rngD 0 n.toNat), S)) := by with_unfolding_all rfl
def kApp1 (i j : Nat) (xs ys : List D) (sg : List Sl) (P : Fl × List Sl × List O → Prop) : D × List O → Prop := fun z => match z.1 with
  | .int k => match popAt ys k with
    | some (ys', d) => xs.length < 16777216 ∧ P (.nx, (sg.set j (.own (.lst ys'))).set i (.own (.lst (xs ++ [d]))), z.2)
    | none => False
  | _ => False
def kApp0 (s t : Option Sl) (i j : Nat) (m : ME) (sg : List Sl) (S : List O) (P : Fl × List Sl × List O → Prop) (E : EP') : Prop := match s, t with
  | some (.own (.lst xs)), some (.own (.lst ys)) => Wp (m sg S) (kApp1 i j xs ys sg P) E
  | _, _ => False
theorem w_AppPop {i j : Nat} : Wp (mAppPop i j m sg S) Ps E = kApp0 sg[i]? sg[j]? i j m sg S Ps E := by
  unfold mAppPop kApp0
  generalize sg[i]? = s
  generalize sg[j]? = t
  rcases s with _ | s
  · with_unfolding_all rfl
  rcases s with _ | _ | s
  · with_unfolding_all rfl
  · with_unfolding_all rfl
  rcases t with _ | t
  · cases s <;> (with_unfolding_all rfl)
  rcases t with _ | _ | t
  · cases s <;> (with_unfolding_all rfl)
  · cases s <;> (with_unfolding_all rfl)
  rcases s with xs | ⟨xk, xs⟩
  · rcases t with ys | ⟨yk, ys⟩
    · simp only []
      rw [wp_bind]
      congr 1
      funext z
      obtain ⟨d, T⟩ := z
      unfold kApp1
      cases d <;> try (with_unfolding_all rfl)
      rename_i k
      simp only []
      cases popAt ys k with
      | none => with_unfolding_all rfl
      | some p =>
        obtain ⟨ys', d⟩ := p
        by_cases hx : xs.length < 16777216
        · simp [hx, wp_ok]
        · simp [hx, Wp]
    · with_unfolding_all rfl
  · cases t <;> (with_unfolding_all rfl)
theorem kApp0_eq {i j : Nat} {xs ys : List D} : kApp0 (some (.own (.lst xs))) (some (.own (.lst ys))) i j m sg S Ps E = Wp (m sg S) (kApp1 i j xs ys sg Ps) E := by with_unfolding_all rfl
theorem kApp1_eq {i j : Nat} {xs ys ys' : List D} {k : Int} {d : D} (h : popAt ys k = some (ys', d)) : kApp1 i j xs ys sg Ps (.int k, S) = (xs.length < 16777216 ∧ Ps (.nx, (sg.set j (.own (.lst ys'))).set i (.own (.lst (xs ++ [d]))), S)) := by
  simp [kApp1, h]
theorem o_sset {l : List (List Int)} : kO (D.sset (.lst (l.map tupI))) S P = (okU l = true ∧ P (.lst ((sortU l).map tupI), S)) := by
  simp only [D.sset, tupsOf_map]
  exact ok_ite
theorem o_ssetI {ns : List Int} : kO (D.ssetI (.lst (ns.map D.int))) S P = (ns.length < 64 ∧ P (.lst ((sortS ns).map D.int), S)) := by
  unfold D.ssetI
  rw [o_intsL (D2.ints_map ns)]
  exact ok_ite
theorem o_toIb {b : Bool} : kO (D.toInt (.bl b)) S P = P (.int (if b then 1 else 0), S) := by with_unfolding_all rfl
theorem fl_int {i : Int} : ((D.int i).flat = true) = True := eq_true rfl
theorem fl_bl {i : Bool} : ((D.bl i).flat = true) = True := eq_true rfl
theorem fl_str {i : Str} : ((D.str i).flat = true) = True := eq_true rfl
theorem fl_non : (D.non.flat = true) = True := eq_true rfl
theorem isNon_non : isNon .non = true := by with_unfolding_all rfl
theorem isNon_int {i : Int} : isNon (.int i) = false := by with_unfolding_all rfl
theorem isNon_tup {ds : List D} : isNon (.tup ds) = false := by with_unfolding_all rfl
theorem any_ints (i : Int) : ∀ ns : List Int, ((ns.map D.int).any fun y => D.eqv y (.int i)) = decide (i ∈ ns)
  | [] => by simp
  | n :: ns => by
    rw [List.map_cons, List.any_cons, any_ints i ns, eqv_int]
    by_cases h : n = i
    · simp [h]
    · simp [h, Ne.symm h]
theorem o_inI {i : Int} {ns : List Int} : kO (D.ino (.int i) (.tup (ns.map D.int))) S P = P (.bl (decide (i ∈ ns)), S) := by
  have h1 : D.okq (.int i) 50 = true := rfl
  simp only [D.ino, D.inB, h1, if_true, okqA_ints, any_ints]
  rfl
theorem o_ninI {i : Int} {ns : List Int} : kO (D.nino (.int i) (.tup (ns.map D.int))) S P = P (.bl (!decide (i ∈ ns)), S) := by
  have h1 : D.okq (.int i) 50 = true := rfl
  simp only [D.nino, D.inB, h1, if_true, okqA_ints, any_ints]
  rfl
theorem o_ninE {i : Int} : kO (D.nino (.int i) (.tup [])) S P = P (.bl true, S) := by
  have := o_ninI (i := i) (ns := []) (S := S) (P := P)
  simpa using this
end
end D2

namespace D2
open PySem PySem.Spec PyProof.Rows L2
section
variable {P : D × List O → Prop} {Ps : Fl × List Sl × List O → Prop} {Pa : List D × List O → Prop} {Po : O × List O → Prop} {E : EP'} {sg : List Sl} {S : List O} {m : ME} {ms : MA}
theorem w_Never : Wp (mNever sg S) Ps E = False := by with_unfolding_all rfl
def kIrv (P : List D × List O → Prop) : D × List O → Prop := fun x => match x.1 with
  | .rng lo hi => (lim62 lo && lim62 hi) = true ∧ P (rngD lo (hi - lo).toNat, x.2)
  | _ => False
theorem w_Irv : Wp (mIrv m sg S) Pa E = Wp (m sg S) (kIrv Pa) E := by
  unfold mIrv
  rw [wp_bind]
  congr 1
  funext x
  obtain ⟨d, T⟩ := x
  unfold kIrv
  cases d <;> try (with_unfolding_all rfl)
  rename_i lo hi
  by_cases hx : (lim62 lo && lim62 hi) = true
  · simp only [hx, if_true, wp_ok, true_and]
  · have : (lim62 lo && lim62 hi) = false := by simpa using hx
    simp [this, Wp]
theorem kIrv_eq {lo hi : Int} : kIrv Pa (.rng lo hi, S) = ((lim62 lo && lim62 hi) = true ∧ Pa (rngD lo (hi - lo).toNat, S)) := by with_unfolding_all rfl
def kStar2 (ds : List D) (P : List D × List O → Prop) : List D × List O → Prop := fun y => P (ds ++ y.1, y.2)
def kStar (ms : MA) (sg : List Sl) (P : List D × List O → Prop) (E : EP') : D × List O → Prop := fun x => match unroll x.1 with
  | some ds => Wp (ms sg x.2) (kStar2 ds P) E
  | none => False
theorem w_Star : Wp (mStar m ms sg S) Pa E = Wp (m sg S) (kStar ms sg Pa E) E := by
  unfold mStar
  rw [wp_bind]
  congr 1
  funext x
  unfold kStar
  cases unroll x.1 with
  | none => with_unfolding_all rfl
  | some ds =>
    simp only [wp_bind, wp_ok]
    rfl
theorem kStar_tup {ds : List D} : kStar ms sg Pa E (.tup ds, S) = Wp (ms sg S) (kStar2 ds Pa) E := by with_unfolding_all rfl
theorem kStar_lst {ds : List D} : kStar ms sg Pa E (.lst ds, S) = Wp (ms sg S) (kStar2 ds Pa) E := by with_unfolding_all rfl
theorem kStar2_eq {ds ys : List D} : kStar2 ds Pa (ys, S) = Pa (ds ++ ys, S) := by with_unfolding_all rfl
theorem o_mkRng {j : Int} : kO (D.mkRng (.int j)) S P = (lim62 j = true ∧ P (.rng 0 j, S)) := ok_ite
theorem isNon_bl {b : Bool} : isNon (.bl b) = false := by with_unfolding_all rfl
theorem o_eqB {a b : Bool} : kO (D.eqo (.bl a) (.bl b)) S P = P (.bl (decide (a = b)), S) := by
  rw [o_eqG, eqv_bl]
  simp [D.okq]
end
end D2

namespace Law
open PySem PySem.Spec PyProof.Rows L2 D2
local macro_rules | `(tactic| walk_at "ev") => `(tactic| simp (decide := true) only [kO_some, w_C, w_Var, w_VarW, kVar_val, kVarW_val, kVarW_lst, kVarW_dic, w_Flat, kFlat_eq, w_Bin, kBin_eq, kBin2_eq, w_Un, kUn_eq, w_Tup, kTup_eq, w_Lst, kLst_eq, w_Nil, w_Cons, kCons_eq, kCons2_eq, w_And, kAnd_eq, w_Or, kOr_eq, w_Tst, kTst_eq, w_Tru, kTru_bl, kTru_int, kTru_tup, kTru_lst, kTru_non, w_NotT, kNotT_eq, w_AndT, kAndT_eq, w_OrT, kOrT_eq, w_IsN, kIsN_eq, w_If, kIf_eq, w_Chain, kCh1_eq, kCh2_eq, kCh3_eq, w_Bi, kBi_eq, on1_eq, on2_eq, w_Meth, kMeth_eq, kMeth2_eq, w_Ix, kIx_eq, kIx2_eq, w_Get2, kGet1_eq, kGet2_eq, kGet3_eq, w_NoP, w_Part, kPart_eq, w_Sl, kSl1_eq, kSl2_eq, kSl3_eq, w_Call, kCall_eq, w_CallP, kCallP_eq, w_OfO, kOfO_eq, toD_lst, toD_dic, w_LstO, kLstO_eq, w_DicO, w_Rep, kRep_eq, kRep2_eq, w_Pn, w_Pc, kPc1_eq, kPc2_eq, kPc3_eq, w_Disp, kDisp_eq, kDisp2_eq, keyed_nil, keyed_S, keyed_I, w_Lc, kLc_eq, kLc2_eq, w_Il, kIl_eq, w_It, kIt_eq, w_Ir1, kIr1_eq, w_Ir2, kIr2_eq, w_Ie, kIe_eq, w_IeT, kIeT_eq, w_Yes, w_Seq, kSeq_nx, kSeq_bk, kSeq_ct, kSeq_rt, w_Nx, w_Bk, w_Ct, w_RetN, w_Ret, kRet_eq, w_Drop, kDrop_eq, w_IfS, kIfS_eq, w_Frz, w_Set, kSet_eq, w_SetO, kSetO_eq, w_Aft, kAft_eq, w_Asg, kAsg_eq, kAsg2_eq, w_For, kFor_eq, w_While, w_Put, kPut_eq, kPut2_own, kPut2_ref, kPutR_eq, w_Own, w_OwnE, w_OwnS, kOwn_eq, kOwnE_eq, kOwnS_eq, w_Fn, kFn_nx, kFn_rt, kLoop_nx, kLoop_ct, kLoop_bk, kLoop_rt, w_Ir3, kIr3_eq, w_Lrg, kLrg_eq, w_AppPop, kApp0_eq, w_Never, w_Irv, kIrv_eq, w_Star, kStar_tup, kStar_lst, kStar2_eq, o_addI, o_addS, o_addT, o_addL, o_sub, o_fdiv, o_mod, o_pow, o_shl, o_shr, o_and, o_or, o_mul, o_lt, o_le, o_gt, o_ge, lt_eq, le_eq, gt_eq, ge_eq, o_neg, o_nob, o_eqI, o_eqS, o_neI, o_neS, eqo_int, ixS_tup, ixS_lst, ixS_dic, ixS_ref0, ixS_ref1, ixo_tup, ixo_lst, ixo_dicI, ixo_dicS, atI_0, atI_1, atI_2, atI_3, atI_4, atI_5, atI_6, atI_7, atI_8, pr_0, pr_1, pr_2, pr_3, po_dicI, po_dicS, app_eq, ext_eq, isL_eq, isD_eq, DisL_eq, o_lenL, o_lenT, o_lenD, o_lenS, o_toI, o_abs, o_strI, o_max2, o_min2, o_toT, o_toTT, o_toL, o_toLT, o_sloT, o_sloL, o_sloS, g_Nm, g_Tu, g_Cons, g_Nil, own_val, own_no, merge_new, dGet_cons, dGet_nil, dGet2_S, dGet2_I, o_sset, o_ssetI, o_toIb, fl_int, fl_bl, fl_str, fl_non, isNon_non, isNon_int, isNon_tup, o_inI, o_ninI, o_ninE, o_mkRng, isNon_bl, o_eqB, List.getElem?_cons_zero, List.getElem?_cons_succ, List.set_cons_zero, List.set_cons_succ, List.length_cons, List.length_nil, List.map_cons, List.map_nil, List.cons_append, List.nil_append, List.replicate_succ, List.replicate_zero, if_true, if_false, decide_eq_true_eq, decide_eq_false_iff_not, Bool.false_eq_true, and_true, true_and, Bool.not_true, Bool.not_false, reduceIte, Option.bind_some, Option.map_some, Option.getD_some, Option.getD_none, Sum.inr.injEq, Sum.inl.injEq, Nat.reduceAdd, Nat.reduceSub, Nat.reduceLeDiff, Nat.reduceLT, Nat.reduceEqDiff, reduceCtorEq, Int.reduceLT, Int.reduceLE, Int.reduceEq, Int.reduceAdd, Int.reduceSub, Int.reduceMul, Int.reduceNeg, Int.cast_ofNat_Int, Int.natCast_zero, Int.reduceToNat, Int.reducePow, or_true, true_or, String.reduceEq, decide_true, decide_false, Bool.not_eq_true', Bool.not_eq_false', List.all_cons, List.all_nil, Bool.and_true, Bool.true_and, Bool.true_or, Bool.or_true, wipeS, startS])
abbrev n__law_take : List Str := ["d", "many", "small", "digit"]
def m__law_take : MS :=
  (mSeq (mIfS (mAndT (mTst (mBin D.eqo (mIx (mVar 0) (mC (.int 2))) (mC (.int 0)))) (mTst (mBin D.lt (mIx (mVar 0) (mC (.int 1))) (mBi (on1 D.len) (mCons (mIx (mVar 0) (mC (.int 0))) mNil))))) (mSeq (mPut 0 (mBi (on1 D.abs) (mCons (mBi (on1 D.toInt) (mCons (mIx (mIx (mVar 0) (mC (.int 0))) (mIx (mVar 0) (mC (.int 1)))) mNil)) mNil)) (mC (.int 2)))
  (mSeq (mPut 0 (mBin D.add (mIx (mVar 0) (mC (.int 1))) (mC (.int 1))) (mC (.int 1)))
  (mIfS (mTst (mBin D.lt (mIx (mVar 0) (mC (.int 2))) (mBin D.powI (mC (.int 10)) (mC (.int 18))))) (mSeq (mSet 2 (mBi (on1 D.toInt) (mCons (mIx (mVar 0) (mC (.int 2))) mNil)))
  (mSeq (mPut 0 (mC (.int 0)) (mC (.int 2)))
  (mRet (mBin D.mod (mVar 2) (mVar 1))))) mNx))) mNx)
  (mSeq (mIfS (mTst (mBin D.gt (mIx (mVar 0) (mC (.int 2))) (mC (.int 0)))) (mSeq (mSet 3 (mBin D.mod (mBi (on1 D.toInt) (mCons (mIx (mVar 0) (mC (.int 2))) mNil)) (mVar 1)))
  (mSeq (mPut 0 (mBin D.fdiv (mBi (on1 D.toInt) (mCons (mIx (mVar 0) (mC (.int 2))) mNil)) (mVar 1)) (mC (.int 2)))
  (mRet (mVar 3)))) mNx)
  (mSeq (mPut 0 (mBin D.mod (mBi (on1 D.toInt) (mCons (mBin D.add (mBin D.mul (mIx (mVar 0) (mC (.int 3))) (mC (.int 48271))) (mC (.int 11))) mNil)) (mC (.int 2147483647))) (mC (.int 3)))
  (mRet (mBin D.mod (mBi (on1 D.toInt) (mCons (mBin D.fdiv (mIx (mVar 0) (mC (.int 3))) (mC (.int 3))) mNil)) (mVar 1))))))
def F__law_take : FD := fnF n__law_take m__law_take
abbrev n__law_pick : List Str := ["d", "menu"]
def m__law_pick : MS :=
  (mRet (mIx (mVar 1) (mCall F__law_take (mCons (mVar 0) (mCons (mBi (on1 D.len) (mCons (mVar 1) mNil)) mNil)))))
def F__law_pick : FD := fnF n__law_pick m__law_pick
abbrev n__law_film : List Str := ["d", "most", "places", "actors", "scenes", "k", "cast", "orders", "first", "minutes", "actor", "second"]
def m__law_film_b1 : MS :=
  (mSeq (mSet 6 (mBi (on1 D.toTup) (mCons (mOfO (oLc false (mIr1 (mCons (mBi (on1 D.len) (mCons (mVar 3) mNil)) mNil)) (gNm 10) (mTst (mBin D.eqo (mCall F__law_take (mCons (mVar 0) (mCons (mC (.int 2)) mNil))) (mC (.int 0)))) (mVar 10) [10])) mNil)))
  (mOwnE 4 O.isL O.append (mCons (mTup (mCons (mBin D.add (mC (.str "s")) (mBi (on1 D.toStrI) (mCons (mVar 5) mNil))) (mCons (mCall F__law_take (mCons (mVar 0) (mCons (mBi (on1 D.len) (mCons (mVar 2) mNil)) mNil))) (mCons (mCall F__law_pick (mCons (mVar 0) (mCons (mLst (mCons (mC (.str "day")) (mCons (mC (.str "any")) (mCons (mC (.str "any")) (mCons (mC (.str "night")) mNil))))) mNil))) (mCons (mBin D.add (mC (.int 5)) (mBin D.mul (mC (.int 5)) (mCall F__law_take (mCons (mVar 0) (mCons (mC (.int 40)) mNil))))) (mCons (mBin D.eqo (mCall F__law_take (mCons (mVar 0) (mCons (mC (.int 4)) mNil))) (mC (.int 0))) (mCons (mVar 6) mNil))))))) mNil)))
def m__law_film_b2 : MS :=
  (mOwnE 7 O.isL O.extend (mCons (mOfO (oLc false (mIr2 (mCons (mBin D.add (mVar 8) (mC (.int 1))) (mCons (mBi (on1 D.len) (mCons (mVar 4) mNil)) mNil))) (gNm 11) (mTst (mBin D.eqo (mCall F__law_take (mCons (mVar 0) (mCons (mC (.int 5)) mNil))) (mC (.int 0)))) (mTup (mCons (mVar 8) (mCons (mVar 11) mNil))) [11])) mNil))
def m__law_film : MS :=
  (mSeq (mSet 2 (mBi (on1 D.toTup) (mCons (mOfO (oLc false (mIr1 (mCons (mBin D.add (mC (.int 1)) (mCall F__law_take (mCons (mVar 0) (mCons (mC (.int 3)) mNil)))) mNil)) (gNm 5) mYes (mTup (mCons (mBin D.add (mC (.str "p")) (mBi (on1 D.toStrI) (mCons (mVar 5) mNil))) (mCons (mBin D.eqo (mCall F__law_take (mCons (mVar 0) (mCons (mC (.int 2)) mNil))) (mC (.int 0))) mNil))) [5])) mNil)))
  (mSeq (mSet 3 (mBi (on1 D.toTup) (mCons (mOfO (oLc false (mIr1 (mCons (mBin D.add (mC (.int 1)) (mCall F__law_take (mCons (mVar 0) (mCons (mC (.int 3)) mNil)))) mNil)) (gNm 5) mYes (mTup (mCons (mBin D.add (mC (.str "a")) (mBi (on1 D.toStrI) (mCons (mVar 5) mNil))) (mCons (mBin D.eqo (mCall F__law_take (mCons (mVar 0) (mCons (mC (.int 3)) mNil))) (mC (.int 0))) mNil))) [5])) mNil)))
  (mSeq (mSetO 4 (oLst mNil))
  (mSeq (mFor (mIr1 (mCons (mBin D.add (mC (.int 1)) (mCall F__law_take (mCons (mVar 0) (mCons (mVar 1) mNil)))) mNil)) (gNm 5) (m__law_film_b1))
  (mSeq (mSetO 7 (oLst mNil))
  (mSeq (mFrz 4 (mFor (mIr1 (mCons (mBi (on1 D.len) (mCons (mVar 4) mNil)) mNil)) (gNm 8) (m__law_film_b2)))
  (mSeq (mSet 9 (mTup (mCons (mCall F__law_take (mCons (mVar 0) (mCons (mC (.int 60)) mNil))) (mCons (mCall F__law_take (mCons (mVar 0) (mCons (mC (.int 90)) mNil))) (mCons (mBin D.add (mC (.int 5)) (mCall F__law_take (mCons (mVar 0) (mCons (mC (.int 60)) mNil)))) mNil)))))
  (mFrz 4 (mFrz 7 (mRet (mTup (mCons (mVar 2) (mCons (mVar 3) (mCons (mBi (on1 D.toTup) (mCons (mVar 4) mNil)) (mCons (mBi (on1 D.toTup) (mCons (mVar 7) mNil)) (mCons (mVar 9) mNil))))))))))))))))
def F__law_film : FD := fnF n__law_film m__law_film
def dOk (o : O) : Prop := ∃ (ns : List Int) (i big seed : Int), o = .lst [.lst (ns.map D.int), .int i, .int big, .int seed] ∧ ns.length ≤ 63 ∧ 0 ≤ i ∧ 0 ≤ big ∧ 0 ≤ seed
theorem dOk.mk {ns : List Int} {i big seed : Int} (h1 : ns.length ≤ 63) (h2 : 0 ≤ i) (h3 : 0 ≤ big) (h4 : 0 ≤ seed) : dOk (.lst [.lst (ns.map D.int), .int i, .int big, .int seed]) := ⟨ns, i, big, seed, rfl, h1, h2, h3, h4⟩
theorem pow1018 : (10 : Int) ^ (18 : Int).toNat = 1000000000000000000 := by decide +kernel
theorem atI_map {ns : List Int} {i : Int} (h0 : 0 ≤ i) (h : i < (ns.length : Int)) : ∃ x : Int, atI (ns.map D.int) i = some (.int x) := by
  obtain ⟨k, rfl⟩ : ∃ k : Nat, i = (k : Int) := ⟨i.toNat, by omega⟩
  have hk : k < ns.length := by omega
  exact ⟨ns[k], atI_nat (by rw [List.getElem?_map, List.getElem?_eq_getElem hk]; rfl)⟩
theorem take_ok {o : O} (h : dOk o) (many : Int) (h0 : 0 < many) (h1 : many < 1073741824) : Wp (F__law_take [.ref 0, .int many] [o]) (fun y => ∃ r o', y = (.int r, [o']) ∧ 0 ≤ r ∧ r < many ∧ dOk o') noE := by
  obtain ⟨ns, i, big, seed, rfl, hl, hi, hb, hs⟩ := h
  have m0 : ∀ x : Int, 0 ≤ x % many := fun x => Int.emod_nonneg _ (by omega)
  have m1 : ∀ x : Int, x % many < many := fun x => Int.emod_lt_of_pos _ h0
  have hd : 0 ≤ big / many := Int.ediv_nonneg hb (by omega)
  have fin : ∀ {r i big seed : Int}, 0 ≤ r → r < many → 0 ≤ i → 0 ≤ big → 0 ≤ seed → ∃ r' o', ((D.int r, [O.lst [.lst (ns.map D.int), .int i, .int big, .int seed]]) : D × List O) = (.int r', [o']) ∧ 0 ≤ r' ∧ r' < many ∧ dOk o' :=
    fun a b c d e => ⟨_, _, rfl, a, b, .mk hl c d e⟩
  unfold F__law_take m__law_take
  walk_at "ev"
  have hm : 0 < many ∧ many < 1073741824 := ⟨h0, h1⟩
  have hq : ∀ x : Int, 0 ≤ (x * 48271 + 11) % 2147483647 := fun _ => Int.emod_nonneg _ (by decide)
  have ab : ∀ x : Int, 0 ≤ (if x < 0 then -x else x) := fun x => by split <;> omega
  have dv : ∀ x : Int, 0 ≤ x → 0 ≤ x / many := fun x hx => Int.ediv_nonneg hx (by omega)
  simp only [h0, hm, true_and]
  by_cases c2 : i < (((ns.map D.int).length : Nat) : Int)
  · have c3 := c2
    rw [List.length_map] at c3
    obtain ⟨x, hx⟩ := atI_map hi c3
    simp only [kO_eq hx, if_pos c2]
    walk_at "ev"
    simp only [h0, hm, true_and]
    repeat' split
    all_goals refine fin (m0 _) (m1 _) ?_ ?_ ?_ <;> first | omega | exact dv _ (by omega) | exact hq _
  · simp only [if_neg c2]
    repeat' split
    all_goals refine fin (m0 _) (m1 _) ?_ ?_ ?_ <;> first | omega | exact dv _ (by omega) | exact hq _

theorem pick_ok {o : O} (h : dOk o) (ds : List D) (h0 : 0 < ds.length) (h1 : ds.length < 1000000) : Wp (F__law_pick [.ref 0, .lst ds] [o]) (fun y => ∃ d o', y = (d, [o']) ∧ d ∈ ds ∧ dOk o') noE := by
  unfold F__law_pick m__law_pick
  walk_at "ev"
  refine (take_ok h (ds.length : Int) (by omega) (by omega)).imp ?_
  rintro _ ⟨r, o', rfl, r0, r1, h'⟩
  walk_at "ev"
  obtain ⟨k, rfl⟩ : ∃ k : Nat, r = (k : Int) := ⟨r.toNat, by omega⟩
  have hk : k < ds.length := by omega
  rw [kO_eq (atI_nat (List.getElem?_eq_getElem hk))]
  walk_at "ev"
  exact ⟨_, _, rfl, List.getElem_mem hk, h'⟩
/-- names that the law makes -/
def nm (c : Str) (k : Nat) : Str := c ++ Str.ofString (toString (k : Int))
theorem small_log {k : Nat} (h : k < 1000000) : ((k : Int)).natAbs.log2 < 1920 := by
  rw [Int.natAbs_natCast]
  by_cases h0 : k = 0
  · subst h0; decide
  · rw [Nat.log2_lt h0]
    exact Nat.lt_of_lt_of_le h (Nat.le_trans (by decide : (1000000 : Nat) ≤ 2 ^ 20) (Nat.pow_le_pow_right (by decide) (by decide)))
theorem len13 : ∀ k : Nat, k < 13 → (Str.ofString (toString (k : Int))).length ≤ 2 := by decide +kernel
structure Scene where
  name : Str
  place : Nat
  light : Str
  len : Int
  loud : Bool
  cast : List Nat
def nD (k : Nat) : D := .int (k : Int)
def sbD (p : Str × Bool) : D := .tup [.str p.1, .bl p.2]
def Scene.d (s : Scene) : D := .tup [.str s.name, nD s.place, .str s.light, .int s.len, .bl s.loud, .tup (s.cast.map nD)]
def ordD (p : Nat × Nat) : D := .tup [nD p.1, nD p.2]
structure Film where
  places : List (Str × Bool)
  actors : List (Str × Bool)
  scenes : List Scene
  orders : List (Nat × Nat)
  m1 : Int
  m2 : Int
  m3 : Int
def Film.d (f : Film) : D := .tup [.tup (f.places.map sbD), .tup (f.actors.map sbD), .tup (f.scenes.map Scene.d), .tup (f.orders.map ordD), .tup [.int f.m1, .int f.m2, .int f.m3]]
/-- names in their order -/
def Named (c : Str) (ps : List (Str × Bool)) : Prop := ∀ k p, ps[k]? = some p → p.1 = nm c k
structure SceneOk (np na : Nat) (k : Nat) (s : Scene) : Prop where
  name : s.name = nm "s" k
  place : s.place < np
  light : s.light = "day" ∨ s.light = "any" ∨ s.light = "night"
  len : ∃ t : Nat, t < 40 ∧ s.len = 5 + 5 * (t : Int)
  cast : s.cast.Pairwise (· < ·)
  casts : ∀ a ∈ s.cast, a < na
/-- the orders that the law draws: first < second, ascending -/
structure FilmOk (most : Nat) (f : Film) : Prop where
  np : 0 < f.places.length ∧ f.places.length < 4
  na : 0 < f.actors.length ∧ f.actors.length < 4
  ns : 0 < f.scenes.length ∧ f.scenes.length ≤ most
  pn : Named "p" f.places
  an : Named "a" f.actors
  sc : ∀ k s, f.scenes[k]? = some s → SceneOk f.places.length f.actors.length k s
  od : ∀ p ∈ f.orders, p.1 < p.2 ∧ p.2 < f.scenes.length
  os : f.orders.Pairwise fun p q => p.1 < q.1 ∨ p.1 = q.1 ∧ p.2 < q.2
  m1 : 0 ≤ f.m1 ∧ f.m1 < 60
  m2 : 0 ≤ f.m2 ∧ f.m2 < 90
  m3 : 5 ≤ f.m3 ∧ f.m3 < 65
theorem rng_at {lo : Int} {n i : Nat} {d : D} (h : (rngD lo n)[i]? = some d) : i < n ∧ d = .int (lo + i) := rngD_get h
theorem lim_small {j : Int} (h0 : -1000000 ≤ j) (h1 : j ≤ 1000000) : lim62 j = true := by
  unfold lim62
  rw [decide_eq_true_eq]
  omega
theorem len_app (x y : Str) : (x ++ y).length = x.length + y.length := by
  show (x.cps ++ y.cps).size = _
  rw [Array.size_append]
  rfl
theorem nm_len {c : Str} {k : Nat} (hc : c.length ≤ 1) (hk : k < 13) : c.length + (Str.ofString (toString (k : Int))).length ≤ 16777216 := by
  have := len13 k hk
  omega
theorem named_snoc {c : Str} {ps : List (Str × Bool)} {b : Bool} (h : Named c ps) : Named c (ps ++ [(nm c ps.length, b)]) := by
  intro k p e
  rw [List.getElem?_append] at e
  split at e
  · exact h k p e
  · rename_i hk
    cases hkk : k - ps.length with
    | zero =>
      rw [hkk] at e
      cases e
      show nm c _ = nm c k
      rw [show ps.length = k by omega]
    | succ j => rw [hkk] at e; cases e
/-- so many names, each with a coin -/
theorem draw_pairs {c : Str} {o : O} {n : Nat} {coin : Int} {x1 x2 x3 x4 x6 x7 x8 x9 x10 x11 : Sl} (hc : c.length ≤ 1) (h : dOk o) (hn : n < 13) (h0 : 0 < coin) (h1 : coin < 1000000) {P : List D × List O → Prop}
    (hP : ∀ ps o', ps.length = n → Named c ps → dOk o' → P (ps.map sbD, [o'])) {E : EP'} :
    Wp (lcR (gNm 5) mYes (mTup (mCons (mBin D.add (mC (.str c)) (mBi (on1 D.toStrI) (mCons (mVar 5) mNil))) (mCons (mBin D.eqo (mCall F__law_take (mCons (mVar 0) (mCons (mC (.int coin)) mNil))) (mC (.int 0))) mNil)))
      [.val (.ref 0), x1, x2, x3, x4, .no, x6, x7, x8, x9, x10, x11] (rngD 0 n) [o]) P E := by
  refine Wp.lc (fun i acc S => ∃ ps o', acc = ps.map sbD ∧ ps.length = i ∧ Named c ps ∧ S = [o'] ∧ dOk o') ⟨[], o, rfl, rfl, fun k p e => by simp at e, rfl, h⟩ ?_ ?_
  · rintro i d acc S hd ⟨ps, o1, rfl, rfl, hp, rfl, ho⟩
    obtain ⟨hi, rfl⟩ := rng_at hd
    refine ⟨_, rfl, ?_⟩
    walk_at "ev"
    rw [Int.zero_add]
    refine ⟨small_log (by omega), nm_len hc (by omega), ?_⟩
    refine (take_ok ho coin h0 (by omega)).imp ?_
    rintro _ ⟨r, o2, rfl, r0, r1, h2⟩
    walk_at "ev"
    refine ⟨ps ++ [(nm c ps.length, decide (r = 0))], o2, ?_, by simp, named_snoc hp, rfl, h2⟩
    rw [List.map_append]
    rfl
  · rintro acc S ⟨ps, o1, rfl, hl, hp, rfl, ho⟩
    rw [rngD_len] at hl
    exact hP ps o1 hl hp ho
theorem pw_snoc {α : Type} {R : α → α → Prop} {xs : List α} {y : α} (h : xs.Pairwise R) (hy : ∀ x ∈ xs, R x y) : (xs ++ [y]).Pairwise R := by
  rw [List.pairwise_append]
  refine ⟨h, List.pairwise_singleton _ _, fun x hx z hz => ?_⟩
  rw [List.mem_singleton.mp hz]
  exact hy x hx
theorem nD_eq (k : Nat) : D.int (k : Int) = nD k := rfl
/-- numbers below n, each with a coin -/
theorem draw_cast {o : O} {n : Nat} {x1 x2 x3 x4 x5 x6 x7 x8 x9 x11 : Sl} (h : dOk o) {P : List D × List O → Prop}
    (hP : ∀ (c : List Nat) o', c.Pairwise (· < ·) → (∀ a ∈ c, a < n) → dOk o' → P (c.map nD, [o'])) {E : EP'} :
    Wp (lcR (gNm 10) (mTst (mBin D.eqo (mCall F__law_take (mCons (mVar 0) (mCons (mC (.int 2)) mNil))) (mC (.int 0)))) (mVar 10)
      [.val (.ref 0), x1, x2, x3, x4, x5, x6, x7, x8, x9, .no, x11] (rngD 0 n) [o]) P E := by
  refine Wp.lc (fun i acc S => ∃ (c : List Nat) (o' : O), acc = c.map nD ∧ c.Pairwise (· < ·) ∧ (∀ a ∈ c, a < i) ∧ S = [o'] ∧ dOk o') ⟨[], o, rfl, List.Pairwise.nil, fun a ha => by simp at ha, rfl, h⟩ ?_ ?_
  · rintro i d acc S hd ⟨c, o1, rfl, hp, hb, rfl, ho⟩
    obtain ⟨hi, rfl⟩ := rng_at hd
    refine ⟨_, rfl, ?_⟩
    walk_at "ev"
    refine (take_ok ho 2 (by decide) (by decide)).imp ?_
    rintro _ ⟨r, o2, rfl, r0, r1, h2⟩
    walk_at "ev"
    rw [Int.zero_add]
    split
    · exact ⟨c ++ [i], o2, by rw [List.map_append]; rfl, pw_snoc hp hb, fun a ha => by
        rcases List.mem_append.mp ha with ha | ha
        · have := hb a ha; omega
        · rw [List.mem_singleton.mp ha]; omega, rfl, h2⟩
    · exact ⟨c, o2, rfl, hp, fun a ha => Nat.lt_succ_of_lt (hb a ha), rfl, h2⟩
  · rintro acc S ⟨c, o1, rfl, hp, hb, rfl, ho⟩
    rw [rngD_len] at hb
    exact hP c o1 hp hb ho
/-- pairs (first, second), each with a coin -/
theorem draw_orders {o : O} {f n : Nat} {x1 x2 x3 x4 x5 x6 x7 x9 x10 : Sl} (h : dOk o) (hf : f < n) {P : List D × List O → Prop}
    (hP : ∀ (c : List (Nat × Nat)) o', c.length ≤ n - f - 1 → c.Pairwise (fun p q => p.1 < q.1 ∨ p.1 = q.1 ∧ p.2 < q.2) → (∀ p ∈ c, p.1 = f ∧ f < p.2 ∧ p.2 < n) → dOk o' → P (c.map ordD, [o'])) {E : EP'} :
    Wp (lcR (gNm 11) (mTst (mBin D.eqo (mCall F__law_take (mCons (mVar 0) (mCons (mC (.int 5)) mNil))) (mC (.int 0)))) (mTup (mCons (mVar 8) (mCons (mVar 11) mNil)))
      [.val (.ref 0), x1, x2, x3, x4, x5, x6, x7, .val (nD f), x9, x10, .no] (rngD ((f : Int) + 1) (n - f - 1)) [o]) P E := by
  refine Wp.lc (fun i acc S => ∃ (c : List (Nat × Nat)) (o' : O), acc = c.map ordD ∧ c.length ≤ i ∧ c.Pairwise (fun p q => p.1 < q.1 ∨ p.1 = q.1 ∧ p.2 < q.2) ∧ (∀ p ∈ c, p.1 = f ∧ f < p.2 ∧ p.2 < f + 1 + i) ∧ S = [o'] ∧ dOk o') ⟨[], o, rfl, Nat.le_refl _, List.Pairwise.nil, fun a ha => by simp at ha, rfl, h⟩ ?_ ?_
  · rintro i d acc S hd ⟨c, o1, rfl, hcl, hp, hb, rfl, ho⟩
    obtain ⟨hi, rfl⟩ := rng_at hd
    refine ⟨_, rfl, ?_⟩
    walk_at "ev"
    refine (take_ok ho 5 (by decide) (by decide)).imp ?_
    rintro _ ⟨r, o2, rfl, r0, r1, h2⟩
    walk_at "ev"
    split
    · refine ⟨c ++ [(f, f + 1 + i)], o2, ?_, by simp [hcl], pw_snoc hp fun p hx => ?_, fun a ha => ?_, rfl, h2⟩
      · rw [List.map_append]
        show _ ++ [D.tup [nD f, .int ((f : Int) + 1 + (i : Int))]] = _ ++ [D.tup [nD f, .int (((f + 1 + i : Nat)) : Int)]]
        rw [show ((f : Int) + 1 + (i : Int)) = (((f + 1 + i : Nat)) : Int) by omega]
      · obtain ⟨h1, h2, h3⟩ := hb p hx
        exact .inr ⟨h1, h3⟩
      · rcases List.mem_append.mp ha with ha | ha
        · obtain ⟨h1, h2, h3⟩ := hb a ha
          exact ⟨h1, h2, by omega⟩
        · rw [List.mem_singleton.mp ha]
          exact ⟨rfl, by show f < f + 1 + i; omega, by show f + 1 + i < _; omega⟩
    · refine ⟨c, o2, rfl, by omega, hp, fun a ha => ?_, rfl, h2⟩
      obtain ⟨h1, h2, h3⟩ := hb a ha
      exact ⟨h1, h2, by omega⟩
  · rintro acc S ⟨c, o1, rfl, hcl, hp, hb, rfl, ho⟩
    rw [rngD_len] at hb hcl
    refine hP c o1 hcl hp (fun p hx => ?_) ho
    obtain ⟨h1, h2, h3⟩ := hb p hx
    exact ⟨h1, h2, by omega⟩
theorem film_ok {o : O} (h : dOk o) (most : Nat) (h0 : 0 < most) (h1 : most < 13) : Wp (F__law_film [.ref 0, .int (most : Int)] [o]) (fun y => ∃ f o', y = (Film.d f, [o']) ∧ FilmOk most f ∧ dOk o') noE := by
  unfold F__law_film m__law_film
  walk_at "ev"
  refine (take_ok h 3 (by decide) (by decide)).imp ?_
  rintro _ ⟨r, o1, rfl, r0, r1, hd1⟩
  obtain ⟨np, rfl⟩ : ∃ k : Nat, r = (k : Int) := ⟨r.toNat, by omega⟩
  walk_at "ev"
  refine ⟨lim_small (by omega) (by omega), by rw [rngD_len]; omega, ?_⟩
  refine draw_pairs (by decide) hd1 (by omega) (by decide) (by decide) fun places o2 hpl hpn hd2 => ?_
  walk_at "ev"
  refine (take_ok hd2 3 (by decide) (by decide)).imp ?_
  rintro _ ⟨r, o3, rfl, q0, q1, hd3⟩
  obtain ⟨na, rfl⟩ : ∃ k : Nat, r = (k : Int) := ⟨r.toNat, by omega⟩
  walk_at "ev"
  refine ⟨lim_small (by omega) (by omega), by rw [rngD_len]; omega, ?_⟩
  refine draw_pairs (by decide) hd3 (by omega) (by decide) (by decide) fun actors o4 hal han hd4 => ?_
  walk_at "ev"
  refine (take_ok hd4 (most : Int) (by omega) (by omega)).imp ?_
  rintro _ ⟨r, o5, rfl, s0, s1, hd5⟩
  obtain ⟨ns, rfl⟩ : ∃ k : Nat, r = (k : Int) := ⟨r.toNat, by omega⟩
  walk_at "ev"
  refine ⟨lim_small (by omega) (by omega), ?_⟩
  refine Wp.loop (fun i sg S => ∃ (sc : List Scene) (x5 x6 : Sl) (o' : O), sg = [.val (.ref 0), .val (.int most), .val (.tup (places.map sbD)), .val (.tup (actors.map sbD)), .own (.lst (sc.map Scene.d)), x5, x6, .no, .no, .no, .no, .no] ∧ S = [o'] ∧ dOk o' ∧
      isOwn (some x5) = false ∧ sc.length = i ∧ ∀ k s, sc[k]? = some s → SceneOk places.length actors.length k s) ⟨[], .no, .no, o5, rfl, rfl, hd5, rfl, rfl, fun k s e => by simp at e⟩ ?_ ?_
  · rintro i d sg S hd ⟨sc, x5, x6, o6, rfl, rfl, ho, hx5, hl, hs⟩
    obtain ⟨hi, rfl⟩ := rng_at hd
    refine ⟨_, gNm_ok hx5, ?_⟩
    unfold m__law_film_b1
    walk_at "ev"
    refine ⟨lim_small (by rw [List.length_map]; omega) (by rw [List.length_map]; omega), by rw [rngD_len, List.length_map]; omega, ?_⟩
    rw [show (((actors.map sbD).length : Nat) : Int).toNat = actors.length by rw [List.length_map]; rfl]
    refine draw_cast ho fun cast o7 hc1 hc2 hd7 => ?_
    walk_at "ev"
    rw [Int.zero_add]
    refine ⟨small_log (by omega), nm_len (by decide) (by omega), ?_⟩
    refine (take_ok hd7 _ (by rw [List.length_map]; omega) (by rw [List.length_map]; omega)).imp ?_
    rintro _ ⟨pl, o8, rfl, p0, p1, hd8⟩
    rw [List.length_map] at p1
    obtain ⟨pl, rfl⟩ : ∃ k : Nat, pl = (k : Int) := ⟨pl.toNat, by omega⟩
    walk_at "ev"
    refine (pick_ok hd8 _ (by decide) (by decide)).imp ?_
    rintro _ ⟨li, o9, rfl, hli, hd9⟩
    obtain ⟨li, rfl, hli2⟩ : ∃ z : Str, li = .str z ∧ (z = "day" ∨ z = "any" ∨ z = "night") := by
      simp only [List.mem_cons, List.not_mem_nil, or_false] at hli
      rcases hli with rfl | rfl | rfl | rfl <;> exact ⟨_, rfl, by simp⟩
    walk_at "ev"
    refine (take_ok hd9 40 (by decide) (by decide)).imp ?_
    rintro _ ⟨t, o10, rfl, t0, t1, hd10⟩
    obtain ⟨t, rfl⟩ : ∃ k : Nat, t = (k : Int) := ⟨t.toNat, by omega⟩
    walk_at "ev"
    refine (take_ok hd10 4 (by decide) (by decide)).imp ?_
    rintro _ ⟨q, o11, rfl, _, _, hd11⟩
    walk_at "ev"
    refine ⟨by rw [List.length_map]; omega, sc ++ [⟨nm "s" i, pl, li, 5 + 5 * (t : Int), decide (q = 0), cast⟩], .val (.int i), .val (.tup (cast.map nD)), o11, ?_, rfl, hd11, rfl, by simp [hl], fun k s e => ?_⟩
    · rw [List.map_append]
      rfl
    · rw [List.getElem?_append] at e
      split at e
      · exact hs k s e
      · rename_i hk
        cases hkk : k - sc.length with
        | zero =>
          rw [hkk] at e
          cases e
          have : k = i := by omega
          subst this
          exact ⟨rfl, by show pl < _; omega, hli2, ⟨t, by omega, rfl⟩, hc1, hc2⟩
        | succ j => rw [hkk] at e; cases e
  · intro sg S hI
    obtain ⟨sc, x5, x6, o6, e1, e2, hd6, hx5, hsl, hsc⟩ := hI
    subst e1
    subst e2
    rw [rngD_len] at hsl
    walk_at "ev"
    simp only [frz, List.getElem?_cons_succ, List.getElem?_cons_zero, List.set_cons_succ, List.set_cons_zero, toD_lst]
    walk_at "ev"
    refine ⟨lim_small (by rw [List.length_map]; omega) (by rw [List.length_map]; omega), ?_⟩
    rw [show (((sc.map Scene.d).length : Nat) : Int).toNat = sc.length by rw [List.length_map]; rfl]
    refine Wp.loop (fun i sg S => ∃ (od : List (Nat × Nat)) (x8 : Sl) (o' : O), sg = [.val (.ref 0), .val (.int most), .val (.tup (places.map sbD)), .val (.tup (actors.map sbD)), .val (.lst (sc.map Scene.d)), x5, x6, .own (.lst (od.map ordD)), x8, .no, .no, .no] ∧ S = [o'] ∧ dOk o' ∧
      isOwn (some x8) = false ∧ od.length ≤ i * 13 ∧ od.Pairwise (fun p q => p.1 < q.1 ∨ p.1 = q.1 ∧ p.2 < q.2) ∧ ∀ p ∈ od, p.1 < i ∧ p.1 < p.2 ∧ p.2 < sc.length) ⟨[], .no, o6, rfl, rfl, hd6, rfl, by simp, List.Pairwise.nil, fun p hp => by simp at hp⟩ ?_ ?_
    · rintro i d sg S hd ⟨od, x8, o7, rfl, rfl, ho, hx8, hlen, hp, hb⟩
      obtain ⟨hi, rfl⟩ := rng_at hd
      refine ⟨_, gNm_ok hx8, ?_⟩
      unfold m__law_film_b2
      walk_at "ev"
      rw [Int.zero_add, List.length_map, show ((sc.length : Int) - ((i : Int) + 1)).toNat = sc.length - i - 1 by omega, rngD_len]
      refine ⟨by rw [lim_small (by omega) (by omega), lim_small (by omega) (by omega)]; rfl, by omega, ?_⟩
      refine draw_orders ho hi fun c o8 hcl hc1 hc2 hd8 => ?_
      walk_at "ev"
      rw [List.length_map, List.length_map]
      refine ⟨by omega, od ++ c, .val (nD i), o8, by rw [List.map_append]; rfl, rfl, hd8, rfl, by rw [List.length_append]; omega, ?_, fun p hx => ?_⟩
      · rw [List.pairwise_append]
        refine ⟨hp, hc1, fun p hp2 q hq2 => .inl ?_⟩
        have := (hb p hp2).1
        have := (hc2 q hq2).1
        omega
      · rcases List.mem_append.mp hx with hx | hx
        · obtain ⟨h1, h2, h3⟩ := hb p hx
          exact ⟨by omega, h2, h3⟩
        · obtain ⟨h1, h2, h3⟩ := hc2 p hx
          exact ⟨by omega, by omega, h3⟩
    · intro sg S hI
      obtain ⟨od, x8, o7, e1, e2, hd7, hx8, hlen, hp, hb⟩ := hI
      subst e1
      subst e2
      walk_at "ev"
      refine (take_ok hd7 60 (by decide) (by decide)).imp ?_
      rintro _ ⟨m1, o8, rfl, a0, a1, hd8⟩
      walk_at "ev"
      refine (take_ok hd8 90 (by decide) (by decide)).imp ?_
      rintro _ ⟨m2, o9, rfl, b0, b1, hd9⟩
      walk_at "ev"
      refine (take_ok hd9 60 (by decide) (by decide)).imp ?_
      rintro _ ⟨m3, o10, rfl, c0, c1, hd10⟩
      walk_at "ev"
      simp only [frz, List.getElem?_cons_succ, List.getElem?_cons_zero, List.set_cons_succ, List.set_cons_zero, toD_lst]
      walk_at "ev"
      exact ⟨⟨places, actors, sc, od, m1, m2, 5 + m3⟩, o10, rfl, ⟨by show 0 < places.length ∧ places.length < 4; omega, by show 0 < actors.length ∧ actors.length < 4; omega, by show 0 < sc.length ∧ sc.length ≤ most; omega, hpn, han, hsc, fun p hx => (hb p hx).2, hp, ⟨a0, a1⟩, ⟨b0, b1⟩, by show 5 ≤ 5 + m3 ∧ 5 + m3 < 65; omega⟩, hd10⟩
theorem any_nD (i : Int) : ∀ ns : List Nat, ((ns.map nD).any fun y => D.eqv y (.int i)) = decide (∃ a ∈ ns, (a : Int) = i)
  | [] => by simp
  | n :: ns => by
    rw [List.map_cons, List.any_cons, any_nD i ns, show nD n = .int (n : Int) from rfl, eqv_int]
    by_cases h : (n : Int) = i
    · simp [h]
    · simp [h]
theorem okqA_nDs (n : Nat) (ns : List Nat) : D.okqA (ns.map nD) n = true := by
  have := okqA_ints n (ns.map fun (k : Nat) => (k : Int))
  rw [List.map_map] at this
  exact this
theorem ino_nD {i : Int} {ns : List Nat} : D.ino (.int i) (.tup (ns.map nD)) = some (.bl (decide (∃ a ∈ ns, (a : Int) = i))) := by
  have h1 : D.okq (.int i) 50 = true := rfl
  simp only [D.ino, D.inB, h1, if_true, okqA_nDs, any_nD]
  rfl
theorem wp_is {α : Type} {r : R α} {a : α} (h : Wp r (fun y => y = a) noE) : r = .ok a := by
  obtain ⟨b, e, h2⟩ := h.ok
  rw [e, h2]

end Law

namespace Law
open PySem PySem.Spec PyProof.Rows L2 D2
local macro_rules | `(tactic| walk_at "ev") => `(tactic| simp (decide := true) only [kO_some, w_C, w_Var, w_VarW, kVar_val, kVarW_val, kVarW_lst, kVarW_dic, w_Flat, kFlat_eq, w_Bin, kBin_eq, kBin2_eq, w_Un, kUn_eq, w_Tup, kTup_eq, w_Lst, kLst_eq, w_Nil, w_Cons, kCons_eq, kCons2_eq, w_And, kAnd_eq, w_Or, kOr_eq, w_Tst, kTst_eq, w_Tru, kTru_bl, kTru_int, kTru_tup, kTru_lst, kTru_non, w_NotT, kNotT_eq, w_AndT, kAndT_eq, w_OrT, kOrT_eq, w_IsN, kIsN_eq, w_If, kIf_eq, w_Chain, kCh1_eq, kCh2_eq, kCh3_eq, w_Bi, kBi_eq, on1_eq, on2_eq, w_Meth, kMeth_eq, kMeth2_eq, w_Ix, kIx_eq, kIx2_eq, w_Get2, kGet1_eq, kGet2_eq, kGet3_eq, w_NoP, w_Part, kPart_eq, w_Sl, kSl1_eq, kSl2_eq, kSl3_eq, w_Call, kCall_eq, w_CallP, kCallP_eq, w_OfO, kOfO_eq, toD_lst, toD_dic, w_LstO, kLstO_eq, w_DicO, w_Rep, kRep_eq, kRep2_eq, w_Pn, w_Pc, kPc1_eq, kPc2_eq, kPc3_eq, w_Disp, kDisp_eq, kDisp2_eq, keyed_nil, keyed_S, keyed_I, w_Lc, kLc_eq, kLc2_eq, w_Il, kIl_eq, w_It, kIt_eq, w_Ir1, kIr1_eq, w_Ir2, kIr2_eq, w_Ie, kIe_eq, w_IeT, kIeT_eq, w_Yes, w_Seq, kSeq_nx, kSeq_bk, kSeq_ct, kSeq_rt, w_Nx, w_Bk, w_Ct, w_RetN, w_Ret, kRet_eq, w_Drop, kDrop_eq, w_IfS, kIfS_eq, w_Frz, w_Set, kSet_eq, w_SetO, kSetO_eq, w_Aft, kAft_eq, w_Asg, kAsg_eq, kAsg2_eq, w_For, kFor_eq, w_While, w_Put, kPut_eq, kPut2_own, kPut2_ref, kPutR_eq, w_Own, w_OwnE, w_OwnS, kOwn_eq, kOwnE_eq, kOwnS_eq, w_Fn, kFn_nx, kFn_rt, kLoop_nx, kLoop_ct, kLoop_bk, kLoop_rt, w_Ir3, kIr3_eq, w_Lrg, kLrg_eq, w_AppPop, kApp0_eq, w_Never, w_Irv, kIrv_eq, w_Star, kStar_tup, kStar_lst, kStar2_eq, o_addI, o_addS, o_addT, o_addL, o_sub, o_fdiv, o_mod, o_pow, o_shl, o_shr, o_and, o_or, o_mul, o_lt, o_le, o_gt, o_ge, lt_eq, le_eq, gt_eq, ge_eq, o_neg, o_nob, o_eqI, o_eqS, o_neI, o_neS, eqo_int, ixS_tup, ixS_lst, ixS_dic, ixS_ref0, ixS_ref1, ixo_tup, ixo_lst, ixo_dicI, ixo_dicS, atI_0, atI_1, atI_2, atI_3, atI_4, atI_5, atI_6, atI_7, atI_8, pr_0, pr_1, pr_2, pr_3, po_dicI, po_dicS, app_eq, ext_eq, isL_eq, isD_eq, DisL_eq, o_lenL, o_lenT, o_lenD, o_lenS, o_toI, o_abs, o_strI, o_max2, o_min2, o_toT, o_toTT, o_toL, o_toLT, o_sloT, o_sloL, o_sloS, g_Nm, g_Tu, g_Cons, g_Nil, own_val, own_no, merge_new, dGet_cons, dGet_nil, dGet2_S, dGet2_I, o_sset, o_ssetI, o_toIb, fl_int, fl_bl, fl_str, fl_non, isNon_non, isNon_int, isNon_tup, o_inI, o_ninI, o_ninE, o_mkRng, isNon_bl, o_eqB, List.getElem?_cons_zero, List.getElem?_cons_succ, List.set_cons_zero, List.set_cons_succ, List.length_cons, List.length_nil, List.map_cons, List.map_nil, List.cons_append, List.nil_append, List.replicate_succ, List.replicate_zero, if_true, if_false, decide_eq_true_eq, decide_eq_false_iff_not, Bool.false_eq_true, and_true, true_and, Bool.not_true, Bool.not_false, reduceIte, Option.bind_some, Option.map_some, Option.getD_some, Option.getD_none, Sum.inr.injEq, Sum.inl.injEq, Nat.reduceAdd, Nat.reduceSub, Nat.reduceLeDiff, Nat.reduceLT, Nat.reduceEqDiff, reduceCtorEq, Int.reduceLT, Int.reduceLE, Int.reduceEq, Int.reduceAdd, Int.reduceSub, Int.reduceMul, Int.reduceNeg, Int.cast_ofNat_Int, Int.natCast_zero, Int.reduceToNat, Int.reducePow, or_true, true_or, String.reduceEq, decide_true, decide_false, Bool.not_eq_true', Bool.not_eq_false', List.all_cons, List.all_nil, Bool.and_true, Bool.true_and, Bool.true_or, Bool.or_true, wipeS, startS])
abbrev n__law_windows : List Str := ["d", "many", "days", "rows", "k", "first"]
def m__law_windows_b1 : MS :=
  (mSeq (mSet 5 (mCall F__law_take (mCons (mVar 0) (mCons (mVar 2) mNil))))
  (mOwnE 3 O.isL O.append (mCons (mTup (mCons (mCall F__law_take (mCons (mVar 0) (mCons (mVar 1) mNil))) (mCons (mVar 5) (mCons (mBin D.add (mVar 5) (mCall F__law_take (mCons (mVar 0) (mCons (mBin D.sub (mVar 2) (mVar 5)) mNil)))) mNil)))) mNil)))
def m__law_windows : MS :=
  (mSeq (mSetO 3 (oLst mNil))
  (mSeq (mFor (mIr1 (mCons (mCall F__law_take (mCons (mVar 0) (mCons (mC (.int 3)) mNil))) mNil)) (gNm 4) (m__law_windows_b1))
  (mFrz 3 (mRet (mBi (on1 D.toTup) (mCons (mUn D.sset (mVar 3)) mNil))))))
def F__law_windows : FD := fnF n__law_windows m__law_windows
abbrev n__law_calendar : List Str := ["d", "film", "days", "lights", "k"]
def m__law_calendar : MS :=
  (mSeq (mSet 3 (mBi (on1 D.toTup) (mCons (mOfO (oLc false (mIr1 (mCons (mVar 2) mNil)) (gNm 4) mYes (mTup (mCons (mBin D.add (mC (.int 300)) (mCall F__law_take (mCons (mVar 0) (mCons (mC (.int 200)) mNil)))) (mCons (mBin D.add (mC (.int 1000)) (mCall F__law_take (mCons (mVar 0) (mCons (mC (.int 300)) mNil)))) mNil))) [4])) mNil)))
  (mRet (mTup (mCons (mVar 3) (mCons (mCall F__law_windows (mCons (mVar 0) (mCons (mBi (on1 D.len) (mCons (mIx (mVar 1) (mC (.int 1))) mNil)) (mCons (mVar 2) mNil)))) (mCons (mCall F__law_windows (mCons (mVar 0) (mCons (mBi (on1 D.len) (mCons (mIx (mVar 1) (mC (.int 0))) mNil)) (mCons (mVar 2) mNil)))) mNil))))))
def F__law_calendar : FD := fnF n__law_calendar m__law_calendar
abbrev n__law_list : List Str := ["d", "film", "rest", "row", "k"]
def m__law_list_b1 : MS :=
  (mIfS (mTst (mBin D.eqo (mCall F__law_take (mCons (mVar 0) (mCons (mC (.int 5)) mNil))) (mC (.int 0)))) (mOwnE 3 O.isL O.append (mCons (mBin D.sub (mC (.int 0)) (mC (.int 1))) mNil)) (mIfS (mTst (mBin D.gt (mBi (on1 D.len) (mCons (mVarW 2) mNil)) (mC (.int 0)))) (mAppPop 3 2 (mIf (mTst (mBin D.eqo (mCall F__law_take (mCons (mVar 0) (mCons (mC (.int 2)) mNil))) (mC (.int 0)))) (mC (.int 0)) (mCall F__law_take (mCons (mVar 0) (mCons (mFlat (mBi (on1 D.len) (mCons (mVarW 2) mNil))) mNil))))) mNx))
def m__law_list : MS :=
  (mSeq (mSetO 2 (oLrg (mBi (on1 D.len) (mCons (mIx (mVar 1) (mC (.int 2))) mNil))))
  (mSeq (mSetO 3 (oLst mNil))
  (mSeq (mFor (mIr1 (mCons (mCall F__law_take (mCons (mVar 0) (mCons (mFlat (mBin D.add (mBi (on1 D.len) (mCons (mVarW 2) mNil)) (mC (.int 2)))) mNil))) mNil)) (gNm 4) (m__law_list_b1))
  (mFrz 3 (mRet (mBi (on1 D.toTup) (mCons (mVar 3) mNil)))))))
def F__law_list : FD := fnF n__law_list m__law_list
abbrev n__law_sheet : List Str := ["d", "film", "dry"]
def m__law_sheet : MS :=
  (mSeq (mSet 2 (mCall F__law_list (mCons (mVar 0) (mCons (mVar 1) mNil))))
  (mRet (mTup (mCons (mBin D.add (mC (.int 360)) (mBin D.mul (mC (.int 30)) (mCall F__law_take (mCons (mVar 0) (mCons (mC (.int 12)) mNil))))) (mCons (mVar 2) (mCons (mIf (mTst (mBin D.eqo (mCall F__law_take (mCons (mVar 0) (mCons (mC (.int 2)) mNil))) (mC (.int 0)))) (mVar 2) (mCall F__law_list (mCons (mVar 0) (mCons (mVar 1) mNil)))) mNil))))))
def F__law_sheet : FD := fnF n__law_sheet m__law_sheet
abbrev n__law_hours : List Str := ["film", "sheet", "shot", "news", "clock", "place", "rows", "fallen", "item", "scene"]
def m__law_hours_b1 : MS :=
  (mIfS (mTst (mBin D.eqo (mVar 8) (mBin D.sub (mC (.int 0)) (mC (.int 1))))) (mSeq (mOwnE 6 O.isL O.append (mCons (mTup (mCons (mVar 8) (mCons (mVar 4) (mCons (mBin D.add (mVar 4) (mIx (mIx (mVar 0) (mC (.int 4))) (mC (.int 2)))) mNil)))) mNil))
  (mSet 4 (mBin D.add (mVar 4) (mIx (mIx (mVar 0) (mC (.int 4))) (mC (.int 2)))))) (mIfS (mTst (mBin D.nino (mVar 8) (mVar 2))) (mSeq (mSet 9 (mIx (mIx (mVar 0) (mC (.int 2))) (mVar 8)))
  (mIfS (mTst (mBin D.ino (mIx (mVar 3) (mC (.int 1))) (mIx (mVar 9) (mC (.int 5))))) (mOwnE 7 O.isL O.append (mCons (mVar 8) mNil)) (mSeq (mIfS (mAndT (mTst (mIsN true (mVar 5))) (mTst (mBin D.neo (mVar 5) (mIx (mVar 9) (mC (.int 1)))))) (mSet 4 (mBin D.add (mVar 4) (mIx (mIx (mVar 0) (mC (.int 4))) (mC (.int 0))))) mNx)
  (mSeq (mSet 5 (mIx (mVar 9) (mC (.int 1))))
  (mSeq (mOwnE 6 O.isL O.append (mCons (mTup (mCons (mVar 8) (mCons (mVar 4) (mCons (mBin D.add (mVar 4) (mIx (mVar 9) (mC (.int 3)))) mNil)))) mNil))
  (mSet 4 (mBin D.add (mVar 4) (mIx (mVar 9) (mC (.int 3)))))))))) mNx))
def m__law_hours : MS :=
  (mSeq (mSet 4 (mBin D.add (mIx (mVar 1) (mC (.int 0))) (mIx (mVar 3) (mC (.int 2)))))
  (mSeq (mSet 5 (mC .non))
  (mSeq (mSetO 6 (oLst mNil))
  (mSeq (mSetO 7 (oLst mNil))
  (mSeq (mFor (mIt (mIx (mVar 1) (mBin D.add (mC (.int 1)) (mBi (on1 D.toInt) (mCons (mBin D.eqo (mIx (mVar 3) (mC (.int 0))) (mC (.str "rain"))) mNil))))) (gNm 8) (m__law_hours_b1))
  (mFrz 6 (mFrz 7 (mRet (mTup (mCons (mBi (on1 D.toTup) (mCons (mVar 6) mNil)) (mCons (mBi (on1 D.toTup) (mCons (mBi (on1 (D.intsL fun ns => some (.lst ((sortI ns).map D.int)))) (mCons (mVar 7) mNil)) mNil)) mNil)))))))))))
def F__law_hours : FD := fnF n__law_hours m__law_hours
/-! ### windows, calendars -/
def WinOk (many days : Int) (w : List Int) : Prop := ∃ a b c : Int, w = [a, b, c] ∧ 0 ≤ a ∧ a < many ∧ 0 ≤ b ∧ b ≤ c ∧ c < days
theorem insU_len {m : List Int} : ∀ {l : List (List Int)}, (insU m l).length ≤ l.length + 1
  | [] => by simp [insU]
  | n :: ns => by
    have := insU_len (m := m) (l := ns)
    unfold insU
    (repeat' split) <;> simp <;> omega
theorem sortU_len : ∀ {l : List (List Int)}, (sortU l).length ≤ l.length
  | [] => Nat.le_refl _
  | n :: ns => Nat.le_trans insU_len (Nat.succ_le_succ sortU_len)
theorem windows_ok {o : O} (h : dOk o) (many days : Int) (m0 : 0 < many) (m1 : many < 1000) (d0 : 0 < days) (d1 : days < 1000) : Wp (F__law_windows [.ref 0, .int many, .int days] [o]) (fun y => ∃ (l : List (List Int)) (o' : O), y = (.tup (l.map tupI), [o']) ∧ (∀ w ∈ l, WinOk many days w) ∧ dOk o' ∧ l.length < 1000) noE := by
  unfold F__law_windows m__law_windows
  walk_at "ev"
  refine (take_ok h 3 (by decide) (by decide)).imp ?_
  rintro _ ⟨n, o1, rfl, n0, n1, h1⟩
  walk_at "ev"
  refine ⟨lim_small (by omega) (by omega), ?_⟩
  refine Wp.loop (fun i sg S => ∃ (l : List (List Int)) (x4 x5 : Sl) (o' : O), sg = [.val (.ref 0), .val (.int many), .val (.int days), .own (.lst (l.map tupI)), x4, x5] ∧ S = [o'] ∧ dOk o' ∧ isOwn (some x4) = false ∧ l.length = i ∧ ∀ w ∈ l, WinOk many days w) ⟨[], .no, .no, o1, rfl, rfl, h1, rfl, rfl, fun w hw => by cases hw⟩ ?_ ?_
  · intro i d sg S hd hI
    obtain ⟨l, x4, x5, o2, e1, e2, h2, hx, hl, hw⟩ := hI
    subst e1 e2
    obtain ⟨hi, rfl⟩ := rng_at hd
    refine ⟨_, gNm_ok hx, ?_⟩
    unfold m__law_windows_b1
    walk_at "ev"
    refine (take_ok h2 days d0 (by omega)).imp ?_
    rintro _ ⟨f, o3, rfl, f0, f1, h3⟩
    walk_at "ev"
    refine (take_ok h3 many m0 (by omega)).imp ?_
    rintro _ ⟨a, o4, rfl, a0, a1, h4⟩
    walk_at "ev"
    refine (take_ok h4 (days - f) (by omega) (by omega)).imp ?_
    rintro _ ⟨b, o5, rfl, b0, b1, h5⟩
    walk_at "ev"
    rw [List.length_map]
    refine ⟨by omega, l ++ [[a, f, f + b]], _, _, o5, by rw [List.map_append]; rfl, rfl, h5, rfl, by simp [hl], fun w hm => ?_⟩
    rcases List.mem_append.mp hm with hm | hm
    · exact hw w hm
    · rw [List.mem_singleton.mp hm]
      exact ⟨a, f, f + b, rfl, a0, a1, f0, by omega, by omega⟩
  · intro sg S hI
    obtain ⟨l, x4, x5, o2, e1, e2, h2, hx, hl, hw⟩ := hI
    subst e1 e2
    rw [rngD_len] at hl
    walk_at "ev"
    simp only [frz, List.getElem?_cons_succ, List.getElem?_cons_zero, List.set_cons_succ, List.set_cons_zero, toD_lst]
    walk_at "ev"
    refine ⟨?_, sortU l, o2, rfl, fun w hm => hw w (mem_sortU.mp hm), h2, by have := sortU_len (l := l); omega⟩
    unfold okU
    rw [Bool.and_eq_true, List.all_eq_true]
    refine ⟨decide_eq_true (by omega), fun w hm => ?_⟩
    have len3 : ∀ w ∈ l, w.length = 3 := fun w hm => by
      obtain ⟨a, b, c, rfl, _⟩ := hw w hm
      rfl
    obtain ⟨a, b, c, e, a0, a1, b0, b1, c1⟩ := hw w hm
    have hh : (l.headD []).length = 3 := by
      cases l with
      | nil => cases hm
      | cons x l => exact len3 x List.mem_cons_self
    rw [hh, e]
    simp
    omega
structure Cal where
  lights : List (Int × Int)
  aw : List (List Int)
  cl : List (List Int)
def prD (p : Int × Int) : D := .tup [.int p.1, .int p.2]
def Cal.d (c : Cal) : D := .tup [.tup (c.lights.map prD), .tup (c.aw.map tupI), .tup (c.cl.map tupI)]
structure CalOk (f : Film) (days : Nat) (c : Cal) : Prop where
  len : c.lights.length = days
  li : ∀ p ∈ c.lights, 300 ≤ p.1 ∧ p.1 < 500 ∧ 1000 ≤ p.2 ∧ p.2 < 1300
  aw : ∀ w ∈ c.aw, WinOk f.actors.length days w
  cl : ∀ w ∈ c.cl, WinOk f.places.length days w
  awl : c.aw.length < 1000
  cll : c.cl.length < 1000
theorem cal_ok {o : O} {f : Film} {most : Nat} (hf : FilmOk most f) (h : dOk o) (days : Nat) (d0 : 0 < days) (d1 : days < 1000) : Wp (F__law_calendar [.ref 0, f.d, .int (days : Int)] [o]) (fun y => ∃ c o', y = (Cal.d c, [o']) ∧ CalOk f days c ∧ dOk o') noE := by
  have hna := hf.na
  have hnp := hf.np
  unfold F__law_calendar m__law_calendar
  walk_at "ev"
  refine ⟨lim_small (by omega) (by omega), by rw [rngD_len]; omega, ?_⟩
  rw [show ((days : Int)).toNat = days from rfl]
  refine Wp.lc (fun i acc S => ∃ (ps : List (Int × Int)) (o' : O), acc = ps.map prD ∧ ps.length = i ∧ (∀ p ∈ ps, 300 ≤ p.1 ∧ p.1 < 500 ∧ 1000 ≤ p.2 ∧ p.2 < 1300) ∧ S = [o'] ∧ dOk o') ⟨[], o, rfl, rfl, (fun p hp => by cases hp), rfl, h⟩ ?_ ?_
  · intro i d acc S hd hI
    obtain ⟨ps, o1, e1, hl, hp, e2, h1⟩ := hI
    subst e1 e2
    obtain ⟨hi, rfl⟩ := rng_at hd
    refine ⟨_, rfl, ?_⟩
    walk_at "ev"
    refine (take_ok h1 200 (by decide) (by decide)).imp ?_
    rintro _ ⟨a, o2, rfl, a0, a1, h2⟩
    walk_at "ev"
    refine (take_ok h2 300 (by decide) (by decide)).imp ?_
    rintro _ ⟨b, o3, rfl, b0, b1, h3⟩
    walk_at "ev"
    refine ⟨ps ++ [(300 + a, 1000 + b)], o3, by rw [List.map_append]; rfl, by simp [hl], fun p hm => ?_, rfl, h3⟩
    rcases List.mem_append.mp hm with hm | hm
    · exact hp p hm
    · rw [List.mem_singleton.mp hm]
      exact ⟨by show 300 ≤ 300 + a; omega, by show 300 + a < 500; omega, by show 1000 ≤ 1000 + b; omega, by show 1000 + b < 1300; omega⟩
  · intro acc S hI
    obtain ⟨ps, o1, e1, hl, hp, e2, h1⟩ := hI
    subst e1 e2
    rw [rngD_len] at hl
    walk_at "ev"
    rw [show kO (ixS [o1] f.d (.int 1)) [o1] = fun P => P (.tup (f.actors.map sbD), [o1]) from rfl]
    walk_at "ev"
    rw [List.length_map]
    refine (windows_ok h1 _ days (by omega) (by omega) (by omega) (by omega)).imp ?_
    rintro _ ⟨aw, o2, rfl, haw, h2, hawl⟩
    walk_at "ev"
    rw [show kO (ixS [o2] f.d (.int 0)) [o2] = fun P => P (.tup (f.places.map sbD), [o2]) from rfl]
    walk_at "ev"
    rw [List.length_map]
    refine (windows_ok h2 _ days (by omega) (by omega) (by omega) (by omega)).imp ?_
    rintro _ ⟨cl, o3, rfl, hcl, h3, hcll⟩
    walk_at "ev"
    exact ⟨⟨ps, aw, cl⟩, o3, rfl, ⟨hl, hp, haw, hcl, hawl, hcll⟩, h3⟩
/-! ### lists and sheets -/
theorem popAt_ok {ys : List D} {k : Nat} (h : k < ys.length) (hs : ys.length < 1000000) : popAt ys (k : Int) = some (ys.eraseIdx k, ys[k]) := by
  unfold popAt
  rw [if_pos (decide_eq_true (by omega))]
  rw [Int.toNat_natCast, List.getElem?_eq_getElem h]
def ItemOk (n : Nat) (i : Int) : Prop := i = -1 ∨ 0 ≤ i ∧ i < (n : Int)
theorem fsc {f : Film} {S : List O} {P : D × List O → Prop} : kO (ixS S f.d (.int 2)) S P = P (.tup (f.scenes.map Scene.d), S) := by with_unfolding_all rfl
theorem map_eraseIdx {α β : Type} (g : α → β) : ∀ (l : List α) (k : Nat), (l.map g).eraseIdx k = (l.eraseIdx k).map g
  | [], _ => rfl
  | x :: l, 0 => rfl
  | x :: l, k + 1 => by
    rw [List.map_cons, List.eraseIdx_cons_succ, List.eraseIdx_cons_succ, List.map_cons, map_eraseIdx g l k]
theorem list_ok {o : O} {f : Film} {most : Nat} (hf : FilmOk most f) (hm : most < 13) (h : dOk o) : Wp (F__law_list [.ref 0, f.d] [o]) (fun y => ∃ (l : List Int) (o' : O), y = (.tup (l.map D.int), [o']) ∧ (∀ i ∈ l, ItemOk f.scenes.length i) ∧ (l.filter fun i => decide (0 ≤ i)).Nodup ∧ l.length ≤ f.scenes.length + 1 ∧ dOk o') noE := by
  have hns := hf.ns
  unfold F__law_list m__law_list
  walk_at "ev"
  rw [fsc]
  walk_at "ev"
  rw [List.length_map]
  refine ⟨⟨by omega, by omega⟩, ?_⟩
  rw [show ((f.scenes.length : Nat) : Int).toNat = f.scenes.length from rfl, rngD_len]
  refine (take_ok h ((f.scenes.length : Int) + 2) (by omega) (by omega)).imp ?_
  rintro _ ⟨n, o1, rfl, n0, n1, h1⟩
  walk_at "ev"
  refine ⟨lim_small (by omega) (by omega), ?_⟩
  have e0 : rngD 0 f.scenes.length = ((List.range f.scenes.length).map fun (k : Nat) => (k : Int)).map D.int := by
    unfold rngD
    rw [List.map_map]
    refine List.map_congr_left fun k _ => ?_
    show D.int (0 + (k : Int)) = D.int (k : Int)
    rw [Int.zero_add]
  rw [e0]
  refine Wp.loop (fun i sg S => ∃ (rest l : List Int) (x4 : Sl) (o' : O), sg = [.val (.ref 0), .val f.d, .own (.lst (rest.map D.int)), .own (.lst (l.map D.int)), x4] ∧ S = [o'] ∧ dOk o' ∧ isOwn (some x4) = false ∧ l.length ≤ i ∧ (∀ k ∈ rest, 0 ≤ k ∧ k < (f.scenes.length : Int)) ∧ rest.Nodup ∧ rest.length ≤ f.scenes.length ∧
    (∀ k ∈ l, ItemOk f.scenes.length k) ∧ (l.filter fun i => decide (0 ≤ i)).Nodup ∧ ∀ k ∈ l, k ∉ rest ∨ k = -1) ⟨(List.range f.scenes.length).map fun (k : Nat) => (k : Int), [], .no, o1, rfl, rfl, h1, rfl, Nat.le_refl _, fun k hk => by
      obtain ⟨j, hj, e⟩ := List.mem_map.mp hk
      have := List.mem_range.mp hj
      omega, ?_, by rw [List.length_map, List.length_range]; exact Nat.le_refl _, (fun k hk => by cases hk), List.nodup_nil, (fun k hk => by cases hk)⟩ ?_ ?_
  · show List.Pairwise _ _
    rw [List.pairwise_map]
    exact (List.nodup_range (n := f.scenes.length)).imp fun h e => h (by omega)
  · intro i d sg S hd hI
    obtain ⟨rest, l, x4, o2, e1, e2, h2, hx, hl, hr, hrn, hrl, hk, hnd, hdis⟩ := hI
    subst e1 e2
    obtain ⟨hi, rfl⟩ := rng_at hd
    refine ⟨_, gNm_ok hx, ?_⟩
    unfold m__law_list_b1
    walk_at "ev"
    refine (take_ok h2 5 (by decide) (by decide)).imp ?_
    rintro _ ⟨c, o3, rfl, c0, c1, h3⟩
    walk_at "ev"
    split
    · rw [List.length_map]
      refine ⟨by omega, rest, l ++ [-1], _, o3, by rw [List.map_append]; rfl, rfl, h3, rfl, by simp; omega, hr, hrn, hrl, fun k hm => ?_, ?_, fun k hm => ?_⟩
      · rcases List.mem_append.mp hm with hm | hm
        · exact hk k hm
        · exact .inl (List.mem_singleton.mp hm)
      · rw [List.filter_append]
        simpa using hnd
      · rcases List.mem_append.mp hm with hm | hm
        · exact hdis k hm
        · exact .inr (List.mem_singleton.mp hm)
    · rw [List.length_map]
      split
      · rename_i hpos
        have step : ∀ (k : Nat) (o4 : O), dOk o4 → k < rest.length → kApp1 3 2 (l.map D.int) (rest.map D.int) [.val (.ref 0), .val f.d, .own (.lst (rest.map D.int)), .own (.lst (l.map D.int)), .val (.int (0 + (i : Int)))] (kLoop (fun sg S => ∃ (rest l : List Int) (x4 : Sl) (o' : O), sg = [.val (.ref 0), .val f.d, .own (.lst (rest.map D.int)), .own (.lst (l.map D.int)), x4] ∧ S = [o'] ∧ dOk o' ∧ isOwn (some x4) = false ∧ l.length ≤ i + 1 ∧ (∀ k ∈ rest, 0 ≤ k ∧ k < (f.scenes.length : Int)) ∧ rest.Nodup ∧ rest.length ≤ f.scenes.length ∧
            (∀ k ∈ l, ItemOk f.scenes.length k) ∧ (l.filter fun i => decide (0 ≤ i)).Nodup ∧ ∀ k ∈ l, k ∉ rest ∨ k = -1) fun y => Wp (mFrz 3 (mRet (mBi (on1 D.toTup) (mCons (mVar 3) mNil))) y.2.1 y.2.2) (kFn fun y => ∃ (l : List Int) (o' : O), y = (.tup (l.map D.int), [o']) ∧ (∀ i ∈ l, ItemOk f.scenes.length i) ∧ (l.filter fun i => decide (0 ≤ i)).Nodup ∧ l.length ≤ f.scenes.length + 1 ∧ dOk o') noE) (.int (k : Int), [o4]) := by
          intro k o4 h4 hkl
          have hkd : k < (rest.map D.int).length := by rw [List.length_map]; exact hkl
          rw [kApp1_eq (popAt_ok hkd (by rw [List.length_map]; omega))]
          walk_at "ev"
          have hmem : rest[k] ∈ rest := List.getElem_mem hkl
          have hb := hr _ hmem
          refine ⟨by rw [List.length_map]; omega, rest.eraseIdx k, l ++ [rest[k]], .val (.int (0 + (i : Int))), o4, by rw [map_eraseIdx, List.getElem_map, List.map_append]; rfl, rfl, h4, rfl, by simp; omega, fun j hj => hr j (List.mem_of_mem_eraseIdx hj), hrn.sublist (List.eraseIdx_sublist _ _), by rw [List.length_eraseIdx]; split <;> omega, fun j hj => ?_, ?_, fun j hj => ?_⟩
          · rcases List.mem_append.mp hj with hj | hj
            · exact hk j hj
            · rw [List.mem_singleton.mp hj]; exact .inr hb
          · rw [List.filter_append, List.nodup_append]
            refine ⟨hnd, by simp [hb.1], fun a ha b hbm e => ?_⟩
            have ha' := List.mem_filter.mp ha
            have hb' : b = rest[k] := by
              have := (List.mem_filter.mp hbm).1
              exact List.mem_singleton.mp this
            subst hb'
            rcases hdis a ha'.1 with z | z
            · exact z (e ▸ hmem)
            · have := of_decide_eq_true ha'.2
              omega
          · rcases List.mem_append.mp hj with hj | hj
            · rcases hdis j hj with z | z
              · exact .inl fun q => z (List.mem_of_mem_eraseIdx q)
              · exact .inr z
            · rw [List.mem_singleton.mp hj]
              refine .inl fun q => ?_
              obtain ⟨j2, hj1, hj3, e2⟩ := List.mem_eraseIdx_iff_getElem.mp q
              have hp := List.pairwise_iff_getElem.mp hrn
              rcases Nat.lt_trichotomy j2 k with z | z | z
              · exact hp j2 k hj1 hkl z e2
              · exact hj3 z
              · exact hp k j2 hkl hj1 z e2.symm
        refine (take_ok h3 2 (by decide) (by decide)).imp ?_
        rintro _ ⟨c2, o4, rfl, c20, c21, h4⟩
        walk_at "ev"
        split
        · exact step 0 o4 h4 (by omega)
        · refine (take_ok h4 _ (by rw [List.length_map]; omega) (by rw [List.length_map]; omega)).imp ?_
          rintro _ ⟨c3, o5, rfl, c30, c31, h5⟩
          rw [List.length_map] at c31
          obtain ⟨c3, rfl⟩ : ∃ k : Nat, c3 = (k : Int) := ⟨c3.toNat, by omega⟩
          exact step c3 o5 h5 (by omega)
      · exact ⟨rest, l, _, o3, rfl, rfl, h3, rfl, by omega, hr, hrn, hrl, hk, hnd, hdis⟩
  · intro sg S hI
    obtain ⟨rest, l, x4, o2, e1, e2, h2, hx, hl, hr, hrn, hrl, hk, hnd, hdis⟩ := hI
    subst e1 e2
    rw [rngD_len] at hl
    walk_at "ev"
    simp only [frz, List.getElem?_cons_succ, List.getElem?_cons_zero, List.set_cons_succ, List.set_cons_zero, toD_lst]
    walk_at "ev"
    exact ⟨l, o2, rfl, hk, hnd, by omega, h2⟩
structure Sheet where
  call : Int
  dry : List Int
  rain : List Int
def Sheet.d (s : Sheet) : D := .tup [.int s.call, .tup (s.dry.map D.int), .tup (s.rain.map D.int)]
def ListOk (n : Nat) (l : List Int) : Prop := (∀ i ∈ l, ItemOk n i) ∧ (l.filter fun i => decide (0 ≤ i)).Nodup ∧ l.length ≤ 13
structure SheetOk (n : Nat) (s : Sheet) : Prop where
  call : 0 ≤ s.call ∧ s.call ≤ 1440
  dry : ListOk n s.dry
  rain : ListOk n s.rain
theorem sheet_ok {o : O} {f : Film} {most : Nat} (hf : FilmOk most f) (hm : most < 13) (h : dOk o) : Wp (F__law_sheet [.ref 0, f.d] [o]) (fun y => ∃ s o', y = (Sheet.d s, [o']) ∧ SheetOk f.scenes.length s ∧ dOk o') noE := by
  have hns := hf.ns
  unfold F__law_sheet m__law_sheet
  walk_at "ev"
  refine (list_ok hf hm h).imp ?_
  rintro _ ⟨l, o1, rfl, l1, l2, l3, h1⟩
  walk_at "ev"
  refine (take_ok h1 12 (by decide) (by decide)).imp ?_
  rintro _ ⟨t, o2, rfl, t0, t1, h2⟩
  walk_at "ev"
  refine (take_ok h2 2 (by decide) (by decide)).imp ?_
  rintro _ ⟨c, o3, rfl, c0, c1, h3⟩
  walk_at "ev"
  split
  · exact ⟨⟨360 + 30 * t, l, l⟩, o3, rfl, ⟨by show 0 ≤ 360 + 30 * t ∧ 360 + 30 * t ≤ 1440; omega, ⟨l1, l2, Nat.le_trans l3 (by omega)⟩, ⟨l1, l2, Nat.le_trans l3 (by omega)⟩⟩, h3⟩
  · refine (list_ok hf hm h3).imp ?_
    rintro _ ⟨r, o4, rfl, r1, r2, r3, h4⟩
    walk_at "ev"
    exact ⟨⟨360 + 30 * t, l, r⟩, o4, rfl, ⟨by show 0 ≤ 360 + 30 * t ∧ 360 + 30 * t ≤ 1440; omega, ⟨l1, l2, Nat.le_trans l3 (by omega)⟩, ⟨r1, r2, Nat.le_trans r3 (by omega)⟩⟩, h4⟩
/-! minutes -/
structure Row where
  it : Int
  b : Int
  e : Int
def Seq : Int → List Row → Prop
  | _, [] => True
  | lo, r :: rs => lo ≤ r.b ∧ r.b < r.e ∧ Seq r.e rs
theorem Seq.mono {lo lo' : Int} : ∀ {rs : List Row}, Seq lo rs → lo' ≤ lo → Seq lo' rs
  | [], _, _ => trivial
  | r :: rs, h, hl => ⟨Int.le_trans hl h.1, h.2.1, h.2.2⟩
theorem Seq.filter {lo : Int} (p : Row → Bool) : ∀ {rs : List Row}, Seq lo rs → Seq lo (rs.filter p)
  | [], _ => trivial
  | r :: rs, h => by
    rw [List.filter_cons]
    split
    · exact ⟨h.1, h.2.1, Seq.filter p h.2.2⟩
    · exact (Seq.filter p h.2.2).mono (by have := h.1; have := h.2.1; omega)
theorem Seq.filterFrom {lo c : Int} {p : Row → Bool} (hp : ∀ r, p r = true → c ≤ r.b) : ∀ {rs : List Row}, Seq lo rs → Seq c (rs.filter p)
  | [], _ => trivial
  | r :: rs, h => by
    rw [List.filter_cons]
    split
    · rename_i hr
      exact ⟨hp r hr, h.2.1, Seq.filter p h.2.2⟩
    · exact Seq.filterFrom hp h.2.2
theorem Seq.snoc {lo : Int} {x : Row} (hx : x.b < x.e) : ∀ {rs : List Row}, Seq lo rs → (∀ r ∈ rs, r.e ≤ x.b) → lo ≤ x.b → Seq lo (rs ++ [x])
  | [], _, _, hl => ⟨hl, hx, trivial⟩
  | r :: rs, h, he, _ => ⟨h.1, h.2.1, Seq.snoc hx h.2.2 (fun y hy => he y (List.mem_cons_of_mem _ hy)) (he r List.mem_cons_self)⟩
theorem Seq.ge {lo : Int} : ∀ {rs : List Row}, Seq lo rs → ∀ r ∈ rs, lo ≤ r.b ∧ r.b < r.e
  | [], _, r, hr => by cases hr
  | x :: rs, h, r, hr => by
    rcases List.mem_cons.mp hr with e | hr
    · subst e; exact ⟨h.1, h.2.1⟩
    · have := Seq.ge h.2.2 r hr
      exact ⟨by have := h.1; have := h.2.1; omega, this.2⟩
theorem Seq.last {lo : Int} : ∀ {rs : List Row} {x : Row}, Seq lo (rs ++ [x]) → ∀ r ∈ rs ++ [x], r.e ≤ x.e
  | [], x, h, r, hr => by
    simp at hr
    rw [hr]
    exact Int.le_refl _
  | y :: rs, x, h, r, hr => by
    rcases List.mem_cons.mp hr with e | hr
    · subst e
      have := Seq.ge h.2.2 x (List.mem_append_right _ List.mem_cons_self)
      omega
    · exact Seq.last h.2.2 r hr
def cntN (p : Int → Bool) (a : Int) : Nat → Int
  | 0 => 0
  | n + 1 => cntN p a n + if p (a + (n : Int)) = true then 1 else 0
theorem cnt_add (p : Int → Bool) (a : Int) (n : Nat) : ∀ m : Nat, cntN p a (n + m) = cntN p a n + cntN p (a + (n : Int)) m
  | 0 => by simp [cntN]
  | m + 1 => by
    rw [← Nat.add_assoc, cntN, cnt_add p a n m, cntN]
    rw [show a + ((n + m : Nat) : Int) = a + (n : Int) + (m : Int) by omega]
    omega
theorem cnt_congr {p q : Int → Bool} {a : Int} : ∀ {n : Nat}, (∀ k : Nat, k < n → p (a + (k : Int)) = q (a + (k : Int))) → cntN p a n = cntN q a n
  | 0, _ => rfl
  | n + 1, h => by
    rw [cntN, cntN, cnt_congr fun k hk => h k (by omega), h n (by omega)]
theorem cnt_zero (a : Int) : ∀ n : Nat, cntN (fun _ => false) a n = 0
  | 0 => rfl
  | n + 1 => by rw [cntN, cnt_zero a n]; rfl
theorem cnt_one (a : Int) : ∀ n : Nat, cntN (fun _ => true) a n = (n : Int)
  | 0 => rfl
  | n + 1 => by
    rw [cntN, cnt_one a n]
    simp
def inAny (rs : List Row) (m : Int) : Bool := rs.any fun r => decide (r.b ≤ m) && decide (m < r.e)
theorem inAny_cons {r : Row} {rs : List Row} {m : Int} : inAny (r :: rs) m = ((decide (r.b ≤ m) && decide (m < r.e)) || inAny rs m) := rfl
theorem inAny_lt {lo m : Int} : ∀ {rs : List Row}, Seq lo rs → m < lo → inAny rs m = false
  | [], _, _ => rfl
  | r :: rs, h, hm => by
    have h1 := h.1
    have h2 := h.2.1
    rw [inAny_cons, inAny_lt h.2.2 (by omega), Bool.or_false]
    have : ¬ r.b ≤ m := by omega
    simp [this]
theorem cnt_any {q : Int → Bool} {hi : Int} : ∀ {rs : List Row} {lo : Int}, Seq lo rs → lo ≤ hi → (∀ r ∈ rs, r.e ≤ hi) → cntN (fun m => inAny rs m && q m) lo (hi - lo).toNat = (rs.map fun r => cntN q r.b (r.e - r.b).toNat).sum
  | [], lo, _, _, _ => by
    rw [List.map_nil, List.sum_nil]
    refine (cnt_congr fun k _ => ?_).trans (cnt_zero lo _)
    rfl
  | r :: rs, lo, h, hlh, he => by
    have h1 := h.1
    have h2 := h.2.1
    have h3 := he r List.mem_cons_self
    have e : (hi - lo).toNat = (r.b - lo).toNat + ((r.e - r.b).toNat + (hi - r.e).toNat) := by omega
    rw [e, cnt_add, cnt_add, List.map_cons, List.sum_cons]
    have a1 : cntN (fun m => inAny (r :: rs) m && q m) lo (r.b - lo).toNat = 0 := by
      refine (cnt_congr fun k hk => ?_).trans (cnt_zero lo _)
      have c1 : ¬ r.b ≤ lo + (k : Int) := by omega
      rw [inAny_cons, inAny_lt h.2.2 (by omega)]
      simp [c1]
    rw [a1, show lo + (((r.b - lo).toNat : Nat) : Int) = r.b by omega, show r.b + (((r.e - r.b).toNat : Nat) : Int) = r.e by omega]
    have a2 : cntN (fun m => inAny (r :: rs) m && q m) r.b (r.e - r.b).toNat = cntN q r.b (r.e - r.b).toNat := cnt_congr fun k hk => by
      have c1 : r.b ≤ r.b + (k : Int) := by omega
      have c2 : r.b + (k : Int) < r.e := by omega
      simp only [inAny_cons, c1, c2, decide_true, Bool.and_true, Bool.true_or, Bool.true_and]
    have a3 : cntN (fun m => inAny (r :: rs) m && q m) r.e (hi - r.e).toNat = cntN (fun m => inAny rs m && q m) r.e (hi - r.e).toNat := cnt_congr fun k hk => by
      have c2 : ¬ r.e + (k : Int) < r.e := by omega
      simp only [inAny_cons, c2, decide_false, Bool.and_false, Bool.false_or]
    rw [a2, a3, cnt_any h.2.2 h3 fun x hx => he x (List.mem_cons_of_mem _ hx)]
    omega
def mx (i j : Int) : Int := if j > i then j else i
def mn (i j : Int) : Int := if j < i then j else i
def nightR (light dark : Int) (r : Row) : Int := mx 0 (mn r.e light - r.b) + mx 0 (r.e - mx r.b dark)
def isNight (light dark m : Int) : Bool := decide (m < light) || decide (dark ≤ m)
theorem night_cnt {light dark b : Int} (hld : light ≤ dark) : ∀ n : Nat, cntN (isNight light dark) b n = mx 0 (mn (b + (n : Int)) light - b) + mx 0 (b + (n : Int) - mx b dark)
  | 0 => by
    unfold mx mn cntN
    (repeat' split) <;> omega
  | n + 1 => by
    rw [cntN, night_cnt hld n]
    unfold isNight mx mn
    have e : ((n + 1 : Nat) : Int) = (n : Int) + 1 := by omega
    rw [e]
    by_cases c1 : b + (n : Int) < light
    · by_cases c2 : dark ≤ b + (n : Int)
      · omega
      · simp only [c1, c2, decide_true, Bool.true_or, if_true]
        (repeat' split) <;> omega
    · by_cases c2 : dark ≤ b + (n : Int)
      · simp only [c1, c2, decide_true, decide_false, Bool.false_or, if_true]
        (repeat' split) <;> omega
      · simp only [c1, c2, decide_false, Bool.false_or, Bool.false_eq_true, if_false]
        (repeat' split) <;> omega
/-! the longest run of minutes without a meal -/
def runN (ms : List Row) (a : Int) : Nat → Int × Int → Int × Int
  | 0, s => s
  | n + 1, s => let t := runN ms a n s; let r := if inAny ms (a + (n : Int)) = true then 0 else t.2 + 1; (mx t.1 r, r)
theorem run_add (ms : List Row) (a : Int) (n : Nat) (s : Int × Int) : ∀ m : Nat, runN ms a (n + m) s = runN ms (a + (n : Int)) m (runN ms a n s)
  | 0 => rfl
  | m + 1 => by
    rw [← Nat.add_assoc, runN, run_add ms a n s m, runN]
    rw [show a + ((n + m : Nat) : Int) = a + (n : Int) + (m : Int) by omega]
theorem run_none {ms : List Row} {a : Int} {L r : Int} (hr : r ≤ L) : ∀ {n : Nat}, (∀ k : Nat, k < n → inAny ms (a + (k : Int)) = false) → runN ms a n (L, r) = (mx L (r + (n : Int)), r + (n : Int))
  | 0, _ => by
    have e : mx L (r + ((0 : Nat) : Int)) = L := by unfold mx; split <;> omega
    rw [e]
    simp [runN]
  | n + 1, h => by
    rw [runN, run_none hr fun k hk => h k (by omega), h n (by omega)]
    simp only [Bool.false_eq_true, if_false]
    have e : r + (n : Int) + 1 = r + ((n + 1 : Nat) : Int) := by omega
    rw [e]
    congr 1
    unfold mx
    (repeat' split) <;> omega
theorem run_all {ms : List Row} {a : Int} {L r : Int} (hL : 0 ≤ L) : ∀ {n : Nat}, 0 < n → (∀ k : Nat, k < n → inAny ms (a + (k : Int)) = true) → runN ms a n (L, r) = (L, 0)
  | 0, h0, _ => by omega
  | 1, _, h => by
    rw [runN]
    simp only [h 0 (by omega), if_true]
    show (mx L 0, (0 : Int)) = (L, 0)
    unfold mx
    rw [if_neg (by omega)]
  | n + 2, _, h => by
    rw [runN, run_all hL (by omega) fun k hk => h k (by omega), h (n + 1) (by omega)]
    simp only [if_true]
    unfold mx
    rw [if_neg (by omega)]
def strF : List Row → Int → Int → Int → Int
  | [], since, L, hi => mx L (hi - since)
  | r :: rs, since, L, hi => strF rs r.e (mx L (r.b - since)) hi
theorem run_congr {ms ms' : List Row} {a : Int} : ∀ {n : Nat} {s : Int × Int}, (∀ k : Nat, k < n → inAny ms (a + (k : Int)) = inAny ms' (a + (k : Int))) → runN ms a n s = runN ms' a n s
  | 0, _, _ => rfl
  | n + 1, s, h => by
    rw [runN, runN, run_congr fun k hk => h k (by omega), h n (by omega)]
theorem mx_ge (L x : Int) : L ≤ mx L x := by unfold mx; split <;> omega
theorem run_str {hi : Int} : ∀ {ms : List Row} {since L : Int}, Seq since ms → since ≤ hi → (∀ r ∈ ms, r.e ≤ hi) → 0 ≤ L → (runN ms since (hi - since).toNat (L, 0)).1 = strF ms since L hi
  | [], since, L, _, hs, _, hL => by
    rw [run_none hL fun k _ => rfl]
    show mx L (0 + _) = mx L (hi - since)
    rw [show (0 : Int) + (((hi - since).toNat : Nat) : Int) = hi - since by omega]
  | r :: rs, since, L, h, hs, he, hL => by
    have h1 := h.1
    have h2 := h.2.1
    have h3 := he r List.mem_cons_self
    have e : (hi - since).toNat = (r.b - since).toNat + ((r.e - r.b).toNat + (hi - r.e).toNat) := by omega
    rw [e, run_add, run_add]
    rw [run_none hL fun k hk => inAny_lt (rs := r :: rs) (lo := r.b) ⟨Int.le_refl _, h2, h.2.2⟩ (by omega)]
    rw [show since + (((r.b - since).toNat : Nat) : Int) = r.b by omega]
    have hL' : 0 ≤ mx L (0 + (((r.b - since).toNat : Nat) : Int)) := Int.le_trans hL (mx_ge _ _)
    rw [run_all hL' (by omega) fun k hk => by
      have c1 : r.b ≤ r.b + (k : Int) := by omega
      have c2 : r.b + (k : Int) < r.e := by omega
      simp [inAny_cons, c1, c2]]
    rw [show r.b + (((r.e - r.b).toNat : Nat) : Int) = r.e by omega]
    rw [run_congr (ms' := rs) fun k hk => by
      have c2 : ¬ r.e + (k : Int) < r.e := by omega
      simp [inAny_cons, c2]]
    rw [run_str h.2.2 h3 (fun x hx => he x (List.mem_cons_of_mem _ hx)) hL']
    show _ = strF rs r.e (mx L (r.b - since)) hi
    rw [show (0 : Int) + (((r.b - since).toNat : Nat) : Int) = r.b - since by omega]
/-! parts -/
def partsOf (since : Int) (ms : List Row) (hi : Int) : List Int := since :: (ms.flatMap (fun r => [r.b, r.e]) ++ [hi])
def gapsOf : Int → List Row → Int → List Int
  | since, [], hi => [hi - since]
  | since, r :: rs, hi => (r.b - since) :: gapsOf r.e rs hi
theorem parts_len (since : Int) (ms : List Row) (hi : Int) : (partsOf since ms hi).length = 2 * (ms.length + 1) := by
  unfold partsOf
  have : ∀ ms : List Row, (ms.flatMap (fun r => [r.b, r.e])).length = 2 * ms.length := fun ms => by
    induction ms with
    | nil => rfl
    | cons r rs ih => rw [List.flatMap_cons, List.length_append, ih]; simp; omega
  rw [List.length_cons, List.length_append, this]
  simp
  omega
theorem parts_at : ∀ (ms : List Row) (since hi : Int) (i : Nat), i < ms.length + 1 → ∃ x y, (partsOf since ms hi)[2 * i]? = some x ∧ (partsOf since ms hi)[2 * i + 1]? = some y ∧ (gapsOf since ms hi)[i]? = some (y - x)
  | [], since, hi, 0, _ => ⟨since, hi, rfl, rfl, rfl⟩
  | [], since, hi, i + 1, h => by simp at h
  | r :: rs, since, hi, 0, _ => ⟨since, r.b, rfl, rfl, rfl⟩
  | r :: rs, since, hi, i + 1, h => by
    obtain ⟨x, y, h1, h2, h3⟩ := parts_at rs r.e hi i (by simpa using h)
    have e : partsOf since (r :: rs) hi = since :: r.b :: partsOf r.e rs hi := by
      unfold partsOf
      simp [List.flatMap_cons]
    refine ⟨x, y, ?_, ?_, ?_⟩
    · rw [e, show 2 * (i + 1) = 2 * i + 1 + 1 by omega, List.getElem?_cons_succ, List.getElem?_cons_succ, h1]
    · rw [e, show 2 * (i + 1) + 1 = 2 * i + 1 + 1 + 1 by omega, List.getElem?_cons_succ, List.getElem?_cons_succ, h2]
    · show (_ :: gapsOf r.e rs hi)[i + 1]? = _
      rw [List.getElem?_cons_succ, h3]
theorem gaps_len : ∀ (ms : List Row) (since hi : Int), (gapsOf since ms hi).length = ms.length + 1
  | [], _, _ => rfl
  | r :: rs, since, hi => by rw [gapsOf, List.length_cons, gaps_len, List.length_cons]
theorem mx_max (i j : Int) : mx i j = max i j := by unfold mx; split <;> omega
theorem str_gaps {hi : Int} : ∀ (ms : List Row) (since L : Int), strF ms since L hi = (gapsOf since ms hi).foldl max L
  | [], since, L => by
    rw [strF, gapsOf, mx_max]
    rfl
  | r :: rs, since, L => by
    rw [strF, gapsOf, List.foldl_cons, str_gaps rs, mx_max]
theorem gaps_nonneg {hi : Int} : ∀ {ms : List Row} {since : Int}, Seq since ms → (∀ r ∈ ms, r.e ≤ hi) → since ≤ hi → ∃ g gs, gapsOf since ms hi = g :: gs ∧ 0 ≤ g
  | [], since, _, _, h => ⟨hi - since, [], rfl, by omega⟩
  | r :: rs, since, h, _, _ => ⟨r.b - since, _, rfl, by have := h.1; omega⟩
/-! ### hours -/

def Row.d (r : Row) : D := .tup [.int r.it, .int r.b, .int r.e]
structure HS where
  clock : Int
  place : Option Nat
  rows : List Row
  fal : List Int
def placeD : Option Nat → D
  | none => .non
  | some k => .int (k : Int)
def stepH (f : Film) (shot : List Int) (ill : Int) (s : HS) (it : Int) : HS :=
  if it = -1 then ⟨s.clock + f.m3, s.place, s.rows ++ [⟨it, s.clock, s.clock + f.m3⟩], s.fal⟩
  else if it ∈ shot then s
  else match f.scenes[it.toNat]? with
    | none => s
    | some sc => if ∃ a ∈ sc.cast, (a : Int) = ill then ⟨s.clock, s.place, s.rows, s.fal ++ [it]⟩
      else match s.place with
        | none => ⟨s.clock + sc.len, some sc.place, s.rows ++ [⟨it, s.clock, s.clock + sc.len⟩], s.fal⟩
        | some p => if p = sc.place then ⟨s.clock + sc.len, some sc.place, s.rows ++ [⟨it, s.clock, s.clock + sc.len⟩], s.fal⟩
          else ⟨s.clock + f.m1 + sc.len, some sc.place, s.rows ++ [⟨it, s.clock + f.m1, s.clock + f.m1 + sc.len⟩], s.fal⟩
def itemsOf (s : Sheet) (w : Str) : List Int := if w = "rain" then s.rain else s.dry
def hoursF (f : Film) (s : Sheet) (shot : List Int) (w : Str) (ill late : Int) : HS := (itemsOf s w).foldl (stepH f shot ill) ⟨s.call + late, none, [], []⟩
theorem row_0 {r : Row} {S : List O} {P : D × List O → Prop} : kO (ixS S r.d (.int 0)) S P = P (.int r.it, S) := by with_unfolding_all rfl
theorem row_1 {r : Row} {S : List O} {P : D × List O → Prop} : kO (ixS S r.d (.int 1)) S P = P (.int r.b, S) := by with_unfolding_all rfl
theorem row_2 {r : Row} {S : List O} {P : D × List O → Prop} : kO (ixS S r.d (.int 2)) S P = P (.int r.e, S) := by with_unfolding_all rfl
theorem scn_1 {s : Scene} {S : List O} {P : D × List O → Prop} : kO (ixS S s.d (.int 1)) S P = P (.int (s.place : Int), S) := by with_unfolding_all rfl
theorem scn_3 {s : Scene} {S : List O} {P : D × List O → Prop} : kO (ixS S s.d (.int 3)) S P = P (.int s.len, S) := by with_unfolding_all rfl
theorem scn_5 {s : Scene} {S : List O} {P : D × List O → Prop} : kO (ixS S s.d (.int 5)) S P = P (.tup (s.cast.map nD), S) := by with_unfolding_all rfl
theorem flm_0 {f : Film} {S : List O} {P : D × List O → Prop} : kO (ixS S f.d (.int 0)) S P = P (.tup (f.places.map sbD), S) := by with_unfolding_all rfl
theorem flm_1 {f : Film} {S : List O} {P : D × List O → Prop} : kO (ixS S f.d (.int 1)) S P = P (.tup (f.actors.map sbD), S) := by with_unfolding_all rfl
theorem flm_2 {f : Film} {S : List O} {P : D × List O → Prop} : kO (ixS S f.d (.int 2)) S P = P (.tup (f.scenes.map Scene.d), S) := by with_unfolding_all rfl
theorem flm_4 {f : Film} {S : List O} {P : D × List O → Prop} : kO (ixS S f.d (.int 4)) S P = P (.tup [.int f.m1, .int f.m2, .int f.m3], S) := by with_unfolding_all rfl
theorem sht_0 {s : Sheet} {S : List O} {P : D × List O → Prop} : kO (ixS S s.d (.int 0)) S P = P (.int s.call, S) := by with_unfolding_all rfl
theorem sht_1 {s : Sheet} {S : List O} {P : D × List O → Prop} : kO (ixS S s.d (.int 1)) S P = P (.tup (s.dry.map D.int), S) := by with_unfolding_all rfl
theorem sht_2 {s : Sheet} {S : List O} {P : D × List O → Prop} : kO (ixS S s.d (.int 2)) S P = P (.tup (s.rain.map D.int), S) := by with_unfolding_all rfl
theorem cal_0 {c : Cal} {S : List O} {P : D × List O → Prop} : kO (ixS S c.d (.int 0)) S P = P (.tup (c.lights.map prD), S) := by with_unfolding_all rfl
theorem o_inN {i : Int} {ns : List Nat} {S : List O} {P : D × List O → Prop} : kO (D.ino (.int i) (.tup (ns.map nD))) S P = P (.bl (decide (∃ a ∈ ns, (a : Int) = i)), S) := by
  rw [ino_nD]
  rfl
theorem sc_at {f : Film} {k : Nat} {S : List O} {P : D × List O → Prop} (h : k < f.scenes.length) : kO (atI (f.scenes.map Scene.d) (k : Int)) S P = P (f.scenes[k].d, S) := kO_eq (atI_nat (by rw [List.getElem?_map, List.getElem?_eq_getElem h]; rfl))
local macro_rules | `(tactic| walk_at "hv") => `(tactic| simp (decide := true) only [row_0, row_1, row_2, scn_1, scn_3, scn_5, flm_0, flm_1, flm_2, flm_4, sht_0, sht_1, sht_2, cal_0, o_inN, kO_some, w_C, w_Var, w_VarW, kVar_val, kVarW_val, kVarW_lst, kVarW_dic, w_Flat, kFlat_eq, w_Bin, kBin_eq, kBin2_eq, w_Un, kUn_eq, w_Tup, kTup_eq, w_Lst, kLst_eq, w_Nil, w_Cons, kCons_eq, kCons2_eq, w_And, kAnd_eq, w_Or, kOr_eq, w_Tst, kTst_eq, w_Tru, kTru_bl, kTru_int, kTru_tup, kTru_lst, kTru_non, w_NotT, kNotT_eq, w_AndT, kAndT_eq, w_OrT, kOrT_eq, w_IsN, kIsN_eq, w_If, kIf_eq, w_Chain, kCh1_eq, kCh2_eq, kCh3_eq, w_Bi, kBi_eq, on1_eq, on2_eq, w_Meth, kMeth_eq, kMeth2_eq, w_Ix, kIx_eq, kIx2_eq, w_Get2, kGet1_eq, kGet2_eq, kGet3_eq, w_NoP, w_Part, kPart_eq, w_Sl, kSl1_eq, kSl2_eq, kSl3_eq, w_Call, kCall_eq, w_CallP, kCallP_eq, w_OfO, kOfO_eq, toD_lst, toD_dic, w_LstO, kLstO_eq, w_DicO, w_Rep, kRep_eq, kRep2_eq, w_Pn, w_Pc, kPc1_eq, kPc2_eq, kPc3_eq, w_Disp, kDisp_eq, kDisp2_eq, keyed_nil, keyed_S, keyed_I, w_Lc, kLc_eq, kLc2_eq, w_Il, kIl_eq, w_It, kIt_eq, w_Ir1, kIr1_eq, w_Ir2, kIr2_eq, w_Ie, kIe_eq, w_IeT, kIeT_eq, w_Yes, w_Seq, kSeq_nx, kSeq_bk, kSeq_ct, kSeq_rt, w_Nx, w_Bk, w_Ct, w_RetN, w_Ret, kRet_eq, w_Drop, kDrop_eq, w_IfS, kIfS_eq, w_Frz, w_Set, kSet_eq, w_SetO, kSetO_eq, w_Aft, kAft_eq, w_Asg, kAsg_eq, kAsg2_eq, w_For, kFor_eq, w_While, w_Put, kPut_eq, kPut2_own, kPut2_ref, kPutR_eq, w_Own, w_OwnE, w_OwnS, kOwn_eq, kOwnE_eq, kOwnS_eq, w_Fn, kFn_nx, kFn_rt, kLoop_nx, kLoop_ct, kLoop_bk, kLoop_rt, w_Ir3, kIr3_eq, w_Lrg, kLrg_eq, w_AppPop, kApp0_eq, w_Never, w_Irv, kIrv_eq, w_Star, kStar_tup, kStar_lst, kStar2_eq, o_addI, o_addS, o_addT, o_addL, o_sub, o_fdiv, o_mod, o_pow, o_shl, o_shr, o_and, o_or, o_mul, o_lt, o_le, o_gt, o_ge, lt_eq, le_eq, gt_eq, ge_eq, o_neg, o_nob, o_eqI, o_eqS, o_neI, o_neS, eqo_int, ixS_tup, ixS_lst, ixS_dic, ixS_ref0, ixS_ref1, ixo_tup, ixo_lst, ixo_dicI, ixo_dicS, atI_0, atI_1, atI_2, atI_3, atI_4, atI_5, atI_6, atI_7, atI_8, pr_0, pr_1, pr_2, pr_3, po_dicI, po_dicS, app_eq, ext_eq, isL_eq, isD_eq, DisL_eq, o_lenL, o_lenT, o_lenD, o_lenS, o_toI, o_abs, o_strI, o_max2, o_min2, o_toT, o_toTT, o_toL, o_toLT, o_sloT, o_sloL, o_sloS, g_Nm, g_Tu, g_Cons, g_Nil, own_val, own_no, merge_new, dGet_cons, dGet_nil, dGet2_S, dGet2_I, o_sset, o_ssetI, o_toIb, fl_int, fl_bl, fl_str, fl_non, isNon_non, isNon_int, isNon_tup, o_inI, o_ninI, o_ninE, o_mkRng, isNon_bl, o_eqB, List.getElem?_cons_zero, List.getElem?_cons_succ, List.set_cons_zero, List.set_cons_succ, List.length_cons, List.length_nil, List.map_cons, List.map_nil, List.cons_append, List.nil_append, List.replicate_succ, List.replicate_zero, if_true, if_false, decide_eq_true_eq, decide_eq_false_iff_not, Bool.false_eq_true, and_true, true_and, Bool.not_true, Bool.not_false, reduceIte, Option.bind_some, Option.map_some, Option.getD_some, Option.getD_none, Sum.inr.injEq, Sum.inl.injEq, Nat.reduceAdd, Nat.reduceSub, Nat.reduceLeDiff, Nat.reduceLT, Nat.reduceEqDiff, reduceCtorEq, Int.reduceLT, Int.reduceLE, Int.reduceEq, Int.reduceAdd, Int.reduceSub, Int.reduceMul, Int.reduceNeg, Int.cast_ofNat_Int, Int.natCast_zero, Int.reduceToNat, Int.reducePow, or_true, true_or, String.reduceEq, decide_true, decide_false, Bool.not_eq_true', Bool.not_eq_false', List.all_cons, List.all_nil, Bool.and_true, Bool.true_and, Bool.true_or, Bool.or_true, wipeS, startS])
theorem hours_eq {f : Film} {s : Sheet} {shot : List Int} {w : Str} {ill late : Int} {S : List O} (hs : SheetOk f.scenes.length s) :
    F__law_hours [f.d, s.d, .tup (shot.map D.int), .tup [.str w, .int ill, .int late]] S = .ok (.tup [.tup ((hoursF f s shot w ill late).rows.map Row.d), .tup ((sortI (hoursF f s shot w ill late).fal).map D.int)], S) := by
  refine wp_is ?_
  unfold F__law_hours m__law_hours
  (try walk_at "hv")
  obtain ⟨items, eit, hit⟩ : ∃ items, itemsOf s w = items ∧ ListOk f.scenes.length items := ⟨_, rfl, by
    unfold itemsOf
    split
    · exact hs.rain
    · exact hs.dry⟩
  have ek : ∀ (P : D × List O → Prop), kO (ixS S s.d (.int (1 + if w = "rain" then 1 else 0))) S P = P (.tup (items.map D.int), S) := by
    intro P
    rw [← eit]
    unfold itemsOf
    by_cases c : w = "rain"
    · rw [if_pos c, if_pos c]; exact sht_2
    · rw [if_neg c, if_neg c]; exact sht_1
  rw [ek]
  (try walk_at "hv")
  have hfin : hoursF f s shot w ill late = items.foldl (stepH f shot ill) ⟨s.call + late, none, [], []⟩ := by unfold hoursF; rw [eit]
  rw [hfin]
  have hlen := hit.2.2
  refine Wp.loop (fun i sg S' => ∃ (st : HS) (x8 x9 : Sl), (items.drop i).foldl (stepH f shot ill) st = items.foldl (stepH f shot ill) ⟨s.call + late, none, [], []⟩ ∧ st.rows.length ≤ i ∧ st.fal.length ≤ i ∧ isOwn (some x8) = false ∧ isOwn (some x9) = false ∧ S' = S ∧
    sg = [.val f.d, .val s.d, .val (.tup (shot.map D.int)), .val (.tup [.str w, .int ill, .int late]), .val (.int st.clock), .val (placeD st.place), .own (.lst (st.rows.map Row.d)), .own (.lst (st.fal.map D.int)), x8, x9]) ⟨⟨s.call + late, none, [], []⟩, .no, .no, rfl, Nat.le_refl _, Nat.le_refl _, rfl, rfl, rfl, rfl⟩ ?_ ?_
  · intro i d sg S' hd hI
    obtain ⟨st, x8, x9, hfold, hr, hf, h8, h9, e2, e1⟩ := hI
    subst e1 e2
    rw [List.getElem?_map] at hd
    cases hii : items[i]? with
    | none => rw [hii] at hd; cases hd
    | some it =>
      rw [hii] at hd
      cases hd
      have hil : i < items.length := (List.getElem?_eq_some_iff.mp hii).1
      have hiit : items[i] = it := (List.getElem?_eq_some_iff.mp hii).2
      rw [List.drop_eq_getElem_cons hil, List.foldl_cons, hiit] at hfold
      have hok := hit.1 it (List.mem_of_getElem? hii)
      refine ⟨_, gNm_ok h8, ?_⟩
      unfold m__law_hours_b1
      (try walk_at "hv")
      by_cases c1 : it = -1
      · subst c1
        simp only [if_true]
        (try walk_at "hv")
        rw [List.length_map]
        have es : stepH f shot ill st (-1) = ⟨st.clock + f.m3, st.place, st.rows ++ [⟨-1, st.clock, st.clock + f.m3⟩], st.fal⟩ := by unfold stepH; rw [if_pos rfl]
        rw [es] at hfold
        exact ⟨by omega, _, .val (.int (-1)), x9, hfold, by simp; omega, by simp; omega, rfl, h9, by simp [Row.d]⟩
      · rw [if_neg c1]
        by_cases c2 : it ∈ shot
        · have es : stepH f shot ill st it = st := by unfold stepH; rw [if_neg c1, if_pos c2]
          rw [es] at hfold
          rw [if_neg (by simpa using c2)]
          exact ⟨_, .val (.int it), x9, hfold, by omega, by omega, rfl, h9, rfl⟩
        · rw [if_pos (by simpa using c2)]
          rcases hok with z | ⟨i0, i1⟩
          · exact absurd z c1
          obtain ⟨k, rfl⟩ : ∃ k : Nat, it = (k : Int) := ⟨it.toNat, by omega⟩
          have hk : k < f.scenes.length := by omega
          (try walk_at "hv")
          rw [sc_at hk]
          (try walk_at "hv")
          have esc : f.scenes[((k : Int)).toNat]? = some f.scenes[k] := by rw [Int.toNat_natCast]; exact List.getElem?_eq_getElem hk
          by_cases c3 : ∃ a ∈ f.scenes[k].cast, (a : Int) = ill
          · have es : stepH f shot ill st (k : Int) = ⟨st.clock, st.place, st.rows, st.fal ++ [(k : Int)]⟩ := by
              unfold stepH
              rw [if_neg c1, if_neg c2]
              simp only [esc, if_pos c3]
            rw [es] at hfold
            rw [if_pos c3]
            (try walk_at "hv")
            rw [List.length_map]
            exact ⟨by omega, _, .val (.int (k : Int)), .val f.scenes[k].d, hfold, by simp; omega, by simp; omega, rfl, rfl, by simp⟩
          · rw [if_neg c3]
            (try walk_at "hv")
            cases hpl : st.place with
            | none =>
              simp only [placeD]
              (try walk_at "hv")
              rw [List.length_map]
              have es : stepH f shot ill st (k : Int) = ⟨st.clock + f.scenes[k].len, some f.scenes[k].place, st.rows ++ [⟨(k : Int), st.clock, st.clock + f.scenes[k].len⟩], st.fal⟩ := by
                unfold stepH
                rw [if_neg c1, if_neg c2]
                simp only [esc, if_neg c3, hpl]
              rw [es] at hfold
              exact ⟨by omega, _, .val (.int (k : Int)), .val f.scenes[k].d, hfold, by simp; omega, by simp; omega, rfl, rfl, by simp [Row.d, placeD]⟩
            | some p =>
              simp only [placeD]
              (try walk_at "hv")
              rw [List.length_map]
              by_cases c4 : p = f.scenes[k].place
              · have c5 : (p : Int) = (f.scenes[k].place : Int) := by omega
                have es : stepH f shot ill st (k : Int) = ⟨st.clock + f.scenes[k].len, some f.scenes[k].place, st.rows ++ [⟨(k : Int), st.clock, st.clock + f.scenes[k].len⟩], st.fal⟩ := by
                  unfold stepH
                  rw [if_neg c1, if_neg c2]
                  simp only [esc, if_neg c3, hpl, if_pos c4]
                rw [es] at hfold
                rw [if_neg (by simpa using c5)]
                exact ⟨by omega, _, .val (.int (k : Int)), .val f.scenes[k].d, hfold, by simp; omega, by simp; omega, rfl, rfl, by simp [Row.d, placeD]⟩
              · have c5 : ¬ (p : Int) = (f.scenes[k].place : Int) := by omega
                have es : stepH f shot ill st (k : Int) = ⟨st.clock + f.m1 + f.scenes[k].len, some f.scenes[k].place, st.rows ++ [⟨(k : Int), st.clock + f.m1, st.clock + f.m1 + f.scenes[k].len⟩], st.fal⟩ := by
                  unfold stepH
                  rw [if_neg c1, if_neg c2]
                  simp only [esc, if_neg c3, hpl, if_neg c4]
                rw [es] at hfold
                rw [if_pos (by simpa using c5)]
                exact ⟨by omega, _, .val (.int (k : Int)), .val f.scenes[k].d, hfold, by simp; omega, by simp; omega, rfl, rfl, by simp [Row.d, placeD]⟩
  · intro sg S' hI
    obtain ⟨st, x8, x9, hfold, hr, hf, h8, h9, e2, e1⟩ := hI
    subst e1 e2
    rw [List.length_map, List.drop_length] at hfold
    simp only [List.foldl_nil] at hfold
    rw [← hfold]
    (try walk_at "hv")
    simp only [frz, List.getElem?_cons_succ, List.getElem?_cons_zero, List.set_cons_succ, List.set_cons_zero, toD_lst]
    (try walk_at "hv")
    rw [o_intsL (ints_map _)]
    (try walk_at "hv")
/-- what the rows of hours are -/
structure RowsOk (f : Film) (lo : Int) (rows : List Row) : Prop where
  sq : Seq lo rows
  it : ∀ r ∈ rows, ItemOk f.scenes.length r.it
  up : ∀ r ∈ rows, r.e ≤ lo + 3900
  len : rows.length ≤ 13
structure HSOk (f : Film) (lo : Int) (s : HS) : Prop where
  sq : Seq lo s.rows
  it : ∀ r ∈ s.rows, ItemOk f.scenes.length r.it
  en : ∀ r ∈ s.rows, r.e ≤ s.clock
  lw : lo ≤ s.clock
  up : s.clock ≤ lo + 300 * (s.rows.length : Int)
theorem HSOk.add {f : Film} {lo : Int} {s : HS} (h : HSOk f lo s) {it b e : Int} {pl : Option Nat} {fal : List Int} (hb : s.clock ≤ b) (he : b < e) (hu : e ≤ s.clock + 300) (hi : ItemOk f.scenes.length it) : HSOk f lo ⟨e, pl, s.rows ++ [⟨it, b, e⟩], fal⟩ :=
  ⟨Seq.snoc he h.sq (fun r hr => Int.le_trans (h.en r hr) hb) (Int.le_trans h.lw hb), fun r hr => by
    rcases List.mem_append.mp hr with hr | hr
    · exact h.it r hr
    · rw [List.mem_singleton.mp hr]; exact hi, fun r hr => by
    rcases List.mem_append.mp hr with hr | hr
    · have := h.en r hr
      show r.e ≤ e
      omega
    · rw [List.mem_singleton.mp hr]; exact Int.le_refl _, by
    have := h.lw
    show lo ≤ e
    omega, by
    have := h.up
    show e ≤ lo + 300 * (((s.rows ++ [(⟨it, b, e⟩ : Row)]).length : Nat) : Int)
    rw [List.length_append, List.length_singleton]
    omega⟩
theorem step_ok {f : Film} {most : Nat} (hf : FilmOk most f) {lo : Int} {shot : List Int} {ill it : Int} {s : HS} (h : HSOk f lo s) (hi : ItemOk f.scenes.length it) : HSOk f lo (stepH f shot ill s it) := by
  have m3 := hf.m3
  have m1 := hf.m1
  unfold stepH
  split
  · exact h.add (Int.le_refl _) (by omega) (by omega) hi
  · split
    · exact h
    · split
      · exact h
      · rename_i sc hsc
        have hlen : 5 ≤ sc.len ∧ sc.len ≤ 200 := by
          obtain ⟨t, ht, e⟩ := (hf.sc _ sc hsc).len
          omega
        split
        · exact ⟨h.sq, h.it, h.en, h.lw, h.up⟩
        · split
          · exact h.add (Int.le_refl _) (by omega) (by omega) hi
          · split
            · exact h.add (Int.le_refl _) (by omega) (by omega) hi
            · exact h.add (by omega) (by omega) (by omega) hi
theorem fold_ok {f : Film} {most : Nat} (hf : FilmOk most f) {lo : Int} {shot : List Int} {ill : Int} : ∀ {l : List Int} {s : HS}, HSOk f lo s → (∀ i ∈ l, ItemOk f.scenes.length i) → HSOk f lo (l.foldl (stepH f shot ill) s)
  | [], s, h, _ => h
  | i :: l, s, h, hl => by
    rw [List.foldl_cons]
    exact fold_ok hf (step_ok hf h (hl i List.mem_cons_self)) fun j hj => hl j (List.mem_cons_of_mem _ hj)
theorem fold_len {f : Film} {shot : List Int} {ill : Int} : ∀ {l : List Int} {s : HS}, (l.foldl (stepH f shot ill) s).rows.length ≤ s.rows.length + l.length
  | [], s => Nat.le_refl _
  | i :: l, s => by
    rw [List.foldl_cons]
    refine Nat.le_trans fold_len ?_
    have : (stepH f shot ill s i).rows.length ≤ s.rows.length + 1 := by
      unfold stepH
      (repeat' split) <;> simp
    rw [List.length_cons]
    omega
theorem hours_ok {f : Film} {most : Nat} (hf : FilmOk most f) {s : Sheet} (hs : SheetOk f.scenes.length s) {shot : List Int} {w : Str} {ill late : Int} : RowsOk f (s.call + late) (hoursF f s shot w ill late).rows := by
  have hit : ListOk f.scenes.length (itemsOf s w) := by
    unfold itemsOf
    split
    · exact hs.rain
    · exact hs.dry
  have h := fold_ok (lo := s.call + late) hf (shot := shot) (ill := ill) (s := ⟨s.call + late, none, [], []⟩) ⟨trivial, fun r hr => (by cases hr), fun r hr => (by cases hr), Int.le_refl _, by show s.call + late ≤ s.call + late + 300 * ((0 : Nat) : Int); omega⟩ hit.1
  have hl : (hoursF f s shot w ill late).rows.length ≤ 13 := by
    refine Nat.le_trans fold_len ?_
    have := hit.2.2
    simpa using this
  refine ⟨h.sq, h.it, fun r hr => ?_, hl⟩
  have h1 := h.en r hr
  have h2 := h.up
  have h3 : (((itemsOf s w).foldl (stepH f shot ill) ⟨s.call + late, none, [], []⟩).rows.length : Int) ≤ 13 := by exact_mod_cast hl
  omega

end Law

namespace Law
open PySem PySem.Spec PyProof.Rows L2 D2
local macro_rules | `(tactic| walk_at "ev") => `(tactic| simp (decide := true) only [kO_some, w_C, w_Var, w_VarW, kVar_val, kVarW_val, kVarW_lst, kVarW_dic, w_Flat, kFlat_eq, w_Bin, kBin_eq, kBin2_eq, w_Un, kUn_eq, w_Tup, kTup_eq, w_Lst, kLst_eq, w_Nil, w_Cons, kCons_eq, kCons2_eq, w_And, kAnd_eq, w_Or, kOr_eq, w_Tst, kTst_eq, w_Tru, kTru_bl, kTru_int, kTru_tup, kTru_lst, kTru_non, w_NotT, kNotT_eq, w_AndT, kAndT_eq, w_OrT, kOrT_eq, w_IsN, kIsN_eq, w_If, kIf_eq, w_Chain, kCh1_eq, kCh2_eq, kCh3_eq, w_Bi, kBi_eq, on1_eq, on2_eq, w_Meth, kMeth_eq, kMeth2_eq, w_Ix, kIx_eq, kIx2_eq, w_Get2, kGet1_eq, kGet2_eq, kGet3_eq, w_NoP, w_Part, kPart_eq, w_Sl, kSl1_eq, kSl2_eq, kSl3_eq, w_Call, kCall_eq, w_CallP, kCallP_eq, w_OfO, kOfO_eq, toD_lst, toD_dic, w_LstO, kLstO_eq, w_DicO, w_Rep, kRep_eq, kRep2_eq, w_Pn, w_Pc, kPc1_eq, kPc2_eq, kPc3_eq, w_Disp, kDisp_eq, kDisp2_eq, keyed_nil, keyed_S, keyed_I, w_Lc, kLc_eq, kLc2_eq, w_Il, kIl_eq, w_It, kIt_eq, w_Ir1, kIr1_eq, w_Ir2, kIr2_eq, w_Ie, kIe_eq, w_IeT, kIeT_eq, w_Yes, w_Seq, kSeq_nx, kSeq_bk, kSeq_ct, kSeq_rt, w_Nx, w_Bk, w_Ct, w_RetN, w_Ret, kRet_eq, w_Drop, kDrop_eq, w_IfS, kIfS_eq, w_Frz, w_Set, kSet_eq, w_SetO, kSetO_eq, w_Aft, kAft_eq, w_Asg, kAsg_eq, kAsg2_eq, w_For, kFor_eq, w_While, w_Put, kPut_eq, kPut2_own, kPut2_ref, kPutR_eq, w_Own, w_OwnE, w_OwnS, kOwn_eq, kOwnE_eq, kOwnS_eq, w_Fn, kFn_nx, kFn_rt, kLoop_nx, kLoop_ct, kLoop_bk, kLoop_rt, w_Ir3, kIr3_eq, w_Lrg, kLrg_eq, w_AppPop, kApp0_eq, w_Never, w_Irv, kIrv_eq, w_Star, kStar_tup, kStar_lst, kStar2_eq, o_addI, o_addS, o_addT, o_addL, o_sub, o_fdiv, o_mod, o_pow, o_shl, o_shr, o_and, o_or, o_mul, o_lt, o_le, o_gt, o_ge, lt_eq, le_eq, gt_eq, ge_eq, o_neg, o_nob, o_eqI, o_eqS, o_neI, o_neS, eqo_int, ixS_tup, ixS_lst, ixS_dic, ixS_ref0, ixS_ref1, ixo_tup, ixo_lst, ixo_dicI, ixo_dicS, atI_0, atI_1, atI_2, atI_3, atI_4, atI_5, atI_6, atI_7, atI_8, pr_0, pr_1, pr_2, pr_3, po_dicI, po_dicS, app_eq, ext_eq, isL_eq, isD_eq, DisL_eq, o_lenL, o_lenT, o_lenD, o_lenS, o_toI, o_abs, o_strI, o_max2, o_min2, o_toT, o_toTT, o_toL, o_toLT, o_sloT, o_sloL, o_sloS, g_Nm, g_Tu, g_Cons, g_Nil, own_val, own_no, merge_new, dGet_cons, dGet_nil, dGet2_S, dGet2_I, o_sset, o_ssetI, o_toIb, fl_int, fl_bl, fl_str, fl_non, isNon_non, isNon_int, isNon_tup, o_inI, o_ninI, o_ninE, o_mkRng, isNon_bl, o_eqB, List.getElem?_cons_zero, List.getElem?_cons_succ, List.set_cons_zero, List.set_cons_succ, List.length_cons, List.length_nil, List.map_cons, List.map_nil, List.cons_append, List.nil_append, List.replicate_succ, List.replicate_zero, if_true, if_false, decide_eq_true_eq, decide_eq_false_iff_not, Bool.false_eq_true, and_true, true_and, Bool.not_true, Bool.not_false, reduceIte, Option.bind_some, Option.map_some, Option.getD_some, Option.getD_none, Sum.inr.injEq, Sum.inl.injEq, Nat.reduceAdd, Nat.reduceSub, Nat.reduceLeDiff, Nat.reduceLT, Nat.reduceEqDiff, reduceCtorEq, Int.reduceLT, Int.reduceLE, Int.reduceEq, Int.reduceAdd, Int.reduceSub, Int.reduceMul, Int.reduceNeg, Int.cast_ofNat_Int, Int.natCast_zero, Int.reduceToNat, Int.reducePow, or_true, true_or, String.reduceEq, decide_true, decide_false, Bool.not_eq_true', Bool.not_eq_false', List.all_cons, List.all_nil, Bool.and_true, Bool.true_and, Bool.true_or, Bool.or_true, wipeS, startS])

/-! ### numbers below n in a list -/
theorem nodup_len : ∀ {n : Nat} {l : List Nat}, l.Nodup → (∀ x ∈ l, x < n) → l.length ≤ n
  | 0, [], _, _ => Nat.le_refl _
  | 0, x :: l, _, h => absurd (h x List.mem_cons_self) (by omega)
  | n + 1, l, hn, h => by
    by_cases c : n ∈ l
    · have h1 : (l.erase n).length ≤ n := nodup_len (hn.erase n) fun x hx => by
        have := h x (List.mem_of_mem_erase hx)
        have h2 : x ≠ n := ((List.Nodup.mem_erase_iff hn).mp hx).1
        omega
      rw [List.length_erase_of_mem c] at h1
      omega
    · have h1 : l.length ≤ n := nodup_len hn fun x hx => by
        have := h x hx
        have h2 : x ≠ n := fun e => c (e ▸ hx)
        omega
      omega
theorem all_len : ∀ {n : Nat} {l : List Nat}, (∀ x, x < n → x ∈ l) → n ≤ l.length
  | 0, l, _ => Nat.zero_le _
  | n + 1, l, h => by
    have c : n ∈ l := h n (by omega)
    have h1 : n ≤ (l.erase n).length := all_len fun x hx => by
      have := h x (by omega)
      exact (List.mem_erase_of_ne (by omega)).mpr this
    rw [List.length_erase_of_mem c] at h1
    have := List.length_pos_of_mem c
    omega
theorem nodup_all {n : Nat} {l : List Nat} (hn : l.Nodup) (h : ∀ x ∈ l, x < n) (hl : n ≤ l.length) : ∀ x, x < n → x ∈ l := by
  intro x hx
  by_cases c : x ∈ l
  · exact c
  · have := nodup_len (n := n) (l := x :: l) (List.nodup_cons.mpr ⟨c, hn⟩) fun y hy => by
      rcases List.mem_cons.mp hy with rfl | hy
      · exact hx
      · exact h y hy
    rw [List.length_cons] at this
    omega
/-- the least one that is missing -/
theorem least_out {n : Nat} {l : List Nat} (hl : l.length < n) : ∃ m, m < n ∧ m ∉ l ∧ ∀ x, x < m → x ∈ l := by
  have : ∀ k, k ≤ n → (∀ x, x < k → x ∈ l) ∨ ∃ m, m < n ∧ m ∉ l ∧ ∀ x, x < m → x ∈ l := by
    intro k
    induction k with
    | zero => exact fun _ => .inl fun x hx => absurd hx (by omega)
    | succ k ih =>
      intro hk
      rcases ih (by omega) with h | h
      · by_cases c : k ∈ l
        · refine .inl fun x hx => ?_
          by_cases e : x = k
          · exact e ▸ c
          · exact h x (by omega)
        · exact .inr ⟨k, by omega, c, h⟩
      · exact .inr h
  rcases this n (Nat.le_refl _) with h | h
  · have := all_len h
    omega
  · exact h
/-! ### led to -/
inductive Led (os : List (Nat × Nat)) (s : Nat) : Nat → Prop where
  | one {x : Nat} : (s, x) ∈ os → Led os s x
  | more {y x : Nat} : Led os s y → (y, x) ∈ os → Led os s x
def closedF (os : List (Nat × Nat)) (l : List Nat) : Bool := os.all fun p => !(decide (p.2 ∈ l) && !decide (p.1 ∈ l))
theorem closedF_iff {os : List (Nat × Nat)} {l : List Nat} : closedF os l = true ↔ ∀ p ∈ os, p.2 ∈ l → p.1 ∈ l := by
  unfold closedF
  rw [List.all_eq_true]
  constructor
  · intro h p hp h2
    have := h p hp
    by_cases c : p.1 ∈ l
    · exact c
    · simp [h2, c] at this
  · intro h p hp
    by_cases c : p.2 ∈ l
    · simp [h p hp c]
    · simp [c]
def freeF (os : List (Nat × Nat)) (n : Nat) (l : List Nat) : List Nat := ((List.range n).filter fun s => !decide (s ∈ l)).filter fun s => closedF os (l ++ [s])
theorem mem_freeF {os : List (Nat × Nat)} {n : Nat} {l : List Nat} {s : Nat} : s ∈ freeF os n l ↔ s < n ∧ s ∉ l ∧ closedF os (l ++ [s]) = true := by
  unfold freeF
  rw [List.mem_filter, List.mem_filter, List.mem_range]
  simp
  constructor
  · rintro ⟨⟨a, b⟩, c⟩; exact ⟨a, b, c⟩
  · rintro ⟨a, b, c⟩; exact ⟨⟨a, b⟩, c⟩
theorem freeF_pre {os : List (Nat × Nat)} {n : Nat} {l : List Nat} {s x : Nat} (ho : ∀ p ∈ os, p.1 < p.2 ∧ p.2 < n) (h : s ∈ freeF os n l) (hx : (x, s) ∈ os) : x ∈ l := by
  obtain ⟨h1, h2, h3⟩ := mem_freeF.mp h
  have := closedF_iff.mp h3 (x, s) hx (by simp)
  rcases List.mem_append.mp this with h | h
  · exact h
  · have e : x = s := List.mem_singleton.mp h
    have := (ho _ hx).1
    simp only [] at this
    omega
/-- layers so far -/
structure LayOk (os : List (Nat × Nat)) (n : Nat) (told : List (List Nat)) : Prop where
  nd : told.flatten.Nodup
  lt : ∀ x ∈ told.flatten, x < n
  cl : closedF os told.flatten = true
  pre : ∀ A L B, told = A ++ L :: B → ∀ s ∈ L, ∀ x, (x, s) ∈ os → x ∈ A.flatten
theorem LayOk.nil {os : List (Nat × Nat)} {n : Nat} : LayOk os n [] := ⟨List.nodup_nil, (fun x hx => by cases hx), (closedF_iff.mpr fun p _ h => by cases h), (fun A L B e => by cases A <;> cases e)⟩
theorem LayOk.add {os : List (Nat × Nat)} {n : Nat} {told : List (List Nat)} (ho : ∀ p ∈ os, p.1 < p.2 ∧ p.2 < n) (h : LayOk os n told) : LayOk os n (told ++ [freeF os n told.flatten]) := by
  have ef : (told ++ [freeF os n told.flatten]).flatten = told.flatten ++ freeF os n told.flatten := by simp
  refine ⟨?_, ?_, ?_, ?_⟩
  · rw [ef, List.nodup_append]
    refine ⟨h.nd, ?_, ?_⟩
    · unfold freeF
      exact (List.nodup_range.filter _).filter _
    · intro a ha b hb e
      subst e
      exact (mem_freeF.mp hb).2.1 ha
  · intro x hx
    rw [ef] at hx
    rcases List.mem_append.mp hx with hx | hx
    · exact h.lt x hx
    · exact (mem_freeF.mp hx).1
  · rw [ef, closedF_iff]
    intro p hp h2
    rcases List.mem_append.mp h2 with h2 | h2
    · exact List.mem_append_left _ (closedF_iff.mp h.cl p hp h2)
    · exact List.mem_append_left _ (freeF_pre ho h2 (x := p.1) hp)
  · intro A L B e s hs x hx
    rcases List.append_eq_append_iff.mp e.symm with ⟨C, e1, e2⟩ | ⟨C, e1, e2⟩
    · cases C with
      | nil =>
        rw [List.nil_append] at e2
        cases e2
        rw [List.append_nil] at e1
        rw [← e1]
        exact freeF_pre ho hs hx
      | cons c C =>
        cases e2
        exact h.pre A L C e1 s hs x hx
    · cases C with
      | nil =>
        rw [List.nil_append] at e2
        cases e2
        rw [List.append_nil] at e1
        rw [e1]
        exact freeF_pre ho hs hx
      | cons c C =>
        have := congrArg List.length e2
        simp at this
theorem freeF_more {os : List (Nat × Nat)} {n : Nat} {l : List Nat} (ho : ∀ p ∈ os, p.1 < p.2 ∧ p.2 < n) (hc : closedF os l = true) (hl : l.length < n) : 0 < (freeF os n l).length := by
  obtain ⟨m, h1, h2, h3⟩ := least_out hl
  refine List.length_pos_of_mem (a := m) (mem_freeF.mpr ⟨h1, h2, closedF_iff.mpr fun p hp hq => ?_⟩)
  rcases List.mem_append.mp hq with hq | hq
  · exact List.mem_append_left _ (closedF_iff.mp hc p hp hq)
  · have e : p.2 = m := List.mem_singleton.mp hq
    have := (ho p hp).1
    exact List.mem_append_left _ (h3 _ (by omega))
/-! ### the greatest one -/
def bigN (l : List Nat) : Nat := l.foldr max 0
theorem bigN_le {l : List Nat} {m : Nat} : bigN l ≤ m ↔ ∀ x ∈ l, x ≤ m := by
  induction l with
  | nil => simp [bigN]
  | cons a l ih =>
    have e : bigN (a :: l) = max a (bigN l) := rfl
    rw [e, Nat.max_le, ih]
    simp
theorem le_bigN {l : List Nat} {x : Nat} (h : x ∈ l) : x ≤ bigN l := bigN_le.mp (Nat.le_refl _) x h
theorem bigN_mem {l : List Nat} (h : l ≠ []) : bigN l ∈ l := by
  induction l with
  | nil => exact absurd rfl h
  | cons a l ih =>
    have e : bigN (a :: l) = max a (bigN l) := rfl
    rw [e]
    by_cases c : bigN l ≤ a
    · rw [Nat.max_eq_left c]; exact List.mem_cons_self
    · rw [Nat.max_eq_right (by omega)]
      cases l with
      | nil => exact absurd (Nat.zero_le _) c
      | cons b l => exact List.mem_cons_of_mem _ (ih (by simp))
theorem maxI_bigN {l : List Nat} (h : l ≠ []) : maxI (l.map fun (k : Nat) => (k : Int)) = some ((bigN l : Nat) : Int) := by
  cases l with
  | nil => exact absurd rfl h
  | cons a l =>
    have hm := bigN_mem h
    show some ((l.map fun (k : Nat) => (k : Int)).foldl max (a : Int)) = _
    rw [foldl_max _ _ ((bigN (a :: l) : Nat) : Int)]
    · exact List.mem_map.mpr ⟨_, hm, rfl⟩
    · intro y hy
      obtain ⟨z, hz, rfl⟩ := List.mem_map.mp (show y ∈ (a :: l).map fun (k : Nat) => (k : Int) from hy)
      have := le_bigN hz
      omega
/-! ### first days -/
/-- the days of a scene, ascending, below many -/
def DaysOk (many : Nat) (l : List Nat) : Prop := l.Pairwise (· < ·) ∧ ∀ x ∈ l, x < many
def firstF (many : Nat) (l : List Nat) (m : Nat) : Nat := (l.filter fun x => decide (m ≤ x)).headD many
theorem firstF_cons {many : Nat} {a : Nat} {l : List Nat} {m : Nat} : firstF many (a :: l) m = if m ≤ a then a else firstF many l m := by
  unfold firstF
  rw [List.filter_cons]
  by_cases c : m ≤ a <;> simp [c]
theorem firstF_nil {many m : Nat} : firstF many [] m = many := rfl
theorem firstF_le {many : Nat} : ∀ {l : List Nat} {m : Nat}, DaysOk many l → firstF many l m ≤ many
  | [], m, _ => Nat.le_refl _
  | a :: l, m, h => by
    rw [firstF_cons]
    split
    · exact Nat.le_of_lt (h.2 a List.mem_cons_self)
    · exact firstF_le ⟨(List.pairwise_cons.mp h.1).2, fun x hx => h.2 x (List.mem_cons_of_mem _ hx)⟩
theorem firstF_ge {many : Nat} : ∀ {l : List Nat} {m : Nat}, m ≤ many → m ≤ firstF many l m
  | [], m, h => h
  | a :: l, m, h => by
    rw [firstF_cons]
    split
    · assumption
    · exact firstF_ge h
theorem DaysOk.tl {many a : Nat} {l : List Nat} (h : DaysOk many (a :: l)) : DaysOk many l := ⟨(List.pairwise_cons.mp h.1).2, fun x hx => h.2 x (List.mem_cons_of_mem _ hx)⟩
theorem firstF_hd {many : Nat} : ∀ {l : List Nat} {a m : Nat}, DaysOk many (a :: l) → a ≤ firstF many l m
  | [], a, m, h => Nat.le_of_lt (h.2 a List.mem_cons_self)
  | b :: l, a, m, h => by
    have hab : a < b := (List.pairwise_cons.mp h.1).1 b List.mem_cons_self
    rw [firstF_cons]
    split
    · omega
    · have := firstF_hd (m := m) h.tl
      omega
theorem firstF_mono {many : Nat} : ∀ {l : List Nat} {m k : Nat}, DaysOk many l → m ≤ k → firstF many l m ≤ firstF many l k
  | [], m, k, _, _ => Nat.le_refl _
  | a :: l, m, k, h, hk => by
    rw [firstF_cons, firstF_cons]
    by_cases c1 : m ≤ a
    · rw [if_pos c1]
      by_cases c2 : k ≤ a
      · rw [if_pos c2]; exact Nat.le_refl _
      · rw [if_neg c2]; exact firstF_hd h
    · rw [if_neg c1, if_neg (by omega)]
      exact firstF_mono h.tl hk
theorem firstF_idem {many : Nat} : ∀ {l : List Nat} {m : Nat}, DaysOk many l → firstF many l (firstF many l m) = firstF many l m
  | [], m, _ => rfl
  | a :: l, m, h => by
    have e := firstF_cons (many := many) (a := a) (l := l) (m := m)
    by_cases c1 : m ≤ a
    · rw [if_pos c1] at e
      rw [e, firstF_cons, if_pos (Nat.le_refl _)]
    · rw [if_neg c1] at e
      rw [e, firstF_cons]
      have h1 := firstF_hd (m := m) h
      have h2 := firstF_idem (m := m) h.tl
      by_cases c2 : firstF many l m ≤ a
      · have h3 : firstF many l m = a := by omega
        rw [h3, if_pos (Nat.le_refl _)]
      · rw [if_neg c2]
        exact h2
/-! ### the earliest days -/
def preds (os : List (Nat × Nat)) (s : Nat) : List Nat := (os.filter fun p => decide (p.2 = s)).map (·.1)
theorem mem_preds {os : List (Nat × Nat)} {s x : Nat} : x ∈ preds os s ↔ (x, s) ∈ os := by
  unfold preds
  rw [List.mem_map]
  constructor
  · rintro ⟨⟨a, b⟩, h, e⟩
    simp at h e
    obtain ⟨h1, h2⟩ := h
    subst e h2
    exact h1
  · intro h
    exact ⟨(x, s), by simp [h], rfl⟩
def Vn (many : Nat) (os : List (Nat × Nat)) (R : Nat → List Nat) : Nat → Nat → Nat
  | 0, _ => 0
  | t + 1, s => firstF many (R s) (bigN ((preds os s).map (Vn many os R t)))
def Vd (many : Nat) (os : List (Nat × Nat)) (R : Nat → List Nat) (s : Nat) : Nat := Vn many os R (s + 1) s
def Up (os : List (Nat × Nat)) : Prop := ∀ p ∈ os, p.1 < p.2
theorem Vn_stop {many : Nat} {os : List (Nat × Nat)} {R : Nat → List Nat} (ho : Up os) : ∀ s t, s < t → Vn many os R t s = Vd many os R s := by
  intro s
  induction s using Nat.strongRecOn with
  | ind s ih =>
    intro t ht
    obtain ⟨t, rfl⟩ : ∃ k, t = k + 1 := ⟨t - 1, by omega⟩
    have : (preds os s).map (Vn many os R t) = (preds os s).map (Vn many os R s) := by
      refine List.map_congr_left fun x hx => ?_
      have hlt : x < s := ho _ (mem_preds.mp hx)
      rw [ih x hlt t (by omega), ih x hlt s hlt]
    show firstF many (R s) _ = firstF many (R s) _
    rw [this]
theorem V_eq {many : Nat} {os : List (Nat × Nat)} {R : Nat → List Nat} (ho : Up os) (s : Nat) : Vd many os R s = firstF many (R s) (bigN ((preds os s).map (Vd many os R))) := by
  have : (preds os s).map (Vd many os R) = (preds os s).map (Vn many os R s) := by
    refine List.map_congr_left fun x hx => ?_
    rw [Vn_stop ho x s (ho _ (mem_preds.mp hx))]
  rw [this]
  rfl
section
variable {many : Nat} {os : List (Nat × Nat)} {R : Nat → List Nat}
theorem V_le (hR : ∀ s, DaysOk many (R s)) (s : Nat) : Vd many os R s ≤ many := firstF_le (hR s)
theorem V_up (ho : Up os) (hR : ∀ s, DaysOk many (R s)) {x s : Nat} (h : (x, s) ∈ os) : Vd many os R x ≤ Vd many os R s := by
  rw [V_eq ho s]
  refine Nat.le_trans (le_bigN (List.mem_map.mpr ⟨x, mem_preds.mpr h, rfl⟩)) (firstF_ge (bigN_le.mpr fun y hy => ?_))
  obtain ⟨z, _, rfl⟩ := List.mem_map.mp hy
  exact V_le hR z
/-- one turn of the law -/
def nextF (many : Nat) (os : List (Nat × Nat)) (R : Nat → List Nat) (d : Nat → Nat) (s : Nat) : Nat := firstF many (R s) (bigN ((preds os s).map d ++ [d s]))
theorem next_le (ho : Up os) (hR : ∀ s, DaysOk many (R s)) {d : Nat → Nat} (h : ∀ s, d s ≤ Vd many os R s) (s : Nat) : nextF many os R d s ≤ Vd many os R s := by
  have h1 : bigN ((preds os s).map d ++ [d s]) ≤ Vd many os R s := bigN_le.mpr fun y hy => by
    rcases List.mem_append.mp hy with hy | hy
    · obtain ⟨z, hz, rfl⟩ := List.mem_map.mp hy
      exact Nat.le_trans (h z) (V_up ho hR (mem_preds.mp hz))
    · rw [List.mem_singleton.mp hy]; exact h s
  have h2 := firstF_mono (hR s) h1
  have h3 : firstF many (R s) (Vd many os R s) = Vd many os R s := by
    rw [V_eq ho s]
    exact firstF_idem (hR s)
  unfold nextF
  omega
theorem next_ge (ho : Up os) (hR : ∀ s, DaysOk many (R s)) {d : Nat → Nat} {s : Nat} (h : ∀ x ∈ preds os s, Vd many os R x ≤ d x) : Vd many os R s ≤ nextF many os R d s := by
  rw [V_eq ho s]
  refine firstF_mono (hR s) (bigN_le.mpr fun y hy => ?_)
  obtain ⟨z, hz, rfl⟩ := List.mem_map.mp hy
  exact Nat.le_trans (h z hz) (le_bigN (List.mem_append_left _ (List.mem_map.mpr ⟨z, hz, rfl⟩)))
/-- a turn that changes nothing -/
theorem next_fix (ho : Up os) (hR : ∀ s, DaysOk many (R s)) {n : Nat} (hn : ∀ p ∈ os, p.2 < n) {d : Nat → Nat} (h : ∀ s, s < n → d s ≤ Vd many os R s) (hf : ∀ s, s < n → nextF many os R d s = d s) : ∀ s, s < n → d s = Vd many os R s := by
  intro s
  induction s using Nat.strongRecOn with
  | ind s ih =>
    intro hs
    have h1 := h s hs
    have h2 := next_ge ho hR (d := d) (s := s) fun x hx => by
      have : x < s := ho _ (mem_preds.mp hx)
      rw [ih x this (by omega)]
      exact Nat.le_refl _
    rw [hf s hs] at h2
    omega
/-- the bounds that the program takes: of all scenes that lead there -/
theorem V_led (ho : Up os) (hR : ∀ s, DaysOk many (R s)) {s x : Nat} (h : Led (os.map fun p => (p.2, p.1)) s x) : ∃ z, z ∈ preds os s ∧ Vd many os R x ≤ Vd many os R z := by
  induction h with
  | one h =>
    obtain ⟨⟨a, b⟩, hp, e⟩ := List.mem_map.mp h
    cases e
    exact ⟨a, mem_preds.mpr hp, Nat.le_refl _⟩
  | more _ h ih =>
    rename_i y x _
    obtain ⟨⟨a, b⟩, hp, e⟩ := List.mem_map.mp h
    cases e
    obtain ⟨z, hz, hle⟩ := ih
    exact ⟨z, hz, Nat.le_trans (V_up ho hR hp) hle⟩
theorem V_ahead (ho : Up os) (hR : ∀ s, DaysOk many (R s)) {s : Nat} {L : List Nat} (h1 : ∀ x, (x, s) ∈ os → x ∈ L) (h2 : ∀ x ∈ L, Led (os.map fun p => (p.2, p.1)) s x) :
    bigN (L.map (Vd many os R)) = bigN ((preds os s).map (Vd many os R)) := by
  refine Nat.le_antisymm (bigN_le.mpr fun y hy => ?_) (bigN_le.mpr fun y hy => ?_)
  · obtain ⟨x, hx, rfl⟩ := List.mem_map.mp hy
    obtain ⟨z, hz, hle⟩ := V_led ho hR (h2 x hx)
    exact Nat.le_trans hle (le_bigN (List.mem_map.mpr ⟨z, hz, rfl⟩))
  · obtain ⟨x, hx, rfl⟩ := List.mem_map.mp hy
    exact le_bigN (List.mem_map.mpr ⟨x, h1 x (mem_preds.mp hx), rfl⟩)
end

end Law

namespace Law
open PySem PySem.Spec PyProof.Rows L2 D2
local macro_rules | `(tactic| walk_at "ev") => `(tactic| simp (decide := true) only [kO_some, w_C, w_Var, w_VarW, kVar_val, kVarW_val, kVarW_lst, kVarW_dic, w_Flat, kFlat_eq, w_Bin, kBin_eq, kBin2_eq, w_Un, kUn_eq, w_Tup, kTup_eq, w_Lst, kLst_eq, w_Nil, w_Cons, kCons_eq, kCons2_eq, w_And, kAnd_eq, w_Or, kOr_eq, w_Tst, kTst_eq, w_Tru, kTru_bl, kTru_int, kTru_tup, kTru_lst, kTru_non, w_NotT, kNotT_eq, w_AndT, kAndT_eq, w_OrT, kOrT_eq, w_IsN, kIsN_eq, w_If, kIf_eq, w_Chain, kCh1_eq, kCh2_eq, kCh3_eq, w_Bi, kBi_eq, on1_eq, on2_eq, w_Meth, kMeth_eq, kMeth2_eq, w_Ix, kIx_eq, kIx2_eq, w_Get2, kGet1_eq, kGet2_eq, kGet3_eq, w_NoP, w_Part, kPart_eq, w_Sl, kSl1_eq, kSl2_eq, kSl3_eq, w_Call, kCall_eq, w_CallP, kCallP_eq, w_OfO, kOfO_eq, toD_lst, toD_dic, w_LstO, kLstO_eq, w_DicO, w_Rep, kRep_eq, kRep2_eq, w_Pn, w_Pc, kPc1_eq, kPc2_eq, kPc3_eq, w_Disp, kDisp_eq, kDisp2_eq, keyed_nil, keyed_S, keyed_I, w_Lc, kLc_eq, kLc2_eq, w_Il, kIl_eq, w_It, kIt_eq, w_Ir1, kIr1_eq, w_Ir2, kIr2_eq, w_Ie, kIe_eq, w_IeT, kIeT_eq, w_Yes, w_Seq, kSeq_nx, kSeq_bk, kSeq_ct, kSeq_rt, w_Nx, w_Bk, w_Ct, w_RetN, w_Ret, kRet_eq, w_Drop, kDrop_eq, w_IfS, kIfS_eq, w_Frz, w_Set, kSet_eq, w_SetO, kSetO_eq, w_Aft, kAft_eq, w_Asg, kAsg_eq, kAsg2_eq, w_For, kFor_eq, w_While, w_Put, kPut_eq, kPut2_own, kPut2_ref, kPutR_eq, w_Own, w_OwnE, w_OwnS, kOwn_eq, kOwnE_eq, kOwnS_eq, w_Fn, kFn_nx, kFn_rt, kLoop_nx, kLoop_ct, kLoop_bk, kLoop_rt, w_Ir3, kIr3_eq, w_Lrg, kLrg_eq, w_AppPop, kApp0_eq, w_Never, w_Irv, kIrv_eq, w_Star, kStar_tup, kStar_lst, kStar2_eq, o_addI, o_addS, o_addT, o_addL, o_sub, o_fdiv, o_mod, o_pow, o_shl, o_shr, o_and, o_or, o_mul, o_lt, o_le, o_gt, o_ge, lt_eq, le_eq, gt_eq, ge_eq, o_neg, o_nob, o_eqI, o_eqS, o_neI, o_neS, eqo_int, ixS_tup, ixS_lst, ixS_dic, ixS_ref0, ixS_ref1, ixo_tup, ixo_lst, ixo_dicI, ixo_dicS, atI_0, atI_1, atI_2, atI_3, atI_4, atI_5, atI_6, atI_7, atI_8, pr_0, pr_1, pr_2, pr_3, po_dicI, po_dicS, app_eq, ext_eq, isL_eq, isD_eq, DisL_eq, o_lenL, o_lenT, o_lenD, o_lenS, o_toI, o_abs, o_strI, o_max2, o_min2, o_toT, o_toTT, o_toL, o_toLT, o_sloT, o_sloL, o_sloS, g_Nm, g_Tu, g_Cons, g_Nil, own_val, own_no, merge_new, dGet_cons, dGet_nil, dGet2_S, dGet2_I, o_sset, o_ssetI, o_toIb, fl_int, fl_bl, fl_str, fl_non, isNon_non, isNon_int, isNon_tup, o_inI, o_ninI, o_ninE, o_mkRng, isNon_bl, o_eqB, List.getElem?_cons_zero, List.getElem?_cons_succ, List.set_cons_zero, List.set_cons_succ, List.length_cons, List.length_nil, List.map_cons, List.map_nil, List.cons_append, List.nil_append, List.replicate_succ, List.replicate_zero, if_true, if_false, decide_eq_true_eq, decide_eq_false_iff_not, Bool.false_eq_true, and_true, true_and, Bool.not_true, Bool.not_false, reduceIte, Option.bind_some, Option.map_some, Option.getD_some, Option.getD_none, Sum.inr.injEq, Sum.inl.injEq, Nat.reduceAdd, Nat.reduceSub, Nat.reduceLeDiff, Nat.reduceLT, Nat.reduceEqDiff, reduceCtorEq, Int.reduceLT, Int.reduceLE, Int.reduceEq, Int.reduceAdd, Int.reduceSub, Int.reduceMul, Int.reduceNeg, Int.cast_ofNat_Int, Int.natCast_zero, Int.reduceToNat, Int.reducePow, or_true, true_or, String.reduceEq, decide_true, decide_false, Bool.not_eq_true', Bool.not_eq_false', List.all_cons, List.all_nil, Bool.and_true, Bool.true_and, Bool.true_or, Bool.or_true, wipeS, startS])
abbrev n_led_to : List Str := ["orders", "scene", "found", "waiting", "here", "first", "second"]
def m_led_to_b1 : MS :=
  (mIfS (mAndT (mTst (mBin D.eqo (mVar 5) (mVar 4))) (mTst (mBin D.nino (mVar 6) (mVarW 2)))) (mSeq (mOwnE 2 O.isL O.append (mCons (mVar 6) mNil))
  (mOwnE 3 O.isL O.append (mCons (mVar 6) mNil))) mNx)
def m_led_to_b2 : MS :=
  (mSeq (mOwnS 3 4 O.isL O.pop mNil)
  (mFor (mIl (mVar 0)) (gTu 2 (gsCons (gNm 5) (gsCons (gNm 6) gsNil))) (m_led_to_b1)))
def m_led_to : MS :=
  (mSeq (mSetO 2 (oLst mNil))
  (mSeq (mSetO 3 (oLst (mCons (mVar 1) mNil)))
  (mSeq (mWhile 1000 (mTru (mVarW 3)) (m_led_to_b2))
  (mFrz 2 (mRet (mBi (on1 D.toTup) (mCons (mBi (on1 (D.intsL fun ns => some (.lst ((sortI ns).map D.int)))) (mCons (mVar 2) mNil)) mNil)))))))
def F_led_to : FD := fnF n_led_to m_led_to
abbrev n_ahead : List Str := ["film", "scene", "turned", "first", "second"]
def m_ahead : MS :=
  (mSeq (mAft 2 (mSetO 2 (oLc false (mIt (mIx (mVar 0) (mC (.int 3)))) (gTu 2 (gsCons (gNm 3) (gsCons (gNm 4) gsNil))) mYes (mTup (mCons (mVar 4) (mCons (mVar 3) mNil))) [3, 4])))
  (mRet (mCall F_led_to (mCons (mVar 2) (mCons (mVar 1) mNil)))))
def F_ahead : FD := fnF n_ahead m_ahead
abbrev n_is_closed : List Str := ["film", "shot", "first", "second"]
def m_is_closed_b1 : MS :=
  (mIfS (mAndT (mTst (mBin D.ino (mVar 3) (mVar 1))) (mTst (mBin D.nino (mVar 2) (mVar 1)))) (mRet (mC (.bl false))) mNx)
def m_is_closed : MS :=
  (mSeq (mFor (mIt (mIx (mVar 0) (mC (.int 3)))) (gTu 2 (gsCons (gNm 2) (gsCons (gNm 3) gsNil))) (m_is_closed_b1))
  (mRet (mC (.bl true))))
def F_is_closed : FD := fnF n_is_closed m_is_closed
abbrev n_free_scenes : List Str := ["film", "shot", "others", "scene"]
def m_free_scenes : MS :=
  (mSeq (mIfS (mNotT (mTru (mCall F_is_closed (mCons (mVar 0) (mCons (mVar 1) mNil))))) mNever mNx)
  (mSeq (mAft 2 (mSetO 2 (oLc false (mIr1 (mCons (mBi (on1 D.len) (mCons (mIx (mVar 0) (mC (.int 2))) mNil)) mNil)) (gNm 3) (mTst (mBin D.nino (mVar 3) (mVar 1))) (mVar 3) [3])))
  (mRet (mBi (on1 D.toTup) (mCons (mOfO (oLc false (mIl (mVar 2)) (gNm 3) (mTru (mCall F_is_closed (mCons (mVar 0) (mCons (mTup (mStar (mVar 1) (mCons (mVar 3) mNil))) mNil)))) (mVar 3) [3])) mNil)))))
def F_free_scenes : FD := fnF n_free_scenes m_free_scenes
abbrev n_layers : List Str := ["film", "told", "placed", "layer"]
def m_layers_b1 : MS :=
  (mSeq (mSet 3 (mCall F_free_scenes (mCons (mVar 0) (mCons (mVar 2) mNil))))
  (mSeq (mOwnE 1 O.isL O.append (mCons (mVar 3) mNil))
  (mSet 2 (mBin D.add (mVar 2) (mVar 3)))))
def m_layers : MS :=
  (mSeq (mSetO 1 (oLst mNil))
  (mSeq (mSet 2 (mTup mNil))
  (mSeq (mWhile 1000 (mTst (mBin D.lt (mBi (on1 D.len) (mCons (mVar 2) mNil)) (mBi (on1 D.len) (mCons (mIx (mVar 0) (mC (.int 2))) mNil)))) (m_layers_b1))
  (mFrz 1 (mRet (mBi (on1 D.toTup) (mCons (mVar 1) mNil)))))))
def F_layers : FD := fnF n_layers m_layers
abbrev n__has_window : List Str := ["windows", "number", "day", "owner", "first", "last"]
def m__has_window_b1 : MS :=
  (mIfS (mAndT (mTst (mBin D.eqo (mVar 3) (mVar 1))) (mTst (mChain D.le D.le (mVar 4) (mVar 2) (mVar 5)))) (mRet (mC (.bl true))) mNx)
def m__has_window : MS :=
  (mSeq (mFor (mIt (mVar 0)) (gTu 3 (gsCons (gNm 3) (gsCons (gNm 4) (gsCons (gNm 5) gsNil)))) (m__has_window_b1))
  (mRet (mC (.bl false))))
def F__has_window : FD := fnF n__has_window m__has_window
abbrev n_is_there : List Str := ["calendar", "actor", "day"]
def m_is_there : MS :=
  (mRet (mUn D.nob (mCall F__has_window (mCons (mIx (mVar 0) (mC (.int 1))) (mCons (mVar 1) (mCons (mVar 2) mNil))))))
def F_is_there : FD := fnF n_is_there m_is_there
abbrev n_is_open : List Str := ["calendar", "place", "day"]
def m_is_open : MS :=
  (mRet (mUn D.nob (mCall F__has_window (mCons (mIx (mVar 0) (mC (.int 2))) (mCons (mVar 1) (mCons (mVar 2) mNil))))))
def F_is_open : FD := fnF n_is_open m_is_open
abbrev n__can_be_shot : List Str := ["film", "calendar", "scene", "day", "_", "place", "light", "minutes", "cast", "actor", "rise", "fall"]
def m__can_be_shot_b1 : MS :=
  (mIfS (mNotT (mTru (mCall F_is_there (mCons (mVar 1) (mCons (mVar 9) (mCons (mVar 3) mNil)))))) (mRet (mC (.bl false))) mNx)
def m__can_be_shot : MS :=
  (mSeq (mAsg (mIx (mIx (mVar 0) (mC (.int 2))) (mVar 2)) (gTu 6 (gsCons (gNm 4) (gsCons (gNm 5) (gsCons (gNm 6) (gsCons (gNm 7) (gsCons (gNm 4) (gsCons (gNm 8) gsNil))))))))
  (mSeq (mIfS (mNotT (mTru (mCall F_is_open (mCons (mVar 1) (mCons (mVar 5) (mCons (mVar 3) mNil)))))) (mRet (mC (.bl false))) mNx)
  (mSeq (mFor (mIt (mVar 8)) (gNm 9) (m__can_be_shot_b1))
  (mSeq (mAsg (mIx (mIx (mVar 1) (mC (.int 0))) (mVar 3)) (gTu 2 (gsCons (gNm 10) (gsCons (gNm 11) gsNil))))
  (mRet (mOr (mBin D.neo (mVar 6) (mC (.str "day"))) (mBin D.le (mVar 7) (mBin D.sub (mVar 11) (mVar 10)))))))))
def F__can_be_shot : FD := fnF n__can_be_shot m__can_be_shot
theorem gTu2 {i j : Nat} {a b : D} {sg : List Sl} (h1 : isOwn sg[i]? = false) (h2 : isOwn (sg.set i (.val a))[j]? = false) :
    gTu 2 (gsCons (gNm i) (gsCons (gNm j) gsNil)) (.tup [a, b]) sg = some ((sg.set i (.val a)).set j (.val b)) := by
  rw [g_Tu]
  simp only [List.length_cons, List.length_nil, if_true, g_Cons, g_Nil, g_Nm, h1, h2, Bool.false_eq_true, if_false, Option.bind_some]
theorem gTu3 {i j k : Nat} {a b c : D} {sg : List Sl} (h1 : isOwn sg[i]? = false) (h2 : isOwn (sg.set i (.val a))[j]? = false) (h3 : isOwn ((sg.set i (.val a)).set j (.val b))[k]? = false) :
    gTu 3 (gsCons (gNm i) (gsCons (gNm j) (gsCons (gNm k) gsNil))) (.tup [a, b, c]) sg = some (((sg.set i (.val a)).set j (.val b)).set k (.val c)) := by
  rw [g_Tu]
  simp only [List.length_cons, List.length_nil, if_true, g_Cons, g_Nil, g_Nm, h1, h2, h3, Bool.false_eq_true, if_false, Option.bind_some]
theorem eqv_nD {a b : Nat} : D.eqv (nD a) (nD b) = decide (a = b) := by
  unfold nD
  rw [eqv_int]
  by_cases h : a = b
  · simp [h]
  · have : ¬ ((a : Int) = (b : Int)) := by omega
    simp [h, this]
theorem okqA_nD (n : Nat) : ∀ ns : List Nat, D.okqA (ns.map nD) n = true
  | [] => rfl
  | x :: ns => by
    rw [List.map_cons, D.okqA, okqA_nD n ns]
    cases n <;> rfl
theorem any_nN (i : Nat) : ∀ ns : List Nat, ((ns.map nD).any fun y => D.eqv y (nD i)) = decide (i ∈ ns)
  | [] => by simp
  | n :: ns => by
    rw [List.map_cons, List.any_cons, any_nN i ns, eqv_nD]
    by_cases h : n = i
    · simp [h]
    · simp [h, Ne.symm h]
section
variable {S : List O} {P : D × List O → Prop} {i j : Nat} {ns : List Nat}
theorem o_eqN : kO (D.eqo (nD i) (nD j)) S P = P (.bl (decide (i = j)), S) := by
  rw [o_eqG, eqv_nD]
  simp [nD, D.okq]
theorem o_inNT : kO (D.ino (nD i) (.tup (ns.map nD))) S P = P (.bl (decide (i ∈ ns)), S) := by
  have h1 : D.okq (nD i) 50 = true := rfl
  simp only [D.ino, D.inB, h1, if_true, okqA_nD, any_nN]
  rfl
theorem o_ninNT : kO (D.nino (nD i) (.tup (ns.map nD))) S P = P (.bl (!decide (i ∈ ns)), S) := by
  have h1 : D.okq (nD i) 50 = true := rfl
  simp only [D.nino, D.inB, h1, if_true, okqA_nD, any_nN]
  rfl
theorem o_ninNL : kO (D.nino (nD i) (.lst (ns.map nD))) S P = P (.bl (!decide (i ∈ ns)), S) := by
  have h1 : D.okq (nD i) 50 = true := rfl
  simp only [D.nino, D.inB, h1, if_true, okqA_nD, any_nN]
  rfl
end
theorem flm_3 {f : Film} {S : List O} {P : D × List O → Prop} : kO (ixS S f.d (.int 3)) S P = P (.tup (f.orders.map ordD), S) := by with_unfolding_all rfl
theorem cal_1 {c : Cal} {S : List O} {P : D × List O → Prop} : kO (ixS S c.d (.int 1)) S P = P (.tup (c.aw.map tupI), S) := by with_unfolding_all rfl
theorem cal_2 {c : Cal} {S : List O} {P : D × List O → Prop} : kO (ixS S c.d (.int 2)) S P = P (.tup (c.cl.map tupI), S) := by with_unfolding_all rfl
local macro_rules | `(tactic| walk_at "zv") => `(tactic| simp (decide := true) only [row_0, row_1, row_2, scn_1, scn_3, scn_5, flm_0, flm_1, flm_2, flm_3, flm_4, cal_0, cal_1, cal_2, o_eqN, o_inNT, o_ninNT, o_ninNL, kO_some, w_C, w_Var, w_VarW, kVar_val, kVarW_val, kVarW_lst, kVarW_dic, w_Flat, kFlat_eq, w_Bin, kBin_eq, kBin2_eq, w_Un, kUn_eq, w_Tup, kTup_eq, w_Lst, kLst_eq, w_Nil, w_Cons, kCons_eq, kCons2_eq, w_And, kAnd_eq, w_Or, kOr_eq, w_Tst, kTst_eq, w_Tru, kTru_bl, kTru_int, kTru_tup, kTru_lst, kTru_non, w_NotT, kNotT_eq, w_AndT, kAndT_eq, w_OrT, kOrT_eq, w_IsN, kIsN_eq, w_If, kIf_eq, w_Chain, kCh1_eq, kCh2_eq, kCh3_eq, w_Bi, kBi_eq, on1_eq, on2_eq, w_Meth, kMeth_eq, kMeth2_eq, w_Ix, kIx_eq, kIx2_eq, w_Get2, kGet1_eq, kGet2_eq, kGet3_eq, w_NoP, w_Part, kPart_eq, w_Sl, kSl1_eq, kSl2_eq, kSl3_eq, w_Call, kCall_eq, w_CallP, kCallP_eq, w_OfO, kOfO_eq, toD_lst, toD_dic, w_LstO, kLstO_eq, w_DicO, w_Rep, kRep_eq, kRep2_eq, w_Pn, w_Pc, kPc1_eq, kPc2_eq, kPc3_eq, w_Disp, kDisp_eq, kDisp2_eq, keyed_nil, keyed_S, keyed_I, w_Lc, kLc_eq, kLc2_eq, w_Il, kIl_eq, w_It, kIt_eq, w_Ir1, kIr1_eq, w_Ir2, kIr2_eq, w_Ie, kIe_eq, w_IeT, kIeT_eq, w_Yes, w_Seq, kSeq_nx, kSeq_bk, kSeq_ct, kSeq_rt, w_Nx, w_Bk, w_Ct, w_RetN, w_Ret, kRet_eq, w_Drop, kDrop_eq, w_IfS, kIfS_eq, w_Frz, w_Set, kSet_eq, w_SetO, kSetO_eq, w_Aft, kAft_eq, w_Asg, kAsg_eq, kAsg2_eq, w_For, kFor_eq, w_While, w_Put, kPut_eq, kPut2_own, kPut2_ref, kPutR_eq, w_Own, w_OwnE, w_OwnS, kOwn_eq, kOwnE_eq, kOwnS_eq, w_Fn, kFn_nx, kFn_rt, kLoop_nx, kLoop_ct, kLoop_bk, kLoop_rt, w_Ir3, kIr3_eq, w_Lrg, kLrg_eq, w_AppPop, kApp0_eq, w_Never, w_Irv, kIrv_eq, w_Star, kStar_tup, kStar_lst, kStar2_eq, o_addI, o_addS, o_addT, o_addL, o_sub, o_fdiv, o_mod, o_pow, o_shl, o_shr, o_and, o_or, o_mul, o_lt, o_le, o_gt, o_ge, lt_eq, le_eq, gt_eq, ge_eq, o_neg, o_nob, o_eqI, o_eqS, o_neI, o_neS, eqo_int, ixS_tup, ixS_lst, ixS_dic, ixS_ref0, ixS_ref1, ixo_tup, ixo_lst, ixo_dicI, ixo_dicS, atI_0, atI_1, atI_2, atI_3, atI_4, atI_5, atI_6, atI_7, atI_8, pr_0, pr_1, pr_2, pr_3, po_dicI, po_dicS, app_eq, ext_eq, isL_eq, isD_eq, DisL_eq, o_lenL, o_lenT, o_lenD, o_lenS, o_toI, o_abs, o_strI, o_max2, o_min2, o_toT, o_toTT, o_toL, o_toLT, o_sloT, o_sloL, o_sloS, g_Nm, g_Tu, g_Cons, g_Nil, own_val, own_no, merge_new, dGet_cons, dGet_nil, dGet2_S, dGet2_I, o_sset, o_ssetI, o_toIb, fl_int, fl_bl, fl_str, fl_non, isNon_non, isNon_int, isNon_tup, o_inI, o_ninI, o_ninE, o_mkRng, isNon_bl, o_eqB, List.getElem?_cons_zero, List.getElem?_cons_succ, List.set_cons_zero, List.set_cons_succ, List.length_cons, List.length_nil, List.map_cons, List.map_nil, List.cons_append, List.nil_append, List.replicate_succ, List.replicate_zero, if_true, if_false, decide_eq_true_eq, decide_eq_false_iff_not, Bool.false_eq_true, and_true, true_and, Bool.not_true, Bool.not_false, reduceIte, Option.bind_some, Option.map_some, Option.getD_some, Option.getD_none, Sum.inr.injEq, Sum.inl.injEq, Nat.reduceAdd, Nat.reduceSub, Nat.reduceLeDiff, Nat.reduceLT, Nat.reduceEqDiff, reduceCtorEq, Int.reduceLT, Int.reduceLE, Int.reduceEq, Int.reduceAdd, Int.reduceSub, Int.reduceMul, Int.reduceNeg, Int.cast_ofNat_Int, Int.natCast_zero, Int.reduceToNat, Int.reducePow, or_true, true_or, String.reduceEq, decide_true, decide_false, Bool.not_eq_true', Bool.not_eq_false', List.all_cons, List.all_nil, Bool.and_true, Bool.true_and, Bool.true_or, Bool.or_true, wipeS, startS])
/-! ### led to -/
theorem pop_last {l : List Nat} {x : Nat} {sg : List Sl} {S : List O} {Pw : D × List Sl × List O → Prop} {i : Nat} : kOwn2 i O.pop (.lst ((l ++ [x]).map nD)) sg Pw ([], S) = Pw (nD x, sg.set i (.own (.lst (l.map nD))), S) := by
  refine kOwn2_eq ?_
  unfold O.pop
  rw [List.map_append]
  have e : (l.map nD ++ [x].map nD)[(l.map nD ++ [x].map nD).length - 1]? = some (nD x) := by simp
  simp only [e]
  simp
theorem led_b1 {os : List (Nat × Nat)} {found w : List Nat} {here n : Nat} {x0 x1 x5 x6 : Sl} {S : List O} {Ps : Fl × List Sl × List O → Prop} {E : EP'} (hn : found.Nodup) (hl : ∀ x ∈ found, x < n) (ho : ∀ p ∈ os, p.2 < n) (hb : n < 1000) (hw : w.length < 1000000) (h5 : isOwn (some x5) = false) (h6 : isOwn (some x6) = false)
    (hP : ∀ (a : List Nat) (x5 x6 : Sl), isOwn (some x5) = false → isOwn (some x6) = false → (found ++ a).Nodup → (∀ x ∈ a, (here, x) ∈ os) → (∀ x, (here, x) ∈ os → x ∈ found ++ a) → Ps (.nx, [x0, x1, .own (.lst ((found ++ a).map nD)), .own (.lst ((w ++ a).map nD)), .val (nD here), x5, x6], S)) :
    Wp (loopM (gTu 2 (gsCons (gNm 5) (gsCons (gNm 6) gsNil))) m_led_to_b1 (os.map ordD) [x0, x1, .own (.lst (found.map nD)), .own (.lst (w.map nD)), .val (nD here), x5, x6] S) Ps E := by
  refine Wp.loop (fun i sg S' => ∃ (a : List Nat) (x5 x6 : Sl), sg = [x0, x1, .own (.lst ((found ++ a).map nD)), .own (.lst ((w ++ a).map nD)), .val (nD here), x5, x6] ∧ S' = S ∧ isOwn (some x5) = false ∧ isOwn (some x6) = false ∧ (found ++ a).Nodup ∧ (∀ x ∈ a, (here, x) ∈ os) ∧ (∀ x, (here, x) ∈ os.take i → x ∈ found ++ a)) ⟨[], x5, x6, by simp, rfl, h5, h6, by simpa using hn, (fun x hx => by cases hx), (fun x hx => by simp at hx)⟩ ?_ ?_
  · intro i d sg S' hd hI
    obtain ⟨a, x5, x6, e1, e2, h5, h6, g1, g2, g3⟩ := hI
    subst e1 e2
    rw [List.getElem?_map] at hd
    cases hii : os[i]? with
    | none => rw [hii] at hd; cases hd
    | some p =>
      rw [hii] at hd
      cases hd
      have hil : i < os.length := (List.getElem?_eq_some_iff.mp hii).1
      have hir : os[i] = p := (List.getElem?_eq_some_iff.mp hii).2
      have hp : p ∈ os := List.mem_of_getElem? hii
      have hal : ∀ x ∈ found ++ a, x < n := fun x hx => by
        rcases List.mem_append.mp hx with hx | hx
        · exact hl x hx
        · exact ho _ (g2 x hx)
      have hlen := nodup_len g1 hal
      have hall : a.length ≤ n := by rw [List.length_append] at hlen; omega
      have etk : os.take (i + 1) = os.take i ++ [p] := by rw [List.take_succ, hii]; rfl
      refine ⟨_, gTu2 h5 h6, ?_⟩
      unfold m_led_to_b1
      (try walk_at "zv")
      obtain ⟨p1, p2⟩ := p
      simp only []
      by_cases c1 : p1 = here
      · subst c1
        by_cases c2 : p2 ∈ found ++ a
        · simp only [c2, if_true, decide_true, Bool.not_true, Bool.false_eq_true, if_false]
          refine ⟨a, _, _, rfl, rfl, rfl, g1, g2, fun x hx => ?_⟩
          rw [etk] at hx
          rcases List.mem_append.mp hx with hx | hx
          · exact g3 x hx
          · have e := List.mem_singleton.mp hx
            cases e
            exact c2
        · simp only [c2, if_true, decide_false, Bool.not_false]
          (try walk_at "zv")
          refine ⟨?_, ?_, a ++ [p2], .val (nD p1), .val (nD p2), ?_, rfl, rfl, ?_, ?_, ?_⟩
          · rw [List.length_map]; omega
          · rw [List.length_map, List.length_append]; omega
          · simp
          · rw [← List.append_assoc, List.nodup_append]
            refine ⟨g1, by simp, fun x hx y hy e => ?_⟩
            rw [List.mem_singleton.mp hy] at e
            exact c2 (e ▸ hx)
          · intro x hx
            rcases List.mem_append.mp hx with hx | hx
            · exact g2 x hx
            · rw [List.mem_singleton.mp hx]; exact hp
          · intro x hx
            rw [etk] at hx
            rw [← List.append_assoc]
            rcases List.mem_append.mp hx with hx | hx
            · exact List.mem_append_left _ (g3 x hx)
            · have e := List.mem_singleton.mp hx
              cases e
              exact List.mem_append_right _ List.mem_cons_self
      · simp only [c1, decide_false, Bool.false_eq_true, if_false]
        refine ⟨a, _, _, rfl, rfl, rfl, g1, g2, fun x hx => ?_⟩
        rw [etk] at hx
        rcases List.mem_append.mp hx with hx | hx
        · exact g3 x hx
        · have e := List.mem_singleton.mp hx
          cases e
          exact absurd rfl c1
  · intro sg S' hI
    obtain ⟨a, x5, x6, e1, e2, h5, h6, g1, g2, g3⟩ := hI
    subst e1 e2
    rw [List.length_map, List.take_length] at g3
    exact hP a x5 x6 h5 h6 g1 g2 g3
theorem ints_nD : ∀ l : List Nat, D.ints (l.map nD) = some (l.map fun (k : Nat) => (k : Int)) := fun l => by
  have := D2.ints_map (l.map fun (k : Nat) => (k : Int))
  rw [List.map_map] at this
  exact this
theorem sort_nD {l : List Nat} : ∃ L : List Nat, (sortI (l.map fun (k : Nat) => (k : Int))).map D.int = L.map nD ∧ L.length = l.length ∧ ∀ x, x ∈ L ↔ x ∈ l := by
  have hp := sortI_perm (l.map fun (k : Nat) => (k : Int))
  refine ⟨(sortI (l.map fun (k : Nat) => (k : Int))).map Int.toNat, ?_, ?_, fun x => ?_⟩
  · rw [List.map_map]
    refine List.map_congr_left fun z hz => ?_
    obtain ⟨k, _, rfl⟩ := List.mem_map.mp (hp.mem_iff.mp hz)
    rfl
  · rw [List.length_map, hp.length_eq, List.length_map]
  · rw [List.mem_map]
    constructor
    · rintro ⟨z, hz, rfl⟩
      obtain ⟨k, hk, rfl⟩ := List.mem_map.mp (hp.mem_iff.mp hz)
      exact hk
    · exact fun hx => ⟨(x : Int), hp.mem_iff.mpr (List.mem_map.mpr ⟨x, hx, rfl⟩), rfl⟩
theorem led_ok {os : List (Nat × Nat)} {s n : Nat} {S : List O} (hs : s < n) (hn : n < 100) (ho : ∀ p ∈ os, p.2 < n) :
    Wp (F_led_to [.lst (os.map ordD), nD s] S) (fun y => ∃ L : List Nat, y = (.tup (L.map nD), S) ∧ L.length ≤ n ∧ (∀ x, (s, x) ∈ os → x ∈ L) ∧ ∀ x ∈ L, Led os s x ∧ x < n) noE := by
  unfold F_led_to m_led_to
  (try walk_at "zv")
  refine Wp.wh (fun m sg S' => ∃ (found w : List Nat) (x4 x5 x6 : Sl), sg = [.val (.lst (os.map ordD)), .val (nD s), .own (.lst (found.map nD)), .own (.lst (w.map nD)), x4, x5, x6] ∧ S' = S ∧ isOwn (some x5) = false ∧ isOwn (some x6) = false ∧ m = 2 * (n - found.length) + w.length ∧ m < 1000 ∧ found.Nodup ∧ (∀ x ∈ found, x < n ∧ Led os s x) ∧ (∀ x ∈ w, x = s ∨ x ∈ found) ∧ (s ∈ w ∨ ∀ x, (s, x) ∈ os → x ∈ found)) ?_ (n := 2 * n + 1) ⟨[], [s], .no, .no, .no, rfl, rfl, rfl, rfl, by simp, by omega, List.nodup_nil, (fun x hx => by cases hx), (fun x hx => .inl (List.mem_singleton.mp hx)), .inl List.mem_cons_self⟩ (by omega)
  intro m sg S' hI
  obtain ⟨found, w, x4, x5, x6, e1, e2, h5, h6, em, hm, g1, g2, g3, g4⟩ := hI
  subst e1 e2
  (try walk_at "zv")
  rcases List.eq_nil_or_concat w with rfl | ⟨w, here, rfl⟩
  · simp only [List.map_nil, List.isEmpty_nil, Bool.not_true, Bool.false_eq_true, if_false]
    (try walk_at "zv")
    simp only [frz, List.getElem?_cons_succ, List.getElem?_cons_zero, List.set_cons_succ, List.set_cons_zero, toD_lst]
    (try walk_at "zv")
    rw [o_intsL (ints_nD _)]
    obtain ⟨L, eL, hLl, hLm⟩ := sort_nD (l := found)
    rw [eL]
    (try walk_at "zv")
    refine ⟨L, rfl, by rw [hLl]; exact nodup_len g1 fun x hx => (g2 x hx).1, fun x hx => ?_, fun x hx => ?_⟩
    · rcases g4 with g4 | g4
      · cases g4
      · exact (hLm x).mpr (g4 x hx)
    · have := g2 x ((hLm x).mp hx)
      exact ⟨this.2, this.1⟩
  · rw [List.concat_eq_append] at em g3 g4 ⊢
    rw [if_pos (by simp)]
    have hfl := nodup_len g1 fun x hx => (g2 x hx).1
    have hwl : w.length < m := by rw [em, List.length_append, List.length_singleton]; omega
    refine ⟨by omega, ?_⟩
    unfold m_led_to_b2
    (try walk_at "zv")
    rw [pop_last]
    (try walk_at "zv")
    refine led_b1 g1 (fun x hx => (g2 x hx).1) ho (by omega) (by omega) h5 h6 fun a x5 x6 h5 h6 k1 k2 k3 => ?_
    have hal : ∀ x ∈ found ++ a, x < n := fun x hx => by
      rcases List.mem_append.mp hx with hx | hx
      · exact (g2 x hx).1
      · exact ho _ (k2 x hx)
    have hlen := nodup_len k1 hal
    have hhere := g3 here (List.mem_append_right _ List.mem_cons_self)
    (try walk_at "zv")
    have hmm : 2 * (n - (found ++ a).length) + (w ++ a).length < m := by
      rw [em]
      rw [List.length_append] at hlen
      simp only [List.length_append, List.length_singleton]
      omega
    refine ⟨2 * (n - (found ++ a).length) + (w ++ a).length, hmm, found ++ a, w ++ a, _, _, _, rfl, h5, h6, rfl, by omega, k1, ?_, ?_, ?_⟩
    · intro x hx
      refine ⟨hal x hx, ?_⟩
      rcases List.mem_append.mp hx with hx | hx
      · exact (g2 x hx).2
      · rcases hhere with e | hh
        · subst e
          exact .one (k2 x hx)
        · exact .more (g2 here hh).2 (k2 x hx)
    · intro x hx
      rcases List.mem_append.mp hx with hx | hx
      · rcases g3 x (List.mem_append_left _ hx) with e | hh
        · exact .inl e
        · exact .inr (List.mem_append_left _ hh)
      · exact .inr (List.mem_append_right _ hx)
    · by_cases ce : here = s
      · subst ce
        exact .inr k3
      · rcases g4 with g4 | g4
        · rcases List.mem_append.mp g4 with g4 | g4
          · exact .inl (List.mem_append_left _ g4)
          · exact absurd (List.mem_singleton.mp g4).symm ce
        · exact .inr fun x hx => List.mem_append_left _ (g4 x hx)
theorem orders_len {f : Film} {most : Nat} (hf : FilmOk most f) (hm : most < 13) : f.orders.length ≤ 1000 := by
  have hns := hf.ns
  have h1 : (f.orders.map fun p => p.1 * 50 + p.2).Nodup := by
    unfold List.Nodup
    rw [List.pairwise_map]
    have h2 := hf.os
    have h3 : f.orders.Pairwise fun p q => p.2 < f.scenes.length ∧ q.2 < f.scenes.length := List.pairwise_of_forall_mem_list fun p hp q hq => ⟨(hf.od p hp).2, (hf.od q hq).2⟩
    refine (h2.and h3).imp fun {p q} h => ?_
    obtain ⟨h, h4, h5⟩ := h
    omega
  have := nodup_len (n := 650) h1 fun x hx => by
    obtain ⟨p, hp, rfl⟩ := List.mem_map.mp hx
    have := hf.od p hp
    omega
  rw [List.length_map] at this
  omega
theorem ahead_ok {f : Film} {most : Nat} (hf : FilmOk most f) (hm : most < 13) {s : Nat} (hs : s < f.scenes.length) {S : List O} :
    Wp (F_ahead [f.d, nD s] S) (fun y => ∃ L : List Nat, y = (.tup (L.map nD), S) ∧ L.length ≤ f.scenes.length ∧ (∀ x, (x, s) ∈ f.orders → x ∈ L) ∧ ∀ x ∈ L, Led (f.orders.map fun p => (p.2, p.1)) s x ∧ x < f.scenes.length) noE := by
  have hns := hf.ns
  unfold F_ahead m_ahead
  (try walk_at "zv")
  rw [wp_eq (lc_pure (en := ordD) (p := fun _ => true) (f := fun p : Nat × Nat => ordD (p.2, p.1)) (xs := f.orders) fun p hp => ⟨_, gTu2 rfl rfl, rfl, fun _ => wp_is (by (try walk_at "zv"); rfl)⟩)]
  rw [List.filter_eq_self.mpr fun _ _ => rfl]
  (try walk_at "zv")
  have e : (f.orders.map fun p : Nat × Nat => ordD (p.2, p.1)) = (f.orders.map fun p => (p.2, p.1)).map ordD := by rw [List.map_map]; rfl
  rw [e]
  (try walk_at "zv")
  try simp only [frz, List.getElem?_cons_succ, List.getElem?_cons_zero, List.set_cons_succ, List.set_cons_zero, toD_lst]
  (try walk_at "zv")
  rw [List.length_map]
  refine ⟨by have := orders_len hf hm; omega, ?_⟩
  refine (led_ok (n := f.scenes.length) hs (by omega) fun p hp => ?_).imp ?_
  · obtain ⟨⟨a, b⟩, hq, e⟩ := List.mem_map.mp hp
    cases e
    have := hf.od _ hq
    simp only [] at this ⊢
    omega
  · rintro _ ⟨L, rfl, h1, h2, h3⟩
    (try walk_at "zv")
    exact ⟨L, rfl, h1, fun x hx => h2 x (List.mem_map.mpr ⟨(x, s), hx, rfl⟩), h3⟩
/-! ### closed sets, free scenes, layers -/
theorem is_closed_eq {f : Film} {l : List Nat} {S : List O} : F_is_closed [f.d, .tup (l.map nD)] S = .ok (.bl (closedF f.orders l), S) := by
  refine wp_is ?_
  unfold F_is_closed m_is_closed
  (try walk_at "zv")
  refine Wp.loop (fun i sg S' => ∃ (x2 x3 : Sl), sg = [.val f.d, .val (.tup (l.map nD)), x2, x3] ∧ S' = S ∧ isOwn (some x2) = false ∧ isOwn (some x3) = false ∧ closedF f.orders l = closedF (f.orders.drop i) l) ⟨.no, .no, rfl, rfl, rfl, rfl, by rw [List.drop_zero]⟩ ?_ ?_
  · intro i d sg S' hd hI
    obtain ⟨x2, x3, e1, e2, h2, h3, g⟩ := hI
    subst e1 e2
    rw [List.getElem?_map] at hd
    cases hii : f.orders[i]? with
    | none => rw [hii] at hd; cases hd
    | some p =>
      rw [hii] at hd
      cases hd
      have hil : i < f.orders.length := (List.getElem?_eq_some_iff.mp hii).1
      have hir : f.orders[i] = p := (List.getElem?_eq_some_iff.mp hii).2
      rw [List.drop_eq_getElem_cons hil, hir] at g
      have eg : closedF (p :: f.orders.drop (i + 1)) l = (!(decide (p.2 ∈ l) && !decide (p.1 ∈ l)) && closedF (f.orders.drop (i + 1)) l) := rfl
      rw [eg] at g
      refine ⟨_, gTu2 h2 h3, ?_⟩
      unfold m_is_closed_b1
      (try walk_at "zv")
      rw [g]
      by_cases c1 : p.2 ∈ l
      · by_cases c2 : p.1 ∈ l
        · simp [c1, c2]
          exact ⟨_, _, ⟨rfl, rfl⟩, rfl, rfl⟩
        · simp [c1, c2]
      · simp [c1]
        exact ⟨_, _, ⟨rfl, rfl⟩, rfl, rfl⟩
  · intro sg S' hI
    obtain ⟨x2, x3, e1, e2, h2, h3, g⟩ := hI
    subst e1 e2
    rw [List.length_map, List.drop_length] at g
    (try walk_at "zv")
    rw [g]
    rfl

theorem rng_nD (n : Nat) : rngD 0 n = (List.range n).map nD := by
  unfold rngD
  refine List.map_congr_left fun k _ => ?_
  show D.int (0 + (k : Int)) = D.int (k : Int)
  rw [Int.zero_add]
theorem o_toT2 {l : List Nat} {S : List O} {P : D × List O → Prop} : kO (D.toTup (.lst (l.map nD))) S P = P (.tup (l.map nD), S) := by with_unfolding_all rfl
theorem free_eq {f : Film} {most : Nat} (hf : FilmOk most f) (hm : most < 13) {l : List Nat} (hc : closedF f.orders l = true) (hl : l.length < 1000) {S : List O} : F_free_scenes [f.d, .tup (l.map nD)] S = .ok (.tup ((freeF f.orders f.scenes.length l).map nD), S) := by
  have hns := hf.ns
  refine wp_is ?_
  unfold F_free_scenes m_free_scenes
  (try walk_at "zv")
  rw [wp_eq is_closed_eq, hc]
  (try walk_at "zv")
  rw [List.length_map]
  refine ⟨lim_small (by omega) (by omega), ?_⟩
  rw [show ((f.scenes.length : Nat) : Int).toNat = f.scenes.length from rfl, rng_nD]
  rw [wp_eq (lc_pure (en := nD) (p := fun s => !decide (s ∈ l)) (f := nD) (xs := List.range f.scenes.length) fun s hs => ⟨_, rfl, wp_is (by (try walk_at "zv")), fun _ => wp_is (by (try walk_at "zv"))⟩)]
  (try walk_at "zv")
  try simp only [frz, List.getElem?_cons_succ, List.getElem?_cons_zero, List.set_cons_succ, List.set_cons_zero, toD_lst]
  (try walk_at "zv")
  have hlen : ((List.range f.scenes.length).filter fun s => !decide (s ∈ l)).length ≤ f.scenes.length := by
    have := List.length_filter_le (fun s => !decide (s ∈ l)) (List.range f.scenes.length)
    rwa [List.length_range] at this
  rw [List.length_map, List.length_range]
  refine ⟨by omega, ?_⟩
  have e1 : ∀ s : Nat, l.map nD ++ [nD s] = (l ++ [s]).map nD := fun s => by rw [List.map_append]; rfl
  rw [wp_eq (lc_pure (en := nD) (p := fun s => closedF f.orders (l ++ [s])) (f := nD) fun s hs => ⟨_, rfl, wp_is (by
    (try walk_at "zv")
    rw [e1]
    refine ⟨by rw [List.length_map, List.length_append, List.length_singleton]; omega, ?_⟩
    rw [wp_eq is_closed_eq]
    (try walk_at "zv")), fun _ => wp_is (by (try walk_at "zv"))⟩)]
  (try walk_at "zv")
  rw [List.length_map]
  exact ⟨by omega, rfl⟩
theorem layers_ok {f : Film} {most : Nat} (hf : FilmOk most f) (hm : most < 13) {S : List O} : Wp (F_layers [f.d] S) (fun y => ∃ told : List (List Nat), y = (.tup (told.map fun l => .tup (l.map nD)), S) ∧ LayOk f.orders f.scenes.length told ∧ ∀ x, x < f.scenes.length → x ∈ told.flatten) noE := by
  have hns := hf.ns
  unfold F_layers m_layers
  (try walk_at "zv")
  refine Wp.wh (fun m sg S' => ∃ (told : List (List Nat)) (x3 : Sl), sg = [.val f.d, .own (.lst (told.map fun l => .tup (l.map nD))), .val (.tup (told.flatten.map nD)), x3] ∧ S' = S ∧ LayOk f.orders f.scenes.length told ∧ told.length ≤ told.flatten.length ∧ m = f.scenes.length - told.flatten.length) ?_ (n := f.scenes.length) ⟨[], .no, rfl, rfl, LayOk.nil, Nat.le_refl _, by simp⟩ (by omega)
  intro m sg S' hI
  obtain ⟨told, x3, e1, e2, g, gl, em⟩ := hI
  subst e1 e2
  (try walk_at "zv")
  rw [List.length_map, List.length_map]
  have hfl := nodup_len g.nd g.lt
  by_cases c : ((told.flatten.length : Nat) : Int) < (f.scenes.length : Int)
  · rw [if_pos (by simpa using c)]
    have hlt : told.flatten.length < f.scenes.length := by omega
    have hmore := freeF_more hf.od g.cl hlt
    refine ⟨by omega, ?_⟩
    unfold m_layers_b1
    (try walk_at "zv")
    rw [wp_eq (free_eq hf hm g.cl (by omega))]
    (try walk_at "zv")
    have ef : (told ++ [freeF f.orders f.scenes.length told.flatten]).flatten = told.flatten ++ freeF f.orders f.scenes.length told.flatten := by simp
    have hadd := g.add hf.od
    have hal := nodup_len hadd.nd hadd.lt
    rw [ef, List.length_append] at hal
    rw [List.length_map, List.length_map, List.length_map]
    refine ⟨by omega, by omega, f.scenes.length - (told ++ [freeF f.orders f.scenes.length told.flatten]).flatten.length, ?_, told ++ [freeF f.orders f.scenes.length told.flatten], .val (.tup ((freeF f.orders f.scenes.length told.flatten).map nD)), ?_, hadd, ?_, rfl⟩
    · rw [ef, List.length_append]; omega
    · rw [ef, List.map_append, List.map_append]; rfl
    · rw [ef, List.length_append, List.length_append, List.length_singleton]; omega
  · rw [if_neg (by simpa using c)]
    (try walk_at "zv")
    try simp only [frz, List.getElem?_cons_succ, List.getElem?_cons_zero, List.set_cons_succ, List.set_cons_zero, toD_lst]
    (try walk_at "zv")
    exact ⟨told, rfl, g, nodup_all g.nd g.lt (by omega)⟩

/-! ### windows and days -/
def winB (w : List Int) (a d : Int) : Bool := decide (w.getD 0 0 = a) && (decide (w.getD 1 0 ≤ d) && decide (d ≤ w.getD 2 0))
def hasW (l : List (List Int)) (a d : Int) : Bool := l.any fun w => winB w a d
def Win3 (l : List (List Int)) : Prop := ∀ w ∈ l, ∃ a b c : Int, w = [a, b, c]
theorem win3 {m d : Int} {l : List (List Int)} (h : ∀ w ∈ l, WinOk m d w) : Win3 l := fun w hw => by
  obtain ⟨a, b, c, e, _⟩ := h w hw
  exact ⟨a, b, c, e⟩
theorem has_window_eq {l : List (List Int)} {i d : Int} {S : List O} (hl : Win3 l) : F__has_window [.tup (l.map tupI), .int i, .int d] S = .ok (.bl (hasW l i d), S) := by
  refine wp_is ?_
  unfold F__has_window m__has_window
  (try walk_at "zv")
  refine Wp.loop (fun k sg S' => ∃ (x3 x4 x5 : Sl), sg = [.val (.tup (l.map tupI)), .val (.int i), .val (.int d), x3, x4, x5] ∧ S' = S ∧ isOwn (some x3) = false ∧ isOwn (some x4) = false ∧ isOwn (some x5) = false ∧ hasW l i d = hasW (l.drop k) i d) ⟨.no, .no, .no, rfl, rfl, rfl, rfl, rfl, by rw [List.drop_zero]⟩ ?_ ?_
  · intro k dd sg S' hd hI
    obtain ⟨x3, x4, x5, e1, e2, h3, h4, h5, g⟩ := hI
    subst e1 e2
    rw [List.getElem?_map] at hd
    cases hii : l[k]? with
    | none => rw [hii] at hd; cases hd
    | some w =>
      rw [hii] at hd
      cases hd
      have hil : k < l.length := (List.getElem?_eq_some_iff.mp hii).1
      have hir : l[k] = w := (List.getElem?_eq_some_iff.mp hii).2
      obtain ⟨a, b, c, ew⟩ := hl w (List.mem_of_getElem? hii)
      subst ew
      rw [List.drop_eq_getElem_cons hil, hir] at g
      have eg : hasW ([a, b, c] :: l.drop (k + 1)) i d = ((decide (a = i) && (decide (b ≤ d) && decide (d ≤ c))) || hasW (l.drop (k + 1)) i d) := rfl
      rw [eg] at g
      refine ⟨_, gTu3 h3 h4 h5, ?_⟩
      unfold m__has_window_b1
      (try walk_at "zv")
      rw [g]
      by_cases c1 : a = i
      · by_cases c2 : b ≤ d
        · by_cases c3 : d ≤ c
          · simp [c1, c2, c3]
          · simp [c1, c2, c3]
            exact ⟨_, _, _, ⟨rfl, rfl, rfl⟩, rfl, rfl, rfl⟩
        · simp [c1, c2]
          exact ⟨_, _, _, ⟨rfl, rfl, rfl⟩, rfl, rfl, rfl⟩
      · simp [c1]
        exact ⟨_, _, _, ⟨rfl, rfl, rfl⟩, rfl, rfl, rfl⟩
  · intro sg S' hI
    obtain ⟨x3, x4, x5, e1, e2, h3, h4, h5, g⟩ := hI
    subst e1 e2
    rw [List.length_map, List.drop_length] at g
    (try walk_at "zv")
    rw [g]
    rfl
theorem is_there_eq {c : Cal} {a d : Nat} {S : List O} (hl : Win3 c.aw) : F_is_there [c.d, nD a, nD d] S = .ok (.bl (!hasW c.aw a d), S) := by
  refine wp_is ?_
  unfold F_is_there m_is_there
  (try walk_at "zv")
  have h : F__has_window [.tup (c.aw.map tupI), nD a, nD d] S = .ok (.bl (hasW c.aw a d), S) := has_window_eq hl
  rw [wp_eq h]
  (try walk_at "zv")
theorem is_open_eq {c : Cal} {a d : Nat} {S : List O} (hl : Win3 c.cl) : F_is_open [c.d, nD a, nD d] S = .ok (.bl (!hasW c.cl a d), S) := by
  refine wp_is ?_
  unfold F_is_open m_is_open
  (try walk_at "zv")
  have h : F__has_window [.tup (c.cl.map tupI), nD a, nD d] S = .ok (.bl (hasW c.cl a d), S) := has_window_eq hl
  rw [wp_eq h]
  (try walk_at "zv")
def lightOk (c : Cal) (s : Scene) (d : Nat) : Bool := !decide (s.light = "day") || decide (s.len ≤ (c.lights.getD d (0, 0)).2 - (c.lights.getD d (0, 0)).1)
def canB (c : Cal) (s : Scene) (d : Nat) : Bool := !hasW c.cl s.place d && ((s.cast.all fun a => !hasW c.aw a d) && lightOk c s d)
theorem gTu6 {a0 a1 a2 a3 a4 a5 : D} {x0 x1 x2 x3 x9 x10 x11 : Sl} :
    gTu 6 (gsCons (gNm 4) (gsCons (gNm 5) (gsCons (gNm 6) (gsCons (gNm 7) (gsCons (gNm 4) (gsCons (gNm 8) gsNil)))))) (.tup [a0, a1, a2, a3, a4, a5]) [x0, x1, x2, x3, .no, .no, .no, .no, .no, x9, x10, x11] = some [x0, x1, x2, x3, .val a4, .val a1, .val a2, .val a3, .val a5, x9, x10, x11] := rfl
theorem can_loop {f : Film} {c : Cal} {k d : Nat} {l : List Nat} {S : List O} {x4 x5 x6 x7 x10 x11 : Sl} {Ps : Fl × List Sl × List O → Prop} {E : EP'} (h1 : Win3 c.aw)
    (hP : ∀ x9 : Sl, (l.all fun a => !hasW c.aw a d) = true → Ps (.nx, [.val f.d, .val c.d, .val (nD k), .val (nD d), x4, x5, x6, x7, .val (.tup (l.map nD)), x9, x10, x11], S))
    (hN : ∀ sg : List Sl, (l.all fun a => !hasW c.aw a d) = false → Ps (.rt (.bl false), sg, S)) :
    Wp (loopM (gNm 9) m__can_be_shot_b1 (l.map nD) [.val f.d, .val c.d, .val (nD k), .val (nD d), x4, x5, x6, x7, .val (.tup (l.map nD)), .no, x10, x11] S) Ps E := by
  refine Wp.loop (fun i sg S' => ∃ (x9 : Sl), sg = [.val f.d, .val c.d, .val (nD k), .val (nD d), x4, x5, x6, x7, .val (.tup (l.map nD)), x9, x10, x11] ∧ S' = S ∧ isOwn (some x9) = false ∧ (l.all fun a => !hasW c.aw a d) = ((l.drop i).all fun a => !hasW c.aw a d)) ⟨.no, rfl, rfl, rfl, by rw [List.drop_zero]⟩ ?_ ?_
  · intro i dd sg S' hd hI
    obtain ⟨x9, e1, e2, h9, g⟩ := hI
    subst e1 e2
    rw [List.getElem?_map] at hd
    cases hii : l[i]? with
    | none => rw [hii] at hd; cases hd
    | some a =>
      rw [hii] at hd
      cases hd
      have hil : i < l.length := (List.getElem?_eq_some_iff.mp hii).1
      have hir : l[i] = a := (List.getElem?_eq_some_iff.mp hii).2
      rw [List.drop_eq_getElem_cons hil, hir, List.all_cons] at g
      refine ⟨_, gNm_ok h9, ?_⟩
      unfold m__can_be_shot_b1
      (try walk_at "zv")
      rw [wp_eq (is_there_eq h1)]
      (try walk_at "zv")
      cases hh : hasW c.aw a d with
      | true =>
        rw [hh] at g
        simp only [Bool.not_true, Bool.false_and] at g
        have := hN [.val f.d, .val c.d, .val (nD k), .val (nD d), x4, x5, x6, x7, .val (.tup (l.map nD)), .val (nD a), x10, x11] g
        simpa using this
      | false =>
        rw [hh] at g
        simp only [Bool.not_false, Bool.true_and] at g
        simp
        exact ⟨rfl, g⟩
  · intro sg S' hI
    obtain ⟨x9, e1, e2, h9, g⟩ := hI
    subst e1 e2
    rw [List.length_map, List.drop_length] at g
    exact hP x9 g
theorem can_eq {f : Film} {c : Cal} {k d : Nat} {S : List O} (h1 : Win3 c.aw) (h2 : Win3 c.cl) (hk : k < f.scenes.length) (hd : d < c.lights.length) : F__can_be_shot [f.d, c.d, nD k, nD d] S = .ok (.bl (canB c f.scenes[k] d), S) := by
  refine wp_is ?_
  unfold F__can_be_shot m__can_be_shot
  (try walk_at "zv")
  rw [show kO (ixS S (.tup (f.scenes.map Scene.d)) (nD k)) S = kO (atI (f.scenes.map Scene.d) (k : Int)) S from rfl, sc_at hk]
  generalize f.scenes[k] = s
  (try walk_at "zv")
  unfold Scene.d
  rw [gTu6]
  (try walk_at "zv")
  rw [wp_eq (is_open_eq h2)]
  (try walk_at "zv")
  cases hw : hasW c.cl s.place d with
  | true =>
    (try walk_at "zv")
    unfold canB
    rw [hw]
    rfl
  | false =>
    (try walk_at "zv")
    refine can_loop h1 (fun x9 g => ?_) fun sg g => ?_
    · (try walk_at "zv")
      rw [show kO (ixS S (.tup (c.lights.map prD)) (nD d)) S = kO (atI (c.lights.map prD) (d : Int)) S from rfl, kO_eq (atI_nat (v := prD (c.lights.getD d (0, 0))) (by rw [List.getElem?_map, List.getElem?_eq_getElem hd, List.getD_eq_getElem?_getD, List.getElem?_eq_getElem hd]; rfl))]
      (try walk_at "zv")
      unfold prD
      rw [gTu2 rfl rfl]
      (try walk_at "zv")
      unfold canB lightOk
      rw [hw, g]
      by_cases hl : s.light = Str.ofString "day"
      · simp [hl]
      · simp [hl]
    · (try walk_at "zv")
      unfold canB
      rw [hw, g]
      rfl


end Law

namespace Law
open PySem PySem.Spec PyProof.Rows L2 D2
local macro_rules | `(tactic| walk_at "ev") => `(tactic| simp (decide := true) only [kO_some, w_C, w_Var, w_VarW, kVar_val, kVarW_val, kVarW_lst, kVarW_dic, w_Flat, kFlat_eq, w_Bin, kBin_eq, kBin2_eq, w_Un, kUn_eq, w_Tup, kTup_eq, w_Lst, kLst_eq, w_Nil, w_Cons, kCons_eq, kCons2_eq, w_And, kAnd_eq, w_Or, kOr_eq, w_Tst, kTst_eq, w_Tru, kTru_bl, kTru_int, kTru_tup, kTru_lst, kTru_non, w_NotT, kNotT_eq, w_AndT, kAndT_eq, w_OrT, kOrT_eq, w_IsN, kIsN_eq, w_If, kIf_eq, w_Chain, kCh1_eq, kCh2_eq, kCh3_eq, w_Bi, kBi_eq, on1_eq, on2_eq, w_Meth, kMeth_eq, kMeth2_eq, w_Ix, kIx_eq, kIx2_eq, w_Get2, kGet1_eq, kGet2_eq, kGet3_eq, w_NoP, w_Part, kPart_eq, w_Sl, kSl1_eq, kSl2_eq, kSl3_eq, w_Call, kCall_eq, w_CallP, kCallP_eq, w_OfO, kOfO_eq, toD_lst, toD_dic, w_LstO, kLstO_eq, w_DicO, w_Rep, kRep_eq, kRep2_eq, w_Pn, w_Pc, kPc1_eq, kPc2_eq, kPc3_eq, w_Disp, kDisp_eq, kDisp2_eq, keyed_nil, keyed_S, keyed_I, w_Lc, kLc_eq, kLc2_eq, w_Il, kIl_eq, w_It, kIt_eq, w_Ir1, kIr1_eq, w_Ir2, kIr2_eq, w_Ie, kIe_eq, w_IeT, kIeT_eq, w_Yes, w_Seq, kSeq_nx, kSeq_bk, kSeq_ct, kSeq_rt, w_Nx, w_Bk, w_Ct, w_RetN, w_Ret, kRet_eq, w_Drop, kDrop_eq, w_IfS, kIfS_eq, w_Frz, w_Set, kSet_eq, w_SetO, kSetO_eq, w_Aft, kAft_eq, w_Asg, kAsg_eq, kAsg2_eq, w_For, kFor_eq, w_While, w_Put, kPut_eq, kPut2_own, kPut2_ref, kPutR_eq, w_Own, w_OwnE, w_OwnS, kOwn_eq, kOwnE_eq, kOwnS_eq, w_Fn, kFn_nx, kFn_rt, kLoop_nx, kLoop_ct, kLoop_bk, kLoop_rt, w_Ir3, kIr3_eq, w_Lrg, kLrg_eq, w_AppPop, kApp0_eq, w_Never, w_Irv, kIrv_eq, w_Star, kStar_tup, kStar_lst, kStar2_eq, o_addI, o_addS, o_addT, o_addL, o_sub, o_fdiv, o_mod, o_pow, o_shl, o_shr, o_and, o_or, o_mul, o_lt, o_le, o_gt, o_ge, lt_eq, le_eq, gt_eq, ge_eq, o_neg, o_nob, o_eqI, o_eqS, o_neI, o_neS, eqo_int, ixS_tup, ixS_lst, ixS_dic, ixS_ref0, ixS_ref1, ixo_tup, ixo_lst, ixo_dicI, ixo_dicS, atI_0, atI_1, atI_2, atI_3, atI_4, atI_5, atI_6, atI_7, atI_8, pr_0, pr_1, pr_2, pr_3, po_dicI, po_dicS, app_eq, ext_eq, isL_eq, isD_eq, DisL_eq, o_lenL, o_lenT, o_lenD, o_lenS, o_toI, o_abs, o_strI, o_max2, o_min2, o_toT, o_toTT, o_toL, o_toLT, o_sloT, o_sloL, o_sloS, g_Nm, g_Tu, g_Cons, g_Nil, own_val, own_no, merge_new, dGet_cons, dGet_nil, dGet2_S, dGet2_I, o_sset, o_ssetI, o_toIb, fl_int, fl_bl, fl_str, fl_non, isNon_non, isNon_int, isNon_tup, o_inI, o_ninI, o_ninE, o_mkRng, isNon_bl, o_eqB, List.getElem?_cons_zero, List.getElem?_cons_succ, List.set_cons_zero, List.set_cons_succ, List.length_cons, List.length_nil, List.map_cons, List.map_nil, List.cons_append, List.nil_append, List.replicate_succ, List.replicate_zero, if_true, if_false, decide_eq_true_eq, decide_eq_false_iff_not, Bool.false_eq_true, and_true, true_and, Bool.not_true, Bool.not_false, reduceIte, Option.bind_some, Option.map_some, Option.getD_some, Option.getD_none, Sum.inr.injEq, Sum.inl.injEq, Nat.reduceAdd, Nat.reduceSub, Nat.reduceLeDiff, Nat.reduceLT, Nat.reduceEqDiff, reduceCtorEq, Int.reduceLT, Int.reduceLE, Int.reduceEq, Int.reduceAdd, Int.reduceSub, Int.reduceMul, Int.reduceNeg, Int.cast_ofNat_Int, Int.natCast_zero, Int.reduceToNat, Int.reducePow, or_true, true_or, String.reduceEq, decide_true, decide_false, Bool.not_eq_true', Bool.not_eq_false', List.all_cons, List.all_nil, Bool.and_true, Bool.true_and, Bool.true_or, Bool.or_true, wipeS, startS])
abbrev n_days_of : List Str := ["film", "calendar", "scene", "days", "day"]
def m_days_of : MS :=
  (mSeq (mSet 3 (mBi (on1 D.mkRng) (mCons (mBi (on1 D.len) (mCons (mIx (mVar 1) (mC (.int 0))) mNil)) mNil)))
  (mRet (mBi (on1 D.toTup) (mCons (mOfO (oLc false (mIrv (mVar 3)) (gNm 4) (mTru (mCall F__can_be_shot (mCons (mVar 0) (mCons (mVar 1) (mCons (mVar 2) (mCons (mVar 4) mNil)))))) (mVar 4) [4])) mNil))))
def F_days_of : FD := fnF n_days_of m_days_of
abbrev n__first_day : List Str := ["days", "bounds", "least", "day"]
def m__first_day_b1 : MS :=
  (mIfS (mTst (mBin D.ge (mVar 3) (mVar 2))) (mRet (mVar 3)) mNx)
def m__first_day : MS :=
  (mSeq (mIfS (mTst (mBin D.ino (mC .non) (mVar 1))) (mRet (mC .non)) mNx)
  (mSeq (mSet 2 (mBin D.maxDf (mVar 1) (mC (.int 0))))
  (mSeq (mFor (mIt (mVar 0)) (gNm 3) (m__first_day_b1))
  (mRet (mC .non)))))
def F__first_day : FD := fnF n__first_day m__first_day
theorem lim_0 : lim62 0 = true := lim_small (by decide) (by decide)
/-- range(n) kept under a name: the kernel must not compute its limit -/
def mMkR (m : ME) : ME := mBi (on1 D.mkRng) (mCons m mNil)
def kMkR (P : D × List O → Prop) : D × List O → Prop := fun x => match x.1 with
  | .int j => lim62 j = true ∧ P (.rng 0 j, x.2)
  | _ => False
theorem mkR_aux {d : D} {S : List O} {P : D × List O → Prop} : kO (D.mkRng d) S P = kMkR P (d, S) := by
  cases d <;> try (with_unfolding_all rfl)
  rw [o_mkRng]
  rfl
theorem w_MkR {m : ME} {sg : List Sl} {S : List O} {P : D × List O → Prop} {E : EP'} : Wp (mMkR m sg S) P E = Wp (m sg S) (kMkR P) E := by
  unfold mMkR
  rw [w_Bi, w_Cons]
  congr 1
  funext x
  rw [← mkR_aux]
  rw [kCons_eq, w_Nil, kCons2_eq, kBi_eq, on1_eq]
theorem kMkR_eq {j : Int} {S : List O} {P : D × List O → Prop} : kMkR P (.int j, S) = (lim62 j = true ∧ P (.rng 0 j, S)) := by with_unfolding_all rfl
theorem m_days_of_eq : m_days_of = (mSeq (mSet 3 (mMkR (mBi (on1 D.len) (mCons (mIx (mVar 1) (mC (.int 0))) mNil))))
  (mRet (mBi (on1 D.toTup) (mCons (mOfO (oLc false (mIrv (mVar 3)) (gNm 4) (mTru (mCall F__can_be_shot (mCons (mVar 0) (mCons (mVar 1) (mCons (mVar 2) (mCons (mVar 4) mNil)))))) (mVar 4) [4])) mNil)))) := rfl
local macro_rules | `(tactic| walk_at "zv") => `(tactic| simp (decide := true) only [lim_0, w_MkR, kMkR_eq, row_0, row_1, row_2, scn_1, scn_3, scn_5, flm_0, flm_1, flm_2, flm_3, flm_4, cal_0, cal_1, cal_2, o_eqN, o_inNT, o_ninNT, o_ninNL, kO_some, w_C, w_Var, w_VarW, kVar_val, kVarW_val, kVarW_lst, kVarW_dic, w_Flat, kFlat_eq, w_Bin, kBin_eq, kBin2_eq, w_Un, kUn_eq, w_Tup, kTup_eq, w_Lst, kLst_eq, w_Nil, w_Cons, kCons_eq, kCons2_eq, w_And, kAnd_eq, w_Or, kOr_eq, w_Tst, kTst_eq, w_Tru, kTru_bl, kTru_int, kTru_tup, kTru_lst, kTru_non, w_NotT, kNotT_eq, w_AndT, kAndT_eq, w_OrT, kOrT_eq, w_IsN, kIsN_eq, w_If, kIf_eq, w_Chain, kCh1_eq, kCh2_eq, kCh3_eq, w_Bi, kBi_eq, on1_eq, on2_eq, w_Meth, kMeth_eq, kMeth2_eq, w_Ix, kIx_eq, kIx2_eq, w_Get2, kGet1_eq, kGet2_eq, kGet3_eq, w_NoP, w_Part, kPart_eq, w_Sl, kSl1_eq, kSl2_eq, kSl3_eq, w_Call, kCall_eq, w_CallP, kCallP_eq, w_OfO, kOfO_eq, toD_lst, toD_dic, w_LstO, kLstO_eq, w_DicO, w_Rep, kRep_eq, kRep2_eq, w_Pn, w_Pc, kPc1_eq, kPc2_eq, kPc3_eq, w_Disp, kDisp_eq, kDisp2_eq, keyed_nil, keyed_S, keyed_I, w_Lc, kLc_eq, kLc2_eq, w_Il, kIl_eq, w_It, kIt_eq, w_Ir1, kIr1_eq, w_Ir2, kIr2_eq, w_Ie, kIe_eq, w_IeT, kIeT_eq, w_Yes, w_Seq, kSeq_nx, kSeq_bk, kSeq_ct, kSeq_rt, w_Nx, w_Bk, w_Ct, w_RetN, w_Ret, kRet_eq, w_Drop, kDrop_eq, w_IfS, kIfS_eq, w_Frz, w_Set, kSet_eq, w_SetO, kSetO_eq, w_Aft, kAft_eq, w_Asg, kAsg_eq, kAsg2_eq, w_For, kFor_eq, w_While, w_Put, kPut_eq, kPut2_own, kPut2_ref, kPutR_eq, w_Own, w_OwnE, w_OwnS, kOwn_eq, kOwnE_eq, kOwnS_eq, w_Fn, kFn_nx, kFn_rt, kLoop_nx, kLoop_ct, kLoop_bk, kLoop_rt, w_Ir3, kIr3_eq, w_Lrg, kLrg_eq, w_AppPop, kApp0_eq, w_Never, w_Irv, kIrv_eq, w_Star, kStar_tup, kStar_lst, kStar2_eq, o_addI, o_addS, o_addT, o_addL, o_sub, o_fdiv, o_mod, o_pow, o_shl, o_shr, o_and, o_or, o_mul, o_lt, o_le, o_gt, o_ge, lt_eq, le_eq, gt_eq, ge_eq, o_neg, o_nob, o_eqI, o_eqS, o_neI, o_neS, eqo_int, ixS_tup, ixS_lst, ixS_dic, ixS_ref0, ixS_ref1, ixo_tup, ixo_lst, ixo_dicI, ixo_dicS, atI_0, atI_1, atI_2, atI_3, atI_4, atI_5, atI_6, atI_7, atI_8, pr_0, pr_1, pr_2, pr_3, po_dicI, po_dicS, app_eq, ext_eq, isL_eq, isD_eq, DisL_eq, o_lenL, o_lenT, o_lenD, o_lenS, o_toI, o_abs, o_strI, o_max2, o_min2, o_toT, o_toTT, o_toL, o_toLT, o_sloT, o_sloL, o_sloS, g_Nm, g_Tu, g_Cons, g_Nil, own_val, own_no, merge_new, dGet_cons, dGet_nil, dGet2_S, dGet2_I, o_sset, o_ssetI, o_toIb, fl_int, fl_bl, fl_str, fl_non, isNon_non, isNon_int, isNon_tup, o_inI, o_ninI, o_ninE, o_mkRng, isNon_bl, o_eqB, List.getElem?_cons_zero, List.getElem?_cons_succ, List.set_cons_zero, List.set_cons_succ, List.length_cons, List.length_nil, List.map_cons, List.map_nil, List.cons_append, List.nil_append, List.replicate_succ, List.replicate_zero, if_true, if_false, decide_eq_true_eq, decide_eq_false_iff_not, Bool.false_eq_true, and_true, true_and, Bool.not_true, Bool.not_false, reduceIte, Option.bind_some, Option.map_some, Option.getD_some, Option.getD_none, Sum.inr.injEq, Sum.inl.injEq, Nat.reduceAdd, Nat.reduceSub, Nat.reduceLeDiff, Nat.reduceLT, Nat.reduceEqDiff, reduceCtorEq, Int.reduceLT, Int.reduceLE, Int.reduceEq, Int.reduceAdd, Int.reduceSub, Int.reduceMul, Int.reduceNeg, Int.cast_ofNat_Int, Int.natCast_zero, Int.reduceToNat, Int.reducePow, or_true, true_or, String.reduceEq, decide_true, decide_false, Bool.not_eq_true', Bool.not_eq_false', List.all_cons, List.all_nil, Bool.and_true, Bool.true_and, Bool.true_or, Bool.or_true, wipeS, startS])
def daysF (c : Cal) (s : Scene) : List Nat := (List.range c.lights.length).filter fun d => canB c s d
theorem daysF_ok {c : Cal} {s : Scene} : DaysOk c.lights.length (daysF c s) := by
  constructor
  · exact List.pairwise_lt_range.filter _
  · intro x hx
    exact List.mem_range.mp (List.mem_filter.mp hx).1
theorem daysF_len {c : Cal} {s : Scene} : (daysF c s).length ≤ c.lights.length := by
  have := List.length_filter_le (fun d => canB c s d) (List.range c.lights.length)
  rwa [List.length_range] at this
theorem days_of_eq {f : Film} {c : Cal} {k : Nat} {S : List O} (h1 : Win3 c.aw) (h2 : Win3 c.cl) (hk : k < f.scenes.length) (hb : c.lights.length < 1000) : F_days_of [f.d, c.d, nD k] S = .ok (.tup ((daysF c f.scenes[k]).map nD), S) := by
  refine wp_is ?_
  unfold F_days_of
  rw [m_days_of_eq]
  (try walk_at "zv")
  rw [List.length_map]
  refine ⟨lim_small (by omega) (by omega), ?_⟩
  (try walk_at "zv")
  refine ⟨lim_small (by omega) (by omega), ?_⟩
  rw [show ((c.lights.length : Int) - 0).toNat = c.lights.length by omega, rng_nD]
  rw [wp_eq (lc_pure (en := nD) (p := fun d => canB c f.scenes[k] d) (f := nD) (xs := List.range c.lights.length) fun d hd => ⟨_, rfl, wp_is (by
    (try walk_at "zv")
    rw [wp_eq (can_eq h1 h2 hk (List.mem_range.mp hd))]
    (try walk_at "zv")), fun _ => wp_is (by (try walk_at "zv"))⟩)]
  (try walk_at "zv")
  rw [List.length_map, List.length_range]
  exact ⟨by omega, rfl⟩
/-! ### first days -/
def vD (many v : Nat) : D := if v < many then nD v else .non
theorem vD_flat {many v : Nat} : (vD many v).flat = true := by
  unfold vD
  split <;> rfl
theorem okqA_vD (many n : Nat) : ∀ vs : List Nat, D.okqA (vs.map (vD many)) n = true
  | [] => rfl
  | x :: vs => by
    rw [List.map_cons, D.okqA, okqA_vD many n vs]
    unfold vD
    split <;> (cases n <;> rfl)
theorem eqv_vN {many v : Nat} : D.eqv (vD many v) .non = decide (many ≤ v) := by
  unfold vD
  by_cases h : v < many
  · have h2 : ¬ many ≤ v := by omega
    rw [if_pos h]
    simp [h2, nD, D.eqv, D.pd, PyData.eqv]
  · have h2 : many ≤ v := by omega
    rw [if_neg h]
    simp [h2, D.eqv, D.pd, PyData.eqv]
theorem any_vN (many : Nat) : ∀ vs : List Nat, ((vs.map (vD many)).any fun y => D.eqv y .non) = vs.any fun v => decide (many ≤ v)
  | [] => rfl
  | x :: vs => by rw [List.map_cons, List.any_cons, any_vN many vs, eqv_vN, List.any_cons]
theorem o_inV {many : Nat} {vs : List Nat} {S : List O} {P : D × List O → Prop} : kO (D.ino .non (.lst (vs.map (vD many)))) S P = P (.bl (vs.any fun v => decide (many ≤ v)), S) := by
  have h1 : D.okq .non 50 = true := rfl
  simp only [D.ino, D.inB, h1, if_true, okqA_vD, any_vN]
  rfl
theorem o_maxV {vs : List Nat} {S : List O} {P : D × List O → Prop} : kO (D.maxDf (.lst (vs.map nD)) (.int 0)) S P = P (nD (bigN vs), S) := by
  have e : D.maxDf (.lst (vs.map nD)) (.int 0) = some (nD (bigN vs)) := by
    cases vs with
    | nil => rfl
    | cons a l =>
      have h1 := ints_nD (a :: l)
      have h2 := maxI_bigN (l := a :: l) (by simp)
      unfold D.maxDf
      simp only []
      rw [h1]
      simp only [List.map_cons]
      rw [List.map_cons] at h2
      rw [h2]
      rfl
  rw [e, kO_some]
theorem o_geN {i j : Nat} {S : List O} {P : D × List O → Prop} : kO (D.ge (nD i) (nD j)) S P = P (.bl (decide (j ≤ i)), S) := by
  have : decide (((j : Nat) : Int) ≤ (i : Int)) = decide (j ≤ i) := by
    by_cases h : j ≤ i <;> simp [h]
  rw [← this]
  rfl
theorem firstF_none {many b : Nat} : ∀ {l : List Nat}, DaysOk many l → many ≤ b → firstF many l b = many
  | [], _, _ => rfl
  | a :: l, h, hb => by
    have := h.2 a List.mem_cons_self
    rw [firstF_cons, if_neg (by omega)]
    exact firstF_none h.tl hb
local macro_rules | `(tactic| walk_at "xv") => `(tactic| simp (decide := true) only [o_eqN, o_inNT, o_ninNT, o_ninNL, o_inV, o_maxV, o_geN, kO_some, w_C, w_Var, w_VarW, kVar_val, kVarW_val, kVarW_lst, kVarW_dic, w_Flat, kFlat_eq, w_Bin, kBin_eq, kBin2_eq, w_Un, kUn_eq, w_Tup, kTup_eq, w_Lst, kLst_eq, w_Nil, w_Cons, kCons_eq, kCons2_eq, w_And, kAnd_eq, w_Or, kOr_eq, w_Tst, kTst_eq, w_Tru, kTru_bl, kTru_int, kTru_tup, kTru_lst, kTru_non, w_NotT, kNotT_eq, w_AndT, kAndT_eq, w_OrT, kOrT_eq, w_IsN, kIsN_eq, w_If, kIf_eq, w_Chain, kCh1_eq, kCh2_eq, kCh3_eq, w_Bi, kBi_eq, on1_eq, on2_eq, w_Meth, kMeth_eq, kMeth2_eq, w_Ix, kIx_eq, kIx2_eq, w_Get2, kGet1_eq, kGet2_eq, kGet3_eq, w_NoP, w_Part, kPart_eq, w_Sl, kSl1_eq, kSl2_eq, kSl3_eq, w_Call, kCall_eq, w_CallP, kCallP_eq, w_OfO, kOfO_eq, toD_lst, toD_dic, w_LstO, kLstO_eq, w_DicO, w_Rep, kRep_eq, kRep2_eq, w_Pn, w_Pc, kPc1_eq, kPc2_eq, kPc3_eq, w_Disp, kDisp_eq, kDisp2_eq, keyed_nil, keyed_S, keyed_I, w_Lc, kLc_eq, kLc2_eq, w_Il, kIl_eq, w_It, kIt_eq, w_Ir1, kIr1_eq, w_Ir2, kIr2_eq, w_Ie, kIe_eq, w_IeT, kIeT_eq, w_Yes, w_Seq, kSeq_nx, kSeq_bk, kSeq_ct, kSeq_rt, w_Nx, w_Bk, w_Ct, w_RetN, w_Ret, kRet_eq, w_Drop, kDrop_eq, w_IfS, kIfS_eq, w_Frz, w_Set, kSet_eq, w_SetO, kSetO_eq, w_Aft, kAft_eq, w_Asg, kAsg_eq, kAsg2_eq, w_For, kFor_eq, w_While, w_Put, kPut_eq, kPut2_own, kPut2_ref, kPutR_eq, w_Own, w_OwnE, w_OwnS, kOwn_eq, kOwnE_eq, kOwnS_eq, w_Fn, kFn_nx, kFn_rt, kLoop_nx, kLoop_ct, kLoop_bk, kLoop_rt, w_Ir3, kIr3_eq, w_Lrg, kLrg_eq, w_AppPop, kApp0_eq, w_Never, w_Irv, kIrv_eq, w_Star, kStar_tup, kStar_lst, kStar2_eq, o_addI, o_addS, o_addT, o_addL, o_sub, o_fdiv, o_mod, o_pow, o_shl, o_shr, o_and, o_or, o_mul, o_lt, o_le, o_gt, o_ge, lt_eq, le_eq, gt_eq, ge_eq, o_neg, o_nob, o_eqI, o_eqS, o_neI, o_neS, eqo_int, ixS_tup, ixS_lst, ixS_dic, ixS_ref0, ixS_ref1, ixo_tup, ixo_lst, ixo_dicI, ixo_dicS, atI_0, atI_1, atI_2, atI_3, atI_4, atI_5, atI_6, atI_7, atI_8, pr_0, pr_1, pr_2, pr_3, po_dicI, po_dicS, app_eq, ext_eq, isL_eq, isD_eq, DisL_eq, o_lenL, o_lenT, o_lenD, o_lenS, o_toI, o_abs, o_strI, o_max2, o_min2, o_toT, o_toTT, o_toL, o_toLT, o_sloT, o_sloL, o_sloS, g_Nm, g_Tu, g_Cons, g_Nil, own_val, own_no, merge_new, dGet_cons, dGet_nil, dGet2_S, dGet2_I, o_sset, o_ssetI, o_toIb, fl_int, fl_bl, fl_str, fl_non, isNon_non, isNon_int, isNon_tup, o_inI, o_ninI, o_ninE, o_mkRng, isNon_bl, o_eqB, List.getElem?_cons_zero, List.getElem?_cons_succ, List.set_cons_zero, List.set_cons_succ, List.length_cons, List.length_nil, List.map_cons, List.map_nil, List.cons_append, List.nil_append, List.replicate_succ, List.replicate_zero, if_true, if_false, decide_eq_true_eq, decide_eq_false_iff_not, Bool.false_eq_true, and_true, true_and, Bool.not_true, Bool.not_false, reduceIte, Option.bind_some, Option.map_some, Option.getD_some, Option.getD_none, Sum.inr.injEq, Sum.inl.injEq, Nat.reduceAdd, Nat.reduceSub, Nat.reduceLeDiff, Nat.reduceLT, Nat.reduceEqDiff, reduceCtorEq, Int.reduceLT, Int.reduceLE, Int.reduceEq, Int.reduceAdd, Int.reduceSub, Int.reduceMul, Int.reduceNeg, Int.cast_ofNat_Int, Int.natCast_zero, Int.reduceToNat, Int.reducePow, or_true, true_or, String.reduceEq, decide_true, decide_false, Bool.not_eq_true', Bool.not_eq_false', List.all_cons, List.all_nil, Bool.and_true, Bool.true_and, Bool.true_or, Bool.or_true, wipeS, startS])
theorem first_eq {many : Nat} {days vs : List Nat} {S : List O} (hd : DaysOk many days) : F__first_day [.tup (days.map nD), .lst (vs.map (vD many))] S = .ok (vD many (firstF many days (bigN vs)), S) := by
  refine wp_is ?_
  unfold F__first_day m__first_day
  (try walk_at "xv")
  cases ha : vs.any fun v => decide (many ≤ v) with
  | true =>
    (try walk_at "xv")
    obtain ⟨v, hv, hle⟩ := List.any_eq_true.mp ha
    have h1 := le_bigN hv
    have h2 : many ≤ v := of_decide_eq_true hle
    rw [firstF_none hd (by omega)]
    unfold vD
    rw [if_neg (by omega)]
  | false =>
    (try walk_at "xv")
    have e : vs.map (vD many) = vs.map nD := List.map_congr_left fun v hv => by
      have := List.any_eq_false.mp ha v hv
      unfold vD
      rw [if_pos (by simpa using this)]
    rw [e]
    (try walk_at "xv")
    generalize bigN vs = b
    refine Wp.loop (fun i sg S' => ∃ (x3 : Sl), sg = [.val (.tup (days.map nD)), .val (.lst (vs.map nD)), .val (nD b), x3] ∧ S' = S ∧ isOwn (some x3) = false ∧ firstF many days b = firstF many (days.drop i) b) ⟨.no, rfl, rfl, rfl, by rw [List.drop_zero]⟩ ?_ ?_
    · intro i dd sg S' hdd hI
      obtain ⟨x3, e1, e2, h3, g⟩ := hI
      subst e1 e2
      rw [List.getElem?_map] at hdd
      cases hii : days[i]? with
      | none => rw [hii] at hdd; cases hdd
      | some a =>
        rw [hii] at hdd
        cases hdd
        have hil : i < days.length := (List.getElem?_eq_some_iff.mp hii).1
        have hir : days[i] = a := (List.getElem?_eq_some_iff.mp hii).2
        rw [List.drop_eq_getElem_cons hil, hir, firstF_cons] at g
        refine ⟨_, gNm_ok h3, ?_⟩
        unfold m__first_day_b1
        (try walk_at "xv")
        by_cases c1 : b ≤ a
        · rw [if_pos c1] at g
          have ham := hd.2 a (List.mem_of_getElem? hii)
          rw [g]
          unfold vD
          rw [if_pos ham]
          simp [c1]
        · rw [if_neg c1] at g
          simp [c1]
          exact ⟨rfl, g⟩
    · intro sg S' hI
      obtain ⟨x3, e1, e2, h3, g⟩ := hI
      subst e1 e2
      rw [List.length_map, List.drop_length] at g
      (try walk_at "xv")
      rw [g, firstF_nil]
      unfold vD
      rw [if_neg (by omega)]

end Law

namespace Law
open PySem PySem.Spec PyProof.Rows L2 D2
local macro_rules | `(tactic| walk_at "ev") => `(tactic| simp (decide := true) only [kO_some, w_C, w_Var, w_VarW, kVar_val, kVarW_val, kVarW_lst, kVarW_dic, w_Flat, kFlat_eq, w_Bin, kBin_eq, kBin2_eq, w_Un, kUn_eq, w_Tup, kTup_eq, w_Lst, kLst_eq, w_Nil, w_Cons, kCons_eq, kCons2_eq, w_And, kAnd_eq, w_Or, kOr_eq, w_Tst, kTst_eq, w_Tru, kTru_bl, kTru_int, kTru_tup, kTru_lst, kTru_non, w_NotT, kNotT_eq, w_AndT, kAndT_eq, w_OrT, kOrT_eq, w_IsN, kIsN_eq, w_If, kIf_eq, w_Chain, kCh1_eq, kCh2_eq, kCh3_eq, w_Bi, kBi_eq, on1_eq, on2_eq, w_Meth, kMeth_eq, kMeth2_eq, w_Ix, kIx_eq, kIx2_eq, w_Get2, kGet1_eq, kGet2_eq, kGet3_eq, w_NoP, w_Part, kPart_eq, w_Sl, kSl1_eq, kSl2_eq, kSl3_eq, w_Call, kCall_eq, w_CallP, kCallP_eq, w_OfO, kOfO_eq, toD_lst, toD_dic, w_LstO, kLstO_eq, w_DicO, w_Rep, kRep_eq, kRep2_eq, w_Pn, w_Pc, kPc1_eq, kPc2_eq, kPc3_eq, w_Disp, kDisp_eq, kDisp2_eq, keyed_nil, keyed_S, keyed_I, w_Lc, kLc_eq, kLc2_eq, w_Il, kIl_eq, w_It, kIt_eq, w_Ir1, kIr1_eq, w_Ir2, kIr2_eq, w_Ie, kIe_eq, w_IeT, kIeT_eq, w_Yes, w_Seq, kSeq_nx, kSeq_bk, kSeq_ct, kSeq_rt, w_Nx, w_Bk, w_Ct, w_RetN, w_Ret, kRet_eq, w_Drop, kDrop_eq, w_IfS, kIfS_eq, w_Frz, w_Set, kSet_eq, w_SetO, kSetO_eq, w_Aft, kAft_eq, w_Asg, kAsg_eq, kAsg2_eq, w_For, kFor_eq, w_While, w_Put, kPut_eq, kPut2_own, kPut2_ref, kPutR_eq, w_Own, w_OwnE, w_OwnS, kOwn_eq, kOwnE_eq, kOwnS_eq, w_Fn, kFn_nx, kFn_rt, kLoop_nx, kLoop_ct, kLoop_bk, kLoop_rt, w_Ir3, kIr3_eq, w_Lrg, kLrg_eq, w_AppPop, kApp0_eq, w_Never, w_Irv, kIrv_eq, w_Star, kStar_tup, kStar_lst, kStar2_eq, o_addI, o_addS, o_addT, o_addL, o_sub, o_fdiv, o_mod, o_pow, o_shl, o_shr, o_and, o_or, o_mul, o_lt, o_le, o_gt, o_ge, lt_eq, le_eq, gt_eq, ge_eq, o_neg, o_nob, o_eqI, o_eqS, o_neI, o_neS, eqo_int, ixS_tup, ixS_lst, ixS_dic, ixS_ref0, ixS_ref1, ixo_tup, ixo_lst, ixo_dicI, ixo_dicS, atI_0, atI_1, atI_2, atI_3, atI_4, atI_5, atI_6, atI_7, atI_8, pr_0, pr_1, pr_2, pr_3, po_dicI, po_dicS, app_eq, ext_eq, isL_eq, isD_eq, DisL_eq, o_lenL, o_lenT, o_lenD, o_lenS, o_toI, o_abs, o_strI, o_max2, o_min2, o_toT, o_toTT, o_toL, o_toLT, o_sloT, o_sloL, o_sloS, g_Nm, g_Tu, g_Cons, g_Nil, own_val, own_no, merge_new, dGet_cons, dGet_nil, dGet2_S, dGet2_I, o_sset, o_ssetI, o_toIb, fl_int, fl_bl, fl_str, fl_non, isNon_non, isNon_int, isNon_tup, o_inI, o_ninI, o_ninE, o_mkRng, isNon_bl, o_eqB, List.getElem?_cons_zero, List.getElem?_cons_succ, List.set_cons_zero, List.set_cons_succ, List.length_cons, List.length_nil, List.map_cons, List.map_nil, List.cons_append, List.nil_append, List.replicate_succ, List.replicate_zero, if_true, if_false, decide_eq_true_eq, decide_eq_false_iff_not, Bool.false_eq_true, and_true, true_and, Bool.not_true, Bool.not_false, reduceIte, Option.bind_some, Option.map_some, Option.getD_some, Option.getD_none, Sum.inr.injEq, Sum.inl.injEq, Nat.reduceAdd, Nat.reduceSub, Nat.reduceLeDiff, Nat.reduceLT, Nat.reduceEqDiff, reduceCtorEq, Int.reduceLT, Int.reduceLE, Int.reduceEq, Int.reduceAdd, Int.reduceSub, Int.reduceMul, Int.reduceNeg, Int.cast_ofNat_Int, Int.natCast_zero, Int.reduceToNat, Int.reducePow, or_true, true_or, String.reduceEq, decide_true, decide_false, Bool.not_eq_true', Bool.not_eq_false', List.all_cons, List.all_nil, Bool.and_true, Bool.true_and, Bool.true_or, Bool.or_true, wipeS, startS])
abbrev n_earliest_days : List Str := ["film", "calendar", "earliest", "layer", "scene", "bounds", "other"]
def m_earliest_days_b1 : MS :=
  (mSeq (mAft 5 (mSetO 5 (oLc false (mIt (mCall F_ahead (mCons (mVar 0) (mCons (mVar 4) mNil)))) (gNm 6) mYes (mFlat (mIx (mVarW 2) (mVar 6))) [6])))
  (mPut 2 (mCall F__first_day (mCons (mCall F_days_of (mCons (mVar 0) (mCons (mVar 1) (mCons (mVar 4) mNil)))) (mCons (mVar 5) mNil))) (mVar 4)))
def m_earliest_days_b2 : MS :=
  (mFor (mIt (mVar 3)) (gNm 4) (m_earliest_days_b1))
def m_earliest_days : MS :=
  (mSeq (mSetO 2 oDic)
  (mSeq (mFor (mIt (mCall F_layers (mCons (mVar 0) mNil))) (gNm 3) (m_earliest_days_b2))
  (mFrz 2 (mRet (mBi (on1 D.toTup) (mCons (mOfO (oLc false (mIr1 (mCons (mBi (on1 D.len) (mCons (mIx (mVar 0) (mC (.int 2))) mNil)) mNil)) (gNm 4) mYes (mIx (mVar 2) (mVar 4)) [4])) mNil))))))
def F_earliest_days : FD := fnF n_earliest_days m_earliest_days
local macro_rules | `(tactic| walk_at "zv") => `(tactic| simp (decide := true) only [row_0, row_1, row_2, scn_1, scn_3, scn_5, flm_0, flm_1, flm_2, flm_3, flm_4, cal_0, cal_1, cal_2, o_eqN, o_inNT, o_ninNT, o_ninNL, kO_some, w_C, w_Var, w_VarW, kVar_val, kVarW_val, kVarW_lst, kVarW_dic, w_Flat, kFlat_eq, w_Bin, kBin_eq, kBin2_eq, w_Un, kUn_eq, w_Tup, kTup_eq, w_Lst, kLst_eq, w_Nil, w_Cons, kCons_eq, kCons2_eq, w_And, kAnd_eq, w_Or, kOr_eq, w_Tst, kTst_eq, w_Tru, kTru_bl, kTru_int, kTru_tup, kTru_lst, kTru_non, w_NotT, kNotT_eq, w_AndT, kAndT_eq, w_OrT, kOrT_eq, w_IsN, kIsN_eq, w_If, kIf_eq, w_Chain, kCh1_eq, kCh2_eq, kCh3_eq, w_Bi, kBi_eq, on1_eq, on2_eq, w_Meth, kMeth_eq, kMeth2_eq, w_Ix, kIx_eq, kIx2_eq, w_Get2, kGet1_eq, kGet2_eq, kGet3_eq, w_NoP, w_Part, kPart_eq, w_Sl, kSl1_eq, kSl2_eq, kSl3_eq, w_Call, kCall_eq, w_CallP, kCallP_eq, w_OfO, kOfO_eq, toD_lst, toD_dic, w_LstO, kLstO_eq, w_DicO, w_Rep, kRep_eq, kRep2_eq, w_Pn, w_Pc, kPc1_eq, kPc2_eq, kPc3_eq, w_Disp, kDisp_eq, kDisp2_eq, keyed_nil, keyed_S, keyed_I, w_Lc, kLc_eq, kLc2_eq, w_Il, kIl_eq, w_It, kIt_eq, w_Ir1, kIr1_eq, w_Ir2, kIr2_eq, w_Ie, kIe_eq, w_IeT, kIeT_eq, w_Yes, w_Seq, kSeq_nx, kSeq_bk, kSeq_ct, kSeq_rt, w_Nx, w_Bk, w_Ct, w_RetN, w_Ret, kRet_eq, w_Drop, kDrop_eq, w_IfS, kIfS_eq, w_Frz, w_Set, kSet_eq, w_SetO, kSetO_eq, w_Aft, kAft_eq, w_Asg, kAsg_eq, kAsg2_eq, w_For, kFor_eq, w_While, w_Put, kPut_eq, kPut2_own, kPut2_ref, kPutR_eq, w_Own, w_OwnE, w_OwnS, kOwn_eq, kOwnE_eq, kOwnS_eq, w_Fn, kFn_nx, kFn_rt, kLoop_nx, kLoop_ct, kLoop_bk, kLoop_rt, w_Ir3, kIr3_eq, w_Lrg, kLrg_eq, w_AppPop, kApp0_eq, w_Never, w_Irv, kIrv_eq, w_Star, kStar_tup, kStar_lst, kStar2_eq, o_addI, o_addS, o_addT, o_addL, o_sub, o_fdiv, o_mod, o_pow, o_shl, o_shr, o_and, o_or, o_mul, o_lt, o_le, o_gt, o_ge, lt_eq, le_eq, gt_eq, ge_eq, o_neg, o_nob, o_eqI, o_eqS, o_neI, o_neS, eqo_int, ixS_tup, ixS_lst, ixS_dic, ixS_ref0, ixS_ref1, ixo_tup, ixo_lst, ixo_dicI, ixo_dicS, atI_0, atI_1, atI_2, atI_3, atI_4, atI_5, atI_6, atI_7, atI_8, pr_0, pr_1, pr_2, pr_3, po_dicI, po_dicS, app_eq, ext_eq, isL_eq, isD_eq, DisL_eq, o_lenL, o_lenT, o_lenD, o_lenS, o_toI, o_abs, o_strI, o_max2, o_min2, o_toT, o_toTT, o_toL, o_toLT, o_sloT, o_sloL, o_sloS, g_Nm, g_Tu, g_Cons, g_Nil, own_val, own_no, merge_new, dGet_cons, dGet_nil, dGet2_S, dGet2_I, o_sset, o_ssetI, o_toIb, fl_int, fl_bl, fl_str, fl_non, isNon_non, isNon_int, isNon_tup, o_inI, o_ninI, o_ninE, o_mkRng, isNon_bl, o_eqB, List.getElem?_cons_zero, List.getElem?_cons_succ, List.set_cons_zero, List.set_cons_succ, List.length_cons, List.length_nil, List.map_cons, List.map_nil, List.cons_append, List.nil_append, List.replicate_succ, List.replicate_zero, if_true, if_false, decide_eq_true_eq, decide_eq_false_iff_not, Bool.false_eq_true, and_true, true_and, Bool.not_true, Bool.not_false, reduceIte, Option.bind_some, Option.map_some, Option.getD_some, Option.getD_none, Sum.inr.injEq, Sum.inl.injEq, Nat.reduceAdd, Nat.reduceSub, Nat.reduceLeDiff, Nat.reduceLT, Nat.reduceEqDiff, reduceCtorEq, Int.reduceLT, Int.reduceLE, Int.reduceEq, Int.reduceAdd, Int.reduceSub, Int.reduceMul, Int.reduceNeg, Int.cast_ofNat_Int, Int.natCast_zero, Int.reduceToNat, Int.reducePow, or_true, true_or, String.reduceEq, decide_true, decide_false, Bool.not_eq_true', Bool.not_eq_false', List.all_cons, List.all_nil, Bool.and_true, Bool.true_and, Bool.true_or, Bool.or_true, wipeS, startS])
/-! ### the dict of the earliest days -/
def kN (k : Nat) : Key := .inl (k : Int)
theorem kN_inj {a b : Nat} (h : kN a = kN b) : a = b := by
  unfold kN at h
  have : (a : Int) = (b : Int) := Sum.inl.inj h
  omega
theorem get_nD {g : Nat → D} {x : Nat} : ∀ {pl : List Nat}, x ∈ pl → dicGet (pl.map kN) (pl.map g) (kN x) = some (g x)
  | [], h => by cases h
  | a :: pl, h => by
    rw [List.map_cons, List.map_cons, dGet_cons]
    by_cases c : a = x
    · subst c
      exact if_pos rfl
    · rw [if_neg (fun e => c (kN_inj e))]
      rcases List.mem_cons.mp h with e | h
      · exact absurd e.symm c
      · exact get_nD h
theorem ix_nD {g : Nat → D} {x : Nat} {pl : List Nat} {S : List O} {P : D × List O → Prop} (h : x ∈ pl) : kO (D.ixo (.dic (pl.map kN) (pl.map g)) (nD x)) S P = P (g x, S) := kO_eq (get_nD h)
theorem put_nD {g : Nat → D} {x i : Nat} {pl : List Nat} {sg : List Sl} {S : List O} {Ps : Fl × List Sl × List O → Prop} (h : x ∉ pl) :
    kPutO i (.dic (pl.map kN) (pl.map g)) sg (g x) Ps (nD x, S) = (pl.length < 16777216 ∧ Ps (.nx, sg.set i (.own (.dic ((pl ++ [x]).map kN) ((pl ++ [x]).map g))), S)) := by
  have e := po_dicI (i := i) (ks := pl.map kN) (ds := pl.map g) (k := (x : Int)) (sg := sg) (d := g x) (Ps := Ps) (S := S)
  have hk : ((pl.map kN).any fun j => decide (j = .inl (x : Int))) = false := by
    rw [List.any_eq_false]
    intro j hj
    obtain ⟨y, hy, rfl⟩ := List.mem_map.mp hj
    have : kN y ≠ kN x := fun e => h (kN_inj e ▸ hy)
    exact fun e => this (of_decide_eq_true e)
  have ep : dicPut (pl.map kN) (pl.map g) (.inl (x : Int)) (g x) = ((pl ++ [x]).map kN, (pl ++ [x]).map g) := by
    unfold dicPut
    rw [hk, List.map_append, List.map_append]
    rfl
  rw [ep, List.length_map] at e
  exact e
def rowsF (f : Film) (c : Cal) (s : Nat) : List Nat := match f.scenes[s]? with
  | some sc => daysF c sc
  | none => []
theorem rowsF_ok {f : Film} {c : Cal} (s : Nat) : DaysOk c.lights.length (rowsF f c s) := by
  unfold rowsF
  split
  · exact daysF_ok
  · exact ⟨List.Pairwise.nil, fun x hx => by cases hx⟩
theorem rowsF_at {f : Film} {c : Cal} {s : Nat} (h : s < f.scenes.length) : rowsF f c s = daysF c f.scenes[s] := by
  unfold rowsF
  rw [List.getElem?_eq_getElem h]
def VF (f : Film) (c : Cal) (s : Nat) : Nat := Vd c.lights.length f.orders (rowsF f c) s
def gF (f : Film) (c : Cal) (s : Nat) : D := vD c.lights.length (VF f c s)
theorem led_in {os : List (Nat × Nat)} {n : Nat} {A B : List (List Nat)} {L : List Nat} (h : LayOk os n (A ++ L :: B)) {s : Nat} (hs : s ∈ L) {x : Nat} (hl : Led (os.map fun p => (p.2, p.1)) s x) : x ∈ A.flatten := by
  induction hl with
  | one hx =>
    obtain ⟨⟨a, b⟩, hp, e⟩ := List.mem_map.mp hx
    cases e
    exact h.pre A L B rfl _ hs _ hp
  | more _ hx ih =>
    obtain ⟨⟨a, b⟩, hp, e⟩ := List.mem_map.mp hx
    cases e
    obtain ⟨L2, hL2, hb⟩ := List.mem_flatten.mp ih
    obtain ⟨A1, A2, rfl⟩ := List.append_of_mem hL2
    have := h.pre A1 L2 (A2 ++ L :: B) (by simp) _ hb _ hp
    rw [List.flatten_append]
    exact List.mem_append_left _ this
/-- one scene -/
theorem early_b1 {f : Film} {c : Cal} {most : Nat} (hf : FilmOk most f) (hm : most < 13) (h1 : Win3 c.aw) (h2 : Win3 c.cl) (hb : c.lights.length < 1000) {s : Nat} (hs : s < f.scenes.length) {pl : List Nat} (hp : pl.length < 1000) (hn : s ∉ pl)
    (hin : ∀ x, Led (f.orders.map fun p => (p.2, p.1)) s x → x ∈ pl) {x3 x5 x6 : Sl} {S : List O} (h6 : isOwn (some x6) = false) :
    Wp (m_earliest_days_b1 [.val f.d, .val c.d, .own (.dic (pl.map kN) (pl.map (gF f c))), x3, .val (nD s), x5, x6] S)
      (fun y => y.1 = .nx ∧ ∃ x5, y.2.1 = [.val f.d, .val c.d, .own (.dic ((pl ++ [s]).map kN) ((pl ++ [s]).map (gF f c))), x3, .val (nD s), x5, x6] ∧ y.2.2 = S) noE := by
  have hup : Up f.orders := fun p hp => (hf.od p hp).1
  unfold m_earliest_days_b1
  (try walk_at "zv")
  refine (ahead_ok hf hm hs).imp ?_
  rintro _ ⟨L, rfl, hl1, hl2, hl3⟩
  (try walk_at "zv")
  rw [List.length_map]
  refine ⟨by have := hf.ns; omega, h6, ?_⟩
  have hc : ∀ x ∈ L, x ∈ pl := fun x hx => hin x (hl3 x hx).1
  rw [wp_eq (lc_pure (en := nD) (p := fun _ => true) (f := gF f c) (xs := L) fun x hx => ⟨_, rfl, rfl, fun _ => wp_is (by
    (try walk_at "zv")
    rw [ix_nD (hc x hx)]
    (try walk_at "zv")
    exact vD_flat)⟩)]
  rw [List.filter_eq_self.mpr fun _ _ => rfl]
  (try walk_at "zv")
  try simp only [frz, List.getElem?_cons_succ, List.getElem?_cons_zero, List.set_cons_succ, List.set_cons_zero, toD_lst]
  (try walk_at "zv")
  rw [wp_eq (days_of_eq h1 h2 hs hb)]
  (try walk_at "zv")
  have e : L.map (gF f c) = (L.map (VF f c)).map (vD c.lights.length) := by rw [List.map_map]; rfl
  rw [e, ← rowsF_at hs, wp_eq (first_eq (rowsF_ok s))]
  have ev : firstF c.lights.length (rowsF f c s) (bigN (L.map (VF f c))) = VF f c s := by
    have a1 := V_ahead (many := c.lights.length) (R := rowsF f c) hup (fun s => rowsF_ok s) hl2 fun x hx => (hl3 x hx).1
    have a2 := V_eq (many := c.lights.length) (R := rowsF f c) hup s
    unfold VF
    rw [a2]
    show firstF _ _ (bigN (L.map (Vd c.lights.length f.orders (rowsF f c)))) = _
    rw [a1]
  rw [ev]
  (try walk_at "zv")
  rw [show vD c.lights.length (VF f c s) = gF f c s from rfl]
  rw [put_nD hn]
  exact ⟨by omega, rfl, _, rfl, rfl⟩
/-- one layer -/
theorem early_b2 {f : Film} {c : Cal} {most : Nat} (hf : FilmOk most f) (hm : most < 13) (h1 : Win3 c.aw) (h2 : Win3 c.cl) (hb : c.lights.length < 1000) {A B : List (List Nat)} {L : List Nat} (hl : LayOk f.orders f.scenes.length (A ++ L :: B)) {x4 x5 x6 : Sl} {S : List O} (h4 : isOwn (some x4) = false) (h6 : isOwn (some x6) = false) :
    Wp (m_earliest_days_b2 [.val f.d, .val c.d, .own (.dic (A.flatten.map kN) (A.flatten.map (gF f c))), .val (.tup (L.map nD)), x4, x5, x6] S)
      (fun y => y.1 = .nx ∧ ∃ x4 x5, y.2.1 = [.val f.d, .val c.d, .own (.dic ((A.flatten ++ L).map kN) ((A.flatten ++ L).map (gF f c))), .val (.tup (L.map nD)), x4, x5, x6] ∧ y.2.2 = S ∧ isOwn (some x4) = false) noE := by
  have hns := hf.ns
  have hnd := hl.nd
  have hlt := hl.lt
  have hlen := nodup_len hnd hlt
  have ef : (A ++ L :: B).flatten = A.flatten ++ (L ++ B.flatten) := by simp
  rw [ef] at hnd hlt hlen
  rw [List.length_append, List.length_append] at hlen
  unfold m_earliest_days_b2
  (try walk_at "zv")
  refine Wp.loop (fun i sg S' => ∃ (x4 x5 : Sl), sg = [.val f.d, .val c.d, .own (.dic ((A.flatten ++ L.take i).map kN) ((A.flatten ++ L.take i).map (gF f c))), .val (.tup (L.map nD)), x4, x5, x6] ∧ S' = S ∧ isOwn (some x4) = false) ⟨x4, x5, by simp, rfl, h4⟩ ?_ ?_
  · intro i dd sg S' hdd hI
    obtain ⟨x4, x5, e1, e2, h4⟩ := hI
    subst e1 e2
    rw [List.getElem?_map] at hdd
    cases hii : L[i]? with
    | none => rw [hii] at hdd; cases hdd
    | some s =>
      rw [hii] at hdd
      cases hdd
      have hil : i < L.length := (List.getElem?_eq_some_iff.mp hii).1
      have hsL : s ∈ L := List.mem_of_getElem? hii
      have etk : L.take (i + 1) = L.take i ++ [s] := by rw [List.take_succ, hii]; rfl
      have hs : s < f.scenes.length := hlt s (List.mem_append_right _ (List.mem_append_left _ hsL))
      have hnin : s ∉ A.flatten ++ L.take i := by
        have e2 : L = L.take i ++ (s :: L.drop (i + 1)) := by
          have := List.take_append_drop i L
          rw [List.drop_eq_getElem_cons hil, (List.getElem?_eq_some_iff.mp hii).2] at this
          exact this.symm
        rw [e2] at hnd
        intro hm2
        rw [← List.append_assoc, ← List.append_assoc, List.append_assoc, List.nodup_append] at hnd
        exact hnd.2.2 s hm2 s (by simp) rfl
      refine ⟨_, gNm_ok h4, ?_⟩
      simp only [List.set_cons_succ, List.set_cons_zero]
      refine (early_b1 hf hm h1 h2 hb hs (by rw [List.length_append, List.length_take]; omega) hnin (fun x hx => List.mem_append_left _ (led_in hl hsL hx)) h6).imp ?_
      rintro ⟨fl, sg, S2⟩ ⟨e0, x5, e1, e2⟩
      simp only [] at e0 e1 e2
      subst e0 e1 e2
      rw [kLoop_nx, etk, ← List.append_assoc]
      exact ⟨_, x5, rfl, rfl, rfl⟩
  · intro sg S' hI
    obtain ⟨x4, x5, e1, e2, h4⟩ := hI
    subst e1 e2
    rw [List.length_map, List.take_length]
    exact ⟨rfl, x4, x5, rfl, rfl, h4⟩
theorem earliest_eq {f : Film} {c : Cal} {most : Nat} (hf : FilmOk most f) (hm : most < 13) (h1 : Win3 c.aw) (h2 : Win3 c.cl) (hb : c.lights.length < 1000) {S : List O} :
    Wp (F_earliest_days [f.d, c.d] S) (fun y => y = (.tup ((List.range f.scenes.length).map (gF f c)), S)) noE := by
  have hns := hf.ns
  unfold F_earliest_days m_earliest_days
  (try walk_at "zv")
  refine (layers_ok hf hm).imp ?_
  rintro _ ⟨told, rfl, hl, hall⟩
  (try walk_at "zv")
  refine Wp.loop (fun i sg S' => ∃ (x3 x4 x5 : Sl), sg = [.val f.d, .val c.d, .own (.dic ((told.take i).flatten.map kN) ((told.take i).flatten.map (gF f c))), x3, x4, x5, .no] ∧ S' = S ∧ isOwn (some x3) = false ∧ isOwn (some x4) = false) ⟨.no, .no, .no, rfl, rfl, rfl, rfl⟩ ?_ ?_
  · intro i dd sg S' hdd hI
    obtain ⟨x3, x4, x5, e1, e2, h3, h4⟩ := hI
    subst e1 e2
    rw [List.getElem?_map] at hdd
    cases hii : told[i]? with
    | none => rw [hii] at hdd; cases hdd
    | some L =>
      rw [hii] at hdd
      cases hdd
      have hil : i < told.length := (List.getElem?_eq_some_iff.mp hii).1
      have etk : told.take (i + 1) = told.take i ++ [L] := by rw [List.take_succ, hii]; rfl
      have et : told = told.take i ++ L :: told.drop (i + 1) := by
        have := List.take_append_drop i told
        rw [List.drop_eq_getElem_cons hil, (List.getElem?_eq_some_iff.mp hii).2] at this
        exact this.symm
      refine ⟨_, gNm_ok h3, ?_⟩
      simp only [List.set_cons_succ, List.set_cons_zero]
      have hl2 : LayOk f.orders f.scenes.length (told.take i ++ L :: told.drop (i + 1)) := et ▸ hl
      refine (early_b2 hf hm h1 h2 hb hl2 h4 rfl).imp ?_
      rintro ⟨fl, sg, S2⟩ ⟨e0, x4, x5, e1, e2, h4⟩
      simp only [] at e0 e1 e2
      subst e0 e1 e2
      have ef : (told.take i ++ [L]).flatten = (told.take i).flatten ++ L := by simp
      rw [kLoop_nx, etk, ef]
      exact ⟨_, x4, x5, rfl, rfl, rfl, h4⟩
  · intro sg S' hI
    obtain ⟨x3, x4, x5, e1, e2, h3, h4⟩ := hI
    subst e1 e2
    rw [List.length_map, List.take_length]
    (try walk_at "zv")
    try simp only [frz, List.getElem?_cons_succ, List.getElem?_cons_zero, List.set_cons_succ, List.set_cons_zero, toD_lst]
    (try walk_at "zv")
    rw [List.length_map]
    refine ⟨lim_small (by omega) (by omega), ?_⟩
    rw [show ((f.scenes.length : Nat) : Int).toNat = f.scenes.length from rfl, rng_nD, List.length_map, List.length_range]
    refine ⟨by omega, h4, ?_⟩
    rw [wp_eq (lc_pure (en := nD) (p := fun _ => true) (f := gF f c) (xs := List.range f.scenes.length) fun x hx => ⟨_, rfl, rfl, fun _ => wp_is (by
      (try walk_at "zv")
      rw [ix_nD (hall x (List.mem_range.mp hx))])⟩)]
    rw [List.filter_eq_self.mpr fun _ _ => rfl]
    (try walk_at "zv")

end Law

namespace Law
open PySem PySem.Spec PyProof.Rows L2 D2
local macro_rules | `(tactic| walk_at "ev") => `(tactic| simp (decide := true) only [kO_some, w_C, w_Var, w_VarW, kVar_val, kVarW_val, kVarW_lst, kVarW_dic, w_Flat, kFlat_eq, w_Bin, kBin_eq, kBin2_eq, w_Un, kUn_eq, w_Tup, kTup_eq, w_Lst, kLst_eq, w_Nil, w_Cons, kCons_eq, kCons2_eq, w_And, kAnd_eq, w_Or, kOr_eq, w_Tst, kTst_eq, w_Tru, kTru_bl, kTru_int, kTru_tup, kTru_lst, kTru_non, w_NotT, kNotT_eq, w_AndT, kAndT_eq, w_OrT, kOrT_eq, w_IsN, kIsN_eq, w_If, kIf_eq, w_Chain, kCh1_eq, kCh2_eq, kCh3_eq, w_Bi, kBi_eq, on1_eq, on2_eq, w_Meth, kMeth_eq, kMeth2_eq, w_Ix, kIx_eq, kIx2_eq, w_Get2, kGet1_eq, kGet2_eq, kGet3_eq, w_NoP, w_Part, kPart_eq, w_Sl, kSl1_eq, kSl2_eq, kSl3_eq, w_Call, kCall_eq, w_CallP, kCallP_eq, w_OfO, kOfO_eq, toD_lst, toD_dic, w_LstO, kLstO_eq, w_DicO, w_Rep, kRep_eq, kRep2_eq, w_Pn, w_Pc, kPc1_eq, kPc2_eq, kPc3_eq, w_Disp, kDisp_eq, kDisp2_eq, keyed_nil, keyed_S, keyed_I, w_Lc, kLc_eq, kLc2_eq, w_Il, kIl_eq, w_It, kIt_eq, w_Ir1, kIr1_eq, w_Ir2, kIr2_eq, w_Ie, kIe_eq, w_IeT, kIeT_eq, w_Yes, w_Seq, kSeq_nx, kSeq_bk, kSeq_ct, kSeq_rt, w_Nx, w_Bk, w_Ct, w_RetN, w_Ret, kRet_eq, w_Drop, kDrop_eq, w_IfS, kIfS_eq, w_Frz, w_Set, kSet_eq, w_SetO, kSetO_eq, w_Aft, kAft_eq, w_Asg, kAsg_eq, kAsg2_eq, w_For, kFor_eq, w_While, w_Put, kPut_eq, kPut2_own, kPut2_ref, kPutR_eq, w_Own, w_OwnE, w_OwnS, kOwn_eq, kOwnE_eq, kOwnS_eq, w_Fn, kFn_nx, kFn_rt, kLoop_nx, kLoop_ct, kLoop_bk, kLoop_rt, w_Ir3, kIr3_eq, w_Lrg, kLrg_eq, w_AppPop, kApp0_eq, w_Never, w_Irv, kIrv_eq, w_Star, kStar_tup, kStar_lst, kStar2_eq, o_addI, o_addS, o_addT, o_addL, o_sub, o_fdiv, o_mod, o_pow, o_shl, o_shr, o_and, o_or, o_mul, o_lt, o_le, o_gt, o_ge, lt_eq, le_eq, gt_eq, ge_eq, o_neg, o_nob, o_eqI, o_eqS, o_neI, o_neS, eqo_int, ixS_tup, ixS_lst, ixS_dic, ixS_ref0, ixS_ref1, ixo_tup, ixo_lst, ixo_dicI, ixo_dicS, atI_0, atI_1, atI_2, atI_3, atI_4, atI_5, atI_6, atI_7, atI_8, pr_0, pr_1, pr_2, pr_3, po_dicI, po_dicS, app_eq, ext_eq, isL_eq, isD_eq, DisL_eq, o_lenL, o_lenT, o_lenD, o_lenS, o_toI, o_abs, o_strI, o_max2, o_min2, o_toT, o_toTT, o_toL, o_toLT, o_sloT, o_sloL, o_sloS, g_Nm, g_Tu, g_Cons, g_Nil, own_val, own_no, merge_new, dGet_cons, dGet_nil, dGet2_S, dGet2_I, o_sset, o_ssetI, o_toIb, fl_int, fl_bl, fl_str, fl_non, isNon_non, isNon_int, isNon_tup, o_inI, o_ninI, o_ninE, o_mkRng, isNon_bl, o_eqB, List.getElem?_cons_zero, List.getElem?_cons_succ, List.set_cons_zero, List.set_cons_succ, List.length_cons, List.length_nil, List.map_cons, List.map_nil, List.cons_append, List.nil_append, List.replicate_succ, List.replicate_zero, if_true, if_false, decide_eq_true_eq, decide_eq_false_iff_not, Bool.false_eq_true, and_true, true_and, Bool.not_true, Bool.not_false, reduceIte, Option.bind_some, Option.map_some, Option.getD_some, Option.getD_none, Sum.inr.injEq, Sum.inl.injEq, Nat.reduceAdd, Nat.reduceSub, Nat.reduceLeDiff, Nat.reduceLT, Nat.reduceEqDiff, reduceCtorEq, Int.reduceLT, Int.reduceLE, Int.reduceEq, Int.reduceAdd, Int.reduceSub, Int.reduceMul, Int.reduceNeg, Int.cast_ofNat_Int, Int.natCast_zero, Int.reduceToNat, Int.reducePow, or_true, true_or, String.reduceEq, decide_true, decide_false, Bool.not_eq_true', Bool.not_eq_false', List.all_cons, List.all_nil, Bool.and_true, Bool.true_and, Bool.true_or, Bool.or_true, wipeS, startS])
abbrev n_law : List Str := ["script", "d", "film", "many", "calendar", "rows", "name", "place", "light", "minutes", "dry", "cast", "days", "day", "good", "actor", "due", "turn", "after", "scene", "least", "left", "p", "first", "last", "a", "second"]
def m_law_b1 : MS :=
  (mSeq (mSet 14 (mUn D.nob (mBi (on1 (D.blsL fun ns => some (.bl (ns.any id)))) (mCons (mOfO (oLc false (mIt (mIx (mVar 4) (mC (.int 2)))) (gTu 3 (gsCons (gNm 22) (gsCons (gNm 23) (gsCons (gNm 24) gsNil)))) mYes (mAnd (mBin D.eqo (mVar 22) (mVar 7)) (mChain D.le D.le (mVar 23) (mVar 13) (mVar 24))) [22, 23, 24])) mNil))))
  (mSeq (mSet 14 (mAnd (mVar 14) (mUn D.nob (mBi (on1 (D.blsL fun ns => some (.bl (ns.any id)))) (mCons (mOfO (oLc false (mIt (mIx (mVar 4) (mC (.int 1)))) (gTu 3 (gsCons (gNm 25) (gsCons (gNm 23) (gsCons (gNm 24) gsNil)))) mYes (mAnd (mBin D.ino (mVar 25) (mVar 11)) (mChain D.le D.le (mVar 23) (mVar 13) (mVar 24))) [25, 23, 24])) mNil)))))
  (mIfS (mAndT (mTru (mVar 14)) (mOrT (mTst (mBin D.neo (mVar 8) (mC (.str "day")))) (mTst (mBin D.le (mBin D.add (mIx (mIx (mIx (mVar 4) (mC (.int 0))) (mVar 13)) (mC (.int 0))) (mVar 9)) (mIx (mIx (mIx (mVar 4) (mC (.int 0))) (mVar 13)) (mC (.int 1))))))) (mOwnE 12 O.isL O.append (mCons (mVar 13) mNil)) mNx)))
def m_law_b2 : MS :=
  (mSeq (mSetO 12 (oLst mNil))
  (mSeq (mFor (mIr1 (mCons (mVar 3) mNil)) (gNm 13) (m_law_b1))
  (mOwnE 5 O.isL O.append (mCons (mFlat (mBi (on1 D.toTup) (mCons (mVarW 12) mNil))) mNil))))
def m_law_b3 : MS :=
  (mIfS (mTst (mBin D.eqo (mCall F_is_there (mCons (mVar 4) (mCons (mVar 15) (mCons (mVar 13) mNil)))) (mBi (on1 (D.blsL fun ns => some (.bl (ns.any id)))) (mCons (mOfO (oLc false (mIt (mIx (mVar 4) (mC (.int 1)))) (gTu 3 (gsCons (gNm 25) (gsCons (gNm 23) (gsCons (gNm 24) gsNil)))) mYes (mAnd (mBin D.eqo (mVar 25) (mVar 15)) (mChain D.le D.le (mVar 23) (mVar 13) (mVar 24))) [25, 23, 24])) mNil)))) (mRet (mC (.bl false))) mNx)
def m_law_b4 : MS :=
  (mIfS (mTst (mBin D.eqo (mCall F_is_open (mCons (mVar 4) (mCons (mVar 7) (mCons (mVar 13) mNil)))) (mBi (on1 (D.blsL fun ns => some (.bl (ns.any id)))) (mCons (mOfO (oLc false (mIt (mIx (mVar 4) (mC (.int 2)))) (gTu 3 (gsCons (gNm 22) (gsCons (gNm 23) (gsCons (gNm 24) gsNil)))) mYes (mAnd (mBin D.eqo (mVar 22) (mVar 7)) (mChain D.le D.le (mVar 23) (mVar 13) (mVar 24))) [22, 23, 24])) mNil)))) (mRet (mC (.bl false))) mNx)
def m_law_b5 : MS :=
  (mSeq (mFor (mIr1 (mCons (mBi (on1 D.len) (mCons (mIx (mVar 2) (mC (.int 1))) mNil)) mNil)) (gNm 15) (m_law_b3))
  (mFor (mIr1 (mCons (mBi (on1 D.len) (mCons (mIx (mVar 2) (mC (.int 0))) mNil)) mNil)) (gNm 7) (m_law_b4)))
def m_law_b6 : MS :=
  (mSeq (mSet 20 (mBi (on1 (D.intsL fun ns => (maxI ns).map D.int)) (mCons (mBin D.add (mOfO (oLc false (mIt (mIx (mVar 2) (mC (.int 3)))) (gTu 2 (gsCons (gNm 23) (gsCons (gNm 26) gsNil))) (mTst (mBin D.eqo (mVar 26) (mVar 19))) (mIx (mVar 16) (mVar 23)) [23, 26])) (mLst (mCons (mIx (mVar 16) (mVar 19)) mNil))) mNil)))
  (mSeq (mAft 21 (mSetO 21 (oLc false (mIt (mIx (mVar 5) (mVar 19))) (gNm 13) (mTst (mBin D.ge (mVar 13) (mVar 20))) (mVar 13) [13])))
  (mOwnE 18 O.isL O.append (mCons (mIf (mTst (mBin D.gt (mBi (on1 D.len) (mCons (mVar 21) mNil)) (mC (.int 0)))) (mIx (mVar 21) (mC (.int 0))) (mVar 3)) mNil))))
def m_law_b7 : MS :=
  (mSeq (mSetO 18 (oLst mNil))
  (mSeq (mFrz 5 (mFor (mIr1 (mCons (mBi (on1 D.len) (mCons (mVar 5) mNil)) mNil)) (gNm 19) (m_law_b6)))
  (mSeq (mIfS (mTst (mBin D.eqo (mVarW 18) (mVar 16))) mBk mNx)
  (mFrz 18 (mSet 16 (mVar 18))))))
def m_law : MS :=
  (mSeq (mSet 2 (mCall F__law_film (mCons (mVar 1) (mCons (mC (.int 12)) mNil))))
  (mSeq (mSet 3 (mBin D.add (mC (.int 1)) (mCall F__law_take (mCons (mVar 1) (mCons (mC (.int 10)) mNil)))))
  (mSeq (mSet 4 (mCall F__law_calendar (mCons (mVar 1) (mCons (mVar 2) (mCons (mVar 3) mNil)))))
  (mSeq (mSetO 5 (oLst mNil))
  (mSeq (mFor (mIt (mIx (mVar 2) (mC (.int 2)))) (gTu 6 (gsCons (gNm 6) (gsCons (gNm 7) (gsCons (gNm 8) (gsCons (gNm 9) (gsCons (gNm 10) (gsCons (gNm 11) gsNil))))))) (m_law_b2))
  (mSeq (mFor (mIr1 (mCons (mVar 3) mNil)) (gNm 13) (m_law_b5))
  (mSeq (mIfS (mTst (mBin D.neo (mOfO (oLc false (mIr1 (mCons (mBi (on1 D.len) (mCons (mVarW 5) mNil)) mNil)) (gNm 19) mYes (mCall F_days_of (mCons (mVar 2) (mCons (mVar 4) (mCons (mVar 19) mNil)))) [19])) (mVarW 5))) (mRet (mC (.bl false))) mNx)
  (mSeq (mFrz 5 (mSet 16 (mBin D.mul (mLst (mCons (mC (.int 0)) mNil)) (mBi (on1 D.len) (mCons (mVar 5) mNil)))))
  (mSeq (mFor (mIr1 (mCons (mC (.int 200)) mNil)) (gNm 17) (m_law_b7))
  (mRet (mBin D.eqo (mCall F_earliest_days (mCons (mVar 2) (mCons (mVar 4) mNil))) (mBi (on1 D.toTup) (mCons (mOfO (oLc false (mIl (mVar 16)) (gNm 13) mYes (mIf (mTst (mBin D.lt (mVar 13) (mVar 3))) (mVar 13) (mC .non)) [13])) mNil)))))))))))))
local macro_rules | `(tactic| walk_at "zv") => `(tactic| simp (decide := true) only [row_0, row_1, row_2, scn_1, scn_3, scn_5, flm_0, flm_1, flm_2, flm_3, flm_4, cal_0, cal_1, cal_2, o_eqN, o_inNT, o_ninNT, o_ninNL, o_inN, o_eqB, kO_some, w_C, w_Var, w_VarW, kVar_val, kVarW_val, kVarW_lst, kVarW_dic, w_Flat, kFlat_eq, w_Bin, kBin_eq, kBin2_eq, w_Un, kUn_eq, w_Tup, kTup_eq, w_Lst, kLst_eq, w_Nil, w_Cons, kCons_eq, kCons2_eq, w_And, kAnd_eq, w_Or, kOr_eq, w_Tst, kTst_eq, w_Tru, kTru_bl, kTru_int, kTru_tup, kTru_lst, kTru_non, w_NotT, kNotT_eq, w_AndT, kAndT_eq, w_OrT, kOrT_eq, w_IsN, kIsN_eq, w_If, kIf_eq, w_Chain, kCh1_eq, kCh2_eq, kCh3_eq, w_Bi, kBi_eq, on1_eq, on2_eq, w_Meth, kMeth_eq, kMeth2_eq, w_Ix, kIx_eq, kIx2_eq, w_Get2, kGet1_eq, kGet2_eq, kGet3_eq, w_NoP, w_Part, kPart_eq, w_Sl, kSl1_eq, kSl2_eq, kSl3_eq, w_Call, kCall_eq, w_CallP, kCallP_eq, w_OfO, kOfO_eq, toD_lst, toD_dic, w_LstO, kLstO_eq, w_DicO, w_Rep, kRep_eq, kRep2_eq, w_Pn, w_Pc, kPc1_eq, kPc2_eq, kPc3_eq, w_Disp, kDisp_eq, kDisp2_eq, keyed_nil, keyed_S, keyed_I, w_Lc, kLc_eq, kLc2_eq, w_Il, kIl_eq, w_It, kIt_eq, w_Ir1, kIr1_eq, w_Ir2, kIr2_eq, w_Ie, kIe_eq, w_IeT, kIeT_eq, w_Yes, w_Seq, kSeq_nx, kSeq_bk, kSeq_ct, kSeq_rt, w_Nx, w_Bk, w_Ct, w_RetN, w_Ret, kRet_eq, w_Drop, kDrop_eq, w_IfS, kIfS_eq, w_Frz, w_Set, kSet_eq, w_SetO, kSetO_eq, w_Aft, kAft_eq, w_Asg, kAsg_eq, kAsg2_eq, w_For, kFor_eq, w_While, w_Put, kPut_eq, kPut2_own, kPut2_ref, kPutR_eq, w_Own, w_OwnE, w_OwnS, kOwn_eq, kOwnE_eq, kOwnS_eq, w_Fn, kFn_nx, kFn_rt, kLoop_nx, kLoop_ct, kLoop_bk, kLoop_rt, w_Ir3, kIr3_eq, w_Lrg, kLrg_eq, w_AppPop, kApp0_eq, w_Never, w_Irv, kIrv_eq, w_Star, kStar_tup, kStar_lst, kStar2_eq, o_addI, o_addS, o_addT, o_addL, o_sub, o_fdiv, o_mod, o_pow, o_shl, o_shr, o_and, o_or, o_mul, o_lt, o_le, o_gt, o_ge, lt_eq, le_eq, gt_eq, ge_eq, o_neg, o_nob, o_eqI, o_eqS, o_neI, o_neS, eqo_int, ixS_tup, ixS_lst, ixS_dic, ixS_ref0, ixS_ref1, ixo_tup, ixo_lst, ixo_dicI, ixo_dicS, atI_0, atI_1, atI_2, atI_3, atI_4, atI_5, atI_6, atI_7, atI_8, pr_0, pr_1, pr_2, pr_3, po_dicI, po_dicS, app_eq, ext_eq, isL_eq, isD_eq, DisL_eq, o_lenL, o_lenT, o_lenD, o_lenS, o_toI, o_abs, o_strI, o_max2, o_min2, o_toT, o_toTT, o_toL, o_toLT, o_sloT, o_sloL, o_sloS, g_Nm, g_Tu, g_Cons, g_Nil, own_val, own_no, merge_new, dGet_cons, dGet_nil, dGet2_S, dGet2_I, o_sset, o_ssetI, o_toIb, fl_int, fl_bl, fl_str, fl_non, isNon_non, isNon_int, isNon_tup, o_inI, o_ninI, o_ninE, o_mkRng, isNon_bl, o_eqB, List.getElem?_cons_zero, List.getElem?_cons_succ, List.set_cons_zero, List.set_cons_succ, List.length_cons, List.length_nil, List.map_cons, List.map_nil, List.cons_append, List.nil_append, List.replicate_succ, List.replicate_zero, if_true, if_false, decide_eq_true_eq, decide_eq_false_iff_not, Bool.false_eq_true, and_true, true_and, Bool.not_true, Bool.not_false, reduceIte, Option.bind_some, Option.map_some, Option.getD_some, Option.getD_none, Sum.inr.injEq, Sum.inl.injEq, Nat.reduceAdd, Nat.reduceSub, Nat.reduceLeDiff, Nat.reduceLT, Nat.reduceEqDiff, reduceCtorEq, Int.reduceLT, Int.reduceLE, Int.reduceEq, Int.reduceAdd, Int.reduceSub, Int.reduceMul, Int.reduceNeg, Int.cast_ofNat_Int, Int.natCast_zero, Int.reduceToNat, Int.reducePow, or_true, true_or, String.reduceEq, decide_true, decide_false, Bool.not_eq_true', Bool.not_eq_false', List.all_cons, List.all_nil, Bool.and_true, Bool.true_and, Bool.true_or, Bool.or_true, wipeS, startS])
def rowD (f : Film) (c : Cal) (k : Nat) : D := .tup ((rowsF f c k).map nD)
section
variable {S : List O} {P : D × List O → Prop}
theorem o_eqIN {a : Int} {k : Nat} : kO (D.eqo (.int a) (nD k)) S P = P (.bl (decide (a = (k : Int))), S) := o_eqI
theorem o_leIN {a : Int} {k : Nat} : kO (D.le (.int a) (nD k)) S P = P (.bl (decide (a ≤ (k : Int))), S) := by with_unfolding_all rfl
theorem o_leNI {a : Int} {k : Nat} : kO (D.le (nD k) (.int a)) S P = P (.bl (decide ((k : Int) ≤ a)), S) := by with_unfolding_all rfl
theorem le_IN {a : Int} {k : Nat} : D.le (.int a) (nD k) = some (.bl (decide (a ≤ (k : Int)))) := by with_unfolding_all rfl
theorem le_NI {a : Int} {k : Nat} : D.le (nD k) (.int a) = some (.bl (decide ((k : Int) ≤ a))) := by with_unfolding_all rfl
theorem o_ltNI {a b : Nat} : kO (D.lt (nD a) (.int (b : Int))) S P = P (.bl (decide (a < b)), S) := by
  have : decide (((a : Nat) : Int) < (b : Int)) = decide (a < b) := by
    by_cases h : a < b <;> simp [h]
  rw [← this]
  rfl
end
local macro_rules | `(tactic| walk_at "yv") => `(tactic| simp (decide := true) only [row_0, row_1, row_2, scn_1, scn_3, scn_5, flm_0, flm_1, flm_2, flm_3, flm_4, cal_0, cal_1, cal_2, o_eqN, o_inNT, o_ninNT, o_ninNL, o_inN, o_eqB, o_eqIN, o_leIN, o_leNI, o_ltNI, le_IN, le_NI, kO_some, w_C, w_Var, w_VarW, kVar_val, kVarW_val, kVarW_lst, kVarW_dic, w_Flat, kFlat_eq, w_Bin, kBin_eq, kBin2_eq, w_Un, kUn_eq, w_Tup, kTup_eq, w_Lst, kLst_eq, w_Nil, w_Cons, kCons_eq, kCons2_eq, w_And, kAnd_eq, w_Or, kOr_eq, w_Tst, kTst_eq, w_Tru, kTru_bl, kTru_int, kTru_tup, kTru_lst, kTru_non, w_NotT, kNotT_eq, w_AndT, kAndT_eq, w_OrT, kOrT_eq, w_IsN, kIsN_eq, w_If, kIf_eq, w_Chain, kCh1_eq, kCh2_eq, kCh3_eq, w_Bi, kBi_eq, on1_eq, on2_eq, w_Meth, kMeth_eq, kMeth2_eq, w_Ix, kIx_eq, kIx2_eq, w_Get2, kGet1_eq, kGet2_eq, kGet3_eq, w_NoP, w_Part, kPart_eq, w_Sl, kSl1_eq, kSl2_eq, kSl3_eq, w_Call, kCall_eq, w_CallP, kCallP_eq, w_OfO, kOfO_eq, toD_lst, toD_dic, w_LstO, kLstO_eq, w_DicO, w_Rep, kRep_eq, kRep2_eq, w_Pn, w_Pc, kPc1_eq, kPc2_eq, kPc3_eq, w_Disp, kDisp_eq, kDisp2_eq, keyed_nil, keyed_S, keyed_I, w_Lc, kLc_eq, kLc2_eq, w_Il, kIl_eq, w_It, kIt_eq, w_Ir1, kIr1_eq, w_Ir2, kIr2_eq, w_Ie, kIe_eq, w_IeT, kIeT_eq, w_Yes, w_Seq, kSeq_nx, kSeq_bk, kSeq_ct, kSeq_rt, w_Nx, w_Bk, w_Ct, w_RetN, w_Ret, kRet_eq, w_Drop, kDrop_eq, w_IfS, kIfS_eq, w_Frz, w_Set, kSet_eq, w_SetO, kSetO_eq, w_Aft, kAft_eq, w_Asg, kAsg_eq, kAsg2_eq, w_For, kFor_eq, w_While, w_Put, kPut_eq, kPut2_own, kPut2_ref, kPutR_eq, w_Own, w_OwnE, w_OwnS, kOwn_eq, kOwnE_eq, kOwnS_eq, w_Fn, kFn_nx, kFn_rt, kLoop_nx, kLoop_ct, kLoop_bk, kLoop_rt, w_Ir3, kIr3_eq, w_Lrg, kLrg_eq, w_AppPop, kApp0_eq, w_Never, w_Irv, kIrv_eq, w_Star, kStar_tup, kStar_lst, kStar2_eq, o_addI, o_addS, o_addT, o_addL, o_sub, o_fdiv, o_mod, o_pow, o_shl, o_shr, o_and, o_or, o_mul, o_lt, o_le, o_gt, o_ge, lt_eq, le_eq, gt_eq, ge_eq, o_neg, o_nob, o_eqI, o_eqS, o_neI, o_neS, eqo_int, ixS_tup, ixS_lst, ixS_dic, ixS_ref0, ixS_ref1, ixo_tup, ixo_lst, ixo_dicI, ixo_dicS, atI_0, atI_1, atI_2, atI_3, atI_4, atI_5, atI_6, atI_7, atI_8, pr_0, pr_1, pr_2, pr_3, po_dicI, po_dicS, app_eq, ext_eq, isL_eq, isD_eq, DisL_eq, o_lenL, o_lenT, o_lenD, o_lenS, o_toI, o_abs, o_strI, o_max2, o_min2, o_toT, o_toTT, o_toL, o_toLT, o_sloT, o_sloL, o_sloS, g_Nm, g_Tu, g_Cons, g_Nil, own_val, own_no, merge_new, dGet_cons, dGet_nil, dGet2_S, dGet2_I, o_sset, o_ssetI, o_toIb, fl_int, fl_bl, fl_str, fl_non, isNon_non, isNon_int, isNon_tup, o_inI, o_ninI, o_ninE, o_mkRng, isNon_bl, o_eqB, List.getElem?_cons_zero, List.getElem?_cons_succ, List.set_cons_zero, List.set_cons_succ, List.length_cons, List.length_nil, List.map_cons, List.map_nil, List.cons_append, List.nil_append, List.replicate_succ, List.replicate_zero, if_true, if_false, decide_eq_true_eq, decide_eq_false_iff_not, Bool.false_eq_true, and_true, true_and, Bool.not_true, Bool.not_false, reduceIte, Option.bind_some, Option.map_some, Option.getD_some, Option.getD_none, Sum.inr.injEq, Sum.inl.injEq, Nat.reduceAdd, Nat.reduceSub, Nat.reduceLeDiff, Nat.reduceLT, Nat.reduceEqDiff, reduceCtorEq, Int.reduceLT, Int.reduceLE, Int.reduceEq, Int.reduceAdd, Int.reduceSub, Int.reduceMul, Int.reduceNeg, Int.cast_ofNat_Int, Int.natCast_zero, Int.reduceToNat, Int.reducePow, or_true, true_or, String.reduceEq, decide_true, decide_false, Bool.not_eq_true', Bool.not_eq_false', List.all_cons, List.all_nil, Bool.and_true, Bool.true_and, Bool.true_or, Bool.or_true, wipeS, startS])
theorem map_blB {α : Type} {l : List α} {g : α → Bool} : D.bls (l.map fun r => D.bl (g r)) = some (l.map g) := by
  have := D2.bls_map (l.map g)
  rw [List.map_map] at this
  exact this
theorem o_blsL {f : List Bool → Option D} {ds : List D} {ns : List Bool} {S : List O} {P : D × List O → Prop} (h : D.bls ds = some ns) : kO (D.blsL f (.lst ds)) S P = kO (f ns) S P := by
  simp only [D.blsL, h]
theorem any_win {l : List (List Int)} {k d p q : Nat} {sg : List Sl} {S : List O} (hl : Win3 l)
    (h : ∀ a b c : Int, ∃ sg1, gTu 3 (gsCons (gNm p) (gsCons (gNm 23) (gsCons (gNm 24) gsNil))) (tupI [a, b, c]) sg = some sg1 ∧ sg1[p]? = some (.val (.int a)) ∧ sg1[q]? = some (.val (nD k)) ∧ sg1[23]? = some (.val (.int b)) ∧ sg1[13]? = some (.val (nD d)) ∧ sg1[24]? = some (.val (.int c))) :
    lcR (gTu 3 (gsCons (gNm p) (gsCons (gNm 23) (gsCons (gNm 24) gsNil)))) mYes (mAnd (mBin D.eqo (mVar p) (mVar q)) (mChain D.le D.le (mVar 23) (mVar 13) (mVar 24))) sg (l.map tupI) S = .ok (l.map fun w => .bl (winB w k d), S) := by
  have := lc_pure (en := tupI) (p := fun _ => true) (f := fun w => D.bl (winB w k d)) (xs := l) (gg := gTu 3 (gsCons (gNm p) (gsCons (gNm 23) (gsCons (gNm 24) gsNil)))) (mt := mYes) (me := mAnd (mBin D.eqo (mVar p) (mVar q)) (mChain D.le D.le (mVar 23) (mVar 13) (mVar 24))) (sg := sg) (S := S) fun w hw => by
    obtain ⟨a, b, c, rfl⟩ := hl w hw
    obtain ⟨sg1, e1, e2, e3, e4, e5, e6⟩ := h a b c
    refine ⟨sg1, e1, rfl, fun _ => wp_is ?_⟩
    (try walk_at "yv")
    simp only [e2, e3, e4, e5, e6]
    (try walk_at "yv")
    simp only [e2, e3, e4, e5, e6]
    (try walk_at "yv")
    simp only [e2, e3, e4, e5, e6]
    (try walk_at "yv")
    simp only [e2, e3, e4, e5, e6]
    (try walk_at "yv")
    simp only [e2, e3, e4, e5, e6]
    (try walk_at "yv")
    have ew : winB [a, b, c] k d = (decide (a = (k : Int)) && (decide (b ≤ (d : Int)) && decide ((d : Int) ≤ c))) := rfl
    rw [ew]
    by_cases c1 : a = (k : Int)
    · by_cases c2 : b ≤ (d : Int)
      · simp [c1, c2]
      · simp [c1, c2]
    · simp [c1]
  rw [List.filter_eq_self.mpr fun _ _ => rfl] at this
  exact this
def winC (w : List Int) (cast : List Nat) (d : Int) : Bool := decide (∃ b ∈ cast, (b : Int) = w.getD 0 0) && (decide (w.getD 1 0 ≤ d) && decide (d ≤ w.getD 2 0))
theorem any_cast {l : List (List Int)} {d : Nat} {cast : List Nat} {sg : List Sl} {S : List O} (hl : Win3 l)
    (h : ∀ a b c : Int, ∃ sg1, gTu 3 (gsCons (gNm 25) (gsCons (gNm 23) (gsCons (gNm 24) gsNil))) (tupI [a, b, c]) sg = some sg1 ∧ sg1[25]? = some (.val (.int a)) ∧ sg1[11]? = some (.val (.tup (cast.map nD))) ∧ sg1[23]? = some (.val (.int b)) ∧ sg1[13]? = some (.val (nD d)) ∧ sg1[24]? = some (.val (.int c))) :
    lcR (gTu 3 (gsCons (gNm 25) (gsCons (gNm 23) (gsCons (gNm 24) gsNil)))) mYes (mAnd (mBin D.ino (mVar 25) (mVar 11)) (mChain D.le D.le (mVar 23) (mVar 13) (mVar 24))) sg (l.map tupI) S = .ok (l.map fun w => .bl (winC w cast d), S) := by
  have := lc_pure (en := tupI) (p := fun _ => true) (f := fun w => D.bl (winC w cast d)) (xs := l) (gg := gTu 3 (gsCons (gNm 25) (gsCons (gNm 23) (gsCons (gNm 24) gsNil)))) (mt := mYes) (me := mAnd (mBin D.ino (mVar 25) (mVar 11)) (mChain D.le D.le (mVar 23) (mVar 13) (mVar 24))) (sg := sg) (S := S) fun w hw => by
    obtain ⟨a, b, c, rfl⟩ := hl w hw
    obtain ⟨sg1, e1, e2, e3, e4, e5, e6⟩ := h a b c
    refine ⟨sg1, e1, rfl, fun _ => wp_is ?_⟩
    (try walk_at "yv")
    simp only [e2, e3, e4, e5, e6]
    (try walk_at "yv")
    simp only [e2, e3, e4, e5, e6]
    (try walk_at "yv")
    simp only [e2, e3, e4, e5, e6]
    (try walk_at "yv")
    simp only [e2, e3, e4, e5, e6]
    (try walk_at "yv")
    simp only [e2, e3, e4, e5, e6]
    (try walk_at "yv")
    have ew : winC [a, b, c] cast d = (decide (∃ b ∈ cast, (b : Int) = a) && (decide (b ≤ (d : Int)) && decide ((d : Int) ≤ c))) := rfl
    rw [ew]
    by_cases c1 : ∃ b ∈ cast, (b : Int) = a
    · by_cases c2 : b ≤ (d : Int)
      · simp [c1, c2]
      · simp [c1, c2]
    · simp [c1]
  rw [List.filter_eq_self.mpr fun _ _ => rfl] at this
  exact this
theorem any_w {l : List (List Int)} {k d : Int} : (l.map fun w => winB w k d).any id = hasW l k d := by
  unfold hasW
  rw [List.any_map]
  rfl
theorem any_c {l : List (List Int)} {cast : List Nat} {d : Int} : (l.map fun w => winC w cast d).any id = !(cast.all fun a => !hasW l a d) := by
  rw [Bool.eq_iff_iff, List.any_eq_true, Bool.not_eq_true', ← Bool.not_eq_true, List.all_eq_true]
  constructor
  · rintro ⟨x, hx, hx2⟩ hall
    obtain ⟨w, hw, rfl⟩ := List.mem_map.mp hx
    have h2 : winC w cast d = true := hx2
    unfold winC at h2
    rw [Bool.and_eq_true, decide_eq_true_eq] at h2
    obtain ⟨⟨b, hb, e⟩, h3⟩ := h2
    have := hall b hb
    have h4 : hasW l b d = true := List.any_eq_true.mpr ⟨w, hw, by unfold winB; rw [Bool.and_eq_true, decide_eq_true_eq]; exact ⟨e.symm, h3⟩⟩
    rw [h4] at this
    cases this
  · intro h
    have : ∃ a, a ∈ cast ∧ hasW l a d = true := by
      by_cases c : ∃ a, a ∈ cast ∧ hasW l a d = true
      · exact c
      · exact absurd (fun a ha => by
          cases hh : hasW l a d with
          | false => rfl
          | true => exact absurd ⟨a, ha, hh⟩ c) h
    obtain ⟨a, ha, hw⟩ := this
    obtain ⟨w, hw1, hw2⟩ := List.any_eq_true.mp hw
    refine ⟨winC w cast d, List.mem_map.mpr ⟨w, hw1, rfl⟩, ?_⟩
    unfold winB at hw2
    rw [Bool.and_eq_true, decide_eq_true_eq] at hw2
    show winC w cast d = true
    unfold winC
    rw [Bool.and_eq_true, decide_eq_true_eq]
    exact ⟨⟨a, ha, hw2.1.symm⟩, hw2.2⟩
/-- one day of a scene -/
theorem law_b1 {f : Film} {c : Cal} {s : Scene} {d : Nat} {ds : List Nat} {S : List O} {x3 x5 x6 x10 x14 : Sl} (h1 : Win3 c.aw) (h2 : Win3 c.cl) (hl1 : c.aw.length < 1000) (hl2 : c.cl.length < 1000) (hd : d < c.lights.length) (hds : ds.length < 1000) :
    Wp (m_law_b1 [.no, .val (.ref 0), .val f.d, x3, .val c.d, x5, x6, .val (nD s.place), .val (.str s.light), .val (.int s.len), x10, .val (.tup (s.cast.map nD)), .own (.lst (ds.map nD)), .val (nD d), x14, .no, .no, .no, .no, .no, .no, .no, .no, .no, .no, .no, .no] S)
      (fun y => y.1 = .nx ∧ ∃ x14, y.2.1 = [.no, .val (.ref 0), .val f.d, x3, .val c.d, x5, x6, .val (nD s.place), .val (.str s.light), .val (.int s.len), x10, .val (.tup (s.cast.map nD)), .own (.lst ((ds ++ if canB c s d = true then [d] else []).map nD)), .val (nD d), x14, .no, .no, .no, .no, .no, .no, .no, .no, .no, .no, .no, .no] ∧ y.2.2 = S) noE := by
  unfold m_law_b1
  (try walk_at "yv")
  rw [List.length_map]
  refine ⟨by omega, ?_⟩
  rw [wp_eq (any_win (k := s.place) (d := d) h2 fun a b c => ⟨_, gTu3 rfl rfl rfl, rfl, rfl, rfl, rfl, rfl⟩)]
  (try walk_at "yv")
  rw [o_blsL map_blB, any_w]
  (try walk_at "yv")
  have el : ∀ a b : Int, kO (atI (c.lights.map prD) (d : Int)) S = kO (atI (c.lights.map prD) (d : Int)) S := fun _ _ => rfl
  have hli : ∀ (P : D × List O → Prop), kO (ixS S (.tup (c.lights.map prD)) (nD d)) S P = P (prD (c.lights.getD d (0, 0)), S) := fun P => kO_eq (atI_nat (v := prD (c.lights.getD d (0, 0))) (by rw [List.getElem?_map, List.getElem?_eq_getElem hd, List.getD_eq_getElem?_getD, List.getElem?_eq_getElem hd]; rfl))
  have hp0 : ∀ (p : Int × Int) (P : D × List O → Prop), kO (ixS S (prD p) (.int 0)) S P = P (.int p.1, S) := fun _ _ => rfl
  have hp1 : ∀ (p : Int × Int) (P : D × List O → Prop), kO (ixS S (prD p) (.int 1)) S P = P (.int p.2, S) := fun _ _ => rfl
  have hc : canB c s d = (!hasW c.cl s.place d && ((s.cast.all fun a => !hasW c.aw a d) && lightOk c s d)) := rfl
  generalize canB c s d = cb at hc
  have hlo : lightOk c s d = (!decide (s.light = "day") || decide (s.len ≤ (c.lights.getD d (0, 0)).2 - (c.lights.getD d (0, 0)).1)) := rfl
  cases hw : hasW c.cl s.place d with
  | true =>
    (try walk_at "yv")
    rw [hw] at hc
    have hc2 : cb = false := hc
    subst hc2
    simp
  | false =>
    (try walk_at "yv")
    rw [List.length_map]
    refine ⟨by omega, ?_⟩
    rw [wp_eq (any_cast (cast := s.cast) (d := d) h1 fun a b c => ⟨_, gTu3 rfl rfl rfl, rfl, rfl, rfl, rfl, rfl⟩)]
    (try walk_at "yv")
    rw [o_blsL map_blB, any_c]
    (try walk_at "yv")
    rw [hw] at hc
    cases ha : s.cast.all fun a => !hasW c.aw a d with
    | false =>
      rw [ha] at hc
      have hc2 : cb = false := hc
      subst hc2
      (try walk_at "yv")
      simp
    | true =>
      rw [ha] at hc
      have hc2 : cb = lightOk c s d := hc
      rw [hlo] at hc2
      (try walk_at "yv")
      by_cases cl : s.light = Str.ofString "day"
      · simp only [cl, if_true, decide_true, Bool.not_true, Bool.false_or, Bool.false_eq_true, if_false] at hc2 ⊢
        simp only [hli, hp0, hp1]
        (try walk_at "yv")
        simp only [hli, hp0, hp1]
        (try walk_at "yv")
        simp only [hli, hp0, hp1]
        (try walk_at "yv")
        simp only [hli, hp0, hp1]
        (try walk_at "yv")
        generalize c.lights.getD d (0, 0) = p at hc2
        by_cases cc : p.1 + s.len ≤ p.2
        · have c3 : s.len ≤ p.2 - p.1 := by omega
          rw [decide_eq_true c3] at hc2
          subst hc2
          rw [if_pos cc, List.length_map]
          refine ⟨by omega, ?_⟩
          simp
        · have c3 : ¬ s.len ≤ p.2 - p.1 := by omega
          rw [decide_eq_false c3] at hc2
          subst hc2
          rw [if_neg cc]
          simp
      · simp only [cl, decide_false, Bool.not_false, Bool.true_or] at hc2 ⊢
        subst hc2
        (try walk_at "yv")
        rw [List.length_map]
        refine ⟨by omega, ?_⟩
        simp

theorem rng_nat {n i : Nat} {d : D} (h : ((List.range n).map nD)[i]? = some d) : i < n ∧ d = nD i := by
  rw [List.getElem?_map] at h
  cases hi : (List.range n)[i]? with
  | none => rw [hi] at h; cases h
  | some k =>
    rw [hi] at h
    cases h
    obtain ⟨h1, h2⟩ := List.getElem?_eq_some_iff.mp hi
    rw [List.getElem_range] at h2
    rw [List.length_range] at h1
    exact ⟨h1, by rw [h2]⟩
theorem gTu6s {s : Scene} {a0 a1 a2 a3 a4 a5 x6 x7 x8 x9 x10 x11 : Sl} {r : List Sl} (h6 : isOwn (some x6) = false) (h7 : isOwn (some x7) = false) (h8 : isOwn (some x8) = false) (h9 : isOwn (some x9) = false) (h10 : isOwn (some x10) = false) (h11 : isOwn (some x11) = false) :
    gTu 6 (gsCons (gNm 6) (gsCons (gNm 7) (gsCons (gNm 8) (gsCons (gNm 9) (gsCons (gNm 10) (gsCons (gNm 11) gsNil)))))) s.d (a0 :: a1 :: a2 :: a3 :: a4 :: a5 :: x6 :: x7 :: x8 :: x9 :: x10 :: x11 :: r) =
      some (a0 :: a1 :: a2 :: a3 :: a4 :: a5 :: .val (.str s.name) :: .val (nD s.place) :: .val (.str s.light) :: .val (.int s.len) :: .val (.bl s.loud) :: .val (.tup (s.cast.map nD)) :: r) := by
  unfold Scene.d
  rw [g_Tu]
  simp only [List.length_cons, List.length_nil, if_true, g_Cons, g_Nil, g_Nm, List.getElem?_cons_succ, List.getElem?_cons_zero, List.set_cons_succ, List.set_cons_zero, h6, h7, h8, h9, h10, h11, Bool.false_eq_true, if_false, Option.bind_some]
theorem flat_nDs : ∀ {l : List Nat}, (D.tup (l.map nD)).flat = true
  | [] => rfl
  | x :: l => flat_nDs (l := l)
/-- the days of one scene -/
theorem law_b2 {f : Film} {c : Cal} {s : Scene} {rs : List D} {S : List O} {x12 x13 x14 : Sl} (h1 : Win3 c.aw) (h2 : Win3 c.cl) (hl1 : c.aw.length < 1000) (hl2 : c.cl.length < 1000) (hb : c.lights.length < 1000) (hrs : rs.length < 1000) (h13 : isOwn (some x13) = false) :
    Wp (m_law_b2 [.no, .val (.ref 0), .val f.d, .val (.int (c.lights.length : Int)), .val c.d, .own (.lst rs), .val (.str s.name), .val (nD s.place), .val (.str s.light), .val (.int s.len), .val (.bl s.loud), .val (.tup (s.cast.map nD)), x12, x13, x14, .no, .no, .no, .no, .no, .no, .no, .no, .no, .no, .no, .no] S)
      (fun y => y.1 = .nx ∧ ∃ x12 x13 x14, y.2.1 = [.no, .val (.ref 0), .val f.d, .val (.int (c.lights.length : Int)), .val c.d, .own (.lst (rs ++ [.tup ((daysF c s).map nD)])), .val (.str s.name), .val (nD s.place), .val (.str s.light), .val (.int s.len), .val (.bl s.loud), .val (.tup (s.cast.map nD)), x12, x13, x14, .no, .no, .no, .no, .no, .no, .no, .no, .no, .no, .no, .no] ∧ y.2.2 = S ∧ isOwn (some x13) = false) noE := by
  unfold m_law_b2
  (try walk_at "yv")
  refine ⟨lim_small (by omega) (by omega), ?_⟩
  rw [show ((c.lights.length : Nat) : Int).toNat = c.lights.length from rfl, rng_nD]
  refine Wp.loop (fun i sg S' => ∃ (x13 x14 : Sl), sg = [.no, .val (.ref 0), .val f.d, .val (.int (c.lights.length : Int)), .val c.d, .own (.lst rs), .val (.str s.name), .val (nD s.place), .val (.str s.light), .val (.int s.len), .val (.bl s.loud), .val (.tup (s.cast.map nD)), .own (.lst (((List.range i).filter fun d => canB c s d).map nD)), x13, x14, .no, .no, .no, .no, .no, .no, .no, .no, .no, .no, .no, .no] ∧ S' = S ∧ isOwn (some x13) = false) ⟨x13, x14, rfl, rfl, h13⟩ ?_ ?_
  · intro i dd sg S' hdd hI
    obtain ⟨x13, x14, e1, e2, h13⟩ := hI
    subst e1 e2
    obtain ⟨hi, rfl⟩ := rng_nat hdd
    refine ⟨_, gNm_ok h13, ?_⟩
    simp only [List.set_cons_succ, List.set_cons_zero]
    have hfl := List.length_filter_le (fun d => canB c s d) (List.range i)
    rw [List.length_range] at hfl
    refine (law_b1 h1 h2 hl1 hl2 hi (by omega)).imp ?_
    rintro ⟨fl, sg, S2⟩ ⟨e0, x14, e1, e2⟩
    simp only [] at e0 e1 e2
    subst e0 e1 e2
    rw [kLoop_nx]
    refine ⟨.val (nD i), x14, ?_, rfl, rfl⟩
    rw [List.range_succ, List.filter_append, List.filter_cons, List.filter_nil]
  · intro sg S' hI
    obtain ⟨x13, x14, e1, e2, h13⟩ := hI
    subst e1 e2
    rw [List.length_map, List.length_range]
    rw [show (List.range c.lights.length).filter (fun d => canB c s d) = daysF c s from rfl]
    have hdl := daysF_len (c := c) (s := s)
    (try walk_at "yv")
    exact ⟨flat_nDs, by omega, _, x13, x14, rfl, h13⟩

/-- one actor -/
theorem law_b3 {f : Film} {c : Cal} {d a : Nat} {S : List O} {x3 x5 x6 x7 x8 x9 x10 x11 x12 x14 : Sl} (h1 : Win3 c.aw) (hl1 : c.aw.length < 1000) :
    Wp (m_law_b3 [.no, .val (.ref 0), .val f.d, x3, .val c.d, x5, x6, x7, x8, x9, x10, x11, x12, .val (nD d), x14, .val (nD a), .no, .no, .no, .no, .no, .no, .no, .no, .no, .no, .no] S) (fun y => y = (.nx, [.no, .val (.ref 0), .val f.d, x3, .val c.d, x5, x6, x7, x8, x9, x10, x11, x12, .val (nD d), x14, .val (nD a), .no, .no, .no, .no, .no, .no, .no, .no, .no, .no, .no], S)) noE := by
  unfold m_law_b3
  (try walk_at "yv")
  rw [wp_eq (is_there_eq h1)]
  (try walk_at "yv")
  rw [List.length_map]
  refine ⟨by omega, ?_⟩
  rw [wp_eq (any_win (k := a) (d := d) h1 fun a b c => ⟨_, gTu3 rfl rfl rfl, rfl, rfl, rfl, rfl, rfl⟩)]
  (try walk_at "yv")
  rw [o_blsL map_blB, any_w]
  (try walk_at "yv")
  cases hasW c.aw a d <;> simp
/-- one place -/
theorem law_b4 {f : Film} {c : Cal} {d a : Nat} {S : List O} {x3 x5 x6 x8 x9 x10 x11 x12 x14 x15 : Sl} (h2 : Win3 c.cl) (hl2 : c.cl.length < 1000) :
    Wp (m_law_b4 [.no, .val (.ref 0), .val f.d, x3, .val c.d, x5, x6, .val (nD a), x8, x9, x10, x11, x12, .val (nD d), x14, x15, .no, .no, .no, .no, .no, .no, .no, .no, .no, .no, .no] S) (fun y => y = (.nx, [.no, .val (.ref 0), .val f.d, x3, .val c.d, x5, x6, .val (nD a), x8, x9, x10, x11, x12, .val (nD d), x14, x15, .no, .no, .no, .no, .no, .no, .no, .no, .no, .no, .no], S)) noE := by
  unfold m_law_b4
  (try walk_at "yv")
  rw [wp_eq (is_open_eq h2)]
  (try walk_at "yv")
  rw [List.length_map]
  refine ⟨by omega, ?_⟩
  rw [wp_eq (any_win (k := a) (d := d) h2 fun a b c => ⟨_, gTu3 rfl rfl rfl, rfl, rfl, rfl, rfl, rfl⟩)]
  (try walk_at "yv")
  rw [o_blsL map_blB, any_w]
  (try walk_at "yv")
  cases hasW c.cl a d <;> simp
/-- one day: who is there, what is open -/
theorem law_b5 {f : Film} {c : Cal} {d most : Nat} {S : List O} {x3 x5 x6 x7 x8 x9 x10 x11 x12 x14 x15 : Sl} (hf : FilmOk most f) (h1 : Win3 c.aw) (h2 : Win3 c.cl) (hl1 : c.aw.length < 1000) (hl2 : c.cl.length < 1000) (h7 : isOwn (some x7) = false) (h15 : isOwn (some x15) = false) :
    Wp (m_law_b5 [.no, .val (.ref 0), .val f.d, x3, .val c.d, x5, x6, x7, x8, x9, x10, x11, x12, .val (nD d), x14, x15, .no, .no, .no, .no, .no, .no, .no, .no, .no, .no, .no] S)
      (fun y => y.1 = .nx ∧ ∃ x7 x15, y.2.1 = [.no, .val (.ref 0), .val f.d, x3, .val c.d, x5, x6, x7, x8, x9, x10, x11, x12, .val (nD d), x14, x15, .no, .no, .no, .no, .no, .no, .no, .no, .no, .no, .no] ∧ y.2.2 = S ∧ isOwn (some x7) = false ∧ isOwn (some x15) = false) noE := by
  have hna := hf.na
  have hnp := hf.np
  unfold m_law_b5
  (try walk_at "yv")
  rw [List.length_map]
  refine ⟨lim_small (by omega) (by omega), ?_⟩
  rw [show ((f.actors.length : Nat) : Int).toNat = f.actors.length from rfl, rng_nD]
  refine Wp.loop (fun i sg S' => ∃ (x15 : Sl), sg = [.no, .val (.ref 0), .val f.d, x3, .val c.d, x5, x6, x7, x8, x9, x10, x11, x12, .val (nD d), x14, x15, .no, .no, .no, .no, .no, .no, .no, .no, .no, .no, .no] ∧ S' = S ∧ isOwn (some x15) = false) ⟨x15, rfl, rfl, h15⟩ ?_ ?_
  · intro i dd sg S' hdd hI
    obtain ⟨x15, e1, e2, h15⟩ := hI
    subst e1 e2
    obtain ⟨hi, rfl⟩ := rng_nat hdd
    refine ⟨_, gNm_ok h15, ?_⟩
    simp only [List.set_cons_succ, List.set_cons_zero]
    refine (law_b3 h1 hl1).imp ?_
    rintro _ rfl
    rw [kLoop_nx]
    exact ⟨_, rfl, rfl, rfl⟩
  · intro sg S' hI
    obtain ⟨x15, e1, e2, h15⟩ := hI
    subst e1 e2
    (try walk_at "yv")
    rw [List.length_map]
    refine ⟨lim_small (by omega) (by omega), ?_⟩
    rw [show ((f.places.length : Nat) : Int).toNat = f.places.length from rfl, rng_nD]
    refine Wp.loop (fun i sg S'' => ∃ (x7 : Sl), sg = [.no, .val (.ref 0), .val f.d, x3, .val c.d, x5, x6, x7, x8, x9, x10, x11, x12, .val (nD d), x14, x15, .no, .no, .no, .no, .no, .no, .no, .no, .no, .no, .no] ∧ S'' = S' ∧ isOwn (some x7) = false) ⟨x7, rfl, rfl, h7⟩ ?_ ?_
    · intro i dd sg S'' hdd hI
      obtain ⟨x7, e1, e2, h7⟩ := hI
      subst e1 e2
      obtain ⟨hi, rfl⟩ := rng_nat hdd
      refine ⟨_, gNm_ok h7, ?_⟩
      simp only [List.set_cons_succ, List.set_cons_zero]
      refine (law_b4 h2 hl2).imp ?_
      rintro _ rfl
      rw [kLoop_nx]
      exact ⟨_, rfl, rfl, rfl⟩
    · intro sg S'' hI
      obtain ⟨x7, e1, e2, h7⟩ := hI
      subst e1 e2
      exact ⟨rfl, x7, x15, rfl, rfl, h7, h15⟩
theorem at_due {n x : Nat} {g : Nat → D} {S : List O} {P : D × List O → Prop} (h : x < n) : kO (ixS S (.lst ((List.range n).map g)) (nD x)) S P = P (g x, S) := kO_eq (atI_nat (by rw [List.getElem?_map, List.getElem?_range h]; rfl))
theorem at_row {n x : Nat} {g : Nat → D} {S : List O} {P : D × List O → Prop} (h : x < n) : kO (ixS S (.lst ((List.range n).map g)) (nD x)) S P = P (g x, S) := at_due h
theorem o_geN2 {i j : Nat} {S : List O} {P : D × List O → Prop} : kO (D.ge (nD i) (nD j)) S P = P (.bl (decide (j ≤ i)), S) := o_geN
/-- one scene of a turn -/
theorem law_b6 {f : Film} {c : Cal} {s most : Nat} {d : Nat → Nat} {acc : List D} {S : List O} {x6 x7 x8 x9 x10 x11 x12 x13 x14 x15 x17 x20 x21 : Sl} (hf : FilmOk most f) (hm : most < 13) (hb : c.lights.length < 1000) (hs : s < f.scenes.length) (h13 : isOwn (some x13) = false) (hacc : acc.length < 1000) :
    Wp (m_law_b6 [.no, .val (.ref 0), .val f.d, .val (.int (c.lights.length : Int)), .val c.d, .val (.lst ((List.range f.scenes.length).map (rowD f c))), x6, x7, x8, x9, x10, x11, x12, x13, x14, x15, .val (.lst ((List.range f.scenes.length).map fun s => nD (d s))), x17, .own (.lst acc), .val (nD s), x20, x21, .no, .no, .no, .no, .no] S)
      (fun y => y.1 = .nx ∧ ∃ x20 x21, y.2.1 = [.no, .val (.ref 0), .val f.d, .val (.int (c.lights.length : Int)), .val c.d, .val (.lst ((List.range f.scenes.length).map (rowD f c))), x6, x7, x8, x9, x10, x11, x12, x13, x14, x15, .val (.lst ((List.range f.scenes.length).map fun s => nD (d s))), x17, .own (.lst (acc ++ [nD (nextF c.lights.length f.orders (rowsF f c) d s)])), .val (nD s), x20, x21, .no, .no, .no, .no, .no] ∧ y.2.2 = S) noE := by
  have hol := orders_len hf hm
  unfold m_law_b6
  (try walk_at "yv")
  rw [List.length_map]
  refine ⟨by omega, ?_⟩
  rw [wp_eq (lc_pure (en := ordD) (p := fun q : Nat × Nat => decide (q.2 = s)) (f := fun q : Nat × Nat => nD (d q.1)) (xs := f.orders) fun q hq => ⟨_, gTu2 rfl rfl, wp_is (by (try walk_at "yv")), fun _ => wp_is (by
    (try walk_at "yv")
    rw [at_due (by have := hf.od q hq; omega)])⟩)]
  (try walk_at "yv")
  rw [at_due hs]
  (try walk_at "yv")
  have ep : (f.orders.filter fun q => decide (q.2 = s)).map (fun q => nD (d q.1)) ++ [nD (d s)] = ((preds f.orders s).map d ++ [d s]).map nD := by
    unfold preds
    rw [List.map_append, List.map_map, List.map_map]
    rfl
  rw [ep, o_intsL (ints_nD _), maxI_bigN (by simp), List.length_map]
  have hfl := List.length_filter_le (fun q : Nat × Nat => decide (q.2 = s)) f.orders
  refine ⟨by omega, ?_⟩
  rw [show Option.map D.int (some ((bigN ((preds f.orders s).map d ++ [d s]) : Nat) : Int)) = some (nD (bigN ((preds f.orders s).map d ++ [d s]))) from rfl]
  have en : nextF c.lights.length f.orders (rowsF f c) d s = firstF c.lights.length (rowsF f c s) (bigN ((preds f.orders s).map d ++ [d s])) := rfl
  rw [en]
  generalize bigN ((preds f.orders s).map d ++ [d s]) = b
  (try walk_at "yv")
  rw [at_row hs]
  unfold rowD
  (try walk_at "yv")
  have hrl : (rowsF f c s).length ≤ c.lights.length := by
    rw [rowsF_at hs]
    exact daysF_len
  rw [List.length_map]
  refine ⟨by omega, h13, ?_⟩
  rw [wp_eq (lc_pure (en := nD) (p := fun x => decide (b ≤ x)) (f := nD) (xs := rowsF f c s) fun x hx => ⟨_, rfl, wp_is (by
    (try walk_at "yv")
    rw [o_geN2]
    (try walk_at "yv")), fun _ => wp_is (by (try walk_at "yv"))⟩)]
  (try walk_at "yv")
  try simp only [frz, List.getElem?_cons_succ, List.getElem?_cons_zero, List.set_cons_succ, List.set_cons_zero, toD_lst]
  (try walk_at "yv")
  have ef : firstF c.lights.length (rowsF f c s) b = ((rowsF f c s).filter fun x => decide (b ≤ x)).headD c.lights.length := rfl
  rw [ef]
  generalize (rowsF f c s).filter (fun x => decide (b ≤ x)) = l
  cases l with
  | nil =>
    rw [if_neg (by simp)]
    exact ⟨by omega, _, _, rfl⟩
  | cons a l =>
    rw [if_pos (by simp), List.map_cons, atI_0, kO_some]
    (try walk_at "yv")
    exact ⟨by omega, _, _, rfl⟩
theorem okqA_rows (n : Nat) : ∀ ls : List (List Nat), D.okqA (ls.map fun l => .tup (l.map nD)) (n + 1) = true
  | [] => rfl
  | x :: ls => by
    rw [List.map_cons, D.okqA, okqA_rows n ls, Bool.and_true]
    show D.okq (.tup (x.map nD)) (n + 1) = true
    rw [D.okq]
    exact okqA_nD n x
theorem okq_rows {f : Film} {c : Cal} {k : Nat} : D.okq (.lst ((List.range k).map (rowD f c))) 50 = true := by
  have e : (List.range k).map (rowD f c) = ((List.range k).map (rowsF f c)).map fun l => .tup (l.map nD) := by rw [List.map_map]; rfl
  rw [e, D.okq]
  exact okqA_rows 48 _
theorem okq_due {n : Nat} {d : Nat → Nat} : D.okq (.lst ((List.range n).map fun s => nD (d s))) 50 = true := by
  have e : ((List.range n).map fun s => nD (d s)) = ((List.range n).map d).map nD := by rw [List.map_map]; rfl
  rw [e, D.okq]
  exact okqA_nD 49 _
theorem okq_early {n many : Nat} {d : Nat → Nat} : D.okq (.tup ((List.range n).map fun s => vD many (d s))) 50 = true := by
  have e : ((List.range n).map fun s => vD many (d s)) = ((List.range n).map d).map (vD many) := by rw [List.map_map]; rfl
  rw [e, D.okq]
  exact okqA_vD many 49 _
theorem eqvA_nD : ∀ {xs ys : List Nat}, PyData.eqvAll (D.pdA (xs.map nD)) (D.pdA (ys.map nD)) = decide (xs = ys)
  | [], [] => by simp [D.pdA, PyData.eqvAll]
  | [], y :: ys => by simp [D.pdA, PyData.eqvAll]
  | x :: xs, [] => by simp [D.pdA, PyData.eqvAll]
  | x :: xs, y :: ys => by
    have h1 := eqv_nD (a := x) (b := y)
    have h2 := eqvA_nD (xs := xs) (ys := ys)
    unfold D.eqv at h1
    rw [List.map_cons, List.map_cons, D.pdA, D.pdA, PyData.eqvAll, h1, h2]
    by_cases c1 : x = y <;> by_cases c2 : xs = ys <;> simp [c1, c2]
theorem eqv_lists {xs ys : List Nat} : D.eqv (.lst (xs.map nD)) (.lst (ys.map nD)) = decide (xs = ys) := by
  rw [← eqvA_nD]
  simp only [D.eqv, D.pd, PyData.eqv]
/-- one turn -/
theorem law_b7 {f : Film} {c : Cal} {most : Nat} {d : Nat → Nat} {S : List O} {x6 x7 x8 x9 x10 x11 x12 x13 x14 x15 x17 x18 x19 x20 x21 : Sl} {P : Fl × List Sl × List O → Prop} {E : EP'} (hf : FilmOk most f) (hm : most < 13) (hb : c.lights.length < 1000) (h13 : isOwn (some x13) = false) (h19 : isOwn (some x19) = false)
    (hB : ∀ x18 x19 x20 x21, (∀ s, s < f.scenes.length → nextF c.lights.length f.orders (rowsF f c) d s = d s) → P (.bk, [.no, .val (.ref 0), .val f.d, .val (.int (c.lights.length : Int)), .val c.d, .val (.lst ((List.range f.scenes.length).map (rowD f c))), x6, x7, x8, x9, x10, x11, x12, x13, x14, x15, .val (.lst ((List.range f.scenes.length).map fun s => nD (d s))), x17, x18, x19, x20, x21, .no, .no, .no, .no, .no], S))
    (hN : ∀ x18 x19 x20 x21, isOwn (some x19) = false → P (.nx, [.no, .val (.ref 0), .val f.d, .val (.int (c.lights.length : Int)), .val c.d, .val (.lst ((List.range f.scenes.length).map (rowD f c))), x6, x7, x8, x9, x10, x11, x12, x13, x14, x15, .val (.lst ((List.range f.scenes.length).map fun s => nD (nextF c.lights.length f.orders (rowsF f c) d s))), x17, x18, x19, x20, x21, .no, .no, .no, .no, .no], S)) :
    Wp (m_law_b7 [.no, .val (.ref 0), .val f.d, .val (.int (c.lights.length : Int)), .val c.d, .val (.lst ((List.range f.scenes.length).map (rowD f c))), x6, x7, x8, x9, x10, x11, x12, x13, x14, x15, .val (.lst ((List.range f.scenes.length).map fun s => nD (d s))), x17, x18, x19, x20, x21, .no, .no, .no, .no, .no] S) P E := by
  have hns := hf.ns
  unfold m_law_b7
  (try walk_at "yv")
  try simp only [frz, List.getElem?_cons_succ, List.getElem?_cons_zero, List.set_cons_succ, List.set_cons_zero, toD_lst]
  (try walk_at "yv")
  rw [List.length_map, List.length_range]
  refine ⟨lim_small (by omega) (by omega), ?_⟩
  rw [show ((f.scenes.length : Nat) : Int).toNat = f.scenes.length from rfl, rng_nD]
  refine Wp.loop (fun i sg S' => ∃ (x19 x20 x21 : Sl), sg = [.no, .val (.ref 0), .val f.d, .val (.int (c.lights.length : Int)), .val c.d, .val (.lst ((List.range f.scenes.length).map (rowD f c))), x6, x7, x8, x9, x10, x11, x12, x13, x14, x15, .val (.lst ((List.range f.scenes.length).map fun s => nD (d s))), x17, .own (.lst ((List.range i).map fun s => nD (nextF c.lights.length f.orders (rowsF f c) d s))), x19, x20, x21, .no, .no, .no, .no, .no] ∧ S' = S ∧ isOwn (some x19) = false) ⟨x19, x20, x21, rfl, rfl, h19⟩ ?_ ?_
  · intro i dd sg S' hdd hI
    obtain ⟨x19, x20, x21, e1, e2, h19⟩ := hI
    subst e1 e2
    obtain ⟨hi, rfl⟩ := rng_nat hdd
    refine ⟨_, gNm_ok h19, ?_⟩
    simp only [List.set_cons_succ, List.set_cons_zero]
    refine ((law_b6 hf hm hb hi h13 (by rw [List.length_map, List.length_range]; omega)).no fun y hy => ?_)
    obtain ⟨fl, sg, S2⟩ := y
    obtain ⟨e0, x20, x21, e1, e2⟩ := hy
    simp only [] at e0 e1 e2
    subst e0 e1 e2
    rw [kLoop_nx]
    refine ⟨.val (nD i), x20, x21, ?_, rfl, rfl⟩
    rw [List.range_succ, List.map_append]
    rfl
  · intro sg S' hI
    obtain ⟨x19, x20, x21, e1, e2, h19⟩ := hI
    subst e1 e2
    rw [List.length_map, List.length_range]
    (try walk_at "yv")
    have e1 : ((List.range f.scenes.length).map fun s => nD (nextF c.lights.length f.orders (rowsF f c) d s)) = ((List.range f.scenes.length).map (nextF c.lights.length f.orders (rowsF f c) d)).map nD := by rw [List.map_map]; rfl
    have e2 : ((List.range f.scenes.length).map fun s => nD (d s)) = ((List.range f.scenes.length).map d).map nD := by rw [List.map_map]; rfl
    have ee : D.eqv (.lst ((List.range f.scenes.length).map fun s => nD (nextF c.lights.length f.orders (rowsF f c) d s))) (.lst ((List.range f.scenes.length).map fun s => nD (d s))) = decide ((List.range f.scenes.length).map (nextF c.lights.length f.orders (rowsF f c) d) = (List.range f.scenes.length).map d) := by
      rw [e1, e2, eqv_lists]
    rw [o_eqG, ee]
    refine ⟨okq_due, okq_due, ?_⟩
    (try walk_at "yv")
    by_cases cc : (List.range f.scenes.length).map (nextF c.lights.length f.orders (rowsF f c) d) = (List.range f.scenes.length).map d
    · rw [if_pos (by simpa using cc)]
      refine hB _ _ _ _ fun s hs => ?_
      exact List.map_inj_left.mp cc s (List.mem_range.mpr hs)
    · rw [if_neg (by simpa using cc)]
      (try walk_at "yv")
      try simp only [frz, List.getElem?_cons_succ, List.getElem?_cons_zero, List.set_cons_succ, List.set_cons_zero, toD_lst]
      (try walk_at "yv")
      exact hN _ _ _ _ h19

end Law

namespace Law
open PySem PySem.Spec PyProof.Rows L2 D2
local macro_rules | `(tactic| walk_at "ev") => `(tactic| simp (decide := true) only [kO_some, w_C, w_Var, w_VarW, kVar_val, kVarW_val, kVarW_lst, kVarW_dic, w_Flat, kFlat_eq, w_Bin, kBin_eq, kBin2_eq, w_Un, kUn_eq, w_Tup, kTup_eq, w_Lst, kLst_eq, w_Nil, w_Cons, kCons_eq, kCons2_eq, w_And, kAnd_eq, w_Or, kOr_eq, w_Tst, kTst_eq, w_Tru, kTru_bl, kTru_int, kTru_tup, kTru_lst, kTru_non, w_NotT, kNotT_eq, w_AndT, kAndT_eq, w_OrT, kOrT_eq, w_IsN, kIsN_eq, w_If, kIf_eq, w_Chain, kCh1_eq, kCh2_eq, kCh3_eq, w_Bi, kBi_eq, on1_eq, on2_eq, w_Meth, kMeth_eq, kMeth2_eq, w_Ix, kIx_eq, kIx2_eq, w_Get2, kGet1_eq, kGet2_eq, kGet3_eq, w_NoP, w_Part, kPart_eq, w_Sl, kSl1_eq, kSl2_eq, kSl3_eq, w_Call, kCall_eq, w_CallP, kCallP_eq, w_OfO, kOfO_eq, toD_lst, toD_dic, w_LstO, kLstO_eq, w_DicO, w_Rep, kRep_eq, kRep2_eq, w_Pn, w_Pc, kPc1_eq, kPc2_eq, kPc3_eq, w_Disp, kDisp_eq, kDisp2_eq, keyed_nil, keyed_S, keyed_I, w_Lc, kLc_eq, kLc2_eq, w_Il, kIl_eq, w_It, kIt_eq, w_Ir1, kIr1_eq, w_Ir2, kIr2_eq, w_Ie, kIe_eq, w_IeT, kIeT_eq, w_Yes, w_Seq, kSeq_nx, kSeq_bk, kSeq_ct, kSeq_rt, w_Nx, w_Bk, w_Ct, w_RetN, w_Ret, kRet_eq, w_Drop, kDrop_eq, w_IfS, kIfS_eq, w_Frz, w_Set, kSet_eq, w_SetO, kSetO_eq, w_Aft, kAft_eq, w_Asg, kAsg_eq, kAsg2_eq, w_For, kFor_eq, w_While, w_Put, kPut_eq, kPut2_own, kPut2_ref, kPutR_eq, w_Own, w_OwnE, w_OwnS, kOwn_eq, kOwnE_eq, kOwnS_eq, w_Fn, kFn_nx, kFn_rt, kLoop_nx, kLoop_ct, kLoop_bk, kLoop_rt, w_Ir3, kIr3_eq, w_Lrg, kLrg_eq, w_AppPop, kApp0_eq, w_Never, w_Irv, kIrv_eq, w_Star, kStar_tup, kStar_lst, kStar2_eq, o_addI, o_addS, o_addT, o_addL, o_sub, o_fdiv, o_mod, o_pow, o_shl, o_shr, o_and, o_or, o_mul, o_lt, o_le, o_gt, o_ge, lt_eq, le_eq, gt_eq, ge_eq, o_neg, o_nob, o_eqI, o_eqS, o_neI, o_neS, eqo_int, ixS_tup, ixS_lst, ixS_dic, ixS_ref0, ixS_ref1, ixo_tup, ixo_lst, ixo_dicI, ixo_dicS, atI_0, atI_1, atI_2, atI_3, atI_4, atI_5, atI_6, atI_7, atI_8, pr_0, pr_1, pr_2, pr_3, po_dicI, po_dicS, app_eq, ext_eq, isL_eq, isD_eq, DisL_eq, o_lenL, o_lenT, o_lenD, o_lenS, o_toI, o_abs, o_strI, o_max2, o_min2, o_toT, o_toTT, o_toL, o_toLT, o_sloT, o_sloL, o_sloS, g_Nm, g_Tu, g_Cons, g_Nil, own_val, own_no, merge_new, dGet_cons, dGet_nil, dGet2_S, dGet2_I, o_sset, o_ssetI, o_toIb, fl_int, fl_bl, fl_str, fl_non, isNon_non, isNon_int, isNon_tup, o_inI, o_ninI, o_ninE, o_mkRng, isNon_bl, o_eqB, List.getElem?_cons_zero, List.getElem?_cons_succ, List.set_cons_zero, List.set_cons_succ, List.length_cons, List.length_nil, List.map_cons, List.map_nil, List.cons_append, List.nil_append, List.replicate_succ, List.replicate_zero, if_true, if_false, decide_eq_true_eq, decide_eq_false_iff_not, Bool.false_eq_true, and_true, true_and, Bool.not_true, Bool.not_false, reduceIte, Option.bind_some, Option.map_some, Option.getD_some, Option.getD_none, Sum.inr.injEq, Sum.inl.injEq, Nat.reduceAdd, Nat.reduceSub, Nat.reduceLeDiff, Nat.reduceLT, Nat.reduceEqDiff, reduceCtorEq, Int.reduceLT, Int.reduceLE, Int.reduceEq, Int.reduceAdd, Int.reduceSub, Int.reduceMul, Int.reduceNeg, Int.cast_ofNat_Int, Int.natCast_zero, Int.reduceToNat, Int.reducePow, or_true, true_or, String.reduceEq, decide_true, decide_false, Bool.not_eq_true', Bool.not_eq_false', List.all_cons, List.all_nil, Bool.and_true, Bool.true_and, Bool.true_or, Bool.or_true, wipeS, startS])

theorem lim_200 : lim62 200 = true := lim_small (by decide) (by decide)
theorem o_mulL {n : Nat} {S : List O} {P : D × List O → Prop} (h : n < 1000) : kO (D.mul (.lst [.int 0]) (.int (n : Int))) S P = P (.lst ((List.range n).map fun _ => nD 0), S) := by
  have e : D.mul (.lst [.int 0]) (.int (n : Int)) = some (.lst ((List.range n).map fun _ => nD 0)) := by
    unfold D.mul
    simp only []
    rw [if_pos (decide_eq_true ⟨by omega, by omega, by simp only [List.length_cons, List.length_nil, Int.toNat_natCast]; omega⟩)]
    congr 2
    rw [Int.toNat_natCast]
    refine List.ext_getElem? fun i => ?_
    rw [List.getElem?_map]
    have e2 : (List.replicate n [D.int 0]).flatten = List.replicate n (D.int 0) := by
      induction n with
      | zero => rfl
      | succ n ih => rw [List.replicate_succ, List.flatten_cons, ih (by omega), List.replicate_succ]; rfl
    rw [e2, List.getElem?_replicate]
    by_cases c : i < n
    · rw [if_pos c, List.getElem?_range c]
      rfl
    · rw [if_neg c, List.getElem?_eq_none (by rw [List.length_range]; omega)]
      rfl
  rw [e, kO_some]
local macro_rules | `(tactic| walk_at "yv") => `(tactic| simp (decide := true) only [lim_200, row_0, row_1, row_2, scn_1, scn_3, scn_5, flm_0, flm_1, flm_2, flm_3, flm_4, cal_0, cal_1, cal_2, o_eqN, o_inNT, o_ninNT, o_ninNL, o_inN, o_eqB, o_eqIN, o_leIN, o_leNI, o_ltNI, le_IN, le_NI, kO_some, w_C, w_Var, w_VarW, kVar_val, kVarW_val, kVarW_lst, kVarW_dic, w_Flat, kFlat_eq, w_Bin, kBin_eq, kBin2_eq, w_Un, kUn_eq, w_Tup, kTup_eq, w_Lst, kLst_eq, w_Nil, w_Cons, kCons_eq, kCons2_eq, w_And, kAnd_eq, w_Or, kOr_eq, w_Tst, kTst_eq, w_Tru, kTru_bl, kTru_int, kTru_tup, kTru_lst, kTru_non, w_NotT, kNotT_eq, w_AndT, kAndT_eq, w_OrT, kOrT_eq, w_IsN, kIsN_eq, w_If, kIf_eq, w_Chain, kCh1_eq, kCh2_eq, kCh3_eq, w_Bi, kBi_eq, on1_eq, on2_eq, w_Meth, kMeth_eq, kMeth2_eq, w_Ix, kIx_eq, kIx2_eq, w_Get2, kGet1_eq, kGet2_eq, kGet3_eq, w_NoP, w_Part, kPart_eq, w_Sl, kSl1_eq, kSl2_eq, kSl3_eq, w_Call, kCall_eq, w_CallP, kCallP_eq, w_OfO, kOfO_eq, toD_lst, toD_dic, w_LstO, kLstO_eq, w_DicO, w_Rep, kRep_eq, kRep2_eq, w_Pn, w_Pc, kPc1_eq, kPc2_eq, kPc3_eq, w_Disp, kDisp_eq, kDisp2_eq, keyed_nil, keyed_S, keyed_I, w_Lc, kLc_eq, kLc2_eq, w_Il, kIl_eq, w_It, kIt_eq, w_Ir1, kIr1_eq, w_Ir2, kIr2_eq, w_Ie, kIe_eq, w_IeT, kIeT_eq, w_Yes, w_Seq, kSeq_nx, kSeq_bk, kSeq_ct, kSeq_rt, w_Nx, w_Bk, w_Ct, w_RetN, w_Ret, kRet_eq, w_Drop, kDrop_eq, w_IfS, kIfS_eq, w_Frz, w_Set, kSet_eq, w_SetO, kSetO_eq, w_Aft, kAft_eq, w_Asg, kAsg_eq, kAsg2_eq, w_For, kFor_eq, w_While, w_Put, kPut_eq, kPut2_own, kPut2_ref, kPutR_eq, w_Own, w_OwnE, w_OwnS, kOwn_eq, kOwnE_eq, kOwnS_eq, w_Fn, kFn_nx, kFn_rt, kLoop_nx, kLoop_ct, kLoop_bk, kLoop_rt, w_Ir3, kIr3_eq, w_Lrg, kLrg_eq, w_AppPop, kApp0_eq, w_Never, w_Irv, kIrv_eq, w_Star, kStar_tup, kStar_lst, kStar2_eq, o_addI, o_addS, o_addT, o_addL, o_sub, o_fdiv, o_mod, o_pow, o_shl, o_shr, o_and, o_or, o_mul, o_lt, o_le, o_gt, o_ge, lt_eq, le_eq, gt_eq, ge_eq, o_neg, o_nob, o_eqI, o_eqS, o_neI, o_neS, eqo_int, ixS_tup, ixS_lst, ixS_dic, ixS_ref0, ixS_ref1, ixo_tup, ixo_lst, ixo_dicI, ixo_dicS, atI_0, atI_1, atI_2, atI_3, atI_4, atI_5, atI_6, atI_7, atI_8, pr_0, pr_1, pr_2, pr_3, po_dicI, po_dicS, app_eq, ext_eq, isL_eq, isD_eq, DisL_eq, o_lenL, o_lenT, o_lenD, o_lenS, o_toI, o_abs, o_strI, o_max2, o_min2, o_toT, o_toTT, o_toL, o_toLT, o_sloT, o_sloL, o_sloS, g_Nm, g_Tu, g_Cons, g_Nil, own_val, own_no, merge_new, dGet_cons, dGet_nil, dGet2_S, dGet2_I, o_sset, o_ssetI, o_toIb, fl_int, fl_bl, fl_str, fl_non, isNon_non, isNon_int, isNon_tup, o_inI, o_ninI, o_ninE, o_mkRng, isNon_bl, o_eqB, List.getElem?_cons_zero, List.getElem?_cons_succ, List.set_cons_zero, List.set_cons_succ, List.length_cons, List.length_nil, List.map_cons, List.map_nil, List.cons_append, List.nil_append, List.replicate_succ, List.replicate_zero, if_true, if_false, decide_eq_true_eq, decide_eq_false_iff_not, Bool.false_eq_true, and_true, true_and, Bool.not_true, Bool.not_false, reduceIte, Option.bind_some, Option.map_some, Option.getD_some, Option.getD_none, Sum.inr.injEq, Sum.inl.injEq, Nat.reduceAdd, Nat.reduceSub, Nat.reduceLeDiff, Nat.reduceLT, Nat.reduceEqDiff, reduceCtorEq, Int.reduceLT, Int.reduceLE, Int.reduceEq, Int.reduceAdd, Int.reduceSub, Int.reduceMul, Int.reduceNeg, Int.cast_ofNat_Int, Int.natCast_zero, Int.reduceToNat, Int.reducePow, or_true, true_or, String.reduceEq, decide_true, decide_false, Bool.not_eq_true', Bool.not_eq_false', List.all_cons, List.all_nil, Bool.and_true, Bool.true_and, Bool.true_or, Bool.or_true, wipeS, startS])
theorem fin : ∀ (ns : List Int) (seed : Int), ns.length ≤ 63 → 0 ≤ seed → seed < 2147483647 → ∃ sg S, m_law (lawS 25) [drawer ns seed] = .ok (.rt (.bl true), sg, S) := by
  intro ns seed hl h0 h1
  have main : Wp (m_law (lawS 25) [drawer ns seed]) (fun y => y.1 = .rt (.bl true)) noE := by
    have hd : dOk (drawer ns seed) := dOk.mk hl (by decide) (by decide) h0
    generalize drawer ns seed = o at hd
    unfold m_law lawS
    (try walk_at "yv")
    refine (film_ok hd 12 (by decide) (by decide)).imp ?_
    rintro _ ⟨f, o2, rfl, hf, h2⟩
    (try walk_at "yv")
    refine (take_ok h2 10 (by decide) (by decide)).imp ?_
    rintro _ ⟨r, o3, rfl, r0, r1, h3⟩
    obtain ⟨many, hmany, hm0, hm1⟩ : ∃ many : Nat, 1 + r = (many : Int) ∧ 0 < many ∧ many ≤ 10 := ⟨(1 + r).toNat, by omega, by omega, by omega⟩
    (try walk_at "yv")
    rw [hmany]
    refine (cal_ok hf h3 many (by omega) (by omega)).imp ?_
    rintro _ ⟨c, o4, rfl, hc, h4⟩
    have hcl := hc.len
    subst hcl
    have w1 : Win3 c.aw := win3 hc.aw
    have w2 : Win3 c.cl := win3 hc.cl
    have l1 := hc.awl
    have l2 := hc.cll
    have hns := hf.ns
    have hb : c.lights.length < 1000 := by omega
    (try walk_at "yv")
    refine Wp.loop (fun i sg S => ∃ (x6 x7 x8 x9 x10 x11 x12 x13 x14 : Sl), sg = [.no, .val (.ref 0), .val f.d, .val (.int (c.lights.length : Int)), .val c.d, .own (.lst ((List.range i).map (rowD f c))), x6, x7, x8, x9, x10, x11, x12, x13, x14, .no, .no, .no, .no, .no, .no, .no, .no, .no, .no, .no, .no] ∧ S = [o4] ∧
      isOwn (some x6) = false ∧ isOwn (some x7) = false ∧ isOwn (some x8) = false ∧ isOwn (some x9) = false ∧ isOwn (some x10) = false ∧ isOwn (some x11) = false ∧ isOwn (some x13) = false) ⟨.no, .no, .no, .no, .no, .no, .no, .no, .no, rfl, rfl, rfl, rfl, rfl, rfl, rfl, rfl, rfl⟩ ?_ ?_
    · intro i dd sg S hdd hI
      obtain ⟨x6, x7, x8, x9, x10, x11, x12, x13, x14, e1, e2, h6, h7, h8, h9, h10, h11, h13⟩ := hI
      subst e1 e2
      rw [List.getElem?_map] at hdd
      cases hii : f.scenes[i]? with
      | none => rw [hii] at hdd; cases hdd
      | some s =>
        rw [hii] at hdd
        cases hdd
        have hil : i < f.scenes.length := (List.getElem?_eq_some_iff.mp hii).1
        refine ⟨_, gTu6s h6 h7 h8 h9 h10 h11, ?_⟩
        refine (law_b2 w1 w2 l1 l2 hb (by rw [List.length_map, List.length_range]; omega) h13).imp ?_
        rintro ⟨fl, sg, S2⟩ ⟨e0, x12, x13, x14, e1, e2, h13⟩
        simp only [] at e0 e1 e2
        subst e0 e1 e2
        have er : rowD f c i = .tup ((daysF c s).map nD) := by
          unfold rowD rowsF
          rw [hii]
        have e7 : (List.range i).map (rowD f c) ++ [.tup ((daysF c s).map nD)] = (List.range (i + 1)).map (rowD f c) := by
          rw [List.range_succ, List.map_append, List.map_cons, List.map_nil, er]
        rw [kLoop_nx, e7]
        exact ⟨_, _, _, _, _, _, x12, x13, x14, rfl, rfl, own_val, own_val, own_val, own_val, own_val, own_val, h13⟩
    · intro sg S hI
      obtain ⟨x6, x7, x8, x9, x10, x11, x12, x13, x14, e1, e2, h6, h7, h8, h9, h10, h11, h13⟩ := hI
      subst e1 e2
      rw [List.length_map]
      (try walk_at "yv")
      refine ⟨lim_small (by omega) (by omega), ?_⟩
      rw [show ((c.lights.length : Nat) : Int).toNat = c.lights.length from rfl, rng_nD]
      refine Wp.loop (fun i sg S => ∃ (x7 x13 x15 : Sl), sg = [.no, .val (.ref 0), .val f.d, .val (.int (c.lights.length : Int)), .val c.d, .own (.lst ((List.range f.scenes.length).map (rowD f c))), x6, x7, x8, x9, x10, x11, x12, x13, x14, x15, .no, .no, .no, .no, .no, .no, .no, .no, .no, .no, .no] ∧ S = [o4] ∧ isOwn (some x7) = false ∧ isOwn (some x13) = false ∧ isOwn (some x15) = false) ⟨x7, x13, .no, rfl, rfl, h7, h13, rfl⟩ ?_ ?_
      · intro i dd sg S hdd hI
        obtain ⟨x7, x13, x15, e1, e2, h7, h13, h15⟩ := hI
        subst e1 e2
        obtain ⟨hi, rfl⟩ := rng_nat hdd
        refine ⟨_, gNm_ok h13, ?_⟩
        simp only [List.set_cons_succ, List.set_cons_zero]
        refine (law_b5 hf w1 w2 l1 l2 h7 h15).imp ?_
        rintro ⟨fl, sg, S2⟩ ⟨e0, x7, x15, e1, e2, h7, h15⟩
        simp only [] at e0 e1 e2
        subst e0 e1 e2
        rw [kLoop_nx]
        exact ⟨x7, _, x15, rfl, rfl, h7, own_val, h15⟩
      · intro sg S hI
        obtain ⟨x7, x13, x15, e1, e2, h7, h13, h15⟩ := hI
        subst e1 e2
        (try walk_at "yv")
        rw [List.length_map, List.length_range]
        refine ⟨lim_small (by omega) (by omega), ?_⟩
        rw [show ((f.scenes.length : Nat) : Int).toNat = f.scenes.length from rfl, rng_nD, List.length_map, List.length_range]
        refine ⟨by omega, ?_⟩
        rw [wp_eq (lc_pure (en := nD) (p := fun _ => true) (f := rowD f c) (xs := List.range f.scenes.length) fun k hk => ⟨_, rfl, rfl, fun _ => wp_is (by
          (try walk_at "yv")
          rw [wp_eq (days_of_eq w1 w2 (List.mem_range.mp hk) hb), ← rowsF_at (List.mem_range.mp hk)]
          (try walk_at "yv")
          rfl)⟩)]
        rw [List.filter_eq_self.mpr fun _ _ => rfl]
        (try walk_at "yv")
        rw [o_neR]
        refine ⟨okq_rows, ?_⟩
        (try walk_at "yv")
        try simp only [frz, List.getElem?_cons_succ, List.getElem?_cons_zero, List.set_cons_succ, List.set_cons_zero, toD_lst]
        (try walk_at "yv")
        rw [List.length_map, List.length_range, o_mulL (by omega)]
        (try walk_at "yv")
        have hup : Up f.orders := fun p hp => (hf.od p hp).1
        have hR : ∀ s, DaysOk c.lights.length (rowsF f c s) := fun s => rowsF_ok s
        have hlast : ∀ (d : Nat → Nat) (x6 x7 x8 x9 x10 x11 x12 x13 x14 x15 x17 x18 x19 x20 x21 : Sl), isOwn (some x13) = false → (∀ s, s < f.scenes.length → d s = VF f c s) → Wp (mRet (mBin D.eqo (mCall F_earliest_days (mCons (mVar 2) (mCons (mVar 4) mNil))) (mBi (on1 D.toTup) (mCons (mOfO (oLc false (mIl (mVar 16)) (gNm 13) mYes (mIf (mTst (mBin D.lt (mVar 13) (mVar 3))) (mVar 13) (mC .non)) [13])) mNil)))
            [.no, .val (.ref 0), .val f.d, .val (.int (c.lights.length : Int)), .val c.d, .val (.lst ((List.range f.scenes.length).map (rowD f c))), x6, x7, x8, x9, x10, x11, x12, x13, x14, x15, .val (.lst ((List.range f.scenes.length).map fun s => nD (d s))), x17, x18, x19, x20, x21, .no, .no, .no, .no, .no] [o4]) (fun y => y.1 = .rt (.bl true)) noE := by
          intro d x6 x7 x8 x9 x10 x11 x12 x13 x14 x15 x17 x18 x19 x20 x21 h13 hv
          (try walk_at "yv")
          refine (earliest_eq hf (by decide) w1 w2 hb).imp ?_
          rintro _ rfl
          (try walk_at "yv")
          rw [List.length_map, List.length_range]
          refine ⟨by omega, h13, ?_⟩
          rw [wp_eq (lc_pure (en := fun s => nD (d s)) (p := fun _ => true) (f := gF f c) (xs := List.range f.scenes.length) fun s hs => ⟨_, rfl, rfl, fun _ => wp_is (by
            (try walk_at "yv")
            rw [hv s (List.mem_range.mp hs)]
            unfold gF vD
            by_cases cc : VF f c s < c.lights.length
            · simp [cc]
            · simp [cc])⟩)]
          rw [List.filter_eq_self.mpr fun _ _ => rfl]
          (try walk_at "yv")
          rw [o_eqR]
          exact ⟨okq_early, rfl⟩
        refine Wp.loop (fun i sg S => ∃ (d : Nat → Nat) (x17 x18 x19 x20 x21 : Sl), sg = [.no, .val (.ref 0), .val f.d, .val (.int (c.lights.length : Int)), .val c.d, .val (.lst ((List.range f.scenes.length).map (rowD f c))), x6, x7, x8, x9, x10, x11, x12, x13, x14, x15, .val (.lst ((List.range f.scenes.length).map fun s => nD (d s))), x17, x18, x19, x20, x21, .no, .no, .no, .no, .no] ∧ S = [o4] ∧ isOwn (some x17) = false ∧ isOwn (some x19) = false ∧ (∀ s, d s ≤ VF f c s) ∧ ∀ s, s < i → VF f c s ≤ d s) ⟨fun _ => 0, .no, .no, .no, .no, .no, rfl, rfl, rfl, rfl, fun s => Nat.zero_le _, fun s hs => absurd hs (by omega)⟩ ?_ ?_
        · intro i dd sg S hdd hI
          obtain ⟨d, x17, x18, x19, x20, x21, e1, e2, h17, h19, g1, g2⟩ := hI
          subst e1 e2
          refine ⟨_, gNm_ok h17, ?_⟩
          simp only [List.set_cons_succ, List.set_cons_zero]
          refine law_b7 hf (by decide) hb h13 h19 (fun x18 x19 x20 x21 hfix => ?_) fun x18 x19 x20 x21 h19 => ?_
          · rw [kLoop_bk, kSeq_nx]
            exact hlast d _ _ _ _ _ _ _ _ _ _ _ _ _ _ _ h13 (next_fix hup hR (fun p hp => (hf.od p hp).2) (fun s _ => g1 s) hfix)
          · rw [kLoop_nx]
            refine ⟨nextF c.lights.length f.orders (rowsF f c) d, _, x18, x19, x20, x21, rfl, rfl, own_val, h19, fun s => next_le hup hR g1 s, fun s hs => ?_⟩
            refine next_ge hup hR fun x hx => g2 x ?_
            have : x < s := hup _ (mem_preds.mp hx)
            omega
        · intro sg S hI
          obtain ⟨d, x17, x18, x19, x20, x21, e1, e2, h17, h19, g1, g2⟩ := hI
          subst e1 e2
          rw [rngD_len] at g2
          rw [kSeq_nx]
          exact hlast d _ _ _ _ _ _ _ _ _ _ _ _ _ _ _ h13 fun s hs => Nat.le_antisymm (g1 s) (g2 s (by omega))
  obtain ⟨⟨fl, sg, S⟩, e, q⟩ := main.ok
  exact ⟨sg, S, by rw [e]; simp only [] at q; rw [q]⟩

end Law

namespace Law
open PySem PySem.Spec PyProof.Rows L2 D2
def top (i : Nat) : Stmt := PySem.Challenge.pw_callsheets_k06_days_of_scenes.main.body.getD i (.Pass ⟨0, 0, 0, 0⟩)
structure Txt (K : PySem.W.Frag) (mg : Str → Option Value)  : Prop where
  b_abs : mg "abs" = none
  b_any : mg "any" = none
  b_int : mg "int" = none
  b_len : mg "len" = none
  b_list : mg "list" = none
  b_max : mg "max" = none
  b_range : mg "range" = none
  b_set : mg "set" = none
  b_sorted : mg "sorted" = none
  b_str : mg "str" = none
  b_tuple : mg "tuple" = none
structure Cl (K : PySem.W.Frag) (mg : Str → Option Value) (x : Str) (st : Stmt) (f : Addr) (fd : FuncData) (ps : List Str) : Prop where
  m : mg x = some (.ref f)
  F : Fun K x x st f fd
  b : Binds K fd ps []
abbrev s_led_to : Stmt := top 4
abbrev s_ahead : Stmt := top 5
abbrev s_is_closed : Stmt := top 6
abbrev s_free_scenes : Stmt := top 7
abbrev s_layers : Stmt := top 8
abbrev s__has_window : Stmt := top 12
abbrev s_is_there : Stmt := top 10
abbrev s_is_open : Stmt := top 11
abbrev s__can_be_shot : Stmt := top 14
abbrev s_days_of : Stmt := top 13
abbrev s__first_day : Stmt := top 16
abbrev s_earliest_days : Stmt := top 15
abbrev s__law_take : Stmt := top 19
abbrev s__law_pick : Stmt := top 20
abbrev s__law_film : Stmt := top 21
abbrev s__law_windows : Stmt := top 22
abbrev s__law_calendar : Stmt := top 23
abbrev s_law : Stmt := top 24
section
variable {P : Program} {w : World} {K : PySem.W.Frag} {mg : Str → Option Value} {base : Heap} 
theorem sc_led_to : FnScope n_led_to ["orders", "scene"] (defScope s_led_to) := ⟨rfl, rfl, rfl, by decide +kernel, rfl, by decide +kernel, by decide +kernel⟩
theorem ok_led_to {f_led_to : Addr} {fd_led_to : FuncData} {k : Nat} (T : Txt K mg ) (C_led_to : Cl K mg "led_to" s_led_to f_led_to fd_led_to ["orders", "scene"]) :
    FnOk P w K mg base CX0 (k + 1) f_led_to fd_led_to ["orders", "scene"] (Fn2 K 2 F_led_to) := fn2_ok C_led_to.F sc_led_to fun cdv A outer s H E hr => by
  have hN := sc_led_to.nd
  have hu := units64 hr
  have hu1 := hu_of hr
  exact (ss_cons (s2_own 2 hN (f2_lst a2_nil)) (ss_cons (s2_own 3 hN (f2_lst (a2_cons (e2_var 1) a2_nil))) (ss_cons (s2_while 1000 PassesOwn.never (t2_tru (wk := true) (e2_varW 3)) (ss_cons (s2_ownS0 3 4 PySem.F.plainAttrs_list PySem.F.slot_list_pop PySem.F.type_list_pop mt_pop own_pop hN) (ss_one (s2_for PassesOwn.never rfl (i2_lst (e2_var 0)) (g2_tup rfl (gs2_cons (g2_name 5 hN) (gs2_cons (g2_name 6 hN) gs2_nil))) (ss_one (s2_if (w2_pt (w2_and (t2_cmp (op_eqP hu) ok_eq (e2_var 5) (e2_var 4) (nomark _)) (w2_and1 (t2_cmp (op_nin2 hu) ok_nin (e2_weak (e2_var 6)) (e2_varW 2) rfl)))) (ss_cons (s2_ownE 2 PySem.F.plainAttrs_list PySem.F.slot_list_append PySem.F.type_list_append mt_append own_append (a2_cons (e2_var 6) a2_nil)) (ss_one (s2_ownE 3 PySem.F.plainAttrs_list PySem.F.slot_list_append PySem.F.type_list_append mt_append own_append (a2_cons (e2_var 6) a2_nil)))) ss_nil)))))) (ss_one (s2_frz 2 (s2_ret (e2_callTy call_tuple_of ok_tup rfl T.b_tuple (by decide +kernel) (a2_cons (e2_callB cr_sortedI ok_sortI rfl T.b_sorted (by decide +kernel) (a2_cons (e2_var 2) a2_nil)) a2_nil))))))))
theorem sc_ahead : FnScope n_ahead ["film", "scene"] (defScope s_ahead) := ⟨rfl, rfl, rfl, by decide +kernel, rfl, by decide +kernel, by decide +kernel⟩
theorem ok_ahead {f_ahead : Addr} {fd_ahead : FuncData} {f_led_to : Addr} {fd_led_to : FuncData} {k : Nat} (T : Txt K mg ) (C_ahead : Cl K mg "ahead" s_ahead f_ahead fd_ahead ["film", "scene"]) (C_led_to : Cl K mg "led_to" s_led_to f_led_to fd_led_to ["orders", "scene"]) (G_led_to : FnOk P w K mg base CX0 k f_led_to fd_led_to ["orders", "scene"] (Fn2 K 2 F_led_to)) :
    FnOk P w K mg base CX0 (k + 1) f_ahead fd_ahead ["film", "scene"] (Fn2 K 2 F_ahead) := fn2_ok C_ahead.F sc_ahead fun cdv A outer s H E hr => by
  have hN := sc_ahead.nd
  have hu := units64 hr
  have hu1 := hu_of hr
  exact (ss_cons (s2_letGo 2 (s2_ownLc 2 [("first", 3), ("second", 4)] rfl hN rfl rfl (sw_true rfl rfl rfl (by decide +kernel)) (i2_tup (e2_sub hu1 (e2_var 0) e2_int (fun _ _ => rfl))) (blkOk_by (own := [("first", 3), ("second", 4)]) (by show blkC n_ahead (defScope s_ahead) _ _ = true; decide +kernel)) (fun _ _ _ _ _ => (g2_tup rfl (gs2_cons (g2_name 3 hN) (gs2_cons (g2_name 4 hN) gs2_nil)))) (fun _ _ _ _ _ => ts2_nil) (fun _ _ _ _ _ => (e2_tup (a2_cons (e2_var 4) (a2_cons (e2_var 3) a2_nil)))))) (ss_one (s2_ret (e2_call G_led_to hr rfl C_led_to.m C_led_to.F.kp C_led_to.b (a2_cons (e2_var 2) (a2_cons (e2_var 1) a2_nil)) (cons_len (cons_len (nil_len (n := 0))))))))
theorem sc_is_closed : FnScope n_is_closed ["film", "shot"] (defScope s_is_closed) := ⟨rfl, rfl, rfl, by decide +kernel, rfl, by decide +kernel, by decide +kernel⟩
theorem ok_is_closed {f_is_closed : Addr} {fd_is_closed : FuncData} {k : Nat} (T : Txt K mg ) (C_is_closed : Cl K mg "is_closed" s_is_closed f_is_closed fd_is_closed ["film", "shot"]) :
    FnOk P w K mg base CX0 (k + 1) f_is_closed fd_is_closed ["film", "shot"] (Fn2 K 2 F_is_closed) := fn2_ok C_is_closed.F sc_is_closed fun cdv A outer s H E hr => by
  have hN := sc_is_closed.nd
  have hu := units64 hr
  have hu1 := hu_of hr
  exact (ss_cons (s2_for PassesOwn.never rfl (i2_tup (e2_sub hu1 (e2_var 0) e2_int (fun _ _ => rfl))) (g2_tup rfl (gs2_cons (g2_name 2 hN) (gs2_cons (g2_name 3 hN) gs2_nil))) (ss_one (s2_if (w2_pt (w2_and (t2_cmp (op_in2 hu) ok_in (e2_var 3) (e2_var 1) rfl) (w2_and1 (t2_cmp (op_nin2 hu) ok_nin (e2_var 2) (e2_var 1) rfl)))) (ss_one (s2_ret e2_bl)) ss_nil))) (ss_one (s2_ret e2_bl)))
theorem sc_free_scenes : FnScope n_free_scenes ["film", "shot"] (defScope s_free_scenes) := ⟨rfl, rfl, rfl, by decide +kernel, rfl, by decide +kernel, by decide +kernel⟩
theorem ok_free_scenes {f_free_scenes : Addr} {fd_free_scenes : FuncData} {f_is_closed : Addr} {fd_is_closed : FuncData} {k : Nat} (T : Txt K mg ) (C_free_scenes : Cl K mg "free_scenes" s_free_scenes f_free_scenes fd_free_scenes ["film", "shot"]) (C_is_closed : Cl K mg "is_closed" s_is_closed f_is_closed fd_is_closed ["film", "shot"]) (G_is_closed : FnOk P w K mg base CX0 k f_is_closed fd_is_closed ["film", "shot"] (Fn2 K 2 F_is_closed)) :
    FnOk P w K mg base CX0 (k + 1) f_free_scenes fd_free_scenes ["film", "shot"] (Fn2 K 2 F_free_scenes) := fn2_ok C_free_scenes.F sc_free_scenes fun cdv A outer s H E hr => by
  have hN := sc_free_scenes.nd
  have hu := units64 hr
  have hu1 := hu_of hr
  exact (ss_cons (s2_if (t2_not (t2_tru (wk := false) (e2_call G_is_closed hr rfl C_is_closed.m C_is_closed.F.kp C_is_closed.b (a2_cons (e2_var 0) (a2_cons (e2_var 1) a2_nil)) (cons_len (cons_len (nil_len (n := 0))))))) (ss_one s2_never) ss_nil) (ss_cons (s2_letGo 2 (s2_ownLc 2 [("scene", 3)] rfl hN rfl rfl (sw_true rfl rfl rfl (by decide +kernel)) (i2_rng1 rfl T.b_range (a2_cons (e2_callB call_len2 ok_len rfl T.b_len PySem.boot_len (a2_cons (e2_sub hu1 (e2_var 0) e2_int (fun _ _ => rfl)) a2_nil)) a2_nil)) (blkOk_by (own := [("scene", 3)]) (by show blkC n_free_scenes (defScope s_free_scenes) _ _ = true; decide +kernel)) (fun _ _ _ _ _ => (g2_name 3 hN)) (fun _ _ _ _ _ => (ts2_one (t2_cmp (op_nin2 hu) ok_nin (e2_var 3) (e2_var 1) rfl))) (fun _ _ _ _ _ => (e2_var 3)))) (ss_one (s2_ret (e2_callTy call_tuple_of ok_tup rfl T.b_tuple (by decide +kernel) (a2_cons (e2_ofO (f2_lc [("scene", 3)] rfl hN (i2_lst (e2_var 2)) (blkOk_by (own := [("scene", 3)]) (by show blkC n_free_scenes (defScope s_free_scenes) _ _ = true; decide +kernel)) (fun _ _ _ _ _ => (g2_name 3 hN)) (fun _ _ _ _ _ => (ts2_one (t2_tru (wk := false) (e2_call G_is_closed hr rfl C_is_closed.m C_is_closed.F.kp C_is_closed.b (a2_cons (e2_var 0) (a2_cons (e2_tup (a2_star (e2_var 1) (a2_cons (e2_var 3) a2_nil))) a2_nil)) (cons_len (cons_len (nil_len (n := 0)))))))) (fun _ _ _ _ _ => (e2_var 3)))) a2_nil))))))
theorem sc_layers : FnScope n_layers ["film"] (defScope s_layers) := ⟨rfl, rfl, rfl, by decide +kernel, rfl, by decide +kernel, by decide +kernel⟩
theorem ok_layers {f_layers : Addr} {fd_layers : FuncData} {f_free_scenes : Addr} {fd_free_scenes : FuncData} {k : Nat} (T : Txt K mg ) (C_layers : Cl K mg "layers" s_layers f_layers fd_layers ["film"]) (C_free_scenes : Cl K mg "free_scenes" s_free_scenes f_free_scenes fd_free_scenes ["film", "shot"]) (G_free_scenes : FnOk P w K mg base CX0 k f_free_scenes fd_free_scenes ["film", "shot"] (Fn2 K 2 F_free_scenes)) :
    FnOk P w K mg base CX0 (k + 1) f_layers fd_layers ["film"] (Fn2 K 1 F_layers) := fn2_ok C_layers.F sc_layers fun cdv A outer s H E hr => by
  have hN := sc_layers.nd
  have hu := units64 hr
  have hu1 := hu_of hr
  exact (ss_cons (s2_own 1 hN (f2_lst a2_nil)) (ss_cons (s2_set 2 hN (e2_tup a2_nil)) (ss_cons (s2_while 1000 PassesOwn.never (t2_cmp op_lt ok_lt (e2_callB call_len2 ok_len rfl T.b_len PySem.boot_len (a2_cons (e2_var 2) a2_nil)) (e2_callB call_len2 ok_len rfl T.b_len PySem.boot_len (a2_cons (e2_sub hu1 (e2_var 0) e2_int (fun _ _ => rfl)) a2_nil)) (nomark _)) (ss_cons (s2_set 3 hN (e2_call G_free_scenes hr rfl C_free_scenes.m C_free_scenes.F.kp C_free_scenes.b (a2_cons (e2_var 0) (a2_cons (e2_var 2) a2_nil)) (cons_len (cons_len (nil_len (n := 0)))))) (ss_cons (s2_ownE 1 PySem.F.plainAttrs_list PySem.F.slot_list_append PySem.F.type_list_append mt_append own_append (a2_cons (e2_var 3) a2_nil)) (ss_one (s2_set 2 hN (e2_bin op_addD ok_add (e2_var 2) (e2_var 3))))))) (ss_one (s2_frz 1 (s2_ret (e2_callTy call_tuple_of ok_tup rfl T.b_tuple (by decide +kernel) (a2_cons (e2_var 1) a2_nil))))))))
theorem sc__has_window : FnScope n__has_window ["windows", "number", "day"] (defScope s__has_window) := ⟨rfl, rfl, rfl, by decide +kernel, rfl, by decide +kernel, by decide +kernel⟩
theorem ok__has_window {f__has_window : Addr} {fd__has_window : FuncData} {k : Nat} (T : Txt K mg ) (C__has_window : Cl K mg "_has_window" s__has_window f__has_window fd__has_window ["windows", "number", "day"]) :
    FnOk P w K mg base CX0 (k + 1) f__has_window fd__has_window ["windows", "number", "day"] (Fn2 K 3 F__has_window) := fn2_ok C__has_window.F sc__has_window fun cdv A outer s H E hr => by
  have hN := sc__has_window.nd
  have hu := units64 hr
  have hu1 := hu_of hr
  exact (ss_cons (s2_for PassesOwn.never rfl (i2_tup (e2_var 0)) (g2_tup rfl (gs2_cons (g2_name 3 hN) (gs2_cons (g2_name 4 hN) (gs2_cons (g2_name 5 hN) gs2_nil)))) (ss_one (s2_if (w2_pt (w2_and (t2_cmp (op_eqP hu) ok_eq (e2_var 3) (e2_var 1) (nomark _)) (w2_and1 (t2_chain op_le ok_le op_le ok_le (e2_var 4) (e2_var 2) (e2_var 5))))) (ss_one (s2_ret e2_bl)) ss_nil))) (ss_one (s2_ret e2_bl)))
theorem sc_is_there : FnScope n_is_there ["calendar", "actor", "day"] (defScope s_is_there) := ⟨rfl, rfl, rfl, by decide +kernel, rfl, by decide +kernel, by decide +kernel⟩
theorem ok_is_there {f_is_there : Addr} {fd_is_there : FuncData} {f__has_window : Addr} {fd__has_window : FuncData} {k : Nat} (T : Txt K mg ) (C_is_there : Cl K mg "is_there" s_is_there f_is_there fd_is_there ["calendar", "actor", "day"]) (C__has_window : Cl K mg "_has_window" s__has_window f__has_window fd__has_window ["windows", "number", "day"]) (G__has_window : FnOk P w K mg base CX0 k f__has_window fd__has_window ["windows", "number", "day"] (Fn2 K 3 F__has_window)) :
    FnOk P w K mg base CX0 (k + 1) f_is_there fd_is_there ["calendar", "actor", "day"] (Fn2 K 3 F_is_there) := fn2_ok C_is_there.F sc_is_there fun cdv A outer s H E hr => by
  have hN := sc_is_there.nd
  have hu := units64 hr
  have hu1 := hu_of hr
  exact (ss_one (s2_ret (e2_not (e2_call G__has_window hr rfl C__has_window.m C__has_window.F.kp C__has_window.b (a2_cons (e2_sub hu1 (e2_var 0) e2_int (fun _ _ => rfl)) (a2_cons (e2_var 1) (a2_cons (e2_var 2) a2_nil))) (cons_len (cons_len (cons_len (nil_len (n := 0)))))))))
theorem sc_is_open : FnScope n_is_open ["calendar", "place", "day"] (defScope s_is_open) := ⟨rfl, rfl, rfl, by decide +kernel, rfl, by decide +kernel, by decide +kernel⟩
theorem ok_is_open {f_is_open : Addr} {fd_is_open : FuncData} {f__has_window : Addr} {fd__has_window : FuncData} {k : Nat} (T : Txt K mg ) (C_is_open : Cl K mg "is_open" s_is_open f_is_open fd_is_open ["calendar", "place", "day"]) (C__has_window : Cl K mg "_has_window" s__has_window f__has_window fd__has_window ["windows", "number", "day"]) (G__has_window : FnOk P w K mg base CX0 k f__has_window fd__has_window ["windows", "number", "day"] (Fn2 K 3 F__has_window)) :
    FnOk P w K mg base CX0 (k + 1) f_is_open fd_is_open ["calendar", "place", "day"] (Fn2 K 3 F_is_open) := fn2_ok C_is_open.F sc_is_open fun cdv A outer s H E hr => by
  have hN := sc_is_open.nd
  have hu := units64 hr
  have hu1 := hu_of hr
  exact (ss_one (s2_ret (e2_not (e2_call G__has_window hr rfl C__has_window.m C__has_window.F.kp C__has_window.b (a2_cons (e2_sub hu1 (e2_var 0) e2_int (fun _ _ => rfl)) (a2_cons (e2_var 1) (a2_cons (e2_var 2) a2_nil))) (cons_len (cons_len (cons_len (nil_len (n := 0)))))))))
theorem sc__can_be_shot : FnScope n__can_be_shot ["film", "calendar", "scene", "day"] (defScope s__can_be_shot) := ⟨rfl, rfl, rfl, by decide +kernel, rfl, by decide +kernel, by decide +kernel⟩
theorem ok__can_be_shot {f__can_be_shot : Addr} {fd__can_be_shot : FuncData} {f_is_open : Addr} {fd_is_open : FuncData} {f_is_there : Addr} {fd_is_there : FuncData} {k : Nat} (T : Txt K mg ) (C__can_be_shot : Cl K mg "_can_be_shot" s__can_be_shot f__can_be_shot fd__can_be_shot ["film", "calendar", "scene", "day"]) (C_is_open : Cl K mg "is_open" s_is_open f_is_open fd_is_open ["calendar", "place", "day"]) (C_is_there : Cl K mg "is_there" s_is_there f_is_there fd_is_there ["calendar", "actor", "day"]) (G_is_open : FnOk P w K mg base CX0 k f_is_open fd_is_open ["calendar", "place", "day"] (Fn2 K 3 F_is_open)) (G_is_there : FnOk P w K mg base CX0 k f_is_there fd_is_there ["calendar", "actor", "day"] (Fn2 K 3 F_is_there)) :
    FnOk P w K mg base CX0 (k + 1) f__can_be_shot fd__can_be_shot ["film", "calendar", "scene", "day"] (Fn2 K 4 F__can_be_shot) := fn2_ok C__can_be_shot.F sc__can_be_shot fun cdv A outer s H E hr => by
  have hN := sc__can_be_shot.nd
  have hu := units64 hr
  have hu1 := hu_of hr
  exact (ss_cons (s2_asg (e2_sub hu1 (e2_sub hu1 (e2_var 0) e2_int (fun _ _ => rfl)) (e2_var 2) (fun _ _ => rfl)) (g2_tup rfl (gs2_cons (g2_name 4 hN) (gs2_cons (g2_name 5 hN) (gs2_cons (g2_name 6 hN) (gs2_cons (g2_name 7 hN) (gs2_cons (g2_name 4 hN) (gs2_cons (g2_name 8 hN) gs2_nil)))))))) (ss_cons (s2_if (t2_not (t2_tru (wk := false) (e2_call G_is_open hr rfl C_is_open.m C_is_open.F.kp C_is_open.b (a2_cons (e2_var 1) (a2_cons (e2_var 5) (a2_cons (e2_var 3) a2_nil))) (cons_len (cons_len (cons_len (nil_len (n := 0)))))))) (ss_one (s2_ret e2_bl)) ss_nil) (ss_cons (s2_for PassesOwn.never rfl (i2_tup (e2_var 8)) (g2_name 9 hN) (ss_one (s2_if (t2_not (t2_tru (wk := false) (e2_call G_is_there hr rfl C_is_there.m C_is_there.F.kp C_is_there.b (a2_cons (e2_var 1) (a2_cons (e2_var 9) (a2_cons (e2_var 3) a2_nil))) (cons_len (cons_len (cons_len (nil_len (n := 0)))))))) (ss_one (s2_ret e2_bl)) ss_nil))) (ss_cons (s2_asg (e2_sub hu1 (e2_sub hu1 (e2_var 1) e2_int (fun _ _ => rfl)) (e2_var 3) (fun _ _ => rfl)) (g2_tup rfl (gs2_cons (g2_name 10 hN) (gs2_cons (g2_name 11 hN) gs2_nil)))) (ss_one (s2_ret (e2_or (e2_cmp (op_neP hu) ok_ne (e2_var 6) e2_str (nomark _)) (e2_one (e2_cmp op_le ok_le (e2_var 7) (e2_bin op_sub ok_sub (e2_var 11) (e2_var 10)) (nomark _))))))))))
theorem sc_days_of : FnScope n_days_of ["film", "calendar", "scene"] (defScope s_days_of) := ⟨rfl, rfl, rfl, by decide +kernel, rfl, by decide +kernel, by decide +kernel⟩
theorem ok_days_of {f_days_of : Addr} {fd_days_of : FuncData} {f__can_be_shot : Addr} {fd__can_be_shot : FuncData} {k : Nat} (T : Txt K mg ) (C_days_of : Cl K mg "days_of" s_days_of f_days_of fd_days_of ["film", "calendar", "scene"]) (C__can_be_shot : Cl K mg "_can_be_shot" s__can_be_shot f__can_be_shot fd__can_be_shot ["film", "calendar", "scene", "day"]) (G__can_be_shot : FnOk P w K mg base CX0 k f__can_be_shot fd__can_be_shot ["film", "calendar", "scene", "day"] (Fn2 K 4 F__can_be_shot)) :
    FnOk P w K mg base CX0 (k + 1) f_days_of fd_days_of ["film", "calendar", "scene"] (Fn2 K 3 F_days_of) := fn2_ok C_days_of.F sc_days_of fun cdv A outer s H E hr => by
  have hN := sc_days_of.nd
  have hu := units64 hr
  have hu1 := hu_of hr
  exact (ss_cons (s2_set 3 hN (e2_callTy cr_range1 ok_rng1 rfl T.b_range (by decide +kernel) (a2_cons (e2_callB call_len2 ok_len rfl T.b_len PySem.boot_len (a2_cons (e2_sub hu1 (e2_var 1) e2_int (fun _ _ => rfl)) a2_nil)) a2_nil))) (ss_one (s2_ret (e2_callTy call_tuple_of ok_tup rfl T.b_tuple (by decide +kernel) (a2_cons (e2_ofO (f2_lc [("day", 4)] rfl hN (i2_rngV (e2_var 3)) (blkOk_by (own := [("day", 4)]) (by show blkC n_days_of (defScope s_days_of) _ _ = true; decide +kernel)) (fun _ _ _ _ _ => (g2_name 4 hN)) (fun _ _ _ _ _ => (ts2_one (t2_tru (wk := false) (e2_call G__can_be_shot hr rfl C__can_be_shot.m C__can_be_shot.F.kp C__can_be_shot.b (a2_cons (e2_var 0) (a2_cons (e2_var 1) (a2_cons (e2_var 2) (a2_cons (e2_var 4) a2_nil)))) (cons_len (cons_len (cons_len (cons_len (nil_len (n := 0)))))))))) (fun _ _ _ _ _ => (e2_var 4)))) a2_nil)))))
theorem sc__first_day : FnScope n__first_day ["days", "bounds"] (defScope s__first_day) := ⟨rfl, rfl, rfl, by decide +kernel, rfl, by decide +kernel, by decide +kernel⟩
theorem ok__first_day {f__first_day : Addr} {fd__first_day : FuncData} {k : Nat} (T : Txt K mg ) (C__first_day : Cl K mg "_first_day" s__first_day f__first_day fd__first_day ["days", "bounds"]) :
    FnOk P w K mg base CX0 (k + 1) f__first_day fd__first_day ["days", "bounds"] (Fn2 K 2 F__first_day) := fn2_ok C__first_day.F sc__first_day fun cdv A outer s H E hr => by
  have hN := sc__first_day.nd
  have hu := units64 hr
  have hu1 := hu_of hr
  exact (ss_cons (s2_if (t2_cmp (op_in2 hu) ok_in e2_non (e2_var 1) rfl) (ss_one (s2_ret e2_non)) ss_nil) (ss_cons (s2_set 2 hN (e2_maxDf rfl rfl T.b_max (e2_var 1) e2_int)) (ss_cons (s2_for PassesOwn.never rfl (i2_tup (e2_var 0)) (g2_name 3 hN) (ss_one (s2_if (t2_cmp op_ge ok_ge (e2_var 3) (e2_var 2) (nomark _)) (ss_one (s2_ret (e2_var 3))) ss_nil))) (ss_one (s2_ret e2_non)))))
theorem sc_earliest_days : FnScope n_earliest_days ["film", "calendar"] (defScope s_earliest_days) := ⟨rfl, rfl, rfl, by decide +kernel, rfl, by decide +kernel, by decide +kernel⟩
theorem ok_earliest_days {f_earliest_days : Addr} {fd_earliest_days : FuncData} {f__first_day : Addr} {fd__first_day : FuncData} {f_ahead : Addr} {fd_ahead : FuncData} {f_days_of : Addr} {fd_days_of : FuncData} {f_layers : Addr} {fd_layers : FuncData} {k : Nat} (T : Txt K mg ) (C_earliest_days : Cl K mg "earliest_days" s_earliest_days f_earliest_days fd_earliest_days ["film", "calendar"]) (C__first_day : Cl K mg "_first_day" s__first_day f__first_day fd__first_day ["days", "bounds"]) (C_ahead : Cl K mg "ahead" s_ahead f_ahead fd_ahead ["film", "scene"]) (C_days_of : Cl K mg "days_of" s_days_of f_days_of fd_days_of ["film", "calendar", "scene"]) (C_layers : Cl K mg "layers" s_layers f_layers fd_layers ["film"]) (G__first_day : FnOk P w K mg base CX0 k f__first_day fd__first_day ["days", "bounds"] (Fn2 K 2 F__first_day)) (G_ahead : FnOk P w K mg base CX0 k f_ahead fd_ahead ["film", "scene"] (Fn2 K 2 F_ahead)) (G_days_of : FnOk P w K mg base CX0 k f_days_of fd_days_of ["film", "calendar", "scene"] (Fn2 K 3 F_days_of)) (G_layers : FnOk P w K mg base CX0 k f_layers fd_layers ["film"] (Fn2 K 1 F_layers)) :
    FnOk P w K mg base CX0 (k + 1) f_earliest_days fd_earliest_days ["film", "calendar"] (Fn2 K 2 F_earliest_days) := fn2_ok C_earliest_days.F sc_earliest_days fun cdv A outer s H E hr => by
  have hN := sc_earliest_days.nd
  have hu := units64 hr
  have hu1 := hu_of hr
  exact (ss_cons (s2_own 2 hN f2_dic) (ss_cons (s2_for PassesOwn.never rfl (i2_tup (e2_call G_layers hr rfl C_layers.m C_layers.F.kp C_layers.b (a2_cons (e2_var 0) a2_nil) (cons_len (nil_len (n := 0))))) (g2_name 3 hN) (ss_one (s2_for PassesOwn.never rfl (i2_tup (e2_var 3)) (g2_name 4 hN) (ss_cons (s2_letGo 5 (s2_ownLc 5 [("other", 6)] rfl hN rfl rfl (sw_true rfl rfl rfl (by decide +kernel)) (i2_tup (e2_call G_ahead hr rfl C_ahead.m C_ahead.F.kp C_ahead.b (a2_cons (e2_var 0) (a2_cons (e2_var 4) a2_nil)) (cons_len (cons_len (nil_len (n := 0)))))) (blkOk_by (own := [("other", 6)]) (by show blkC n_earliest_days (defScope s_earliest_days) _ _ = true; decide +kernel)) (fun _ _ _ _ _ => (g2_name 6 hN)) (fun _ _ _ _ _ => ts2_nil) (fun _ _ _ _ _ => (e2_flat (e2_sub hu1 (e2_varW 2) (e2_weak (e2_var 6)) (fun _ _ => rfl)))))) (ss_one (s2_put 2 hu1 (e2_call G__first_day hr rfl C__first_day.m C__first_day.F.kp C__first_day.b (a2_cons (e2_call G_days_of hr rfl C_days_of.m C_days_of.F.kp C_days_of.b (a2_cons (e2_var 0) (a2_cons (e2_var 1) (a2_cons (e2_var 4) a2_nil))) (cons_len (cons_len (cons_len (nil_len (n := 0)))))) (a2_cons (e2_var 5) a2_nil)) (cons_len (cons_len (nil_len (n := 0))))) (e2_var 4))))))) (ss_one (s2_frz 2 (s2_ret (e2_callTy call_tuple_of ok_tup rfl T.b_tuple (by decide +kernel) (a2_cons (e2_ofO (f2_lc [("scene", 4)] rfl hN (i2_rng1 rfl T.b_range (a2_cons (e2_callB call_len2 ok_len rfl T.b_len PySem.boot_len (a2_cons (e2_sub hu1 (e2_var 0) e2_int (fun _ _ => rfl)) a2_nil)) a2_nil)) (blkOk_by (own := [("scene", 4)]) (by show blkC n_earliest_days (defScope s_earliest_days) _ _ = true; decide +kernel)) (fun _ _ _ _ _ => (g2_name 4 hN)) (fun _ _ _ _ _ => ts2_nil) (fun _ _ _ _ _ => (e2_sub hu1 (e2_var 2) (e2_var 4) (fun _ _ => rfl))))) a2_nil)))))))
theorem sc__law_take : FnScope n__law_take ["d", "many"] (defScope s__law_take) := ⟨rfl, rfl, rfl, by decide +kernel, rfl, by decide +kernel, by decide +kernel⟩
theorem ok__law_take {f__law_take : Addr} {fd__law_take : FuncData} {k : Nat} (T : Txt K mg ) (C__law_take : Cl K mg "_law_take" s__law_take f__law_take fd__law_take ["d", "many"]) :
    FnOk P w K mg base CX0 (k + 1) f__law_take fd__law_take ["d", "many"] (Fn2 K 2 F__law_take) := fn2_ok C__law_take.F sc__law_take fun cdv A outer s H E hr => by
  have hN := sc__law_take.nd
  have hu := units64 hr
  have hu1 := hu_of hr
  exact (ss_cons (s2_if (w2_pt (w2_and (t2_cmp (op_eqP hu) ok_eq (e2_sub hu1 (e2_var 0) e2_int (fun _ _ => rfl)) e2_int (nomark _)) (w2_and1 (t2_cmp op_lt ok_lt (e2_sub hu1 (e2_var 0) e2_int (fun _ _ => rfl)) (e2_callB call_len2 ok_len rfl T.b_len PySem.boot_len (a2_cons (e2_sub hu1 (e2_var 0) e2_int (fun _ _ => rfl)) a2_nil)) (nomark _))))) (ss_cons (s2_put 0 hu1 (e2_callB call_abs ok_abs rfl T.b_abs (by decide +kernel) (a2_cons (e2_callTy call_int2 ok_int rfl T.b_int (by decide +kernel) (a2_cons (e2_sub hu1 (e2_sub hu1 (e2_var 0) e2_int (fun _ _ => rfl)) (e2_sub hu1 (e2_var 0) e2_int (fun _ _ => rfl)) (fun _ _ => rfl)) a2_nil)) a2_nil)) e2_int) (ss_cons (s2_put 0 hu1 (e2_bin op_addD ok_add (e2_sub hu1 (e2_var 0) e2_int (fun _ _ => rfl)) e2_int) e2_int) (ss_one (s2_if (t2_cmp op_lt ok_lt (e2_sub hu1 (e2_var 0) e2_int (fun _ _ => rfl)) (e2_bin op_pow ok_pow e2_int e2_int) (nomark _)) (ss_cons (s2_set 2 hN (e2_callTy call_int2 ok_int rfl T.b_int (by decide +kernel) (a2_cons (e2_sub hu1 (e2_var 0) e2_int (fun _ _ => rfl)) a2_nil))) (ss_cons (s2_put 0 hu1 e2_int e2_int) (ss_one (s2_ret (e2_bin op_mod ok_mod (e2_var 2) (e2_var 1)))))) ss_nil)))) ss_nil) (ss_cons (s2_if (t2_cmp op_gt ok_gt (e2_sub hu1 (e2_var 0) e2_int (fun _ _ => rfl)) e2_int (nomark _)) (ss_cons (s2_set 3 hN (e2_bin op_mod ok_mod (e2_callTy call_int2 ok_int rfl T.b_int (by decide +kernel) (a2_cons (e2_sub hu1 (e2_var 0) e2_int (fun _ _ => rfl)) a2_nil)) (e2_var 1))) (ss_cons (s2_put 0 hu1 (e2_bin op_fdiv ok_fdiv (e2_callTy call_int2 ok_int rfl T.b_int (by decide +kernel) (a2_cons (e2_sub hu1 (e2_var 0) e2_int (fun _ _ => rfl)) a2_nil)) (e2_var 1)) e2_int) (ss_one (s2_ret (e2_var 3))))) ss_nil) (ss_cons (s2_put 0 hu1 (e2_bin op_mod ok_mod (e2_callTy call_int2 ok_int rfl T.b_int (by decide +kernel) (a2_cons (e2_bin op_addD ok_add (e2_bin op_mulD ok_mul (e2_sub hu1 (e2_var 0) e2_int (fun _ _ => rfl)) e2_int) e2_int) a2_nil)) e2_int) e2_int) (ss_one (s2_ret (e2_bin op_mod ok_mod (e2_callTy call_int2 ok_int rfl T.b_int (by decide +kernel) (a2_cons (e2_bin op_fdiv ok_fdiv (e2_sub hu1 (e2_var 0) e2_int (fun _ _ => rfl)) e2_int) a2_nil)) (e2_var 1)))))))
theorem sc__law_pick : FnScope n__law_pick ["d", "menu"] (defScope s__law_pick) := ⟨rfl, rfl, rfl, by decide +kernel, rfl, by decide +kernel, by decide +kernel⟩
theorem ok__law_pick {f__law_pick : Addr} {fd__law_pick : FuncData} {f__law_take : Addr} {fd__law_take : FuncData} {k : Nat} (T : Txt K mg ) (C__law_pick : Cl K mg "_law_pick" s__law_pick f__law_pick fd__law_pick ["d", "menu"]) (C__law_take : Cl K mg "_law_take" s__law_take f__law_take fd__law_take ["d", "many"]) (G__law_take : FnOk P w K mg base CX0 k f__law_take fd__law_take ["d", "many"] (Fn2 K 2 F__law_take)) :
    FnOk P w K mg base CX0 (k + 1) f__law_pick fd__law_pick ["d", "menu"] (Fn2 K 2 F__law_pick) := fn2_ok C__law_pick.F sc__law_pick fun cdv A outer s H E hr => by
  have hN := sc__law_pick.nd
  have hu := units64 hr
  have hu1 := hu_of hr
  exact (ss_one (s2_ret (e2_sub hu1 (e2_var 1) (e2_call G__law_take hr rfl C__law_take.m C__law_take.F.kp C__law_take.b (a2_cons (e2_var 0) (a2_cons (e2_callB call_len2 ok_len rfl T.b_len PySem.boot_len (a2_cons (e2_var 1) a2_nil)) a2_nil)) (cons_len (cons_len (nil_len (n := 0))))) (fun _ _ => rfl))))
theorem sc__law_film : FnScope n__law_film ["d", "most"] (defScope s__law_film) := ⟨rfl, rfl, rfl, by decide +kernel, rfl, by decide +kernel, by decide +kernel⟩
theorem ok__law_film {f__law_film : Addr} {fd__law_film : FuncData} {f__law_pick : Addr} {fd__law_pick : FuncData} {f__law_take : Addr} {fd__law_take : FuncData} {k : Nat} (T : Txt K mg ) (C__law_film : Cl K mg "_law_film" s__law_film f__law_film fd__law_film ["d", "most"]) (C__law_pick : Cl K mg "_law_pick" s__law_pick f__law_pick fd__law_pick ["d", "menu"]) (C__law_take : Cl K mg "_law_take" s__law_take f__law_take fd__law_take ["d", "many"]) (G__law_pick : FnOk P w K mg base CX0 k f__law_pick fd__law_pick ["d", "menu"] (Fn2 K 2 F__law_pick)) (G__law_take : FnOk P w K mg base CX0 k f__law_take fd__law_take ["d", "many"] (Fn2 K 2 F__law_take)) :
    FnOk P w K mg base CX0 (k + 1) f__law_film fd__law_film ["d", "most"] (Fn2 K 2 F__law_film) := fn2_ok C__law_film.F sc__law_film fun cdv A outer s H E hr => by
  have hN := sc__law_film.nd
  have hu := units64 hr
  have hu1 := hu_of hr
  exact (ss_cons (s2_set 2 hN (e2_callTy call_tuple_of ok_tup rfl T.b_tuple (by decide +kernel) (a2_cons (e2_ofO (f2_lc [("k", 5)] rfl hN (i2_rng1 rfl T.b_range (a2_cons (e2_bin op_addD ok_add e2_int (e2_call G__law_take hr rfl C__law_take.m C__law_take.F.kp C__law_take.b (a2_cons (e2_var 0) (a2_cons e2_int a2_nil)) (cons_len (cons_len (nil_len (n := 0)))))) a2_nil)) (blkOk_by (own := [("k", 5)]) (by show blkC n__law_film (defScope s__law_film) _ _ = true; decide +kernel)) (fun _ _ _ _ _ => (g2_name 5 hN)) (fun _ _ _ _ _ => ts2_nil) (fun _ _ _ _ _ => (e2_tup (a2_cons (e2_bin op_addD ok_add e2_str (e2_callTy call_str_int ok_strI rfl T.b_str (by decide +kernel) (a2_cons (e2_var 5) a2_nil))) (a2_cons (e2_cmp (op_eqP hu) ok_eq (e2_call G__law_take hr rfl C__law_take.m C__law_take.F.kp C__law_take.b (a2_cons (e2_var 0) (a2_cons e2_int a2_nil)) (cons_len (cons_len (nil_len (n := 0))))) e2_int (nomark _)) a2_nil)))))) a2_nil))) (ss_cons (s2_set 3 hN (e2_callTy call_tuple_of ok_tup rfl T.b_tuple (by decide +kernel) (a2_cons (e2_ofO (f2_lc [("k", 5)] rfl hN (i2_rng1 rfl T.b_range (a2_cons (e2_bin op_addD ok_add e2_int (e2_call G__law_take hr rfl C__law_take.m C__law_take.F.kp C__law_take.b (a2_cons (e2_var 0) (a2_cons e2_int a2_nil)) (cons_len (cons_len (nil_len (n := 0)))))) a2_nil)) (blkOk_by (own := [("k", 5)]) (by show blkC n__law_film (defScope s__law_film) _ _ = true; decide +kernel)) (fun _ _ _ _ _ => (g2_name 5 hN)) (fun _ _ _ _ _ => ts2_nil) (fun _ _ _ _ _ => (e2_tup (a2_cons (e2_bin op_addD ok_add e2_str (e2_callTy call_str_int ok_strI rfl T.b_str (by decide +kernel) (a2_cons (e2_var 5) a2_nil))) (a2_cons (e2_cmp (op_eqP hu) ok_eq (e2_call G__law_take hr rfl C__law_take.m C__law_take.F.kp C__law_take.b (a2_cons (e2_var 0) (a2_cons e2_int a2_nil)) (cons_len (cons_len (nil_len (n := 0))))) e2_int (nomark _)) a2_nil)))))) a2_nil))) (ss_cons (s2_own 4 hN (f2_lst a2_nil)) (ss_cons (s2_for PassesOwn.never rfl (i2_rng1 rfl T.b_range (a2_cons (e2_bin op_addD ok_add e2_int (e2_call G__law_take hr rfl C__law_take.m C__law_take.F.kp C__law_take.b (a2_cons (e2_var 0) (a2_cons (e2_var 1) a2_nil)) (cons_len (cons_len (nil_len (n := 0)))))) a2_nil)) (g2_name 5 hN) (ss_cons (s2_set 6 hN (e2_callTy call_tuple_of ok_tup rfl T.b_tuple (by decide +kernel) (a2_cons (e2_ofO (f2_lc [("actor", 10)] rfl hN (i2_rng1 rfl T.b_range (a2_cons (e2_callB call_len2 ok_len rfl T.b_len PySem.boot_len (a2_cons (e2_var 3) a2_nil)) a2_nil)) (blkOk_by (own := [("actor", 10)]) (by show blkC n__law_film (defScope s__law_film) _ _ = true; decide +kernel)) (fun _ _ _ _ _ => (g2_name 10 hN)) (fun _ _ _ _ _ => (ts2_one (t2_cmp (op_eqP hu) ok_eq (e2_call G__law_take hr rfl C__law_take.m C__law_take.F.kp C__law_take.b (a2_cons (e2_var 0) (a2_cons e2_int a2_nil)) (cons_len (cons_len (nil_len (n := 0))))) e2_int (nomark _)))) (fun _ _ _ _ _ => (e2_var 10)))) a2_nil))) (ss_one (s2_ownE 4 PySem.F.plainAttrs_list PySem.F.slot_list_append PySem.F.type_list_append mt_append own_append (a2_cons (e2_tup (a2_cons (e2_bin op_addD ok_add e2_str (e2_callTy call_str_int ok_strI rfl T.b_str (by decide +kernel) (a2_cons (e2_var 5) a2_nil))) (a2_cons (e2_call G__law_take hr rfl C__law_take.m C__law_take.F.kp C__law_take.b (a2_cons (e2_var 0) (a2_cons (e2_callB call_len2 ok_len rfl T.b_len PySem.boot_len (a2_cons (e2_var 2) a2_nil)) a2_nil)) (cons_len (cons_len (nil_len (n := 0))))) (a2_cons (e2_call G__law_pick hr rfl C__law_pick.m C__law_pick.F.kp C__law_pick.b (a2_cons (e2_var 0) (a2_cons (e2_lst (a2_cons e2_str (a2_cons e2_str (a2_cons e2_str (a2_cons e2_str a2_nil))))) a2_nil)) (cons_len (cons_len (nil_len (n := 0))))) (a2_cons (e2_bin op_addD ok_add e2_int (e2_bin op_mulD ok_mul e2_int (e2_call G__law_take hr rfl C__law_take.m C__law_take.F.kp C__law_take.b (a2_cons (e2_var 0) (a2_cons e2_int a2_nil)) (cons_len (cons_len (nil_len (n := 0))))))) (a2_cons (e2_cmp (op_eqP hu) ok_eq (e2_call G__law_take hr rfl C__law_take.m C__law_take.F.kp C__law_take.b (a2_cons (e2_var 0) (a2_cons e2_int a2_nil)) (cons_len (cons_len (nil_len (n := 0))))) e2_int (nomark _)) (a2_cons (e2_var 6) a2_nil))))))) a2_nil))))) (ss_cons (s2_own 7 hN (f2_lst a2_nil)) (ss_cons (s2_frz 4 (s2_for PassesOwn.never rfl (i2_rng1 rfl T.b_range (a2_cons (e2_callB call_len2 ok_len rfl T.b_len PySem.boot_len (a2_cons (e2_var 4) a2_nil)) a2_nil)) (g2_name 8 hN) (ss_one (s2_ownE 7 PySem.F.plainAttrs_list PySem.F.slot_list_extend PySem.F.type_list_extend mt_extend own_extend (a2_cons (e2_ofO (f2_lc [("second", 11)] rfl hN (i2_rng2 rfl T.b_range (a2_cons (e2_bin op_addD ok_add (e2_var 8) e2_int) (a2_cons (e2_callB call_len2 ok_len rfl T.b_len PySem.boot_len (a2_cons (e2_var 4) a2_nil)) a2_nil))) (blkOk_by (own := [("second", 11)]) (by show blkC n__law_film (defScope s__law_film) _ _ = true; decide +kernel)) (fun _ _ _ _ _ => (g2_name 11 hN)) (fun _ _ _ _ _ => (ts2_one (t2_cmp (op_eqP hu) ok_eq (e2_call G__law_take hr rfl C__law_take.m C__law_take.F.kp C__law_take.b (a2_cons (e2_var 0) (a2_cons e2_int a2_nil)) (cons_len (cons_len (nil_len (n := 0))))) e2_int (nomark _)))) (fun _ _ _ _ _ => (e2_tup (a2_cons (e2_var 8) (a2_cons (e2_var 11) a2_nil)))))) a2_nil))))) (ss_cons (s2_set 9 hN (e2_tup (a2_cons (e2_call G__law_take hr rfl C__law_take.m C__law_take.F.kp C__law_take.b (a2_cons (e2_var 0) (a2_cons e2_int a2_nil)) (cons_len (cons_len (nil_len (n := 0))))) (a2_cons (e2_call G__law_take hr rfl C__law_take.m C__law_take.F.kp C__law_take.b (a2_cons (e2_var 0) (a2_cons e2_int a2_nil)) (cons_len (cons_len (nil_len (n := 0))))) (a2_cons (e2_bin op_addD ok_add e2_int (e2_call G__law_take hr rfl C__law_take.m C__law_take.F.kp C__law_take.b (a2_cons (e2_var 0) (a2_cons e2_int a2_nil)) (cons_len (cons_len (nil_len (n := 0)))))) a2_nil))))) (ss_one (s2_frz 4 (s2_frz 7 (s2_ret (e2_tup (a2_cons (e2_var 2) (a2_cons (e2_var 3) (a2_cons (e2_callTy call_tuple_of ok_tup rfl T.b_tuple (by decide +kernel) (a2_cons (e2_var 4) a2_nil)) (a2_cons (e2_callTy call_tuple_of ok_tup rfl T.b_tuple (by decide +kernel) (a2_cons (e2_var 7) a2_nil)) (a2_cons (e2_var 9) a2_nil)))))))))))))))))
theorem sc__law_windows : FnScope n__law_windows ["d", "many", "days"] (defScope s__law_windows) := ⟨rfl, rfl, rfl, by decide +kernel, rfl, by decide +kernel, by decide +kernel⟩
theorem ok__law_windows {f__law_windows : Addr} {fd__law_windows : FuncData} {f__law_take : Addr} {fd__law_take : FuncData} {k : Nat} (T : Txt K mg ) (C__law_windows : Cl K mg "_law_windows" s__law_windows f__law_windows fd__law_windows ["d", "many", "days"]) (C__law_take : Cl K mg "_law_take" s__law_take f__law_take fd__law_take ["d", "many"]) (G__law_take : FnOk P w K mg base CX0 k f__law_take fd__law_take ["d", "many"] (Fn2 K 2 F__law_take)) :
    FnOk P w K mg base CX0 (k + 1) f__law_windows fd__law_windows ["d", "many", "days"] (Fn2 K 3 F__law_windows) := fn2_ok C__law_windows.F sc__law_windows fun cdv A outer s H E hr => by
  have hN := sc__law_windows.nd
  have hu := units64 hr
  have hu1 := hu_of hr
  exact (ss_cons (s2_own 3 hN (f2_lst a2_nil)) (ss_cons (s2_for PassesOwn.never rfl (i2_rng1 rfl T.b_range (a2_cons (e2_call G__law_take hr rfl C__law_take.m C__law_take.F.kp C__law_take.b (a2_cons (e2_var 0) (a2_cons e2_int a2_nil)) (cons_len (cons_len (nil_len (n := 0))))) a2_nil)) (g2_name 4 hN) (ss_cons (s2_set 5 hN (e2_call G__law_take hr rfl C__law_take.m C__law_take.F.kp C__law_take.b (a2_cons (e2_var 0) (a2_cons (e2_var 2) a2_nil)) (cons_len (cons_len (nil_len (n := 0)))))) (ss_one (s2_ownE 3 PySem.F.plainAttrs_list PySem.F.slot_list_append PySem.F.type_list_append mt_append own_append (a2_cons (e2_tup (a2_cons (e2_call G__law_take hr rfl C__law_take.m C__law_take.F.kp C__law_take.b (a2_cons (e2_var 0) (a2_cons (e2_var 1) a2_nil)) (cons_len (cons_len (nil_len (n := 0))))) (a2_cons (e2_var 5) (a2_cons (e2_bin op_addD ok_add (e2_var 5) (e2_call G__law_take hr rfl C__law_take.m C__law_take.F.kp C__law_take.b (a2_cons (e2_var 0) (a2_cons (e2_bin op_sub ok_sub (e2_var 2) (e2_var 5)) a2_nil)) (cons_len (cons_len (nil_len (n := 0)))))) a2_nil)))) a2_nil))))) (ss_one (s2_frz 3 (s2_ret (e2_callTy call_tuple_of ok_tup rfl T.b_tuple (by decide +kernel) (a2_cons (e2_sset rfl hu rfl T.b_sorted rfl T.b_set (e2_var 3)) a2_nil)))))))
theorem sc__law_calendar : FnScope n__law_calendar ["d", "film", "days"] (defScope s__law_calendar) := ⟨rfl, rfl, rfl, by decide +kernel, rfl, by decide +kernel, by decide +kernel⟩
theorem ok__law_calendar {f__law_calendar : Addr} {fd__law_calendar : FuncData} {f__law_take : Addr} {fd__law_take : FuncData} {f__law_windows : Addr} {fd__law_windows : FuncData} {k : Nat} (T : Txt K mg ) (C__law_calendar : Cl K mg "_law_calendar" s__law_calendar f__law_calendar fd__law_calendar ["d", "film", "days"]) (C__law_take : Cl K mg "_law_take" s__law_take f__law_take fd__law_take ["d", "many"]) (C__law_windows : Cl K mg "_law_windows" s__law_windows f__law_windows fd__law_windows ["d", "many", "days"]) (G__law_take : FnOk P w K mg base CX0 k f__law_take fd__law_take ["d", "many"] (Fn2 K 2 F__law_take)) (G__law_windows : FnOk P w K mg base CX0 k f__law_windows fd__law_windows ["d", "many", "days"] (Fn2 K 3 F__law_windows)) :
    FnOk P w K mg base CX0 (k + 1) f__law_calendar fd__law_calendar ["d", "film", "days"] (Fn2 K 3 F__law_calendar) := fn2_ok C__law_calendar.F sc__law_calendar fun cdv A outer s H E hr => by
  have hN := sc__law_calendar.nd
  have hu := units64 hr
  have hu1 := hu_of hr
  exact (ss_cons (s2_set 3 hN (e2_callTy call_tuple_of ok_tup rfl T.b_tuple (by decide +kernel) (a2_cons (e2_ofO (f2_lc [("k", 4)] rfl hN (i2_rng1 rfl T.b_range (a2_cons (e2_var 2) a2_nil)) (blkOk_by (own := [("k", 4)]) (by show blkC n__law_calendar (defScope s__law_calendar) _ _ = true; decide +kernel)) (fun _ _ _ _ _ => (g2_name 4 hN)) (fun _ _ _ _ _ => ts2_nil) (fun _ _ _ _ _ => (e2_tup (a2_cons (e2_bin op_addD ok_add e2_int (e2_call G__law_take hr rfl C__law_take.m C__law_take.F.kp C__law_take.b (a2_cons (e2_var 0) (a2_cons e2_int a2_nil)) (cons_len (cons_len (nil_len (n := 0)))))) (a2_cons (e2_bin op_addD ok_add e2_int (e2_call G__law_take hr rfl C__law_take.m C__law_take.F.kp C__law_take.b (a2_cons (e2_var 0) (a2_cons e2_int a2_nil)) (cons_len (cons_len (nil_len (n := 0)))))) a2_nil)))))) a2_nil))) (ss_one (s2_ret (e2_tup (a2_cons (e2_var 3) (a2_cons (e2_call G__law_windows hr rfl C__law_windows.m C__law_windows.F.kp C__law_windows.b (a2_cons (e2_var 0) (a2_cons (e2_callB call_len2 ok_len rfl T.b_len PySem.boot_len (a2_cons (e2_sub hu1 (e2_var 1) e2_int (fun _ _ => rfl)) a2_nil)) (a2_cons (e2_var 2) a2_nil))) (cons_len (cons_len (cons_len (nil_len (n := 0)))))) (a2_cons (e2_call G__law_windows hr rfl C__law_windows.m C__law_windows.F.kp C__law_windows.b (a2_cons (e2_var 0) (a2_cons (e2_callB call_len2 ok_len rfl T.b_len PySem.boot_len (a2_cons (e2_sub hu1 (e2_var 1) e2_int (fun _ _ => rfl)) a2_nil)) (a2_cons (e2_var 2) a2_nil))) (cons_len (cons_len (cons_len (nil_len (n := 0)))))) a2_nil)))))))
abbrev s__law_begin : Stmt := top 18
abbrev n__law_begin : List Str := ["script", "seed", "cell"]
theorem sc__law_begin : FnScope n__law_begin ["script"] (defScope s__law_begin) := ⟨rfl, rfl, rfl, by decide +kernel, rfl, by decide +kernel, by decide +kernel⟩
theorem ok__law_begin {f_ : Addr} {fd_ : FuncData} {k : Nat} (T : Txt K mg ) (C : Cl K mg "_law_begin" s__law_begin f_ fd_ ["script"]) : FnOk P w K mg base CX0 (k + 1) f_ fd_ ["script"] (spBegin K) := by
  refine C.F.ok sc__law_begin (fun vs H Q E h => ?_) (fun cdv A outer s H vs Q E hr h => ?_)
  · obtain ⟨a, ns, rfl, _⟩ := h
    rfl
  obtain ⟨a, ns, rfl, hS, hl, q⟩ := h
  have hN := sc__law_begin.nd
  refine ⟨_, pss_cons (ps_set (i := 1) hN rfl (Or.inl rfl) pe_int)
    (pss_cons (ps_for PassesOwn.never rfl (pi_list (pv 0)) (pg_name (i := 2) hN rfl (Or.inl rfl))
      (pss_one (ps_set (i := 1) hN rfl (Or.inl rfl) (pe_op op_mod (pe_op op_add (pe_op op_add (pe_op op_mul (pv 1) pe_int) (pe_op op_mod (pe_callTy call_int1 rfl T.b_int (by decide +kernel) (pa_cons (pv 2) pa_nil)) pe_int)) pe_int) pe_int))))
    (pss_one (ps_ret (pe_lst (pa_cons (pe_callTy call_list_of rfl T.b_list (by decide +kernel) (pa_cons (pv 0) pa_nil)) (pa_cons pe_int (pa_cons pe_int (pa_cons (pv 1) pa_nil)))))))), ?_⟩
  refine ⟨_, rfl, a, rfl, ⟨_, hS⟩, for_list (K := K) (a := a) (xs := ns.map V.int) (fun i σ H2 => ∃ (seed : Int) (v : Option V), σ = [some (.ref a), some (.int seed), v] ∧ H2 = H ∧ 0 ≤ seed ∧ seed < 2147483647)
    ⟨1, none, rfl, rfl, by decide, by decide⟩ (fun i σ H2 _ ⟨_, _, _, e, _⟩ => e ▸ hS) ?_ ?_⟩
  · rintro i y σ H2 hi ⟨seed, v, rfl, rfl, hs⟩
    obtain ⟨z, rfl⟩ := sqL_ints hS hi
    exact ⟨_, rfl, _, _, rfl, rfl, (.inr ⟨by decide, by decide⟩), _, rfl, .inl ⟨_, rfl, _, _, rfl, rfl, (by show (0 : Int) < 2147483629; decide), _, _, rfl, rfl, _, _, rfl, rfl, _, _, rfl, rfl, (by show (0 : Int) < 2147483647; decide), _, _, rfl, rfl, Int.emod_nonneg _ (by decide), Int.emod_lt_of_pos _ (by decide)⟩⟩
  · rintro σ H2 ⟨seed, v, rfl, rfl, hs⟩
    refine ⟨_, rfl, a, _, rfl, .inl hS, fun l hl' => ⟨_, rfl, (by show 4 ≤ sizeLine; decide), fun p hp => ?_⟩⟩
    have npl : p ≠ l := fun z => by subst z; rw [upd_same] at hp; cases hp
    have hpH : H2 p = none := by rw [upd_ne npl] at hp; exact hp
    exact q p l seed _ hs.1 hs.2 npl ((Evo.new hl').trans (Evo.new hp)) upd_same (by rw [upd_ne npl.symm]; exact upd_same)
theorem sc_law : FnScope n_law ["script"] (defScope s_law) := ⟨rfl, rfl, rfl, by decide +kernel, rfl, by decide +kernel, by decide +kernel⟩
theorem ok_law {f_law : Addr} {fd_law : FuncData} {f__law_begin : Addr} {fd__law_begin : FuncData} {f__law_calendar : Addr} {fd__law_calendar : FuncData} {f__law_film : Addr} {fd__law_film : FuncData} {f__law_take : Addr} {fd__law_take : FuncData} {f_days_of : Addr} {fd_days_of : FuncData} {f_earliest_days : Addr} {fd_earliest_days : FuncData} {f_is_open : Addr} {fd_is_open : FuncData} {f_is_there : Addr} {fd_is_there : FuncData} {k : Nat} (T : Txt K mg ) (C_law : Cl K mg "law" s_law f_law fd_law ["script"]) (C__law_begin : Cl K mg "_law_begin" s__law_begin f__law_begin fd__law_begin ["script"]) (G__law_begin : FnOk P w K mg base CX0 k f__law_begin fd__law_begin ["script"] (spBegin K)) (C__law_calendar : Cl K mg "_law_calendar" s__law_calendar f__law_calendar fd__law_calendar ["d", "film", "days"]) (C__law_film : Cl K mg "_law_film" s__law_film f__law_film fd__law_film ["d", "most"]) (C__law_take : Cl K mg "_law_take" s__law_take f__law_take fd__law_take ["d", "many"]) (C_days_of : Cl K mg "days_of" s_days_of f_days_of fd_days_of ["film", "calendar", "scene"]) (C_earliest_days : Cl K mg "earliest_days" s_earliest_days f_earliest_days fd_earliest_days ["film", "calendar"]) (C_is_open : Cl K mg "is_open" s_is_open f_is_open fd_is_open ["calendar", "place", "day"]) (C_is_there : Cl K mg "is_there" s_is_there f_is_there fd_is_there ["calendar", "actor", "day"]) (G__law_calendar : FnOk P w K mg base CX0 k f__law_calendar fd__law_calendar ["d", "film", "days"] (Fn2 K 3 F__law_calendar)) (G__law_film : FnOk P w K mg base CX0 k f__law_film fd__law_film ["d", "most"] (Fn2 K 2 F__law_film)) (G__law_take : FnOk P w K mg base CX0 k f__law_take fd__law_take ["d", "many"] (Fn2 K 2 F__law_take)) (G_days_of : FnOk P w K mg base CX0 k f_days_of fd_days_of ["film", "calendar", "scene"] (Fn2 K 3 F_days_of)) (G_earliest_days : FnOk P w K mg base CX0 k f_earliest_days fd_earliest_days ["film", "calendar"] (Fn2 K 2 F_earliest_days)) (G_is_open : FnOk P w K mg base CX0 k f_is_open fd_is_open ["calendar", "place", "day"] (Fn2 K 3 F_is_open)) (G_is_there : FnOk P w K mg base CX0 k f_is_there fd_is_there ["calendar", "actor", "day"] (Fn2 K 3 F_is_there)) (fin : ∀ (ns : List Int) (seed : Int), ns.length ≤ 63 → 0 ≤ seed → seed < 2147483647 → ∃ sg S, m_law (lawS 25) [drawer ns seed] = .ok (.rt (.bl true), sg, S)) :
    FnOk P w K mg base CX0 (k + 1) f_law fd_law ["script"] (spLaw K) := by
  refine C_law.F.ok sc_law (fun vs H Q E h => ?_) (fun cdv A outer s H vs Q E hr h => ?_)
  · obtain ⟨a, ns, rfl, _⟩ := h
    rfl
  obtain ⟨a, ns, rfl, hS, hl, q⟩ := h
  have hN := sc_law.nd
  have hu := units64 hr
  have hu1 := hu_of hr
  have rest : PSs2 (cxOf CX0 P w K mg base n_law "law" (defScope s_law) f_law cdv A outer s H E).nox W0 ((defBody s_law).drop 1) m_law := by
    exact (ss_cons (s2_set 2 hN (e2_call G__law_film hr rfl C__law_film.m C__law_film.F.kp C__law_film.b (a2_cons (e2_var 1) (a2_cons e2_int a2_nil)) (cons_len (cons_len (nil_len (n := 0)))))) (ss_cons (s2_set 3 hN (e2_bin op_addD ok_add e2_int (e2_call G__law_take hr rfl C__law_take.m C__law_take.F.kp C__law_take.b (a2_cons (e2_var 1) (a2_cons e2_int a2_nil)) (cons_len (cons_len (nil_len (n := 0))))))) (ss_cons (s2_set 4 hN (e2_call G__law_calendar hr rfl C__law_calendar.m C__law_calendar.F.kp C__law_calendar.b (a2_cons (e2_var 1) (a2_cons (e2_var 2) (a2_cons (e2_var 3) a2_nil))) (cons_len (cons_len (cons_len (nil_len (n := 0))))))) (ss_cons (s2_own 5 hN (f2_lst a2_nil)) (ss_cons (s2_for PassesOwn.never rfl (i2_tup (e2_sub hu1 (e2_var 2) e2_int (fun _ _ => rfl))) (g2_tup rfl (gs2_cons (g2_name 6 hN) (gs2_cons (g2_name 7 hN) (gs2_cons (g2_name 8 hN) (gs2_cons (g2_name 9 hN) (gs2_cons (g2_name 10 hN) (gs2_cons (g2_name 11 hN) gs2_nil))))))) (ss_cons (s2_own 12 hN (f2_lst a2_nil)) (ss_cons (s2_for PassesOwn.never rfl (i2_rng1 rfl T.b_range (a2_cons (e2_var 3) a2_nil)) (g2_name 13 hN) (ss_cons (s2_set 14 hN (e2_not (e2_callB (cr_any rfl) ok_any rfl T.b_any (by decide +kernel) (a2_cons (e2_ofO (f2_lc [("p", 22), ("first", 23), ("last", 24)] rfl hN (i2_tup (e2_sub hu1 (e2_var 4) e2_int (fun _ _ => rfl))) (blkOk_by (own := [("p", 22), ("first", 23), ("last", 24)]) (by show blkC n_law (defScope s_law) _ _ = true; decide +kernel)) (fun _ _ _ _ _ => (g2_tup rfl (gs2_cons (g2_name 22 hN) (gs2_cons (g2_name 23 hN) (gs2_cons (g2_name 24 hN) gs2_nil))))) (fun _ _ _ _ _ => ts2_nil) (fun _ _ _ _ _ => (e2_and (e2_cmp (op_eqP hu) ok_eq (e2_var 22) (e2_var 7) (nomark _)) (e2_one (e2_chain op_le ok_le op_le ok_le (e2_var 23) (e2_var 13) (e2_var 24))))))) a2_nil)))) (ss_cons (s2_set 14 hN (e2_and (e2_var 14) (e2_one (e2_not (e2_callB (cr_any rfl) ok_any rfl T.b_any (by decide +kernel) (a2_cons (e2_ofO (f2_lc [("a", 25), ("first", 23), ("last", 24)] rfl hN (i2_tup (e2_sub hu1 (e2_var 4) e2_int (fun _ _ => rfl))) (blkOk_by (own := [("a", 25), ("first", 23), ("last", 24)]) (by show blkC n_law (defScope s_law) _ _ = true; decide +kernel)) (fun _ _ _ _ _ => (g2_tup rfl (gs2_cons (g2_name 25 hN) (gs2_cons (g2_name 23 hN) (gs2_cons (g2_name 24 hN) gs2_nil))))) (fun _ _ _ _ _ => ts2_nil) (fun _ _ _ _ _ => (e2_and (e2_cmp (op_in2 hu) ok_in (e2_var 25) (e2_var 11) rfl) (e2_one (e2_chain op_le ok_le op_le ok_le (e2_var 23) (e2_var 13) (e2_var 24))))))) a2_nil)))))) (ss_one (s2_if (w2_pt (w2_and (t2_tru (wk := false) (e2_var 14)) (w2_and1 (w2_pt (w2_or (t2_cmp (op_neP hu) ok_ne (e2_var 8) e2_str (nomark _)) (w2_or1 (t2_cmp op_le ok_le (e2_bin op_addD ok_add (e2_sub hu1 (e2_sub hu1 (e2_sub hu1 (e2_var 4) e2_int (fun _ _ => rfl)) (e2_var 13) (fun _ _ => rfl)) e2_int (fun _ _ => rfl)) (e2_var 9)) (e2_sub hu1 (e2_sub hu1 (e2_sub hu1 (e2_var 4) e2_int (fun _ _ => rfl)) (e2_var 13) (fun _ _ => rfl)) e2_int (fun _ _ => rfl)) (nomark _)))))))) (ss_one (s2_ownE 12 PySem.F.plainAttrs_list PySem.F.slot_list_append PySem.F.type_list_append mt_append own_append (a2_cons (e2_var 13) a2_nil))) ss_nil))))) (ss_one (s2_ownE 5 PySem.F.plainAttrs_list PySem.F.slot_list_append PySem.F.type_list_append mt_append own_append (a2_cons (e2_flat (e2_callTy call_tuple_of ok_tup rfl T.b_tuple (by decide +kernel) (a2_cons (e2_varW 12) a2_nil))) a2_nil)))))) (ss_cons (s2_for PassesOwn.never rfl (i2_rng1 rfl T.b_range (a2_cons (e2_var 3) a2_nil)) (g2_name 13 hN) (ss_cons (s2_for PassesOwn.never rfl (i2_rng1 rfl T.b_range (a2_cons (e2_callB call_len2 ok_len rfl T.b_len PySem.boot_len (a2_cons (e2_sub hu1 (e2_var 2) e2_int (fun _ _ => rfl)) a2_nil)) a2_nil)) (g2_name 15 hN) (ss_one (s2_if (t2_cmp (op_eqP hu) ok_eq (e2_call G_is_there hr rfl C_is_there.m C_is_there.F.kp C_is_there.b (a2_cons (e2_var 4) (a2_cons (e2_var 15) (a2_cons (e2_var 13) a2_nil))) (cons_len (cons_len (cons_len (nil_len (n := 0)))))) (e2_callB (cr_any rfl) ok_any rfl T.b_any (by decide +kernel) (a2_cons (e2_ofO (f2_lc [("a", 25), ("first", 23), ("last", 24)] rfl hN (i2_tup (e2_sub hu1 (e2_var 4) e2_int (fun _ _ => rfl))) (blkOk_by (own := [("a", 25), ("first", 23), ("last", 24)]) (by show blkC n_law (defScope s_law) _ _ = true; decide +kernel)) (fun _ _ _ _ _ => (g2_tup rfl (gs2_cons (g2_name 25 hN) (gs2_cons (g2_name 23 hN) (gs2_cons (g2_name 24 hN) gs2_nil))))) (fun _ _ _ _ _ => ts2_nil) (fun _ _ _ _ _ => (e2_and (e2_cmp (op_eqP hu) ok_eq (e2_var 25) (e2_var 15) (nomark _)) (e2_one (e2_chain op_le ok_le op_le ok_le (e2_var 23) (e2_var 13) (e2_var 24))))))) a2_nil)) (nomark _)) (ss_one (s2_ret e2_bl)) ss_nil))) (ss_one (s2_for PassesOwn.never rfl (i2_rng1 rfl T.b_range (a2_cons (e2_callB call_len2 ok_len rfl T.b_len PySem.boot_len (a2_cons (e2_sub hu1 (e2_var 2) e2_int (fun _ _ => rfl)) a2_nil)) a2_nil)) (g2_name 7 hN) (ss_one (s2_if (t2_cmp (op_eqP hu) ok_eq (e2_call G_is_open hr rfl C_is_open.m C_is_open.F.kp C_is_open.b (a2_cons (e2_var 4) (a2_cons (e2_var 7) (a2_cons (e2_var 13) a2_nil))) (cons_len (cons_len (cons_len (nil_len (n := 0)))))) (e2_callB (cr_any rfl) ok_any rfl T.b_any (by decide +kernel) (a2_cons (e2_ofO (f2_lc [("p", 22), ("first", 23), ("last", 24)] rfl hN (i2_tup (e2_sub hu1 (e2_var 4) e2_int (fun _ _ => rfl))) (blkOk_by (own := [("p", 22), ("first", 23), ("last", 24)]) (by show blkC n_law (defScope s_law) _ _ = true; decide +kernel)) (fun _ _ _ _ _ => (g2_tup rfl (gs2_cons (g2_name 22 hN) (gs2_cons (g2_name 23 hN) (gs2_cons (g2_name 24 hN) gs2_nil))))) (fun _ _ _ _ _ => ts2_nil) (fun _ _ _ _ _ => (e2_and (e2_cmp (op_eqP hu) ok_eq (e2_var 22) (e2_var 7) (nomark _)) (e2_one (e2_chain op_le ok_le op_le ok_le (e2_var 23) (e2_var 13) (e2_var 24))))))) a2_nil)) (nomark _)) (ss_one (s2_ret e2_bl)) ss_nil)))))) (ss_cons (s2_if (t2_cmp (op_neP hu) ok_ne (e2_weak (e2_ofO (f2_lc [("scene", 19)] rfl hN (i2_rng1x rfl T.b_range (a2_cons (e2_callB call_len2 ok_len rfl T.b_len PySem.boot_len (a2_cons (e2_varW 5) a2_nil)) a2_nil)) (blkOk_by (own := [("scene", 19)]) (by show blkC n_law (defScope s_law) _ _ = true; decide +kernel)) (fun _ _ _ _ _ => (g2_name 19 hN)) (fun _ _ _ _ _ => ts2_nil) (fun _ _ _ _ _ => (e2_call G_days_of hr rfl C_days_of.m C_days_of.F.kp C_days_of.b (a2_cons (e2_var 2) (a2_cons (e2_var 4) (a2_cons (e2_var 19) a2_nil))) (cons_len (cons_len (cons_len (nil_len (n := 0)))))))))) (e2_varW 5) (nomark _)) (ss_one (s2_ret e2_bl)) ss_nil) (ss_cons (s2_frz 5 (s2_set 16 hN (e2_bin op_mulD ok_mul (e2_lst (a2_cons e2_int a2_nil)) (e2_callB call_len2 ok_len rfl T.b_len PySem.boot_len (a2_cons (e2_var 5) a2_nil))))) (ss_cons (s2_for PassesOwn.never rfl (i2_rng1 rfl T.b_range (a2_cons e2_int a2_nil)) (g2_name 17 hN) (ss_cons (s2_own 18 hN (f2_lst a2_nil)) (ss_cons (s2_frz 5 (s2_for PassesOwn.never rfl (i2_rng1 rfl T.b_range (a2_cons (e2_callB call_len2 ok_len rfl T.b_len PySem.boot_len (a2_cons (e2_var 5) a2_nil)) a2_nil)) (g2_name 19 hN) (ss_cons (s2_set 20 hN (e2_callB (cr_max rfl) ok_maxL rfl T.b_max (by decide +kernel) (a2_cons (e2_bin op_addD ok_add (e2_ofO (f2_lc [("first", 23), ("second", 26)] rfl hN (i2_tup (e2_sub hu1 (e2_var 2) e2_int (fun _ _ => rfl))) (blkOk_by (own := [("first", 23), ("second", 26)]) (by show blkC n_law (defScope s_law) _ _ = true; decide +kernel)) (fun _ _ _ _ _ => (g2_tup rfl (gs2_cons (g2_name 23 hN) (gs2_cons (g2_name 26 hN) gs2_nil)))) (fun _ _ _ _ _ => (ts2_one (t2_cmp (op_eqP hu) ok_eq (e2_var 26) (e2_var 19) (nomark _)))) (fun _ _ _ _ _ => (e2_sub hu1 (e2_var 16) (e2_var 23) (fun _ _ => rfl))))) (e2_lst (a2_cons (e2_sub hu1 (e2_var 16) (e2_var 19) (fun _ _ => rfl)) a2_nil))) a2_nil))) (ss_cons (s2_letGo 21 (s2_ownLc 21 [("day", 13)] rfl hN rfl rfl (sw_true rfl rfl rfl (by decide +kernel)) (i2_tup (e2_sub hu1 (e2_var 5) (e2_var 19) (fun _ _ => rfl))) (blkOk_by (own := [("day", 13)]) (by show blkC n_law (defScope s_law) _ _ = true; decide +kernel)) (fun _ _ _ _ _ => (g2_name 13 hN)) (fun _ _ _ _ _ => (ts2_one (t2_cmp op_ge ok_ge (e2_var 13) (e2_var 20) (nomark _)))) (fun _ _ _ _ _ => (e2_var 13)))) (ss_one (s2_ownE 18 PySem.F.plainAttrs_list PySem.F.slot_list_append PySem.F.type_list_append mt_append own_append (a2_cons (e2_if (t2_cmp op_gt ok_gt (e2_callB call_len2 ok_len rfl T.b_len PySem.boot_len (a2_cons (e2_var 21) a2_nil)) e2_int (nomark _)) (e2_sub hu1 (e2_var 21) e2_int (fun _ _ => rfl)) (e2_var 3)) a2_nil))))))) (ss_cons (s2_if (t2_cmp (op_eqP hu) ok_eq (e2_varW 18) (e2_weak (e2_var 16)) (nomark _)) (ss_one s2_break) ss_nil) (ss_one (s2_frz 18 (s2_set 16 hN (e2_var 18)))))))) (ss_one (s2_ret (e2_cmp (op_eqP hu) ok_eq (e2_call G_earliest_days hr rfl C_earliest_days.m C_earliest_days.F.kp C_earliest_days.b (a2_cons (e2_var 2) (a2_cons (e2_var 4) a2_nil)) (cons_len (cons_len (nil_len (n := 0))))) (e2_callTy call_tuple_of ok_tup rfl T.b_tuple (by decide +kernel) (a2_cons (e2_ofO (f2_lc [("day", 13)] rfl hN (i2_lst (e2_var 16)) (blkOk_by (own := [("day", 13)]) (by show blkC n_law (defScope s_law) _ _ = true; decide +kernel)) (fun _ _ _ _ _ => (g2_name 13 hN)) (fun _ _ _ _ _ => ts2_nil) (fun _ _ _ _ _ => (e2_if (t2_cmp op_lt ok_lt (e2_var 13) (e2_var 3) (nomark _)) (e2_var 13) e2_non)))) a2_nil)) (nomark _)))))))))))))
  obtain ⟨t, pt, sim⟩ := rest
  refine ⟨_, pss_cons (ps_set (i := 1) hN rfl (by first | exact Or.inl rfl | exact Or.inr rfl) (pe_call G__law_begin hr rfl C__law_begin.m C__law_begin.F.kp C__law_begin.b .nil pass0 (pa_cons (pv 0) pa_nil))) pt, ?_⟩
  refine ⟨_, rfl, a, ns, rfl, hS, hl, fun p q0 seed H' h0 h1 npq ev hp hq => ?_⟩
  obtain ⟨sg', S', e⟩ := fin ns seed hl h0 h1
  refine sim (· = p) H' [p] [] _ _ _ _ H' _ (rl_law (n := 25) rfl rfl npq hp hq) ?_
  rw [e]
  intro v H2 _ _ r
  have r' : v = .bl true := r
  subst r'
  exact q H2
end
theorem all_mk {l : PySem.W.OpenLaw} {w : World} {K : PySem.W.Frag} {h : Heap} {mg : Str → Option Value} {fa : Addr}  (X : K.In h) (G : h.Ns mainGlobals mg) (hfa : mg "law" = some (.ref fa))
    {f0 : Addr} {od0 an0 : Option Addr} {sl0 : Array (Option Value)} {oc0 kV0 dc0 pm0 cd0 ct0 : Value}
    {f1 : Addr} {od1 an1 : Option Addr} {sl1 : Array (Option Value)} {oc1 kV1 dc1 pm1 cd1 ct1 : Value}
    {f2 : Addr} {od2 an2 : Option Addr} {sl2 : Array (Option Value)} {oc2 kV2 dc2 pm2 cd2 ct2 : Value}
    {f3 : Addr} {od3 an3 : Option Addr} {sl3 : Array (Option Value)} {oc3 kV3 dc3 pm3 cd3 ct3 : Value}
    {f4 : Addr} {od4 an4 : Option Addr} {sl4 : Array (Option Value)} {oc4 kV4 dc4 pm4 cd4 ct4 : Value}
    {f5 : Addr} {od5 an5 : Option Addr} {sl5 : Array (Option Value)} {oc5 kV5 dc5 pm5 cd5 ct5 : Value}
    {f6 : Addr} {od6 an6 : Option Addr} {sl6 : Array (Option Value)} {oc6 kV6 dc6 pm6 cd6 ct6 : Value}
    {f7 : Addr} {od7 an7 : Option Addr} {sl7 : Array (Option Value)} {oc7 kV7 dc7 pm7 cd7 ct7 : Value}
    {f8 : Addr} {od8 an8 : Option Addr} {sl8 : Array (Option Value)} {oc8 kV8 dc8 pm8 cd8 ct8 : Value}
    {f9 : Addr} {od9 an9 : Option Addr} {sl9 : Array (Option Value)} {oc9 kV9 dc9 pm9 cd9 ct9 : Value}
    {f10 : Addr} {od10 an10 : Option Addr} {sl10 : Array (Option Value)} {oc10 kV10 dc10 pm10 cd10 ct10 : Value}
    {f11 : Addr} {od11 an11 : Option Addr} {sl11 : Array (Option Value)} {oc11 kV11 dc11 pm11 cd11 ct11 : Value}
    {f12 : Addr} {od12 an12 : Option Addr} {sl12 : Array (Option Value)} {oc12 kV12 dc12 pm12 cd12 ct12 : Value}
    {f13 : Addr} {od13 an13 : Option Addr} {sl13 : Array (Option Value)} {oc13 kV13 dc13 pm13 cd13 ct13 : Value}
    {f14 : Addr} {od14 an14 : Option Addr} {sl14 : Array (Option Value)} {oc14 kV14 dc14 pm14 cd14 ct14 : Value}
    {f15 : Addr} {od15 an15 : Option Addr} {sl15 : Array (Option Value)} {oc15 kV15 dc15 pm15 cd15 ct15 : Value}
    {f16 : Addr} {od16 an16 : Option Addr} {sl16 : Array (Option Value)} {oc16 kV16 dc16 pm16 cd16 ct16 : Value}
    {f17 : Addr} {od17 an17 : Option Addr} {sl17 : Array (Option Value)} {oc17 kV17 dc17 pm17 cd17 ct17 : Value}
    {f18 : Addr} {od18 an18 : Option Addr} {sl18 : Array (Option Value)} {oc18 kV18 dc18 pm18 cd18 ct18 : Value}
    (a0 : PySem.W.nsIn K mainGlobals "_law_begin" = some (some (.ref f0))) (l0 : K.lookup f0 = some ⟨oc0, od0, .func (PySem.W.fnOf "_law_begin" "_law_begin" (defArgs s__law_begin) (defBody s__law_begin) (defScope s__law_begin) .none kV0 dc0 pm0 an0 cd0 ct0), sl0⟩) (c0 : PySem.W.codeIn K cd0 "_law_begin" = true) (k0 : PySem.W.keepIn K (.ref f0) = true)
    (a1 : PySem.W.nsIn K mainGlobals "led_to" = some (some (.ref f1))) (l1 : K.lookup f1 = some ⟨oc1, od1, .func (PySem.W.fnOf "led_to" "led_to" (defArgs s_led_to) (defBody s_led_to) (defScope s_led_to) .none kV1 dc1 pm1 an1 cd1 ct1), sl1⟩) (c1 : PySem.W.codeIn K cd1 "led_to" = true) (k1 : PySem.W.keepIn K (.ref f1) = true)
    (a2 : PySem.W.nsIn K mainGlobals "ahead" = some (some (.ref f2))) (l2 : K.lookup f2 = some ⟨oc2, od2, .func (PySem.W.fnOf "ahead" "ahead" (defArgs s_ahead) (defBody s_ahead) (defScope s_ahead) .none kV2 dc2 pm2 an2 cd2 ct2), sl2⟩) (c2 : PySem.W.codeIn K cd2 "ahead" = true) (k2 : PySem.W.keepIn K (.ref f2) = true)
    (a3 : PySem.W.nsIn K mainGlobals "is_closed" = some (some (.ref f3))) (l3 : K.lookup f3 = some ⟨oc3, od3, .func (PySem.W.fnOf "is_closed" "is_closed" (defArgs s_is_closed) (defBody s_is_closed) (defScope s_is_closed) .none kV3 dc3 pm3 an3 cd3 ct3), sl3⟩) (c3 : PySem.W.codeIn K cd3 "is_closed" = true) (k3 : PySem.W.keepIn K (.ref f3) = true)
    (a4 : PySem.W.nsIn K mainGlobals "free_scenes" = some (some (.ref f4))) (l4 : K.lookup f4 = some ⟨oc4, od4, .func (PySem.W.fnOf "free_scenes" "free_scenes" (defArgs s_free_scenes) (defBody s_free_scenes) (defScope s_free_scenes) .none kV4 dc4 pm4 an4 cd4 ct4), sl4⟩) (c4 : PySem.W.codeIn K cd4 "free_scenes" = true) (k4 : PySem.W.keepIn K (.ref f4) = true)
    (a5 : PySem.W.nsIn K mainGlobals "layers" = some (some (.ref f5))) (l5 : K.lookup f5 = some ⟨oc5, od5, .func (PySem.W.fnOf "layers" "layers" (defArgs s_layers) (defBody s_layers) (defScope s_layers) .none kV5 dc5 pm5 an5 cd5 ct5), sl5⟩) (c5 : PySem.W.codeIn K cd5 "layers" = true) (k5 : PySem.W.keepIn K (.ref f5) = true)
    (a6 : PySem.W.nsIn K mainGlobals "_has_window" = some (some (.ref f6))) (l6 : K.lookup f6 = some ⟨oc6, od6, .func (PySem.W.fnOf "_has_window" "_has_window" (defArgs s__has_window) (defBody s__has_window) (defScope s__has_window) .none kV6 dc6 pm6 an6 cd6 ct6), sl6⟩) (c6 : PySem.W.codeIn K cd6 "_has_window" = true) (k6 : PySem.W.keepIn K (.ref f6) = true)
    (a7 : PySem.W.nsIn K mainGlobals "is_there" = some (some (.ref f7))) (l7 : K.lookup f7 = some ⟨oc7, od7, .func (PySem.W.fnOf "is_there" "is_there" (defArgs s_is_there) (defBody s_is_there) (defScope s_is_there) .none kV7 dc7 pm7 an7 cd7 ct7), sl7⟩) (c7 : PySem.W.codeIn K cd7 "is_there" = true) (k7 : PySem.W.keepIn K (.ref f7) = true)
    (a8 : PySem.W.nsIn K mainGlobals "is_open" = some (some (.ref f8))) (l8 : K.lookup f8 = some ⟨oc8, od8, .func (PySem.W.fnOf "is_open" "is_open" (defArgs s_is_open) (defBody s_is_open) (defScope s_is_open) .none kV8 dc8 pm8 an8 cd8 ct8), sl8⟩) (c8 : PySem.W.codeIn K cd8 "is_open" = true) (k8 : PySem.W.keepIn K (.ref f8) = true)
    (a9 : PySem.W.nsIn K mainGlobals "_can_be_shot" = some (some (.ref f9))) (l9 : K.lookup f9 = some ⟨oc9, od9, .func (PySem.W.fnOf "_can_be_shot" "_can_be_shot" (defArgs s__can_be_shot) (defBody s__can_be_shot) (defScope s__can_be_shot) .none kV9 dc9 pm9 an9 cd9 ct9), sl9⟩) (c9 : PySem.W.codeIn K cd9 "_can_be_shot" = true) (k9 : PySem.W.keepIn K (.ref f9) = true)
    (a10 : PySem.W.nsIn K mainGlobals "days_of" = some (some (.ref f10))) (l10 : K.lookup f10 = some ⟨oc10, od10, .func (PySem.W.fnOf "days_of" "days_of" (defArgs s_days_of) (defBody s_days_of) (defScope s_days_of) .none kV10 dc10 pm10 an10 cd10 ct10), sl10⟩) (c10 : PySem.W.codeIn K cd10 "days_of" = true) (k10 : PySem.W.keepIn K (.ref f10) = true)
    (a11 : PySem.W.nsIn K mainGlobals "_first_day" = some (some (.ref f11))) (l11 : K.lookup f11 = some ⟨oc11, od11, .func (PySem.W.fnOf "_first_day" "_first_day" (defArgs s__first_day) (defBody s__first_day) (defScope s__first_day) .none kV11 dc11 pm11 an11 cd11 ct11), sl11⟩) (c11 : PySem.W.codeIn K cd11 "_first_day" = true) (k11 : PySem.W.keepIn K (.ref f11) = true)
    (a12 : PySem.W.nsIn K mainGlobals "earliest_days" = some (some (.ref f12))) (l12 : K.lookup f12 = some ⟨oc12, od12, .func (PySem.W.fnOf "earliest_days" "earliest_days" (defArgs s_earliest_days) (defBody s_earliest_days) (defScope s_earliest_days) .none kV12 dc12 pm12 an12 cd12 ct12), sl12⟩) (c12 : PySem.W.codeIn K cd12 "earliest_days" = true) (k12 : PySem.W.keepIn K (.ref f12) = true)
    (a13 : PySem.W.nsIn K mainGlobals "_law_take" = some (some (.ref f13))) (l13 : K.lookup f13 = some ⟨oc13, od13, .func (PySem.W.fnOf "_law_take" "_law_take" (defArgs s__law_take) (defBody s__law_take) (defScope s__law_take) .none kV13 dc13 pm13 an13 cd13 ct13), sl13⟩) (c13 : PySem.W.codeIn K cd13 "_law_take" = true) (k13 : PySem.W.keepIn K (.ref f13) = true)
    (a14 : PySem.W.nsIn K mainGlobals "_law_pick" = some (some (.ref f14))) (l14 : K.lookup f14 = some ⟨oc14, od14, .func (PySem.W.fnOf "_law_pick" "_law_pick" (defArgs s__law_pick) (defBody s__law_pick) (defScope s__law_pick) .none kV14 dc14 pm14 an14 cd14 ct14), sl14⟩) (c14 : PySem.W.codeIn K cd14 "_law_pick" = true) (k14 : PySem.W.keepIn K (.ref f14) = true)
    (a15 : PySem.W.nsIn K mainGlobals "_law_film" = some (some (.ref f15))) (l15 : K.lookup f15 = some ⟨oc15, od15, .func (PySem.W.fnOf "_law_film" "_law_film" (defArgs s__law_film) (defBody s__law_film) (defScope s__law_film) .none kV15 dc15 pm15 an15 cd15 ct15), sl15⟩) (c15 : PySem.W.codeIn K cd15 "_law_film" = true) (k15 : PySem.W.keepIn K (.ref f15) = true)
    (a16 : PySem.W.nsIn K mainGlobals "_law_windows" = some (some (.ref f16))) (l16 : K.lookup f16 = some ⟨oc16, od16, .func (PySem.W.fnOf "_law_windows" "_law_windows" (defArgs s__law_windows) (defBody s__law_windows) (defScope s__law_windows) .none kV16 dc16 pm16 an16 cd16 ct16), sl16⟩) (c16 : PySem.W.codeIn K cd16 "_law_windows" = true) (k16 : PySem.W.keepIn K (.ref f16) = true)
    (a17 : PySem.W.nsIn K mainGlobals "_law_calendar" = some (some (.ref f17))) (l17 : K.lookup f17 = some ⟨oc17, od17, .func (PySem.W.fnOf "_law_calendar" "_law_calendar" (defArgs s__law_calendar) (defBody s__law_calendar) (defScope s__law_calendar) .none kV17 dc17 pm17 an17 cd17 ct17), sl17⟩) (c17 : PySem.W.codeIn K cd17 "_law_calendar" = true) (k17 : PySem.W.keepIn K (.ref f17) = true)
    (a18 : PySem.W.nsIn K mainGlobals "law" = some (some (.ref f18))) (l18 : K.lookup f18 = some ⟨oc18, od18, .func (PySem.W.fnOf "law" "law" (defArgs s_law) (defBody s_law) (defScope s_law) .none kV18 dc18 pm18 an18 cd18 ct18), sl18⟩) (c18 : PySem.W.codeIn K cd18 "law" = true) (k18 : PySem.W.keepIn K (.ref f18) = true)
    (zb_abs : PySem.W.nsIn K mainGlobals "abs" = some none)
    (zb_any : PySem.W.nsIn K mainGlobals "any" = some none)
    (zb_int : PySem.W.nsIn K mainGlobals "int" = some none)
    (zb_len : PySem.W.nsIn K mainGlobals "len" = some none)
    (zb_list : PySem.W.nsIn K mainGlobals "list" = some none)
    (zb_max : PySem.W.nsIn K mainGlobals "max" = some none)
    (zb_range : PySem.W.nsIn K mainGlobals "range" = some none)
    (zb_set : PySem.W.nsIn K mainGlobals "set" = some none)
    (zb_sorted : PySem.W.nsIn K mainGlobals "sorted" = some none)
    (zb_str : PySem.W.nsIn K mainGlobals "str" = some none)
    (zb_tuple : PySem.W.nsIn K mainGlobals "tuple" = some none)
    (fin : ∀ (ns : List Int) (seed : Int), ns.length ≤ 63 → 0 ≤ seed → seed < 2147483647 → ∃ sg S, m_law (lawS 25) [drawer ns seed] = .ok (.rt (.bl true), sg, S)) :
    ∃ fd : FuncData, (∀ (s : Shared) (v : Value), BindsTo s fd ⟨[v], []⟩ [("script", v)]) ∧ ∀ base : Heap, K.In base → base.Ns mainGlobals mg → FnOk l.prog w K mg base CX0 6 fa fd ["script"] (spLaw K) := by
  have e := hfa.symm.trans (PySem.W.mg_of X G a18)
  cases e
  have T : Txt K mg  := ⟨PySem.W.mg_none_of X G zb_abs, PySem.W.mg_none_of X G zb_any, PySem.W.mg_none_of X G zb_int, PySem.W.mg_none_of X G zb_len, PySem.W.mg_none_of X G zb_list, PySem.W.mg_none_of X G zb_max, PySem.W.mg_none_of X G zb_range, PySem.W.mg_none_of X G zb_set, PySem.W.mg_none_of X G zb_sorted, PySem.W.mg_none_of X G zb_str, PySem.W.mg_none_of X G zb_tuple⟩
  have F0 := fun_mk (st := s__law_begin) l0 c0 k0
  have C0 : Cl K mg "_law_begin" s__law_begin _ _ ["script"] := ⟨PySem.W.mg_of X G a0, F0, F0.binds (ps := ["script"]) fun _ _ _ _ _ _ us hl => match us, hl with | [_], _ => rfl⟩
  have F1 := fun_mk (st := s_led_to) l1 c1 k1
  have C1 : Cl K mg "led_to" s_led_to _ _ ["orders", "scene"] := ⟨PySem.W.mg_of X G a1, F1, F1.binds (ps := ["orders", "scene"]) fun _ _ _ _ _ _ us hl => match us, hl with | [_, _], _ => rfl⟩
  have F2 := fun_mk (st := s_ahead) l2 c2 k2
  have C2 : Cl K mg "ahead" s_ahead _ _ ["film", "scene"] := ⟨PySem.W.mg_of X G a2, F2, F2.binds (ps := ["film", "scene"]) fun _ _ _ _ _ _ us hl => match us, hl with | [_, _], _ => rfl⟩
  have F3 := fun_mk (st := s_is_closed) l3 c3 k3
  have C3 : Cl K mg "is_closed" s_is_closed _ _ ["film", "shot"] := ⟨PySem.W.mg_of X G a3, F3, F3.binds (ps := ["film", "shot"]) fun _ _ _ _ _ _ us hl => match us, hl with | [_, _], _ => rfl⟩
  have F4 := fun_mk (st := s_free_scenes) l4 c4 k4
  have C4 : Cl K mg "free_scenes" s_free_scenes _ _ ["film", "shot"] := ⟨PySem.W.mg_of X G a4, F4, F4.binds (ps := ["film", "shot"]) fun _ _ _ _ _ _ us hl => match us, hl with | [_, _], _ => rfl⟩
  have F5 := fun_mk (st := s_layers) l5 c5 k5
  have C5 : Cl K mg "layers" s_layers _ _ ["film"] := ⟨PySem.W.mg_of X G a5, F5, F5.binds (ps := ["film"]) fun _ _ _ _ _ _ us hl => match us, hl with | [_], _ => rfl⟩
  have F6 := fun_mk (st := s__has_window) l6 c6 k6
  have C6 : Cl K mg "_has_window" s__has_window _ _ ["windows", "number", "day"] := ⟨PySem.W.mg_of X G a6, F6, F6.binds (ps := ["windows", "number", "day"]) fun _ _ _ _ _ _ us hl => match us, hl with | [_, _, _], _ => rfl⟩
  have F7 := fun_mk (st := s_is_there) l7 c7 k7
  have C7 : Cl K mg "is_there" s_is_there _ _ ["calendar", "actor", "day"] := ⟨PySem.W.mg_of X G a7, F7, F7.binds (ps := ["calendar", "actor", "day"]) fun _ _ _ _ _ _ us hl => match us, hl with | [_, _, _], _ => rfl⟩
  have F8 := fun_mk (st := s_is_open) l8 c8 k8
  have C8 : Cl K mg "is_open" s_is_open _ _ ["calendar", "place", "day"] := ⟨PySem.W.mg_of X G a8, F8, F8.binds (ps := ["calendar", "place", "day"]) fun _ _ _ _ _ _ us hl => match us, hl with | [_, _, _], _ => rfl⟩
  have F9 := fun_mk (st := s__can_be_shot) l9 c9 k9
  have C9 : Cl K mg "_can_be_shot" s__can_be_shot _ _ ["film", "calendar", "scene", "day"] := ⟨PySem.W.mg_of X G a9, F9, F9.binds (ps := ["film", "calendar", "scene", "day"]) fun _ _ _ _ _ _ us hl => match us, hl with | [_, _, _, _], _ => rfl⟩
  have F10 := fun_mk (st := s_days_of) l10 c10 k10
  have C10 : Cl K mg "days_of" s_days_of _ _ ["film", "calendar", "scene"] := ⟨PySem.W.mg_of X G a10, F10, F10.binds (ps := ["film", "calendar", "scene"]) fun _ _ _ _ _ _ us hl => match us, hl with | [_, _, _], _ => rfl⟩
  have F11 := fun_mk (st := s__first_day) l11 c11 k11
  have C11 : Cl K mg "_first_day" s__first_day _ _ ["days", "bounds"] := ⟨PySem.W.mg_of X G a11, F11, F11.binds (ps := ["days", "bounds"]) fun _ _ _ _ _ _ us hl => match us, hl with | [_, _], _ => rfl⟩
  have F12 := fun_mk (st := s_earliest_days) l12 c12 k12
  have C12 : Cl K mg "earliest_days" s_earliest_days _ _ ["film", "calendar"] := ⟨PySem.W.mg_of X G a12, F12, F12.binds (ps := ["film", "calendar"]) fun _ _ _ _ _ _ us hl => match us, hl with | [_, _], _ => rfl⟩
  have F13 := fun_mk (st := s__law_take) l13 c13 k13
  have C13 : Cl K mg "_law_take" s__law_take _ _ ["d", "many"] := ⟨PySem.W.mg_of X G a13, F13, F13.binds (ps := ["d", "many"]) fun _ _ _ _ _ _ us hl => match us, hl with | [_, _], _ => rfl⟩
  have F14 := fun_mk (st := s__law_pick) l14 c14 k14
  have C14 : Cl K mg "_law_pick" s__law_pick _ _ ["d", "menu"] := ⟨PySem.W.mg_of X G a14, F14, F14.binds (ps := ["d", "menu"]) fun _ _ _ _ _ _ us hl => match us, hl with | [_, _], _ => rfl⟩
  have F15 := fun_mk (st := s__law_film) l15 c15 k15
  have C15 : Cl K mg "_law_film" s__law_film _ _ ["d", "most"] := ⟨PySem.W.mg_of X G a15, F15, F15.binds (ps := ["d", "most"]) fun _ _ _ _ _ _ us hl => match us, hl with | [_, _], _ => rfl⟩
  have F16 := fun_mk (st := s__law_windows) l16 c16 k16
  have C16 : Cl K mg "_law_windows" s__law_windows _ _ ["d", "many", "days"] := ⟨PySem.W.mg_of X G a16, F16, F16.binds (ps := ["d", "many", "days"]) fun _ _ _ _ _ _ us hl => match us, hl with | [_, _, _], _ => rfl⟩
  have F17 := fun_mk (st := s__law_calendar) l17 c17 k17
  have C17 : Cl K mg "_law_calendar" s__law_calendar _ _ ["d", "film", "days"] := ⟨PySem.W.mg_of X G a17, F17, F17.binds (ps := ["d", "film", "days"]) fun _ _ _ _ _ _ us hl => match us, hl with | [_, _, _], _ => rfl⟩
  have F18 := fun_mk (st := s_law) l18 c18 k18
  have C18 : Cl K mg "law" s_law _ _ ["script"] := ⟨PySem.W.mg_of X G a18, F18, F18.binds (ps := ["script"]) fun _ _ _ _ _ _ us hl => match us, hl with | [_], _ => rfl⟩
  refine ⟨PySem.W.fnOf "law" "law" (defArgs s_law) (defBody s_law) (defScope s_law) .none kV18 dc18 pm18 an18 cd18 ct18, fun s v => .of_eq rfl, fun base _ _ => ?_⟩
  have G0 := ok__law_begin (P := l.prog) (w := w) (base := base) (k := 0) T C0
  have G1 := ok_led_to (P := l.prog) (w := w) (base := base) (k := 0) T C1 
  have G2 := ok_ahead (P := l.prog) (w := w) (base := base) (k := 1) T C2 C1 (G1.mono (by decide)) 
  have G3 := ok_is_closed (P := l.prog) (w := w) (base := base) (k := 0) T C3 
  have G4 := ok_free_scenes (P := l.prog) (w := w) (base := base) (k := 1) T C4 C3 (G3.mono (by decide)) 
  have G5 := ok_layers (P := l.prog) (w := w) (base := base) (k := 2) T C5 C4 (G4.mono (by decide)) 
  have G6 := ok__has_window (P := l.prog) (w := w) (base := base) (k := 0) T C6 
  have G7 := ok_is_there (P := l.prog) (w := w) (base := base) (k := 1) T C7 C6 (G6.mono (by decide)) 
  have G8 := ok_is_open (P := l.prog) (w := w) (base := base) (k := 1) T C8 C6 (G6.mono (by decide)) 
  have G9 := ok__can_be_shot (P := l.prog) (w := w) (base := base) (k := 2) T C9 C8 C7 (G8.mono (by decide)) (G7.mono (by decide)) 
  have G10 := ok_days_of (P := l.prog) (w := w) (base := base) (k := 3) T C10 C9 (G9.mono (by decide)) 
  have G11 := ok__first_day (P := l.prog) (w := w) (base := base) (k := 0) T C11 
  have G12 := ok_earliest_days (P := l.prog) (w := w) (base := base) (k := 4) T C12 C11 C2 C10 C5 (G11.mono (by decide)) (G2.mono (by decide)) (G10.mono (by decide)) (G5.mono (by decide)) 
  have G13 := ok__law_take (P := l.prog) (w := w) (base := base) (k := 0) T C13 
  have G14 := ok__law_pick (P := l.prog) (w := w) (base := base) (k := 1) T C14 C13 (G13.mono (by decide)) 
  have G15 := ok__law_film (P := l.prog) (w := w) (base := base) (k := 2) T C15 C14 C13 (G14.mono (by decide)) (G13.mono (by decide)) 
  have G16 := ok__law_windows (P := l.prog) (w := w) (base := base) (k := 1) T C16 C13 (G13.mono (by decide)) 
  have G17 := ok__law_calendar (P := l.prog) (w := w) (base := base) (k := 2) T C17 C13 C16 (G13.mono (by decide)) (G16.mono (by decide)) 
  exact ok_law (k := 5) T C18 C0 (G0.mono (by decide)) C17 C15 C13 C10 C12 C8 C7 (G17.mono (by decide)) (G15.mono (by decide)) (G13.mono (by decide)) (G10.mono (by decide)) (G12.mono (by decide)) (G8.mono (by decide)) (G7.mono (by decide)) fin
end Law
open PySem PySem.W PyProof.Rows
set_option maxRecDepth 100000 in
set_option maxHeartbeats 0 in
theorem PySem.Challenge.cw_callsheets_k06_days_of_scenes_holds : PySem.Challenge.rw_callsheets_k06_days_of_scenes.Holds := by
  w_on; o_law; k_head; (case hw => w_witness2)
  k_fill
  refine D2.walkL (l := PySem.Challenge.rw_callsheets_k06_days_of_scenes) (k := 6) rfl rfl ⟨rfl, by decide, by decide⟩ (fun w h Y => PySem.W.kIn_of Y) ?F
  case F =>
    intro w mg fa h KX G hmg
    refine' Law.all_mk KX G hmg ?a0 ?l0 ?c0 ?k0 ?a1 ?l1 ?c1 ?k1 ?a2 ?l2 ?c2 ?k2 ?a3 ?l3 ?c3 ?k3 ?a4 ?l4 ?c4 ?k4 ?a5 ?l5 ?c5 ?k5 ?a6 ?l6 ?c6 ?k6 ?a7 ?l7 ?c7 ?k7 ?a8 ?l8 ?c8 ?k8 ?a9 ?l9 ?c9 ?k9 ?a10 ?l10 ?c10 ?k10 ?a11 ?l11 ?c11 ?k11 ?a12 ?l12 ?c12 ?k12 ?a13 ?l13 ?c13 ?k13 ?a14 ?l14 ?c14 ?k14 ?a15 ?l15 ?c15 ?k15 ?a16 ?l16 ?c16 ?k16 ?a17 ?l17 ?c17 ?k17 ?a18 ?l18 ?c18 ?k18 ?zb_abs ?zb_any ?zb_int ?zb_len ?zb_list ?zb_max ?zb_range ?zb_set ?zb_sorted ?zb_str ?zb_tuple Law.fin
    (case a0 => k_is)
    (case l0 => k_is)
    (case c0 => k_is)
    (case k0 => k_is)
    (case a1 => k_is)
    (case l1 => k_is)
    (case c1 => k_is)
    (case k1 => k_is)
    (case a2 => k_is)
    (case l2 => k_is)
    (case c2 => k_is)
    (case k2 => k_is)
    (case a3 => k_is)
    (case l3 => k_is)
    (case c3 => k_is)
    (case k3 => k_is)
    (case a4 => k_is)
    (case l4 => k_is)
    (case c4 => k_is)
    (case k4 => k_is)
    (case a5 => k_is)
    (case l5 => k_is)
    (case c5 => k_is)
    (case k5 => k_is)
    (case a6 => k_is)
    (case l6 => k_is)
    (case c6 => k_is)
    (case k6 => k_is)
    (case a7 => k_is)
    (case l7 => k_is)
    (case c7 => k_is)
    (case k7 => k_is)
    (case a8 => k_is)
    (case l8 => k_is)
    (case c8 => k_is)
    (case k8 => k_is)
    (case a9 => k_is)
    (case l9 => k_is)
    (case c9 => k_is)
    (case k9 => k_is)
    (case a10 => k_is)
    (case l10 => k_is)
    (case c10 => k_is)
    (case k10 => k_is)
    (case a11 => k_is)
    (case l11 => k_is)
    (case c11 => k_is)
    (case k11 => k_is)
    (case a12 => k_is)
    (case l12 => k_is)
    (case c12 => k_is)
    (case k12 => k_is)
    (case a13 => k_is)
    (case l13 => k_is)
    (case c13 => k_is)
    (case k13 => k_is)
    (case a14 => k_is)
    (case l14 => k_is)
    (case c14 => k_is)
    (case k14 => k_is)
    (case a15 => k_is)
    (case l15 => k_is)
    (case c15 => k_is)
    (case k15 => k_is)
    (case a16 => k_is)
    (case l16 => k_is)
    (case c16 => k_is)
    (case k16 => k_is)
    (case a17 => k_is)
    (case l17 => k_is)
    (case c17 => k_is)
    (case k17 => k_is)
    (case a18 => k_is)
    (case l18 => k_is)
    (case c18 => k_is)
    (case k18 => k_is)
    (case zb_abs => k_is)
    (case zb_any => k_is)
    (case zb_int => k_is)
    (case zb_len => k_is)
    (case zb_list => k_is)
    (case zb_max => k_is)
    (case zb_range => k_is)
    (case zb_set => k_is)
    (case zb_sorted => k_is)
    (case zb_str => k_is)
    (case zb_tuple => k_is)

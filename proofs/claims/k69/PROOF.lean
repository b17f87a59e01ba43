import PyProof.Rows.All
import Wide.All
import OpenK.AllK
import Wide.FinOn
import HandS.ForMost
import HandS.ForExc
import KE.DataEq
import HandS.TupAny
import HandS.Strs
import HandS.SortInts
import KE.GoesEnum
import HandS.Conv
import HandS.TupSets
import HandS.SetFor
import HandS.Star
import HandS.SortKw
import PyProof.WalkInts
import HandS.ExcInit
import HandS.TupMul
import HandS.Style
import HandS.Zip
import HandS.IsInst
import KE.SortData
import KE.DataMinMax
import KE.DataCmp
import HandS.ExcValue
import HandS.WideBits
import KE.DatumOrd
import PySem.Challenge.RW_callsheets_k69_takes_on_rolls
set_option Elab.async false
set_option linter.all false
set_option maxRecDepth 100000
set_option maxHeartbeats 4000000
/-! D2: a second layer over HandS: data by value (tuples, lists that no one changes), local lists owned by their name, and what a text computes as a plain function. -/
namespace D2
open PySem L2

/-- data: what a value stands for; ref n: the n-th object that several may change -/
inductive D where
  | non
  | bl (b : Bool)
  | int (i : Int)
  | str (x : Str)
  | tup (ds : List D)
  | lst (ds : List D)
  | dic (ks : List Key) (ds : List D)
  | rng (lo hi : Int)
  | xd (ns : List Str) (ds : List D)
  | ref (n : Nat)

/-! Rep: v stands for d in H; as: the objects that several may change; none of its lists lies in B -/
mutual
def Rep (K : PySem.W.Frag) (as : List Addr) (B : Addr → Prop) (H : Hp) : D → V → Prop
  | .non, v => v = .non
  | .bl b, v => v = .bl b
  | .int i, v => v = .int i
  | .str x, v => v = .str x
  | .tup ds, v => ∃ a xs, v = .ref a ∧ SqT K H a xs ∧ RepA K as B H ds xs
  | .lst ds, v => ∃ a xs, v = .ref a ∧ ¬ B a ∧ H a = some (.lst xs) ∧ RepA K as B H ds xs
  | .dic ks ds, v => ∃ a xs, v = .ref a ∧ ¬ B a ∧ Rd H a (.dK (ks.zip xs)) ∧ ks.length = xs.length ∧ RepA K as B H ds xs
  | .rng lo hi, v => ∃ a, v = .ref a ∧ ¬ B a ∧ H a = some (.rng lo hi)
  | .xd ns ds, v => ∃ a xs, v = .ref a ∧ ¬ B a ∧ H a = some (.xd (ns.zip xs)) ∧ ns.length = xs.length ∧ RepA K as B H ds xs
  | .ref n, v => ∃ a, v = .ref a ∧ as[n]? = some a
def RepA (K : PySem.W.Frag) (as : List Addr) (B : Addr → Prop) (H : Hp) : List D → List V → Prop
  | [], xs => xs = []
  | d :: ds, xs => ∃ v vs, xs = v :: vs ∧ Rep K as B H d v ∧ RepA K as B H ds vs
end

/-- H' has all of H but what lies in W -/
structure Evo (W : Addr → Prop) (H H' : Hp) : Prop where
  keep : ∀ a o, H a = some o → ¬ W a → H' a = some o
  tups : ∀ a xs, H a = some (.tup xs) → H' a = some (.tup xs)
  frzs : ∀ a o u, H a = some (.frz o u) → H' a = some (.frz o u)
  dom : ∀ a, H a ≠ none → H' a ≠ none

section
variable {K : PySem.W.Frag} {as : List Addr} {B B' W W' : Addr → Prop} {H H' H1 H2 : Hp}

theorem Evo.refl : Evo W H H := ⟨fun _ _ h _ => h, fun _ _ h => h, fun _ _ _ h => h, fun _ h => h⟩
theorem Evo.trans (a : Evo W H H1) (b : Evo W H1 H2) : Evo W H H2 :=
  ⟨fun x o h n => b.keep x o (a.keep x o h n) n, fun x o h => b.tups x o (a.tups x o h), fun x o u h => b.frzs x o u (a.frzs x o u h), fun x h => b.dom x (a.dom x h)⟩
theorem Evo.weak (e : Evo W H H1) (h : ∀ a, W a → W' a) : Evo W' H H1 := ⟨fun x o q n => e.keep x o q fun z => n (h x z), e.tups, e.frzs, e.dom⟩
theorem Evo.new {p : Addr} {o : HO} (h : H p = none) : Evo W H (upd H p o) := by
  have np : ∀ a u, H a = some u → a ≠ p := fun a u q => ne_of_none q h
  refine ⟨fun a u q _ => by rw [upd_ne (np a u q)]; exact q, fun a u q => by rw [upd_ne (np a _ q)]; exact q, fun a o u q => by rw [upd_ne (np a _ q)]; exact q, fun a q => ?_⟩
  by_cases e : a = p
  · subst e; exact absurd h q
  · rw [upd_ne e]; exact q
/-- a list, dict or instance is written -/
theorem Evo.put {p : Addr} {o o' : HO} (hp : H p = some o) (hm : ∀ xs, o ≠ .tup xs) (hf : ∀ ob u, o ≠ .frz ob u) (hw : W p) : Evo W H (upd H p o') := by
  refine ⟨fun a u q n => ?_, fun a u q => ?_, fun a ob u q => ?_, fun a q => ?_⟩
  · have e : a ≠ p := fun z => n (z ▸ hw)
    rw [upd_ne e]; exact q
  · have e : a ≠ p := fun z => by subst z; rw [hp] at q; exact hm _ (Option.some.inj q)
    rw [upd_ne e]; exact q
  · have e : a ≠ p := fun z => by subst z; rw [hp] at q; exact hf _ _ (Option.some.inj q)
    rw [upd_ne e]; exact q
  · by_cases e : a = p
    · subst e; rw [upd_same]; exact fun z => nomatch z
    · rw [upd_ne e]; exact q
theorem Evo.back (e : Evo W H H') {p : Addr} (h : H' p = none) : H p = none := by
  cases q : H p with
  | none => rfl
  | some o => exact absurd h (e.dom p (by rw [q]; exact fun z => nomatch z))
theorem Evo.rd (e : Evo W H H') {a : Addr} {u : HO} (h : Rd H a u) (n : ¬ W a) : Rd H' a u := by
  rcases h with h | ⟨o, h⟩
  · exact .inl (e.keep _ _ h n)
  · exact .inr ⟨o, e.frzs _ _ _ h⟩
theorem Evo.sqT (e : Evo W H H') {a : Addr} {xs : List V} (h : SqT K H a xs) : SqT K H' a xs := by
  rcases h with (h | ⟨o, h⟩) | h
  · exact .inl (.inl (e.tups _ _ h))
  · exact .inl (.inr ⟨o, e.frzs _ _ _ h⟩)
  · exact .inr h

mutual
theorem Rep.imp (e : Evo W H H') (hW : ∀ a, W a → B a) (hB : ∀ a, B' a → B a) : ∀ (d : D) (v : V), Rep K as B H d v → Rep K as B' H' d v
  | .non, _, h => h
  | .bl _, _, h => h
  | .int _, _, h => h
  | .str _, _, h => h
  | .tup ds, v, h => by
    obtain ⟨a, xs, e1, h1, h2⟩ := h
    exact ⟨a, xs, e1, e.sqT h1, RepA.imp e hW hB ds xs h2⟩
  | .lst ds, v, h => by
    obtain ⟨a, xs, e1, nb, h1, h2⟩ := h
    exact ⟨a, xs, e1, fun z => nb (hB a z), e.keep _ _ h1 fun z => nb (hW a z), RepA.imp e hW hB ds xs h2⟩
  | .dic ks ds, v, h => by
    obtain ⟨a, xs, e1, nb, h1, hl, h2⟩ := h
    exact ⟨a, xs, e1, fun z => nb (hB a z), e.rd h1 fun z => nb (hW a z), hl, RepA.imp e hW hB ds xs h2⟩
  | .rng _ _, v, h => by
    obtain ⟨a, e1, nb, h1⟩ := h
    exact ⟨a, e1, fun z => nb (hB a z), e.keep _ _ h1 fun z => nb (hW a z)⟩
  | .xd ns ds, v, h => by
    obtain ⟨a, xs, e1, nb, h1, hl, h2⟩ := h
    exact ⟨a, xs, e1, fun z => nb (hB a z), e.keep _ _ h1 fun z => nb (hW a z), hl, RepA.imp e hW hB ds xs h2⟩
  | .ref _, _, h => h
theorem RepA.imp (e : Evo W H H') (hW : ∀ a, W a → B a) (hB : ∀ a, B' a → B a) : ∀ (ds : List D) (xs : List V), RepA K as B H ds xs → RepA K as B' H' ds xs
  | [], _, h => h
  | d :: ds, xs, h => by
    obtain ⟨v, vs, e1, h1, h2⟩ := h
    exact ⟨v, vs, e1, Rep.imp e hW hB d v h1, RepA.imp e hW hB ds vs h2⟩
end
mutual
/-- a list that is not tracked yet may become bad -/
theorem Rep.more {p : Addr} (hp : H p = none) (hB : ∀ a, B' a → B a ∨ a = p) : ∀ (d : D) (v : V), Rep K as B H d v → Rep K as B' H d v
  | .non, _, h => h
  | .bl _, _, h => h
  | .int _, _, h => h
  | .str _, _, h => h
  | .tup ds, v, h => by
    obtain ⟨a, xs, e1, h1, h2⟩ := h
    exact ⟨a, xs, e1, h1, RepA.more hp hB ds xs h2⟩
  | .lst ds, v, h => by
    obtain ⟨a, xs, e1, nb, h1, h2⟩ := h
    refine ⟨a, xs, e1, fun z => ?_, h1, RepA.more hp hB ds xs h2⟩
    rcases hB a z with z | z
    · exact nb z
    · subst z
      rw [hp] at h1; cases h1
  | .dic ks ds, v, h => by
    obtain ⟨a, xs, e1, nb, h1, hl, h2⟩ := h
    refine ⟨a, xs, e1, fun z => ?_, h1, hl, RepA.more hp hB ds xs h2⟩
    rcases hB a z with z | z
    · exact nb z
    · subst z
      rcases h1 with q | ⟨o, q⟩ <;> (rw [hp] at q; cases q)
  | .rng _ _, v, h => by
    obtain ⟨a, e1, nb, h1⟩ := h
    refine ⟨a, e1, fun z => ?_, h1⟩
    rcases hB a z with z | z
    · exact nb z
    · subst z
      rw [hp] at h1; cases h1
  | .xd ns ds, v, h => by
    obtain ⟨a, xs, e1, nb, h1, hl, h2⟩ := h
    refine ⟨a, xs, e1, fun z => ?_, h1, hl, RepA.more hp hB ds xs h2⟩
    rcases hB a z with z | z
    · exact nb z
    · subst z
      rw [hp] at h1; cases h1
  | .ref _, _, h => h
theorem RepA.more {p : Addr} (hp : H p = none) (hB : ∀ a, B' a → B a ∨ a = p) : ∀ (ds : List D) (xs : List V), RepA K as B H ds xs → RepA K as B' H ds xs
  | [], _, h => h
  | d :: ds, xs, h => by
    obtain ⟨v, vs, e1, h1, h2⟩ := h
    exact ⟨v, vs, e1, Rep.more hp hB d v h1, RepA.more hp hB ds vs h2⟩
end
/-! flat: no list and no dict within -/
mutual
def D.flat : D → Bool
  | .tup ds => D.flatA ds
  | .lst _ => false
  | .dic _ _ => false
  | .rng _ _ => false
  | .xd _ _ => false
  | _ => true
def D.flatA : List D → Bool
  | [] => true
  | d :: ds => d.flat && D.flatA ds
end
mutual
theorem Rep.ofFlat : ∀ (d : D) (v : V), d.flat = true → Rep K as B H d v → Rep K as B' H d v
  | .non, _, _, h => h
  | .bl _, _, _, h => h
  | .int _, _, _, h => h
  | .str _, _, _, h => h
  | .tup ds, v, f, h => by
    obtain ⟨a, xs, e1, h1, h2⟩ := h
    exact ⟨a, xs, e1, h1, RepA.ofFlat ds xs f h2⟩
  | .lst _, _, f, _ => nomatch f
  | .dic _ _, _, f, _ => nomatch f
  | .rng _ _, _, f, _ => nomatch f
  | .xd _ _, _, f, _ => nomatch f
  | .ref _, _, _, h => h
theorem RepA.ofFlat : ∀ (ds : List D) (xs : List V), D.flatA ds = true → RepA K as B H ds xs → RepA K as B' H ds xs
  | [], _, _, h => h
  | d :: ds, xs, f, h => by
    obtain ⟨v, vs, e1, h1, h2⟩ := h
    have f' : (d.flat && D.flatA ds) = true := f
    rw [Bool.and_eq_true] at f'
    exact ⟨v, vs, e1, Rep.ofFlat d v f'.1 h1, RepA.ofFlat ds vs f'.2 h2⟩
end
theorem RepA.length : ∀ {ds : List D} {xs : List V}, RepA K as B H ds xs → ds.length = xs.length
  | [], xs, h => by
    have e : xs = [] := h
    rw [e] <;> rfl
  | d :: ds, xs, h => by
    obtain ⟨v, vs, e1, _, h2⟩ := h
    rw [e1, List.length_cons, List.length_cons, RepA.length h2]
theorem RepA.get : ∀ {ds : List D} {xs : List V} {i : Nat} {d : D}, RepA K as B H ds xs → ds[i]? = some d → ∃ v, xs[i]? = some v ∧ Rep K as B H d v
  | [], xs, i, d, _, e => by simp at e
  | c :: ds, xs, 0, d, h, e => by
    obtain ⟨v, vs, e1, h1, _⟩ := h
    simp at e
    subst e; subst e1
    exact ⟨v, rfl, h1⟩
  | c :: ds, xs, i + 1, d, h, e => by
    obtain ⟨v, vs, e1, _, h2⟩ := h
    subst e1
    obtain ⟨w, q1, q2⟩ := RepA.get (i := i) h2 (by simpa using e)
    exact ⟨w, by simpa using q1, q2⟩
theorem RepA.getV : ∀ {ds : List D} {xs : List V} {i : Nat} {v : V}, RepA K as B H ds xs → xs[i]? = some v → ∃ d, ds[i]? = some d ∧ Rep K as B H d v
  | [], xs, i, d, h, e => by
    have e' : xs = [] := h
    subst e'
    simp at e
  | c :: ds, xs, 0, w, h, e => by
    obtain ⟨v, vs, e1, h1, _⟩ := h
    subst e1
    simp at e
    subst e
    exact ⟨c, rfl, h1⟩
  | c :: ds, xs, i + 1, w, h, e => by
    obtain ⟨v, vs, e1, _, h2⟩ := h
    subst e1
    obtain ⟨d, q1, q2⟩ := RepA.getV (i := i) h2 (by simpa using e)
    exact ⟨d, by simpa using q1, q2⟩
theorem RepA.append : ∀ {ds es : List D} {xs ys : List V}, RepA K as B H ds xs → RepA K as B H es ys → RepA K as B H (ds ++ es) (xs ++ ys)
  | [], es, xs, ys, h, g => by
    have e : xs = [] := h
    subst e
    exact g
  | d :: ds, es, xs, ys, h, g => by
    obtain ⟨v, vs, e1, h1, h2⟩ := h
    subst e1
    exact ⟨v, vs ++ ys, rfl, h1, RepA.append h2 g⟩
theorem RepA.one {d : D} {v : V} (h : Rep K as B H d v) : RepA K as B H [d] [v] := ⟨v, [], rfl, h, rfl⟩
theorem RepA.set : ∀ {ds : List D} {xs : List V} (i : Nat) {d : D} {v : V}, RepA K as B H ds xs → Rep K as B H d v → RepA K as B H (ds.set i d) (xs.set i v)
  | [], xs, i, d, v, h, _ => by
    have e : xs = [] := h
    subst e
    exact rfl
  | c :: ds, xs, 0, d, v, h, g => by
    obtain ⟨w, vs, e1, h1, h2⟩ := h
    subst e1
    exact ⟨v, vs, rfl, g, h2⟩
  | c :: ds, xs, i + 1, d, v, h, g => by
    obtain ⟨w, vs, e1, h1, h2⟩ := h
    subst e1
    exact ⟨w, vs.set i v, rfl, h1, RepA.set i h2 g⟩
theorem RepA.take : ∀ {ds : List D} {xs : List V} (n : Nat), RepA K as B H ds xs → RepA K as B H (ds.take n) (xs.take n)
  | _, _, 0, _ => by
    rw [List.take_zero, List.take_zero]
    exact rfl
  | [], xs, n + 1, h => by
    have e : xs = [] := h
    subst e
    exact rfl
  | d :: ds, xs, n + 1, h => by
    obtain ⟨v, vs, e1, h1, h2⟩ := h
    subst e1
    exact ⟨v, vs.take n, rfl, h1, RepA.take n h2⟩
theorem RepA.drop : ∀ {ds : List D} {xs : List V} (n : Nat), RepA K as B H ds xs → RepA K as B H (ds.drop n) (xs.drop n)
  | _, _, 0, h => by
    rw [List.drop_zero, List.drop_zero]
    exact h
  | [], xs, n + 1, h => by
    have e : xs = [] := h
    subst e
    exact rfl
  | d :: ds, xs, n + 1, h => by
    obtain ⟨v, vs, e1, h1, h2⟩ := h
    subst e1
    exact RepA.drop n h2
theorem RepA.cons {d : D} {ds : List D} {v : V} {vs : List V} (h : Rep K as B H d v) (g : RepA K as B H ds vs) : RepA K as B H (d :: ds) (v :: vs) := ⟨v, vs, rfl, h, g⟩
theorem RepA.reverse : ∀ {ds : List D} {xs : List V}, RepA K as B H ds xs → RepA K as B H ds.reverse xs.reverse
  | [], xs, h => by
    have e : xs = [] := h
    subst e
    exact rfl
  | d :: ds, xs, h => by
    obtain ⟨v, vs, e1, h1, h2⟩ := h
    subst e1
    rw [List.reverse_cons, List.reverse_cons]
    exact RepA.append (RepA.reverse h2) (RepA.one h1)
theorem RepA.dropLast : ∀ {ds : List D} {xs : List V}, RepA K as B H ds xs → RepA K as B H ds.dropLast xs.dropLast := fun {ds xs} h => by
  rw [List.dropLast_eq_take, List.dropLast_eq_take, ← h.length]
  exact h.take _
theorem RepA.rep : ∀ {ds : List D} {xs : List V} (n : Nat), RepA K as B H ds xs → RepA K as B H (List.replicate n ds).flatten (List.replicate n xs).flatten
  | ds, xs, 0, _ => rfl
  | ds, xs, n + 1, h => by
    rw [List.replicate_succ, List.replicate_succ, List.flatten_cons, List.flatten_cons]
    exact RepA.append h (RepA.rep n h)
end

/-! ### the ints, the texts -/
def D.ints : List D → Option (List Int)
  | [] => some []
  | .int i :: ds => (D.ints ds).map (i :: ·)
  | _ :: _ => none
theorem ints_rep {K : PySem.W.Frag} {as : List Addr} {B : Addr → Prop} {H : Hp} : ∀ {ds : List D} {xs : List V} {ns : List Int}, RepA K as B H ds xs → D.ints ds = some ns → xs = ns.map V.int
  | [], xs, ns, h, e => by
    have e' : xs = [] := h
    subst e'
    cases e
    rfl
  | d :: ds, xs, ns, h, e => by
    obtain ⟨v, vs, e1, h1, h2⟩ := h
    subst e1
    cases d <;> try (cases e; done)
    rename_i i
    simp only [D.ints, Option.map_eq_some_iff] at e
    obtain ⟨ms, e2, e3⟩ := e
    subst e3
    have h1' : v = .int i := h1
    rw [h1', ints_rep h2 e2]
    rfl
theorem rep_ints {K : PySem.W.Frag} {as : List Addr} {B : Addr → Prop} {H : Hp} : ∀ (ns : List Int), RepA K as B H (ns.map D.int) (ns.map V.int)
  | [] => rfl
  | n :: ns => ⟨.int n, ns.map V.int, rfl, rfl, rep_ints ns⟩
theorem ints_map : ∀ ns : List Int, D.ints (ns.map D.int) = some ns
  | [] => rfl
  | n :: ns => by
    show (D.ints (ns.map D.int)).map (n :: ·) = some (n :: ns)
    rw [ints_map ns]
    rfl
def D.bls : List D → Option (List Bool)
  | [] => some []
  | .bl i :: ds => (D.bls ds).map (i :: ·)
  | _ :: _ => none
theorem bls_rep {K : PySem.W.Frag} {as : List Addr} {B : Addr → Prop} {H : Hp} : ∀ {ds : List D} {xs : List V} {ns : List Bool}, RepA K as B H ds xs → D.bls ds = some ns → xs = ns.map V.bl
  | [], xs, ns, h, e => by
    have e' : xs = [] := h
    subst e'
    cases e
    rfl
  | d :: ds, xs, ns, h, e => by
    obtain ⟨v, vs, e1, h1, h2⟩ := h
    subst e1
    cases d <;> try (cases e; done)
    rename_i i
    simp only [D.bls, Option.map_eq_some_iff] at e
    obtain ⟨ms, e2, e3⟩ := e
    subst e3
    have h1' : v = .bl i := h1
    rw [h1', bls_rep h2 e2]
    rfl
theorem bls_map : ∀ ns : List Bool, D.bls (ns.map D.bl) = some ns
  | [] => rfl
  | n :: ns => by
    show (D.bls (ns.map D.bl)).map (n :: ·) = some (n :: ns)
    rw [bls_map ns]
    rfl
def D.strs : List D → Option (List Str)
  | [] => some []
  | .str i :: ds => (D.strs ds).map (i :: ·)
  | _ :: _ => none
theorem strs_rep {K : PySem.W.Frag} {as : List Addr} {B : Addr → Prop} {H : Hp} : ∀ {ds : List D} {xs : List V} {ns : List Str}, RepA K as B H ds xs → D.strs ds = some ns → xs = ns.map V.str
  | [], xs, ns, h, e => by
    have e' : xs = [] := h
    subst e'
    cases e
    rfl
  | d :: ds, xs, ns, h, e => by
    obtain ⟨v, vs, e1, h1, h2⟩ := h
    subst e1
    cases d <;> try (cases e; done)
    rename_i i
    simp only [D.strs, Option.map_eq_some_iff] at e
    obtain ⟨ms, e2, e3⟩ := e
    subst e3
    have h1' : v = .str i := h1
    rw [h1', strs_rep h2 e2]
    rfl
theorem strs_map : ∀ ns : List Str, D.strs (ns.map D.str) = some ns
  | [] => rfl
  | n :: ns => by
    show (D.strs (ns.map D.str)).map (n :: ·) = some (n :: ns)
    rw [strs_map ns]
    rfl
theorem rep_strs {K : PySem.W.Frag} {as : List Addr} {B : Addr → Prop} {H : Hp} : ∀ (ns : List Str), RepA K as B H (ns.map D.str) (ns.map V.str)
  | [] => rfl
  | n :: ns => ⟨.str n, ns.map V.str, rfl, rfl, rep_strs ns⟩

/-! ### data of the library -/
mutual
def D.pd : D → PyData
  | .non => .none
  | .bl b => .bool b
  | .int i => .int i
  | .str x => .str x
  | .tup ds => .tuple (D.pdA ds)
  | .lst ds => .list (D.pdA ds)
  | .dic _ _ => .none
  | .rng _ _ => .none
  | .xd _ _ => .none
  | .ref _ => .none
def D.pdA : List D → List PyData
  | [] => []
  | d :: ds => d.pd :: D.pdA ds
end
mutual
def D.okq : D → Nat → Bool
  | .tup ds, n => match n with
    | 0 => false
    | n + 1 => D.okqA ds n
  | .lst ds, n => match n with
    | 0 => false
    | n + 1 => D.okqA ds n
  | .dic _ _, _ => false
  | .rng _ _, _ => false
  | .xd _ _, _ => false
  | .ref _, _ => false
  | _, _ => true
def D.okqA : List D → Nat → Bool
  | [], _ => true
  | d :: ds, n => d.okq n && D.okqA ds n
end
mutual
theorem okq_dp {K : PySem.W.Frag} {as : List Addr} {B : Addr → Prop} {H : Hp} : ∀ (d : D) (v : V) (n : Nat), Rep K as B H d v → d.okq n = true → Dp K H v d.pd ∧ d.pd.plain = true ∧ d.pd.depth ≤ n + 1
  | .non, v, n, h, _ => by
    have h' : v = .non := h
    subst h'
    exact ⟨.non, rfl, by simp [D.pd, PyData.depth]⟩
  | .bl b, v, n, h, _ => by
    have h' : v = .bl b := h
    subst h'
    exact ⟨.bl b, rfl, by simp [D.pd, PyData.depth]⟩
  | .int b, v, n, h, _ => by
    have h' : v = .int b := h
    subst h'
    exact ⟨.int b, rfl, by simp [D.pd, PyData.depth]⟩
  | .str b, v, n, h, _ => by
    have h' : v = .str b := h
    subst h'
    exact ⟨.str b, rfl, by simp [D.pd, PyData.depth]⟩
  | .tup ds, v, n, h, e => by
    obtain ⟨a, xs, e1, h1, h2⟩ := h
    subst e1
    cases n with
    | zero => cases e
    | succ n =>
      obtain ⟨q1, q2, q3⟩ := okqA_dp ds xs n h2 e
      exact ⟨.tup h1 q1, q2, by simp only [D.pd, PyData.depth]; omega⟩
  | .lst ds, v, n, h, e => by
    obtain ⟨a, xs, e1, nb, h1, h2⟩ := h
    subst e1
    cases n with
    | zero => cases e
    | succ n =>
      obtain ⟨q1, q2, q3⟩ := okqA_dp ds xs n h2 e
      exact ⟨.lst (.inl (.inl h1)) q1, q2, by simp only [D.pd, PyData.depth]; omega⟩
  | .dic _ _, _, _, _, e => by cases e
  | .rng _ _, _, _, _, e => by cases e
  | .xd _ _, _, _, _, e => by cases e
  | .ref _, _, _, _, e => by cases e
theorem okqA_dp {K : PySem.W.Frag} {as : List Addr} {B : Addr → Prop} {H : Hp} : ∀ (ds : List D) (vs : List V) (n : Nat), RepA K as B H ds vs → D.okqA ds n = true → DpAll K H vs (D.pdA ds) ∧ PyData.plainAll (D.pdA ds) = true ∧ PyData.depthAll (D.pdA ds) ≤ n + 1
  | [], vs, n, h, _ => by
    have h' : vs = [] := h
    subst h'
    exact ⟨.nil, rfl, by simp [D.pdA, PyData.depthAll]⟩
  | d :: ds, vs, n, h, e => by
    obtain ⟨v, ws, e1, h1, h2⟩ := h
    subst e1
    have e' : (d.okq n && D.okqA ds n) = true := e
    rw [Bool.and_eq_true] at e'
    obtain ⟨q1, q2, q3⟩ := okq_dp d v n h1 e'.1
    obtain ⟨r1, r2, r3⟩ := okqA_dp ds ws n h2 e'.2
    refine ⟨.cons q1 r1, ?_, ?_⟩
    · show (d.pd.plain && PyData.plainAll (D.pdA ds)) = true
      rw [q2, r2]; rfl
    · simp only [D.pdA, PyData.depthAll]
      omega
end
def D.eqv (x y : D) : Bool := PyData.eqv x.pd y.pd
end D2

namespace D2
open PySem L2

/-- an object that is owned: by a name, or told by its number -/
inductive O where
  | lst (ds : List D)
  | dic (ks : List Key) (ds : List D)
/-- what a name holds -/
inductive Sl where
  | no
  | val (d : D)
  | own (o : O)
/-- an exception: its class by name, its fields -/
structure Exn where
  cls : Str
  ns : List Str
  ds : List D
/-- what a run gives -/
inductive R (α : Type) where
  | ok (a : α)
  | ex (e : Exn) (sg : List Sl) (S : List O)
  | bad
def R.bind {α β : Type} (r : R α) (f : α → R β) : R β := match r with
  | .ok a => f a
  | .ex e sg S => .ex e sg S
  | .bad => .bad
def R.of {α : Type} : Option α → R α
  | some a => .ok a
  | none => .bad
theorem bind_ok {α β : Type} {a : α} {f : α → R β} : (R.ok a).bind f = f a := rfl
theorem bind_bad {α β : Type} {f : α → R β} : (R.bad : R α).bind f = .bad := rfl
theorem bind_ex {α β : Type} {e : Exn} {sg : List Sl} {S : List O} {f : α → R β} : (R.ex e sg S : R α).bind f = .ex e sg S := rfl
theorem of_some {α : Type} {a : α} : R.of (some a) = .ok a := rfl
theorem of_none {α : Type} : R.of (none : Option α) = .bad := rfl

def ORep (K : PySem.W.Frag) (as : List Addr) (B : Addr → Prop) (H : Hp) : O → Addr → Prop
  | .lst ds, a => ∃ xs, H a = some (.lst xs) ∧ RepA K as B H ds xs
  | .dic ks ds, a => ∃ xs, H a = some (.dK (ks.zip xs)) ∧ ks.length = xs.length ∧ RepA K as B H ds xs
def SlRep (K : PySem.W.Frag) (as : List Addr) (B : Addr → Prop) (H : Hp) : Sl → Option Addr → Option V → Prop
  | .no, w, _ => w = none
  | .val d, w, x => w = none ∧ ∃ v, x = some v ∧ Rep K as B H d v
  | .own o, w, x => ∃ a, w = some a ∧ x = some (.ref a) ∧ ORep K as B H o a
/-- what is bad here: what is bad outside, and what the names own -/
def Bd (B : Addr → Prop) (ow : List (Option Addr)) : Addr → Prop := fun a => B a ∨ some a ∈ ow
structure Sto (K : PySem.W.Frag) (as : List Addr) (B : Addr → Prop) (H : Hp) (S : List O) : Prop where
  len : as.length = S.length
  nd : as.Nodup
  ob : ∀ (n : Nat) (o : O), S[n]? = some o → ∃ a, as[n]? = some a ∧ ORep K as B H o a
/-- the state: B, H0 the entry's; ow what the names own; sg, S stand for the names and the objects -/
structure Rl (K : PySem.W.Frag) (B : Addr → Prop) (H0 : Hp) (as : List Addr) (ks : List (D × V)) (ow : List (Option Addr)) (sg : List Sl) (S : List O) (σ : L2.St) (H : Hp) : Prop where
  lo : sg.length ≤ ow.length
  ls : σ.length = sg.length
  sl : ∀ (i : Nat) (s : Sl), sg[i]? = some s → ∃ w x, ow[i]? = some w ∧ σ[i]? = some x ∧ SlRep K as (Bd B ow) H s w x
  inj : ∀ (i j : Nat) (a : Addr), ow[i]? = some (some a) → ow[j]? = some (some a) → i = j
  new : ∀ a, some a ∈ ow → H0 a = none
  odom : ∀ a, some a ∈ ow → H a ≠ none
  bdom : ∀ a, B a → H0 a ≠ none
  asB : ∀ a, a ∈ as → B a
  evo : Evo (· ∈ as) H0 H
  sto : Sto K as (Bd B ow) H S
  kp : ∀ p, p ∈ ks → Rep K as (Bd B ow) H p.1 p.2

section
variable {K : PySem.W.Frag} {as : List Addr} {B B' : Addr → Prop} {H H0 H' H1 : Hp} {ks : List (D × V)} {ow : List (Option Addr)} {sg : List Sl} {S S' : List O} {σ : L2.St}
theorem ORep.imp {W : Addr → Prop} (e : Evo W H H') (hW : ∀ a, W a → B a) (hB : ∀ a, B' a → B a) : ∀ (o : O) (a : Addr), ¬ W a → ORep K as B H o a → ORep K as B' H' o a
  | .lst ds, a, n, ⟨xs, h1, h2⟩ => ⟨xs, e.keep _ _ h1 n, RepA.imp e hW hB _ _ h2⟩
  | .dic ks ds, a, n, ⟨xs, h1, hl, h2⟩ => ⟨xs, e.keep _ _ h1 n, hl, RepA.imp e hW hB _ _ h2⟩
theorem ORep.more {p : Addr} (hp : H p = none) (hB : ∀ a, B' a → B a ∨ a = p) : ∀ (o : O) (a : Addr), ORep K as B H o a → ORep K as B' H o a
  | .lst ds, a, ⟨xs, h1, h2⟩ => ⟨xs, h1, RepA.more hp hB _ _ h2⟩
  | .dic ks ds, a, ⟨xs, h1, hl, h2⟩ => ⟨xs, h1, hl, RepA.more hp hB _ _ h2⟩
theorem ORep.there {o : O} {a : Addr} (h : ORep K as B H o a) : ∃ u, H a = some u ∧ (∀ xs, u ≠ .tup xs) ∧ ∀ ob w, u ≠ .frz ob w := by
  cases o with
  | lst ds => obtain ⟨xs, h1, _⟩ := h; exact ⟨_, h1, (fun _ z => by cases z), (fun _ _ z => by cases z)⟩
  | dic ks ds => obtain ⟨xs, h1, _⟩ := h; exact ⟨_, h1, (fun _ z => by cases z), (fun _ _ z => by cases z)⟩
theorem Rl.ownNo (r : Rl K B H0 as ks ow sg S σ H) {a : Addr} (h : some a ∈ ow) : ¬ B a := fun hb => r.bdom a hb (r.new a h)
theorem Rl.ownAs (r : Rl K B H0 as ks ow sg S σ H) {a : Addr} (h : some a ∈ ow) : a ∉ as := fun hb => r.ownNo h (r.asB a hb)
theorem Rl.asBd (r : Rl K B H0 as ks ow sg S σ H) : ∀ a, a ∈ as → Bd B ow a := fun a h => .inl (r.asB a h)
/-- behind an expression -/
theorem Rl.step (r : Rl K B H0 as ks ow sg S σ H) (e : Evo (· ∈ as) H H') (s : Sto K as (Bd B ow) H' S') : Rl K B H0 as ks ow sg S' σ H' := by
  refine ⟨r.lo, r.ls, fun i s hs => ?_, r.inj, r.new, fun a ha => e.dom a (r.odom a ha), r.bdom, r.asB, r.evo.trans e, s, fun p hp => Rep.imp e r.asBd (fun _ z => z) _ _ (r.kp p hp)⟩
  obtain ⟨w, x, h1, h2, h3⟩ := r.sl i s hs
  refine ⟨w, x, h1, h2, ?_⟩
  cases s with
  | no => exact h3
  | val d =>
    obtain ⟨q1, v, q2, q3⟩ := h3
    exact ⟨q1, v, q2, Rep.imp e r.asBd (fun _ z => z) d v q3⟩
  | own o =>
    obtain ⟨a, q1, q2, q3⟩ := h3
    subst q1
    exact ⟨a, rfl, q2, ORep.imp e r.asBd (fun _ z => z) o a (r.ownAs (List.mem_of_getElem? h1)) q3⟩
theorem Rl.stoNew (r : Rl K B H0 as ks ow sg S σ H) (e : Evo (fun _ => False) H H') : Sto K as (Bd B ow) H' S :=
  ⟨r.sto.len, r.sto.nd, fun n o h => let ⟨a, h1, h2⟩ := r.sto.ob n o h; ⟨a, h1, ORep.imp e (fun _ z => z.elim) (fun _ z => z) o a (fun z => z) h2⟩⟩
theorem Sto.evo {W : Addr → Prop} (s : Sto K as B H S) (e : Evo (fun _ => False) H H') : Sto K as B H' S :=
  ⟨s.len, s.nd, fun n o h => let ⟨a, h1, h2⟩ := s.ob n o h; ⟨a, h1, ORep.imp e (fun _ z => z.elim) (fun _ z => z) o a (fun z => z) h2⟩⟩
theorem Evo.any {W : Addr → Prop} (e : Evo (fun _ => False) H H') : Evo W H H' := e.weak fun _ z => z.elim
end

/-! ### what is wanted: of an exception, of a value -/
def XRep (mg : Str → Option Value) (K : PySem.W.Frag) (as : List Addr) (B : Addr → Prop) (H : Hp) (e : Exn) (c : Value) (dx : Option Addr) : Prop :=
  ∃ C a, mg e.cls = some (.ref C) ∧ c = .ref C ∧ dx = some a ∧ Rep K as B H (.xd e.ns e.ds) (.ref a)
abbrev WX2 := Value → Option Addr → L2.St → Hp → Prop
/-- the fixed things of a def's body -/
structure Ct where
  K : PySem.W.Frag
  mg : Str → Option Value
  B : Addr → Prop
  H0 : Hp
  as : List Addr
  ks : List (D × V)
  W : WX2
def ExW (c : Ct) (e : Exn) (sg : List Sl) (S : List O) : Prop := ∀ cl dx ow σ H, Rl c.K c.B c.H0 c.as c.ks ow sg S σ H → XRep c.mg c.K c.as (Bd c.B ow) H e cl dx → c.W cl dx σ H
/-- of a result that stands for a value: Rp tells how -/
def Den (c : Ct) (ow : List (Option Addr)) {α β : Type} (Rp : Hp → α → β → Prop) (r : R (α × List O)) (H : Hp) (Q : β → Hp → Prop) : Prop := match r with
  | .ok (d, S') => ∀ v H', Evo (· ∈ c.as) H H' → Sto c.K c.as (Bd c.B ow) H' S' → Rp H' d v → Q v H'
  | .ex e sg S' => ExW c e sg S'
  | .bad => False
/-- strong: it may be kept; weak: it stands until a name's own object changes -/
def Ct.rp (c : Ct) (ow : List (Option Addr)) (wk : Bool) : Hp → D → V → Prop := fun H d v => Rep c.K c.as (if wk then (· ∈ c.as) else Bd c.B ow) H d v
def Ct.rpa (c : Ct) (ow : List (Option Addr)) (wk : Bool) : Hp → List D → List V → Prop := fun H d v => RepA c.K c.as (if wk then (· ∈ c.as) else Bd c.B ow) H d v
def rpB : Hp → Bool → Bool → Prop := fun _ a b => b = a
abbrev Ct.Rl (c : Ct) (ow : List (Option Addr)) (sg : List Sl) (S : List O) (σ : L2.St) (H : Hp) : Prop := D2.Rl c.K c.B c.H0 c.as c.ks ow sg S σ H

theorem Den.evo {c : Ct} {ow : List (Option Addr)} {α β : Type} {Rp : Hp → α → β → Prop} {r : R (α × List O)} {H H1 : Hp} {Q : β → Hp → Prop} (e : Evo (· ∈ c.as) H H1) (h : Den c ow Rp r H Q) : Den c ow Rp r H1 Q := by
  cases r with
  | ok a => obtain ⟨d, S'⟩ := a; exact fun v H' e' => h v H' (e.trans e')
  | ex e' sg S' => exact h
  | bad => exact h
/-- one part, then the rest -/
theorem Den.bind {c : Ct} {ow : List (Option Addr)} {α β γ δ : Type} {Rp : Hp → α → β → Prop} {Rq : Hp → γ → δ → Prop} {r : R (α × List O)} {f : α × List O → R (γ × List O)} {H : Hp} {Q : δ → Hp → Prop} {Q' : β → Hp → Prop} (h : Den c ow Rq (r.bind f) H Q)
    (k : ∀ d S' v H', r = .ok (d, S') → Evo (· ∈ c.as) H H' → Sto c.K c.as (Bd c.B ow) H' S' → Rp H' d v → Den c ow Rq (f (d, S')) H' Q → Q' v H') : Den c ow Rp r H Q' := by
  cases r with
  | ok a => obtain ⟨d, S'⟩ := a; exact fun v H' e s q => k d S' v H' rfl e s q (Den.evo e h)
  | ex e' sg S' => exact h
  | bad => exact h
theorem Den.mono {c : Ct} {ow : List (Option Addr)} {α β : Type} {Rp : Hp → α → β → Prop} {r : R (α × List O)} {H : Hp} {Q Q' : β → Hp → Prop} (h : Den c ow Rp r H Q) (k : ∀ v H', Q v H' → Q' v H') : Den c ow Rp r H Q' := by
  cases r with
  | ok a => obtain ⟨d, S'⟩ := a; exact fun v H' e s q => k _ _ (h v H' e s q)
  | ex e' sg S' => exact h
  | bad => exact h

/-! ### the judgements -/
abbrev ME := List Sl → List O → R (D × List O)
abbrev MA := List Sl → List O → R (List D × List O)
abbrev MT := List Sl → List O → R (Bool × List O)
inductive Fl where
  | nx | bk | ct | rt (d : D)
abbrev MS := List Sl → List O → R (Fl × List Sl × List O)

def ctOf (X : Cx) (W : WX2) (B : Addr → Prop) (H0 : Hp) (as : List Addr) (ks : List (D × V)) : Ct := ⟨X.K, X.mg, B, H0, as, ks, W⟩
def PE2 (X : Cx) (W : WX2) (wk : Bool) (e : Expr) (m : ME) : Prop := ∃ t : TE, PE X e t ∧ ∀ B H0 as ks ow sg S σ H (Q : VK), Rl X.K B H0 as ks ow sg S σ H →
  Den (ctOf X W B H0 as ks) ow ((ctOf X W B H0 as ks).rp ow wk) (m sg S) H Q → t σ H Q
def PA2 (X : Cx) (W : WX2) (wk : Bool) (es : List Expr) (m : MA) : Prop := ∃ t : TA, PA X es t ∧ ∀ B H0 as ks ow sg S σ H (Q : List V → Hp → Prop), Rl X.K B H0 as ks ow sg S σ H →
  Den (ctOf X W B H0 as ks) ow ((ctOf X W B H0 as ks).rpa ow wk) (m sg S) H Q → t σ H Q
def PT2 (X : Cx) (W : WX2) (e : Expr) (m : MT) : Prop := ∃ t : TT, PT X e t ∧ ∀ B H0 as ks ow sg S σ H (Q : Bool → Hp → Prop), Rl X.K B H0 as ks ow sg S σ H →
  Den (ctOf X W B H0 as ks) ow rpB (m sg S) H Q → t σ H Q
def PW2 (X : Cx) (W : WX2) (e : Expr) (m : MT) : Prop := ∃ t : TT, PW X e t ∧ ∀ B H0 as ks ow sg S σ H (Q : Bool → Hp → Prop), Rl X.K B H0 as ks ow sg S σ H →
  Den (ctOf X W B H0 as ks) ow rpB (m sg S) H Q → t σ H Q
def DenS (c : Ct) (r : R (Fl × List Sl × List O)) (Dd : Ends) : Prop := match r with
  | .ok (.nx, sg, S) => ∀ ow σ H, c.Rl ow sg S σ H → Dd.nx σ H
  | .ok (.bk, sg, S) => ∀ ow σ H, c.Rl ow sg S σ H → Dd.bk σ H
  | .ok (.ct, sg, S) => ∀ ow σ H, c.Rl ow sg S σ H → Dd.ct σ H
  | .ok (.rt d, _, S) => ∀ v H, Evo (· ∈ c.as) c.H0 H → Sto c.K c.as c.B H S → Rep c.K c.as c.B H d v → Dd.rt v H
  | .ex e sg S => ExW c e sg S
  | .bad => False
def PS2 (X : Cx) (W : WX2) (st : Stmt) (m : MS) : Prop := ∃ t : TS, PS X st t ∧ ∀ B H0 as ks ow sg S σ H (Dd : Ends), Rl X.K B H0 as ks ow sg S σ H → DenS (ctOf X W B H0 as ks) (m sg S) Dd → t Dd σ H
def PSs2 (X : Cx) (W : WX2) (st : List Stmt) (m : MS) : Prop := ∃ t : TS, PSs X st t ∧ ∀ B H0 as ks ow sg S σ H (Dd : Ends), Rl X.K B H0 as ks ow sg S σ H → DenS (ctOf X W B H0 as ks) (m sg S) Dd → t Dd σ H

section
variable {X : Cx} {W : WX2} {wk wa wb : Bool} {e a b : Expr} {ma mb : ME} {pos : Pos}

/-! ### names, constants -/
def mC (d : D) : ME := fun _ S => .ok (d, S)
def mVar (i : Nat) : ME := fun sg S => match sg[i]? with
  | some (.val d) => .ok (d, S)
  | _ => .bad
def mVarW (i : Nat) : ME := fun sg S => match sg[i]? with
  | some (.val d) => .ok (d, S)
  | some (.own (.lst ds)) => .ok (.lst ds, S)
  | some (.own (.dic ks ds)) => .ok (.dic ks ds, S)
  | _ => .bad
theorem wkBd {K : PySem.W.Frag} {B : Addr → Prop} {H0 : Hp} {as : List Addr} {ks : List (D × V)} {ow : List (Option Addr)} {sg : List Sl} {S : List O} {σ : L2.St} {H : Hp} (r : Rl K B H0 as ks ow sg S σ H) : ∀ a, (if wk then (· ∈ as) else Bd B ow) a → Bd B ow a := fun a h => by
  cases wk with
  | true => exact r.asBd a h
  | false => exact h
theorem asWk {K : PySem.W.Frag} {B : Addr → Prop} {H0 : Hp} {as : List Addr} {ks : List (D × V)} {ow : List (Option Addr)} {sg : List Sl} {S : List O} {σ : L2.St} {H : Hp} (r : Rl K B H0 as ks ow sg S σ H) : ∀ a, a ∈ as → (if wk then (· ∈ as) else Bd B ow) a := fun a h => by
  cases wk with
  | true => exact h
  | false => exact r.asBd a h
theorem e2_var (i : Nat) {x : Str} (hN : X.N[i]? = some x := by rfl) (hv : Vis X.env.scope x := by first | exact Or.inl rfl | exact Or.inr (Or.inl rfl) | exact Or.inr (Or.inr rfl)) (hd : (x == ("__debug__" : Str)) = false := by decide)
    (hcd : (x == ("__classdict__" : Str)) = false := by decide) : PE2 X W false (.Name x pos) (mVar i) := by
  refine ⟨_, pe_var hN hv hd hcd, fun B H0 as ks ow sg S σ H Q r h => ?_⟩
  cases e : sg[i]? with
  | none => simp only [mVar, e] at h; exact False.elim h
  | some s =>
    cases s with
    | no => simp only [mVar, e] at h; exact False.elim h
    | own o => simp only [mVar, e] at h; exact False.elim h
    | val d =>
      simp only [mVar, e] at h
      obtain ⟨w, x, h1, h2, h3, v, h4, h5⟩ := r.sl i _ e
      subst h4
      exact ⟨v, h2, h v H Evo.refl r.sto h5⟩
theorem e2_varW (i : Nat) {x : Str} (hN : X.N[i]? = some x := by rfl) (hv : Vis X.env.scope x := by first | exact Or.inl rfl | exact Or.inr (Or.inl rfl) | exact Or.inr (Or.inr rfl)) (hd : (x == ("__debug__" : Str)) = false := by decide)
    (hcd : (x == ("__classdict__" : Str)) = false := by decide) : PE2 X W true (.Name x pos) (mVarW i) := by
  refine ⟨_, pe_var hN hv hd hcd, fun B H0 as ks ow sg S σ H Q r h => ?_⟩
  cases e : sg[i]? with
  | none => simp only [mVarW, e] at h; exact False.elim h
  | some s =>
    cases s with
    | no => simp only [mVarW, e] at h; exact False.elim h
    | own o =>
      obtain ⟨w, x, h1, h2, p, h3, h4, h5⟩ := r.sl i _ e
      subst h3
      subst h4
      have np := r.ownAs (List.mem_of_getElem? h1)
      cases o with
      | lst ds =>
        simp only [mVarW, e] at h
        obtain ⟨xs, q1, q2⟩ := h5
        exact ⟨_, h2, h _ H Evo.refl r.sto ⟨p, xs, rfl, np, q1, RepA.imp (W := fun _ => False) Evo.refl (fun _ z => z.elim) r.asBd _ _ q2⟩⟩
      | dic ks ds =>
        simp only [mVarW, e] at h
        obtain ⟨xs, q1, q2, q3⟩ := h5
        exact ⟨_, h2, h _ H Evo.refl r.sto ⟨p, xs, rfl, np, .inl q1, q2, RepA.imp (W := fun _ => False) Evo.refl (fun _ z => z.elim) r.asBd _ _ q3⟩⟩
    | val d =>
      simp only [mVarW, e] at h
      obtain ⟨w, x, h1, h2, h3, v, h4, h5⟩ := r.sl i _ e
      subst h4
      exact ⟨v, h2, h v H Evo.refl r.sto (Rep.imp (W := fun _ => False) Evo.refl (fun _ z => z.elim) r.asBd _ _ h5)⟩
theorem e2_int {i : Int} {j} : PE2 X W false (.Constant (.int i) j pos) (mC (.int i)) := ⟨_, pe_int, fun B H0 as ks ow sg S σ H Q r h => h _ H Evo.refl r.sto rfl⟩
theorem e2_bl {b : Bool} {j} : PE2 X W false (.Constant (.bool b) j pos) (mC (.bl b)) := ⟨_, pe_bl, fun B H0 as ks ow sg S σ H Q r h => h _ H Evo.refl r.sto rfl⟩
theorem e2_non {j} : PE2 X W false (.Constant .none j pos) (mC .non) := ⟨_, pe_non, fun B H0 as ks ow sg S σ H Q r h => h _ H Evo.refl r.sto rfl⟩
theorem e2_str {x : Str} {j} : PE2 X W false (.Constant (.str x) j pos) (mC (.str x)) := ⟨_, pe_str, fun B H0 as ks ow sg S σ H Q r h => h _ H Evo.refl r.sto rfl⟩
/-- a constant of the module -/
theorem e2_glob {x : Str} {v : V} {u : Value} {d : D} (hg : Gl X x) (hm : X.mg x = some u) (r : RelV v u) (hr : ∀ as B H, Rep X.K as B H d v) (hd : (x == ("__debug__" : Str)) = false := by decide) : PE2 X W false (.Name x pos) (mC d) :=
  ⟨_, pe_glob hg hm r hd, fun B H0 as ks ow sg S σ H Q r h => h _ H Evo.refl r.sto (hr _ _ _)⟩
/-- strong is weak -/
theorem e2_weak {m : ME} (h : PE2 X W false e m) : PE2 X W wk e m := by
  cases wk with
  | false => exact h
  | true =>
    obtain ⟨t, h1, h2⟩ := h
    refine ⟨t, h1, fun B H0 as ks ow sg S σ H Q r h => h2 _ _ _ _ _ _ _ _ _ _ r ?_⟩
    revert h
    cases m sg S with
    | ok a => obtain ⟨d, S'⟩ := a; exact fun h v H' e s q => h v H' e s (Rep.imp (W := fun _ => False) Evo.refl (fun _ z => z.elim) r.asBd _ _ q)
    | ex => exact id
    | bad => exact id
/-- weak is strong where there is no list within -/
def mFlat (m : ME) : ME := fun sg S => (m sg S).bind fun r => if r.1.flat = true then .ok r else .bad
theorem e2_flat {m : ME} (h : PE2 X W wk e m) : PE2 X W false e (mFlat m) := by
  obtain ⟨t, h1, h2⟩ := h
  refine ⟨t, h1, fun B H0 as ks ow sg S σ H Q r h => h2 _ _ _ _ _ _ _ _ _ _ r ?_⟩
  refine Den.bind h fun d S' v H' _ e s q h => ?_
  by_cases hf : d.flat = true
  · simp only [hf] at h
    exact h v H' Evo.refl s (Rep.ofFlat d v hf q)
  · simp only [hf] at h
    exact False.elim h

/-! ### two operands -/
def mBin (f : D → D → Option D) (ma mb : ME) : ME := fun sg S => (ma sg S).bind fun x => (mb sg x.2).bind fun y => R.of ((f x.1 y.1).map fun z => (z, y.2))
/-- what an operator's rule must do: from the operands' readings, H' has new things only -/
def BinOk (K : PySem.W.Frag) (wk : Bool) (f : D → D → Option D) (r : R2) : Prop := ∀ (as : List Addr) (Bs Bw : Addr → Prop) (H : Hp) (x y z : D) (v w : V) (Q : VK), (∀ a, Bw a → Bs a) → (∀ a, Bs a → H a ≠ none) →
  Rep K as (if wk then Bw else Bs) H x v → Rep K as (if wk then Bw else Bs) H y w → f x y = some z → (∀ u H', Evo (fun _ => False) H H' → Rep K as (if wk then Bw else Bs) H' z u → Q u H') → r v w H Q
theorem Rl.bdDom {K : PySem.W.Frag} {B : Addr → Prop} {H0 : Hp} {as : List Addr} {ks : List (D × V)} {ow : List (Option Addr)} {sg : List Sl} {S : List O} {σ : L2.St} {H : Hp} (r : Rl K B H0 as ks ow sg S σ H) : ∀ a, Bd B ow a → H a ≠ none := fun a h => by
  rcases h with h | h
  · exact r.evo.dom a (r.bdom a h)
  · exact r.odom a h
theorem bin_den {r2 : R2} {f : D → D → Option D} {ta tb : TE} (hop : BinOk X.K wk f r2)
    (ha : ∀ B H0 as ks ow sg S σ H (Q : VK), Rl X.K B H0 as ks ow sg S σ H → Den (ctOf X W B H0 as ks) ow ((ctOf X W B H0 as ks).rp ow wk) (ma sg S) H Q → ta σ H Q)
    (hb : ∀ B H0 as ks ow sg S σ H (Q : VK), Rl X.K B H0 as ks ow sg S σ H → Den (ctOf X W B H0 as ks) ow ((ctOf X W B H0 as ks).rp ow wk) (mb sg S) H Q → tb σ H Q)
    {B : Addr → Prop} {H0 : Hp} {as : List Addr} {ks : List (D × V)} {ow : List (Option Addr)} {sg : List Sl} {S : List O} {σ : L2.St} {H : Hp} {Q : VK} (r : Rl X.K B H0 as ks ow sg S σ H) (h : Den (ctOf X W B H0 as ks) ow ((ctOf X W B H0 as ks).rp ow wk) (mBin f ma mb sg S) H Q) : tOp r2 ta tb σ H Q := by
  refine ha _ _ _ _ _ _ _ _ _ _ r (Den.bind h fun x S1 v H1 _ e1 s1 q1 h1 => ?_)
  have r1 := r.step e1 s1
  refine hb _ _ _ _ _ _ _ _ _ _ r1 (Den.bind h1 fun y S2 w H2 _ e2 s2 q2 h2 => ?_)
  have r2 := r1.step e2 s2
  have q1' := Rep.imp (B' := if wk then (· ∈ as) else Bd B ow) e2 (asWk r) (fun _ z => z) x v q1
  cases e : f x y with
  | none =>
    simp only [e] at h2
    exact False.elim h2
  | some z =>
    simp only [e] at h2
    refine hop as (Bd B ow) (· ∈ as) H2 x y z v w Q r.asBd r2.bdDom q1' q2 e fun u H' e3 q3 => ?_
    exact h2 u H' e3.any (r2.stoNew e3) q3
theorem e2_bin {op : Operator} {r2 : R2} {f : D → D → Option D} (ho : OpR X (binaryOp op) r2) (hop : BinOk X.K wk f r2) (ha : PE2 X W wk a ma) (hb : PE2 X W wk b mb) : PE2 X W wk (.BinOp a op b pos) (mBin f ma mb) := by
  obtain ⟨ta, a1, a2⟩ := ha
  obtain ⟨tb, b1, b2⟩ := hb
  exact ⟨_, pe_op ho a1 b1, fun B H0 as ks ow sg S σ H Q r h => bin_den hop a2 b2 r h⟩
/-- a comparison as a value -/
theorem e2_cmp {op : CmpOp} {r2 : R2} {f : D → D → Option D} (ho : OpR X (compareOp op) r2) (hop : BinOk X.K wk f r2) (ha : PE2 X W wk a ma) (hb : PE2 X W wk b mb) (hm : behindInMarks op b = false) : PE2 X W wk (.Compare a [op] [b] pos) (mBin f ma mb) := by
  obtain ⟨ta, a1, a2⟩ := ha
  obtain ⟨tb, b1, b2⟩ := hb
  exact ⟨_, pe_cmpR ho a1 b1 hm, fun B H0 as ks ow sg S σ H Q r h => bin_den hop a2 b2 r h⟩
theorem e2_ix {r2 : R2} {f : D → D → Option D} (ho : IxR X r2) (hop : BinOk X.K wk f r2) (ha : PE2 X W wk a ma) (hb : PE2 X W wk b mb) (hs : PlainIx b) : PE2 X W wk (.Subscript a b pos) (mBin f ma mb) := by
  obtain ⟨ta, a1, a2⟩ := ha
  obtain ⟨tb, b1, b2⟩ := hb
  exact ⟨_, pe_ix ho a1 b1 hs, fun B H0 as ks ow sg S σ H Q r h => bin_den hop a2 b2 r h⟩
/-- a test that is a value -/
def mTst (m : ME) : MT := fun sg S => (m sg S).bind fun x => match x.1 with
  | .bl b => .ok (b, x.2)
  | _ => .bad
theorem t2_val {m : ME} (h : PE2 X W wk e m) (he : ∀ whole, isTrue e X.env whole = (do let v ← whole; standAt e.pos; PySem.holding [v] (truthy v)) := by intro _; rfl) : PT2 X W e (mTst m) := by
  obtain ⟨t, h1, h2⟩ := h
  refine ⟨_, pt_val h1 he, fun B H0 as ks ow sg S σ H Q r h => ?_⟩
  refine h2 _ _ _ _ _ _ _ _ _ _ r (Den.bind h fun d S' v H' e0 e s q h => ?_)
  clear e0
  cases d <;> try exact False.elim h
  rename_i b
  have e : v = .bl b := q
  exact ⟨b, e, h b H' Evo.refl s rfl⟩
theorem t2_cmp {op : CmpOp} {r2 : R2} {f : D → D → Option D} (ho : OpR X (compareOp op) r2) (hop : BinOk X.K wk f r2) (ha : PE2 X W wk a ma) (hb : PE2 X W wk b mb) (hm : behindInMarks op b = false) : PT2 X W (.Compare a [op] [b] pos) (mTst (mBin f ma mb)) := by
  obtain ⟨ta, a1, a2⟩ := ha
  obtain ⟨tb, b1, b2⟩ := hb
  refine ⟨_, pt_cmpR ho a1 b1 hm, fun B H0 as ks ow sg S σ H Q r h => ?_⟩
  refine bin_den (W := W) hop a2 b2 r (Q := fun x H' => ∃ k, x = .bl k ∧ Q k H') (Den.bind h fun d S' v H' e0 e s q h => ?_)
  clear e0
  cases d <;> try exact False.elim h
  rename_i b
  have e : v = .bl b := q
  exact ⟨b, e, h b H' Evo.refl s rfl⟩
end
end D2

namespace D2
open PySem PySem.Spec PyProof.Rows L2

theorem lineN {n : Nat} (h : n ≤ 16777216) : n ≤ sizeLine := by rw [PySem.sizeLine_eq]; omega
theorem lineL {n : Nat} (h : n < 16777216) : n < sizeLine := by rw [PySem.sizeLine_eq]; omega

section
variable {K : PySem.W.Frag} {wk : Bool}
theorem newB {Bs Bw : Addr → Prop} {H : Hp} {p : Addr} (h1 : ∀ a, Bw a → Bs a) (h2 : ∀ a, Bs a → H a ≠ none) (hp : H p = none) : ¬ (if wk then Bw else Bs) p := fun z => by
  cases wk with
  | true => exact h2 p (h1 p z) hp
  | false => exact h2 p z hp
theorem RepA.new {as : List Addr} {B : Addr → Prop} {H : Hp} {p : Addr} {o : HO} {ds : List D} {xs : List V} (hp : H p = none) (h : RepA K as B H ds xs) : RepA K as B (upd H p o) ds xs :=
  RepA.imp (W := fun _ => False) (Evo.new hp) (fun _ z => z.elim) (fun _ z => z) _ _ h
theorem Rep.new {as : List Addr} {B : Addr → Prop} {H : Hp} {p : Addr} {o : HO} {d : D} {v : V} (hp : H p = none) (h : Rep K as B H d v) : Rep K as B (upd H p o) d v :=
  Rep.imp (W := fun _ => False) (Evo.new hp) (fun _ z => z.elim) (fun _ z => z) _ _ h
theorem repNewL {as : List Addr} {Bs Bw : Addr → Prop} {H : Hp} {p : Addr} {ds : List D} {xs : List V} (h1 : ∀ a, Bw a → Bs a) (h2 : ∀ a, Bs a → H a ≠ none) (hp : H p = none) (h : RepA K as (if wk then Bw else Bs) H ds xs) :
    Rep K as (if wk then Bw else Bs) (upd H p (.lst xs)) (.lst ds) (.ref p) := ⟨p, xs, rfl, newB h1 h2 hp, upd_same, h.new hp⟩
theorem repNewT {as : List Addr} {B : Addr → Prop} {H : Hp} {p : Addr} {ds : List D} {xs : List V} (hp : H p = none) (h : RepA K as B H ds xs) : Rep K as B (upd H p (.tup xs)) (.tup ds) (.ref p) := ⟨p, xs, rfl, SqT.of upd_same, h.new hp⟩

/-! ### + -/
def D.add : D → D → Option D
  | .int i, .int j => some (.int (i + j))
  | .str x, .str y => if x.length + y.length ≤ 16777216 then some (.str (x ++ y)) else none
  | .tup xs, .tup ys => if xs.length + ys.length ≤ 16777216 then some (.tup (xs ++ ys)) else none
  | .lst xs, .lst ys => if xs.length + ys.length ≤ 16777216 then some (.lst (xs ++ ys)) else none
  | _, _ => none
def rAddS : R2 := fun x y H Q => ∃ i j, x = .str i ∧ y = .str j ∧ i.length + j.length ≤ sizeLine ∧ Q (.str (i ++ j)) H
def rAdd (K : PySem.W.Frag) : R2 := fun x y H Q => rI0 (fun i j => .int (i + j)) x y H Q ∨ (rAddS x y H Q ∨ (rCatA K x y H Q ∨ rCat x y H Q))
theorem op_addD {X : Cx} : OpR X (binaryOp .Add) (rAdd X.K) := op_add.or (OpR.or op_add_str (op_catA.or op_cat))
theorem ok_add : BinOk K wk D.add (rAdd K) := by
  intro as Bs Bw H x y z v w Q h1 h2 rx ry e q
  cases x <;> try (cases e; done)
  case int i =>
    cases y <;> try (cases e; done)
    case int j =>
      cases e
      exact .inl ⟨i, j, rx, ry, q _ _ Evo.refl rfl⟩
  case str i =>
    cases y <;> try (cases e; done)
    case str j =>
      simp only [D.add] at e
      split at e
      · rename_i hl
        cases e
        exact .inr (.inl ⟨i, j, rx, ry, lineN hl, q _ _ Evo.refl rfl⟩)
      · cases e
  case tup xs =>
    cases y <;> try (cases e; done)
    case tup ys =>
      simp only [D.add] at e
      split at e
      · rename_i hl
        cases e
        obtain ⟨a, vs, e1, a1, a2⟩ := rx
        obtain ⟨b, ws, e2, b1, b2⟩ := ry
        rw [a2.length, b2.length] at hl
        refine .inr (.inr (.inl ⟨a, b, vs, ws, e1, e2, a1, b1, lineN hl, fun c => q _ _ Evo.refl ?_, fun _ c => q _ _ Evo.refl ?_, fun _ _ p hp => q _ _ (Evo.new hp) (repNewT hp (a2.append b2))⟩))
        · subst c
          have : xs = [] := List.eq_nil_of_length_eq_zero (by rw [a2.length]; rfl)
          subst this
          exact ⟨b, ws, rfl, b1, b2⟩
        · subst c
          have : ys = [] := List.eq_nil_of_length_eq_zero (by rw [b2.length]; rfl)
          subst this
          rw [List.append_nil]
          exact ⟨a, vs, rfl, a1, a2⟩
      · cases e
  case lst xs =>
    cases y <;> try (cases e; done)
    case lst ys =>
      simp only [D.add] at e
      split at e
      · rename_i hl
        cases e
        obtain ⟨a, vs, e1, na, a1, a2⟩ := rx
        obtain ⟨b, ws, e2, nb, b1, b2⟩ := ry
        rw [a2.length, b2.length] at hl
        exact .inr (.inr (.inr ⟨a, b, vs, ws, e1, e2, a1, b1, lineN hl, fun p hp => q _ _ (Evo.new hp) (repNewL h1 h2 hp (a2.append b2))⟩))
      · cases e
/-! ### the other operators on ints -/
def D.iop (C : Int → Int → Bool) (g : Int → Int → Int) : D → D → Option D
  | .int i, .int j => if C i j = true then some (.int (g i j)) else none
  | _, _ => none
theorem ok_iop {C : Int → Int → Bool} {g : Int → Int → Int} {C' : Int → Int → Prop} (hC : ∀ i j, C i j = true → C' i j) : BinOk K wk (D.iop C g) (rI C' fun i j => .int (g i j)) := by
  intro as Bs Bw H x y z v w Q h1 h2 rx ry e q
  cases x <;> try (cases e; done)
  case int i =>
    cases y <;> try (cases e; done)
    case int j =>
      simp only [D.iop] at e
      split at e
      · rename_i hc
        cases e
        exact ⟨i, j, rx, ry, hC _ _ hc, q _ _ Evo.refl rfl⟩
      · cases e
def D.iop0 (g : Int → Int → Int) : D → D → Option D
  | .int i, .int j => some (.int (g i j))
  | _, _ => none
theorem ok_iop0 {g : Int → Int → Int} : BinOk K wk (D.iop0 g) (rI0 fun i j => .int (g i j)) := by
  intro as Bs Bw H x y z v w Q h1 h2 rx ry e q
  cases x <;> try (cases e; done)
  case int i =>
    cases y <;> try (cases e; done)
    case int j =>
      cases e
      exact ⟨i, j, rx, ry, q _ _ Evo.refl rfl⟩
abbrev D.sub := D.iop0 fun i j => i - j
abbrev D.fdiv := D.iop (fun i j => decide (0 < j ∧ j < 1073741824)) fun i j => i / j
abbrev D.mod := D.iop (fun i j => decide (0 < j)) fun i j => i % j
abbrev D.powI := D.iop (fun i j => decide (0 ≤ j ∧ j ≤ 1000000 ∧ i.natAbs < 18446744073709551616)) fun i j => i ^ j.toNat
abbrev D.shl := D.iop (fun i j => decide (0 ≤ j ∧ j ≤ 1000000 ∧ i.natAbs < 18446744073709551616)) fun i j => i * 2 ^ j.toNat
abbrev D.shr := D.iop (fun i j => decide (0 ≤ j)) fun i j => i / 2 ^ j.toNat
abbrev D.and := D.iop0 Builtin.bitAnd
abbrev D.or := D.iop0 Builtin.bitOr
abbrev D.xor := D.iop0 Builtin.bitXor
theorem ok_sub : BinOk K wk D.sub (rI0 fun i j => .int (i - j)) := ok_iop0
theorem ok_fdiv : BinOk K wk D.fdiv (rI CDiv fun i j => .int (i / j)) := ok_iop fun i j h => (of_decide_eq_true (p := 0 < j ∧ j < 1073741824) h : 0 < j ∧ j < 1073741824)
theorem ok_mod : BinOk K wk D.mod (rI (fun _ j => 0 < j) fun i j => .int (i % j)) := ok_iop fun i j h => of_decide_eq_true h
theorem ok_pow : BinOk K wk D.powI (rI CPow fun i j => .int (i ^ j.toNat)) := ok_iop fun i j h => by
  have h' := of_decide_eq_true h
  exact ⟨h'.1, h'.2.1, by have := h'.2.2; omega⟩
theorem ok_shl : BinOk K wk D.shl (rI CPow fun i j => .int (i * 2 ^ j.toNat)) := ok_iop fun i j h => by
  have h' := of_decide_eq_true h
  exact ⟨h'.1, h'.2.1, by have := h'.2.2; omega⟩
theorem ok_shr : BinOk K wk D.shr (rI (fun _ j => 0 ≤ j) fun i j => .int (i / 2 ^ j.toNat)) := ok_iop fun i j h => of_decide_eq_true h
theorem ok_and : BinOk K wk D.and (rI0 fun i j => .int (Builtin.bitAnd i j)) := ok_iop0
theorem ok_or : BinOk K wk D.or (rI0 fun i j => .int (Builtin.bitOr i j)) := ok_iop0
theorem ok_xor : BinOk K wk D.xor (rI0 fun i j => .int (Builtin.bitXor i j)) := ok_iop0
/-- a product: ints (one within 2^64), a list times an int -/
def D.mul : D → D → Option D
  | .int i, .int j => if decide ((-18446744073709551616 < i ∧ i < 18446744073709551616) ∨ (-18446744073709551616 < j ∧ j < 18446744073709551616)) = true then some (.int (i * j)) else none
  | .lst xs, .int k => if decide (-4611686018427387904 ≤ k ∧ k < 4611686018427387904 ∧ xs.length * k.toNat ≤ 16777216) = true then some (.lst (List.replicate k.toNat xs).flatten) else none
  | _, _ => none
def rMulD : R2 := fun x y H Q => rI CMul (fun i j => .int (i * j)) x y H Q ∨ rRep x y H Q
theorem op_mulD {X : Cx} : OpR X (binaryOp .Mult) rMulD := op_mul.or op_rep
theorem ok_mul : BinOk K wk D.mul rMulD := by
  intro as Bs Bw H x y z v w Q h1 h2 rx ry e q
  cases x <;> try (cases e; done)
  case int i =>
    cases y <;> try (cases e; done)
    case int j =>
      simp only [D.mul] at e
      split at e
      · rename_i hc
        cases e
        have hc' := of_decide_eq_true hc
        exact .inl ⟨i, j, rx, ry, hc'.imp (fun z => ⟨by have := z.1; omega, by have := z.2; omega⟩) (fun z => ⟨by have := z.1; omega, by have := z.2; omega⟩), q _ _ Evo.refl rfl⟩
      · cases e
  case lst xs =>
    cases y <;> try (cases e; done)
    case int k =>
      simp only [D.mul] at e
      split at e
      · rename_i hc
        cases e
        have hc' := of_decide_eq_true hc
        obtain ⟨a, vs, e1, na, a1, a2⟩ := rx
        rw [a2.length] at hc'
        exact .inr ⟨a, k, vs, e1, ry, a1, by have := hc'.1; omega, by have := hc'.2.1; omega, lineN hc'.2.2, fun p hp => q _ _ (Evo.new hp) (repNewL h1 h2 hp (a2.rep _))⟩
      · cases e

/-! ### comparisons -/
def D.icmp (g : Int → Int → Bool) : D → D → Option D
  | .int i, .int j => some (.bl (g i j))
  | _, _ => none
theorem ok_icmp {g : Int → Int → Bool} : BinOk K wk (D.icmp g) (rI0 fun i j => .bl (g i j)) := by
  intro as Bs Bw H x y z v w Q h1 h2 rx ry e q
  cases x <;> try (cases e; done)
  case int i =>
    cases y <;> try (cases e; done)
    case int j =>
      cases e
      exact ⟨i, j, rx, ry, q _ _ Evo.refl rfl⟩
abbrev D.lt := D.icmp fun i j => decide (i < j)
abbrev D.le := D.icmp fun i j => decide (i ≤ j)
abbrev D.gt := D.icmp fun i j => decide (j < i)
abbrev D.ge := D.icmp fun i j => decide (j ≤ i)
theorem ok_lt : BinOk K wk D.lt (rI0 fun i j => .bl (decide (i < j))) := ok_icmp
theorem ok_le : BinOk K wk D.le (rI0 fun i j => .bl (decide (i ≤ j))) := ok_icmp
theorem ok_gt : BinOk K wk D.gt (rI0 fun i j => .bl (decide (j < i))) := ok_icmp
theorem ok_ge : BinOk K wk D.ge (rI0 fun i j => .bl (decide (j ≤ i))) := ok_icmp
/-- == of data -/
def D.eqo (x y : D) : Option D := if x.okq 50 = true then if y.okq 50 = true then some (.bl (D.eqv x y)) else none else none
def D.neo (x y : D) : Option D := if x.okq 50 = true then if y.okq 50 = true then some (.bl (!D.eqv x y)) else none else none
def rEqP (K : PySem.W.Frag) (neg : Bool) : R2 := fun x y H Q => ∃ d e, Dp K H x d ∧ Dp K H y e ∧ (d.plain = true ∧ d.depth ≤ 60) ∧ (e.plain = true ∧ e.depth ≤ 60) ∧ Q (.bl (if neg then !PyData.eqv d e else PyData.eqv d e)) H
theorem op_eqP {X : Cx} (hu : X.A.units + 64 < cLine) : OpR X (compareOp .Eq) (rEqP X.K false) := by
  intro pins s σ H x y v u Q I rx ry h
  obtain ⟨d, e, hd, he, ⟨sd, dd⟩, ⟨se, de⟩, q⟩ := h
  obtain ⟨as, r1⟩ := Dp.reads I d x v hd rx
  obtain ⟨bs, r2⟩ := Dp.reads I e y u he ry
  exact SeqAt.eq_plain r1 r2 sd se (by omega) ⟨.bl _, H, I, rfl, q⟩
theorem op_neP {X : Cx} (hu : X.A.units + 64 < cLine) : OpR X (compareOp .NotEq) (rEqP X.K true) := by
  intro pins s σ H x y v u Q I rx ry h
  obtain ⟨d, e, hd, he, ⟨sd, dd⟩, ⟨se, de⟩, q⟩ := h
  obtain ⟨as, r1⟩ := Dp.reads I d x v hd rx
  obtain ⟨bs, r2⟩ := Dp.reads I e y u he ry
  exact SeqAt.ne_plain r1 r2 sd se (by omega) ⟨.bl _, H, I, rfl, q⟩
theorem ok_eq : BinOk K wk D.eqo (rEqP K false) := by
  intro as Bs Bw H x y z v w Q h1 h2 rx ry e q
  simp only [D.eqo] at e
  split at e
  · rename_i c1
    split at e
    · rename_i c2
      cases e
      obtain ⟨a1, a2, a3⟩ := okq_dp x v 50 rx c1
      obtain ⟨b1, b2, b3⟩ := okq_dp y w 50 ry c2
      exact ⟨x.pd, y.pd, a1, b1, ⟨a2, by omega⟩, ⟨b2, by omega⟩, q _ _ Evo.refl rfl⟩
    · cases e
  · cases e
theorem ok_ne : BinOk K wk D.neo (rEqP K true) := by
  intro as Bs Bw H x y z v w Q h1 h2 rx ry e q
  simp only [D.neo] at e
  split at e
  · rename_i c1
    split at e
    · rename_i c2
      cases e
      obtain ⟨a1, a2, a3⟩ := okq_dp x v 50 rx c1
      obtain ⟨b1, b2, b3⟩ := okq_dp y w 50 ry c2
      exact ⟨x.pd, y.pd, a1, b1, ⟨a2, by omega⟩, ⟨b2, by omega⟩, q _ _ Evo.refl rfl⟩
    · cases e
  · cases e
/-! ### in: a list, a tuple, a dict -/
def D.key? : D → Option Key
  | .int i => some (.inl i)
  | .str x => some (.inr x)
  | _ => none
def dicGet : List Key → List D → Key → Option D
  | k :: ks, d :: ds, j => if k = j then some d else dicGet ks ds j
  | _, _, _ => none
def D.inB : D → D → Option Bool
  | x, .lst ds => if x.okq 50 = true then if D.okqA ds 50 = true then some (ds.any fun y => D.eqv y x) else none else none
  | x, .tup ds => if x.okq 50 = true then if D.okqA ds 50 = true then some (ds.any fun y => D.eqv y x) else none else none
  | x, .dic ks ds => match x.key? with
    | some k => some (dicGet ks ds k).isSome
    | none => none
  | .str s, .str z => if s.cps.size = 1 then some (decide (s.cps.getD 0 0 ∈ z.cps.toList)) else none
  | _, _ => none
def D.ino (x y : D) : Option D := (D.inB x y).map .bl
def D.nino (x y : D) : Option D := (D.inB x y).map fun b => .bl !b
def rInP (K : PySem.W.Frag) (neg : Bool) : R2 := fun x y H Q => ∃ d es b, Dp K H x d ∧ y = .ref b ∧ (Dp K H y (.list es) ∨ Dp K H y (.tuple es)) ∧ (d.plain = true ∧ d.depth ≤ 60) ∧ PyData.plainAll es = true ∧ Q (.bl (if neg then !(es.any fun z => PyData.eqv z d) else es.any fun z => PyData.eqv z d)) H
theorem op_inP {X : Cx} (hu : X.A.units + 64 < cLine) : OpR X (compareOp .In) (rInP X.K false) := by
  intro pins s σ H x y v u Q I rx ry h
  obtain ⟨d, es, b, hd, eb, he, ⟨sd, dd⟩, se, q⟩ := h
  obtain ⟨as, r1⟩ := Dp.reads I d x v hd rx
  rcases he with he | he
  · obtain ⟨bs, r2⟩ := Dp.reads I _ y u he ry
    exact SeqAt.in_list_data r2 r1 se sd (by omega) ⟨.bl _, H, I, rfl, q⟩
  · obtain ⟨bs, r2⟩ := Dp.reads I _ y u he ry
    exact SeqAt.in_tuple_data r2 r1 se sd (by omega) ⟨.bl _, H, I, rfl, q⟩
theorem op_ninP {X : Cx} (hu : X.A.units + 64 < cLine) : OpR X (compareOp .NotIn) (rInP X.K true) := by
  intro pins s σ H x y v u Q I rx ry h
  obtain ⟨d, es, b, hd, eb, he, ⟨sd, dd⟩, se, q⟩ := h
  obtain ⟨as, r1⟩ := Dp.reads I d x v hd rx
  rcases he with he | he
  · obtain ⟨bs, r2⟩ := Dp.reads I _ y u he ry
    exact SeqAt.notIn_list_data r2 r1 se sd (by omega) ⟨.bl _, H, I, rfl, q⟩
  · obtain ⟨bs, r2⟩ := Dp.reads I _ y u he ry
    exact SeqAt.notIn_tuple_data r2 r1 se sd (by omega) ⟨.bl _, H, I, rfl, q⟩
def rInD (neg : Bool) : R2 := fun y x H Q => ∃ a o, x = .ref a ∧ DGet H a y o ∧ Q (.bl (if neg then !o.isSome else o.isSome)) H
theorem op_inD {X : Cx} (hu : X.A.units + 1 < cLine) : OpR X (compareOp .In) (rInD false) := by
  intro pins s σ H y x u v Q I ry rx h
  obtain ⟨a, o, rfl, g, q⟩ := h
  cases rx
  exact d_in hu I g ry fun s' I' => ⟨.bl _, H, I', rfl, q⟩
theorem op_ninD {X : Cx} (hu : X.A.units + 1 < cLine) : OpR X (compareOp .NotIn) (rInD true) := by
  intro pins s σ H y x u v Q I ry rx h
  obtain ⟨a, o, rfl, g, q⟩ := h
  cases rx
  exact d_notIn hu I g ry fun s' I' => ⟨.bl _, H, I', rfl, q⟩
def rInS (neg : Bool) : R2 := fun x y H Q => ∃ (c : Nat) (z : Str), x = .str ⟨#[c]⟩ ∧ y = .str z ∧ Q (.bl (if neg then !decide (c ∈ z.cps.toList) else decide (c ∈ z.cps.toList))) H
def rIn2 (K : PySem.W.Frag) (neg : Bool) : R2 := fun x y H Q => rInP K neg x y H Q ∨ (rInD neg x y H Q ∨ rInS neg x y H Q)
theorem op_in2 {X : Cx} (hu : X.A.units + 64 < cLine) : OpR X (compareOp .In) (rIn2 X.K false) := (op_inP hu).or ((op_inD (by omega)).or op_in_sign)
theorem op_nin2 {X : Cx} (hu : X.A.units + 64 < cLine) : OpR X (compareOp .NotIn) (rIn2 X.K true) := (op_ninP hu).or ((op_ninD (by omega)).or op_notIn_sign)
theorem dicGet_val {as : List Addr} {B : Addr → Prop} {H : Hp} : ∀ {ks : List Key} {ds : List D} {xs : List V} {j : Key}, ks.length = xs.length → RepA K as B H ds xs →
    (dicGet ks ds j = none → valV (ks.zip xs) j = none) ∧ ∀ d, dicGet ks ds j = some d → ∃ v, valV (ks.zip xs) j = some v ∧ Rep K as B H d v
  | [], ds, xs, j, hl, r => by
    have : xs = [] := List.eq_nil_of_length_eq_zero hl.symm
    subst this
    exact ⟨fun _ => rfl, fun d e => by simp [dicGet] at e⟩
  | k :: ks, [], xs, j, hl, r => by
    have e : xs = [] := r
    subst e
    cases hl
  | k :: ks, d :: ds, xs, j, hl, r => by
    obtain ⟨v, vs, e1, h1, h2⟩ := r
    subst e1
    have ih := dicGet_val (ks := ks) (ds := ds) (xs := vs) (j := j) (by simpa using hl) h2
    have eq1 : valV ((k :: ks).zip (v :: vs)) j = if k = j then some v else valV (ks.zip vs) j := by
      rw [List.zip_cons_cons]
      simp only [valV, List.find?_cons]
      by_cases hk : k = j
      · simp [hk]
      · simp [hk]
    rw [eq1]
    simp only [dicGet]
    by_cases hk : k = j
    · rw [if_pos hk, if_pos hk]
      exact ⟨fun z => (nomatch z), fun d' e' => ⟨v, rfl, by cases e'; exact h1⟩⟩
    · rw [if_neg hk, if_neg hk]
      exact ih
theorem key_rep {as : List Addr} {B : Addr → Prop} {H : Hp} {x : D} {v : V} {k : Key} (h : Rep K as B H x v) (e : x.key? = some k) : v = kV k := by
  cases x <;> try (cases e; done)
  · cases e; exact h
  · cases e; exact h
theorem pdA_any (x : D) : ∀ ds : List D, (D.pdA ds).any (fun z => PyData.eqv z x.pd) = ds.any fun y => D.eqv y x
  | [] => rfl
  | d :: ds => by
    show (PyData.eqv d.pd x.pd || (D.pdA ds).any (fun z => PyData.eqv z x.pd)) = (D.eqv d x || ds.any fun y => D.eqv y x)
    rw [pdA_any x ds]
    rfl
theorem ok_in2 {neg : Bool} : BinOk K wk (fun x y => (D.inB x y).map fun b => .bl (if neg then !b else b)) (rIn2 K neg) := by
  intro as Bs Bw H x y z v w Q h1 h2 rx ry e q
  obtain ⟨b, e1, e2⟩ := Option.map_eq_some_iff.mp e
  subst e2
  cases y with
  | lst ds =>
    simp only [D.inB] at e1
    split at e1
    · rename_i c1
      split at e1
      · rename_i c2
        cases e1
        obtain ⟨a, xs, e1, nb, g1, g2⟩ := ry
        obtain ⟨a1, a2, a3⟩ := okq_dp x v 50 rx c1
        obtain ⟨b1, b2, b3⟩ := okqA_dp ds xs 50 g2 c2
        exact .inl ⟨x.pd, D.pdA ds, a, a1, e1, .inl (by rw [e1]; exact .lst (.inl (.inl g1)) b1), ⟨a2, by omega⟩, b2, by rw [pdA_any]; exact q _ _ Evo.refl rfl⟩
      · cases e1
    · cases e1
  | tup ds =>
    simp only [D.inB] at e1
    split at e1
    · rename_i c1
      split at e1
      · rename_i c2
        cases e1
        obtain ⟨a, xs, e1, g1, g2⟩ := ry
        obtain ⟨a1, a2, a3⟩ := okq_dp x v 50 rx c1
        obtain ⟨b1, b2, b3⟩ := okqA_dp ds xs 50 g2 c2
        exact .inl ⟨x.pd, D.pdA ds, a, a1, e1, .inr (by rw [e1]; exact .tup g1 b1), ⟨a2, by omega⟩, b2, by rw [pdA_any]; exact q _ _ Evo.refl rfl⟩
      · cases e1
    · cases e1
  | dic ks ds =>
    simp only [D.inB] at e1
    split at e1
    · rename_i k c1
      cases e1
      obtain ⟨a, xs, e1, nb, g1, gl, g2⟩ := ry
      have ek := key_rep rx c1
      subst ek
      have gv := dicGet_val (j := k) gl g2
      refine .inr (.inl ⟨a, valV (ks.zip xs) k, e1, .inl ⟨_, k, g1, rfl, rfl⟩, ?_⟩)
      have : (valV (ks.zip xs) k).isSome = (dicGet ks ds k).isSome := by
        cases c : dicGet ks ds k with
        | none => rw [gv.1 c]; rfl
        | some d =>
          obtain ⟨v, q1, _⟩ := gv.2 d c
          rw [q1]; rfl
      rw [this]
      exact q _ _ Evo.refl rfl
    · cases e1
  | str z =>
    cases x <;> try (simp only [D.inB] at e1; cases e1; done)
    rename_i s
    simp only [D.inB] at e1
    split at e1
    · rename_i hs
      cases e1
      obtain ⟨⟨l⟩⟩ := s
      cases l with
      | nil => cases hs
      | cons c r =>
        cases r with
        | nil => exact .inr (.inr ⟨c, z, rx, ry, q _ _ Evo.refl rfl⟩)
        | cons c2 r2 => simp at hs
    · cases e1
  | _ => simp only [D.inB] at e1; cases e1
theorem ok_in : BinOk K wk D.ino (rIn2 K false) := ok_in2 (neg := false)
theorem ok_nin : BinOk K wk D.nino (rIn2 K true) := ok_in2 (neg := true)

/-! ### subscripts -/
def D.ixo : D → D → Option D
  | .lst ds, .int i => atI ds i
  | .tup ds, .int i => atI ds i
  | .str z, .int i => if z.length ≤ 16777216 then (atI z.cps.toList i).map fun c => .str ⟨#[c]⟩ else none
  | .dic ks ds, x => match x.key? with
    | some k => dicGet ks ds k
    | none => none
  | _, _ => none
def rIxD : R2 := fun x y H Q => ∃ a v, x = .ref a ∧ DGet H a y (some v) ∧ Q v H
theorem ix_dict {X : Cx} (hu : X.A.units + 1 < cLine) : IxR X rIxD := by
  intro value slice pins s σ H x y v u Q I rx ry h hs
  obtain ⟨a, z, rfl, g, q⟩ := h
  cases rx
  have ht := dict_typeIs I g
  unfold subscriptTail
  refine wpAny_bind ?_
  rw [getitemInPython_of_ne ht.not_modules]
  refine wpAny_bind (wpAny_specialOf ht PySem.F.slot_dict_getitem.lookup ?_)
  have fin : wpAny (model X.prog X.w) X.A (subscripted slice false (.ref a) u) (fun r s₃ => wpAny (model X.prog X.w) X.A (letTemporaryGo value (.ref a) r >>= fun _ => pure r) (EP X pins σ Q) X.xe s₃) X.xe s := by
    rw [hs]
    exact wpAny_operating (wpAny_mono (d_getItem hu I g ry fun w' s' I' r' => (⟨_, H, I', r', q⟩ : EP X pins σ Q w' s')) (fun r s₃ h₃ => wpAny_bind (wpAny_letTemporaryGo (wpAny_pure h₃))) fun _ _ x => x)
  first
    | exact wpAny_pure (wpAny_bind fin)
    | exact wpAny_bind (wpAny_pure (wpAny_bind fin))
    | exact wpAny_bind fin
def rIx2 (K : PySem.W.Frag) : R2 := fun x y H Q => rIx K x y H Q ∨ rIxD x y H Q
theorem ix_all {X : Cx} (hu : X.A.units + 1 < cLine) : IxR X (rIx2 X.K) := ix_seq.or (ix_dict hu)
theorem atI_rep {as : List Addr} {B : Addr → Prop} {H : Hp} {ds : List D} {xs : List V} {i : Int} {d : D} (r : RepA K as B H ds xs) (h : atI ds i = some d) : ∃ v, atI xs i = some v ∧ Rep K as B H d v := by
  unfold atI at h ⊢
  rw [← r.length]
  cases e : ixN ds.length i with
  | none => rw [e] at h; cases h
  | some j =>
    rw [e] at h
    exact r.get h
theorem ok_ix : BinOk K wk D.ixo (rIx2 K) := by
  intro as Bs Bw H x y z v w Q h1 h2 rx ry e q
  cases x with
  | lst ds =>
    cases y <;> try (simp only [D.ixo] at e; cases e; done)
    rename_i i
    obtain ⟨a, xs, e1, nb, g1, g2⟩ := rx
    obtain ⟨u, q1, q2⟩ := atI_rep g2 e
    exact .inl (.inl ⟨a, xs, i, u, e1, ry, .inl (.inl g1), q1, q _ _ Evo.refl q2⟩)
  | tup ds =>
    cases y <;> try (simp only [D.ixo] at e; cases e; done)
    rename_i i
    obtain ⟨a, xs, e1, g1, g2⟩ := rx
    obtain ⟨u, q1, q2⟩ := atI_rep g2 e
    exact .inl (.inr (.inl ⟨a, xs, i, u, e1, ry, g1, q1, q _ _ Evo.refl q2⟩))
  | str s =>
    cases y <;> try (simp only [D.ixo] at e; cases e; done)
    rename_i i
    simp only [D.ixo] at e
    split at e
    · rename_i hl
      obtain ⟨c, c1, c2⟩ := Option.map_eq_some_iff.mp e
      subst c2
      exact .inl (.inr (.inr ⟨s, i, c, rx, ry, lineN hl, c1, q _ _ Evo.refl rfl⟩))
    · cases e
  | dic ks ds =>
    simp only [D.ixo] at e
    split at e
    · rename_i k c1
      obtain ⟨a, xs, e1, nb, g1, gl, g2⟩ := rx
      have ek := key_rep ry c1
      subst ek
      obtain ⟨u, q1, q2⟩ := (dicGet_val (j := k) gl g2).2 z e
      exact .inr ⟨a, u, e1, .inl ⟨_, k, g1, rfl, q1.symm⟩, q _ _ Evo.refl q2⟩
    · cases e
  | _ => simp only [D.ixo] at e; cases e
end
end D2

namespace D2
open PySem PySem.Spec PyProof.Rows L2

section
variable {X : Cx} {W : WX2} {wk : Bool} {e a b c : Expr} {es : List Expr} {m ma mb mc : ME} {ms : MA} {mt : MT} {pos : Pos}

/-! ### arguments, displays -/
def mNil : MA := fun _ S => .ok ([], S)
def mCons (m : ME) (ms : MA) : MA := fun sg S => (m sg S).bind fun x => (ms sg x.2).bind fun y => .ok (x.1 :: y.1, y.2)
theorem a2_nil : PA2 X W wk [] mNil := ⟨_, pa_nil, fun B H0 as ks ow sg S σ H Q r h => h [] H Evo.refl r.sto rfl⟩
theorem a2_cons (he : PE2 X W wk e m) (hr : PA2 X W wk es ms) (hs : starEach (e :: es) X.env = (false, eval e X.env) :: starEach es X.env := by rfl) : PA2 X W wk (e :: es) (mCons m ms) := by
  obtain ⟨t, h1, h2⟩ := he
  obtain ⟨u, g1, g2⟩ := hr
  refine ⟨_, pa_cons h1 g1 hs, fun B H0 as ks ow sg S σ H Q r h => ?_⟩
  refine h2 _ _ _ _ _ _ _ _ _ _ r (Den.bind h fun x S1 v H1 _ e1 s1 q1 h1 => ?_)
  refine g2 _ _ _ _ _ _ _ _ _ _ (r.step e1 s1) (Den.bind h1 fun y S2 w H2 _ e2 s2 q2 h2 => ?_)
  exact h2 (v :: w) H2 Evo.refl s2 ⟨v, w, rfl, Rep.imp e2 (asWk r) (fun _ z => z) x v q1, q2⟩
def mTup (ms : MA) : ME := fun sg S => (ms sg S).bind fun x => if x.1.length ≤ 16777216 then .ok (.tup x.1, x.2) else .bad
def mLst (ms : MA) : ME := fun sg S => (ms sg S).bind fun x => if x.1.length ≤ 16777216 then .ok (.lst x.1, x.2) else .bad
theorem stoNew {K : PySem.W.Frag} {as : List Addr} {B : Addr → Prop} {H : Hp} {S : List O} {p : Addr} {o : HO} (s : Sto K as B H S) (hp : H p = none) : Sto K as B (upd H p o) S := s.evo (W := fun _ => False) (Evo.new hp)
theorem e2_tup {k} (h : PA2 X W wk es ms) : PE2 X W wk (.Tuple es k pos) (mTup ms) := by
  obtain ⟨t, h1, h2⟩ := h
  refine ⟨_, pe_tup h1, fun B H0 as ks ow sg S σ H Q r h => ?_⟩
  refine h2 _ _ _ _ _ _ _ _ _ _ r (Den.bind h fun x S1 v H1 _ e1 s1 q1 h1 => ?_)
  by_cases hl : x.length ≤ 16777216
  · simp only [if_pos hl] at h1
    refine ⟨lineN (by rw [← q1.length]; exact hl), fun p hp => h1 _ _ (Evo.new hp) (stoNew s1 hp) ?_⟩
    exact repNewT hp q1
  · simp only [if_neg hl] at h1
    exact False.elim h1
theorem e2_lst (h : PA2 X W wk es ms) : PE2 X W wk (.List es pos) (mLst ms) := by
  obtain ⟨t, h1, h2⟩ := h
  refine ⟨_, pe_lst h1, fun B H0 as ks ow sg S σ H Q r h => ?_⟩
  refine h2 _ _ _ _ _ _ _ _ _ _ r (Den.bind h fun x S1 v H1 _ e1 s1 q1 h1 => ?_)
  by_cases hl : x.length ≤ 16777216
  · simp only [if_pos hl] at h1
    refine ⟨lineN (by rw [← q1.length]; exact hl), fun p hp => h1 _ _ (Evo.new hp) (stoNew s1 hp) ?_⟩
    exact repNewL r.asBd (r.step e1 s1).bdDom hp q1
  · simp only [if_neg hl] at h1
    exact False.elim h1

/-! ### one operand -/
def mUn (f : D → Option D) (m : ME) : ME := fun sg S => (m sg S).bind fun x => R.of ((f x.1).map fun z => (z, x.2))
def D.neg : D → Option D
  | .int i => some (.int (-i))
  | _ => none
theorem e2_neg (h : PE2 X W wk a m) : PE2 X W wk (.UnaryOp .USub a pos) (mUn D.neg m) := by
  obtain ⟨t, h1, h2⟩ := h
  refine ⟨_, pe_un un_neg h1, fun B H0 as ks ow sg S σ H Q r h => ?_⟩
  refine h2 _ _ _ _ _ _ _ _ _ _ r (Den.bind h fun d S1 v H1 e0 e1 s1 q1 h1 => ?_)
  clear e0
  cases d <;> try exact False.elim h1
  rename_i i
  exact ⟨i, q1, h1 _ H1 Evo.refl s1 rfl⟩
def D.nob : D → Option D
  | .bl b => some (.bl (!b))
  | _ => none
theorem e2_not (h : PE2 X W wk a m) : PE2 X W wk (.UnaryOp .Not a pos) (mUn D.nob m) := by
  obtain ⟨t, h1, h2⟩ := h
  refine ⟨_, pe_not h1, fun B H0 as ks ow sg S σ H Q r h => ?_⟩
  refine h2 _ _ _ _ _ _ _ _ _ _ r (Den.bind h fun d S1 v H1 e0 e1 s1 q1 h1 => ?_)
  clear e0
  cases d <;> try exact False.elim h1
  rename_i i
  exact ⟨i, q1, h1 _ H1 Evo.refl s1 rfl⟩

/-! ### and, or as values (of truth values) -/
def mAnd (ma mb : ME) : ME := fun sg S => (ma sg S).bind fun x => match x.1 with
  | .bl true => mb sg x.2
  | .bl false => .ok (.bl false, x.2)
  | _ => .bad
def mOr (ma mb : ME) : ME := fun sg S => (ma sg S).bind fun x => match x.1 with
  | .bl true => .ok (.bl true, x.2)
  | .bl false => mb sg x.2
  | _ => .bad
theorem e2_one {op} (h : PE2 X W wk a m) : PE2 X W wk (.BoolOp op [a] pos) m := by
  obtain ⟨t, h1, h2⟩ := h
  exact ⟨t, pe_one h1, h2⟩
theorem e2_and (ha : PE2 X W wk a ma) (hb : PE2 X W wk (.BoolOp .And (b :: es) pos) mb) : PE2 X W wk (.BoolOp .And (a :: b :: es) pos) (mAnd ma mb) := by
  obtain ⟨t, h1, h2⟩ := ha
  obtain ⟨u, g1, g2⟩ := hb
  refine ⟨_, pe_and h1 g1, fun B H0 as ks ow sg S σ H Q r h => ?_⟩
  refine h2 _ _ _ _ _ _ _ _ _ _ r (Den.bind h fun d S1 v H1 e0 e1 s1 q1 h1 => ?_)
  clear e0
  cases d <;> try exact False.elim h1
  rename_i i
  refine ⟨i, q1, ?_⟩
  cases i with
  | true => exact g2 _ _ _ _ _ _ _ _ _ _ (r.step e1 s1) h1
  | false => exact h1 _ H1 Evo.refl s1 rfl
theorem e2_or (ha : PE2 X W wk a ma) (hb : PE2 X W wk (.BoolOp .Or (b :: es) pos) mb) : PE2 X W wk (.BoolOp .Or (a :: b :: es) pos) (mOr ma mb) := by
  obtain ⟨t, h1, h2⟩ := ha
  obtain ⟨u, g1, g2⟩ := hb
  refine ⟨_, pe_or h1 g1, fun B H0 as ks ow sg S σ H Q r h => ?_⟩
  refine h2 _ _ _ _ _ _ _ _ _ _ r (Den.bind h fun d S1 v H1 e0 e1 s1 q1 h1 => ?_)
  clear e0
  cases d <;> try exact False.elim h1
  rename_i i
  refine ⟨i, q1, ?_⟩
  cases i with
  | false => exact g2 _ _ _ _ _ _ _ _ _ _ (r.step e1 s1) h1
  | true => exact h1 _ H1 Evo.refl s1 rfl

/-! ### tests -/
def D.truth : D → Option Bool
  | .non => some false
  | .bl b => some b
  | .int i => some (i != 0)
  | .str y => if y.length ≤ 16777216 then some ((y.length : Int) != 0) else none
  | .tup ds => some (!ds.isEmpty)
  | .lst ds => some (!ds.isEmpty)
  | .dic ks ds => none
  | .rng _ _ => none
  | .xd _ _ => none
  | .ref _ => none
def mTru (m : ME) : MT := fun sg S => (m sg S).bind fun x => R.of (x.1.truth.map fun b => (b, x.2))
theorem isEmpty_rep {K : PySem.W.Frag} {as : List Addr} {B : Addr → Prop} {H : Hp} {ds : List D} {xs : List V} (h : RepA K as B H ds xs) : ds.isEmpty = xs.isEmpty := by
  have := h.length
  cases ds <;> cases xs <;> first | rfl | cases this
theorem t2_tru (h : PE2 X W wk e m) (he : ∀ whole, isTrue e X.env whole = (do let v ← whole; standAt e.pos; PySem.holding [v] (truthy v)) := by intro _; rfl) : PT2 X W e (mTru m) := by
  obtain ⟨t, h1, h2⟩ := h
  refine ⟨_, pt_truth h1 he, fun B H0 as ks ow sg S σ H Q r h => ?_⟩
  refine h2 _ _ _ _ _ _ _ _ _ _ r (Den.bind h fun d S1 v H1 e0 e1 s1 q1 h1 => ?_)
  clear e0
  cases d with
  | non =>
    have q : v = .non := q1
    subst q
    exact ⟨false, rfl, h1 _ H1 Evo.refl s1 rfl⟩
  | bl b =>
    have q : v = .bl b := q1
    subst q
    exact ⟨b, rfl, h1 _ H1 Evo.refl s1 rfl⟩
  | int i =>
    have q : v = .int i := q1
    subst q
    exact ⟨i != 0, rfl, h1 _ H1 Evo.refl s1 rfl⟩
  | str y =>
    have q : v = .str y := q1
    subst q
    simp only [D.truth] at h1
    by_cases hl : y.length ≤ 16777216
    · simp only [if_pos hl] at h1
      exact ⟨(y.length : Int) != 0, ⟨lineN hl, rfl⟩, h1 _ H1 Evo.refl s1 rfl⟩
    · simp only [if_neg hl] at h1
      exact False.elim h1
  | tup ds =>
    obtain ⟨p, xs, q, g1, g2⟩ := q1
    subst q
    exact ⟨!xs.isEmpty, .inr (.inl ⟨xs, g1, rfl⟩), by rw [← isEmpty_rep g2]; exact h1 _ H1 Evo.refl s1 rfl⟩
  | lst ds =>
    obtain ⟨p, xs, q, nb, g1, g2⟩ := q1
    subst q
    exact ⟨!xs.isEmpty, .inl ⟨xs, SqL.of g1, rfl⟩, by rw [← isEmpty_rep g2]; exact h1 _ H1 Evo.refl s1 rfl⟩
  | dic ks ds => exact False.elim h1
  | rng _ _ => exact False.elim h1
  | xd _ _ => exact False.elim h1
  | ref n => exact False.elim h1
def mNotT (m : MT) : MT := fun sg S => (m sg S).bind fun x => .ok (!x.1, x.2)
theorem t2_not (h : PT2 X W a mt) : PT2 X W (.UnaryOp .Not a pos) (mNotT mt) := by
  obtain ⟨t, h1, h2⟩ := h
  refine ⟨_, pt_not h1, fun B H0 as ks ow sg S σ H Q r h => ?_⟩
  refine h2 _ _ _ _ _ _ _ _ _ _ r (Den.bind h fun d S1 v H1 e0 e1 s1 q1 h1 => ?_)
  have q : v = d := q1
  subst q
  exact h1 _ H1 Evo.refl s1 rfl
def mAndT (ma mb : MT) : MT := fun sg S => (ma sg S).bind fun x => if x.1 = true then mb sg x.2 else .ok (false, x.2)
def mOrT (ma mb : MT) : MT := fun sg S => (ma sg S).bind fun x => if x.1 = true then .ok (true, x.2) else mb sg x.2
theorem w2_pt {mt : MT} (h : PW2 X W e mt) : PT2 X W e mt := by
  obtain ⟨t, h1, h2⟩ := h
  exact ⟨t, h1.pt, h2⟩
theorem w2_and1 {mt : MT} (h : PT2 X W a mt) : PW2 X W (.BoolOp .And [a] pos) mt := by
  obtain ⟨t, h1, h2⟩ := h
  exact ⟨t, pw_and1 h1, h2⟩
theorem w2_or1 {mt : MT} (h : PT2 X W a mt) : PW2 X W (.BoolOp .Or [a] pos) mt := by
  obtain ⟨t, h1, h2⟩ := h
  exact ⟨t, pw_or1 h1, h2⟩
theorem w2_and {ma mb : MT} (ha : PT2 X W a ma) (hb : PW2 X W (.BoolOp .And (b :: es) pos) mb) : PW2 X W (.BoolOp .And (a :: b :: es) pos) (mAndT ma mb) := by
  obtain ⟨t, h1, h2⟩ := ha
  obtain ⟨u, g1, g2⟩ := hb
  refine ⟨_, pw_and h1 g1, fun B H0 as ks ow sg S σ H Q r h => ?_⟩
  refine h2 _ _ _ _ _ _ _ _ _ _ r (Den.bind h fun d S1 v H1 e0 e1 s1 q1 h1 => ?_)
  have q : v = d := q1
  subst q
  cases v with
  | true => exact g2 _ _ _ _ _ _ _ _ _ _ (r.step e1 s1) h1
  | false => exact h1 _ H1 Evo.refl s1 rfl
theorem w2_or {ma mb : MT} (ha : PT2 X W a ma) (hb : PW2 X W (.BoolOp .Or (b :: es) pos) mb) : PW2 X W (.BoolOp .Or (a :: b :: es) pos) (mOrT ma mb) := by
  obtain ⟨t, h1, h2⟩ := ha
  obtain ⟨u, g1, g2⟩ := hb
  refine ⟨_, pw_or h1 g1, fun B H0 as ks ow sg S σ H Q r h => ?_⟩
  refine h2 _ _ _ _ _ _ _ _ _ _ r (Den.bind h fun d S1 v H1 e0 e1 s1 q1 h1 => ?_)
  have q : v = d := q1
  subst q
  cases v with
  | false => exact g2 _ _ _ _ _ _ _ _ _ _ (r.step e1 s1) h1
  | true => exact h1 _ H1 Evo.refl s1 rfl
/-- x is None, x is not None -/
def mIsN (neg : Bool) (m : ME) : ME := fun sg S => (m sg S).bind fun x => .ok (.bl (match x.1 with | .non => !neg | _ => neg), x.2)
theorem isN_rep {K : PySem.W.Frag} {as : List Addr} {B : Addr → Prop} {H : Hp} {d : D} {v : V} (h : Rep K as B H d v) : decide (v = V.non) = (match d with | .non => true | _ => false) := by
  cases d with
  | non => have q : v = .non := h; subst q; rfl
  | bl b => have q : v = .bl b := h; subst q; rfl
  | int b => have q : v = .int b := h; subst q; rfl
  | str b => have q : v = .str b := h; subst q; rfl
  | tup ds => obtain ⟨p, xs, q, _⟩ := h; subst q; rfl
  | lst ds => obtain ⟨p, xs, q, _⟩ := h; subst q; rfl
  | dic ks ds => obtain ⟨p, xs, q, _⟩ := h; subst q; rfl
  | rng _ _ => obtain ⟨p, q, _⟩ := h; subst q; rfl
  | xd _ _ => obtain ⟨p, xs, q, _⟩ := h; subst q; rfl
  | ref n => obtain ⟨p, q, _⟩ := h; subst q; rfl
theorem e2_isN {j pos'} (h : PE2 X W wk a m) : PE2 X W wk (.Compare a [.Is] [.Constant .none j pos'] pos) (mIsN false m) := by
  obtain ⟨t, h1, h2⟩ := h
  refine ⟨_, pe_cmp (pc_isN h1) rfl, fun B H0 as ks ow sg S σ H Q r h => ?_⟩
  refine h2 _ _ _ _ _ _ _ _ _ _ r (Den.bind h fun d S1 v H1 e0 e1 s1 q1 h1 => ?_)
  show Q (.bl (decide (v = V.non))) H1
  rw [isN_rep q1]
  exact h1 _ H1 Evo.refl s1 (by cases d <;> rfl)
theorem e2_notN {j pos'} (h : PE2 X W wk a m) : PE2 X W wk (.Compare a [.IsNot] [.Constant .none j pos'] pos) (mIsN true m) := by
  obtain ⟨t, h1, h2⟩ := h
  refine ⟨_, pe_cmp (pc_notN h1) rfl, fun B H0 as ks ow sg S σ H Q r h => ?_⟩
  refine h2 _ _ _ _ _ _ _ _ _ _ r (Den.bind h fun d S1 v H1 e0 e1 s1 q1 h1 => ?_)
  show Q (.bl (!decide (v = V.non))) H1
  rw [isN_rep q1]
  exact h1 _ H1 Evo.refl s1 (by cases d <;> rfl)
/-- a if c else b -/
def mIf (mt : MT) (ma mb : ME) : ME := fun sg S => (mt sg S).bind fun x => if x.1 = true then ma sg x.2 else mb sg x.2
theorem e2_if (hc : PT2 X W c mt) (ha : PE2 X W wk a ma) (hb : PE2 X W wk b mb) : PE2 X W wk (.IfExp c a b pos) (mIf mt ma mb) := by
  obtain ⟨t, h1, h2⟩ := hc
  obtain ⟨u, f1, f2⟩ := ha
  obtain ⟨w, g1, g2⟩ := hb
  refine ⟨_, pe_ifExp h1 f1 g1, fun B H0 as ks ow sg S σ H Q r h => ?_⟩
  refine h2 _ _ _ _ _ _ _ _ _ _ r (Den.bind h fun d S1 v H1 e0 e1 s1 q1 h1 => ?_)
  have q : v = d := q1
  subst q
  cases v with
  | true => exact f2 _ _ _ _ _ _ _ _ _ _ (r.step e1 s1) h1
  | false => exact g2 _ _ _ _ _ _ _ _ _ _ (r.step e1 s1) h1
/-- a < b < c -/
def mChain (f g : D → D → Option D) (ma mb mc : ME) : ME := fun sg S => (ma sg S).bind fun x => (mb sg x.2).bind fun y => match f x.1 y.1 with
  | some (.bl true) => (mc sg y.2).bind fun z => R.of ((g y.1 z.1).map fun u => (u, z.2))
  | some (.bl false) => .ok (.bl false, y.2)
  | _ => .bad
theorem chain_den {op op' : CmpOp} {r2 r2' : R2} {f g : D → D → Option D} {ta tb tc : TE} (hop : BinOk X.K wk f r2) (hop' : BinOk X.K wk g r2')
    (ha : ∀ B H0 as ks ow sg S σ H (Q : VK), Rl X.K B H0 as ks ow sg S σ H → Den (ctOf X W B H0 as ks) ow ((ctOf X W B H0 as ks).rp ow wk) (ma sg S) H Q → ta σ H Q)
    (hb : ∀ B H0 as ks ow sg S σ H (Q : VK), Rl X.K B H0 as ks ow sg S σ H → Den (ctOf X W B H0 as ks) ow ((ctOf X W B H0 as ks).rp ow wk) (mb sg S) H Q → tb σ H Q)
    (hc : ∀ B H0 as ks ow sg S σ H (Q : VK), Rl X.K B H0 as ks ow sg S σ H → Den (ctOf X W B H0 as ks) ow ((ctOf X W B H0 as ks).rp ow wk) (mc sg S) H Q → tc σ H Q)
    {B : Addr → Prop} {H0 : Hp} {as : List Addr} {ks : List (D × V)} {ow : List (Option Addr)} {sg : List Sl} {S : List O} {σ : L2.St} {H : Hp} {Q : VK} (r : Rl X.K B H0 as ks ow sg S σ H) (h : Den (ctOf X W B H0 as ks) ow ((ctOf X W B H0 as ks).rp ow wk) (mChain f g ma mb mc sg S) H Q) : tChain r2 r2' ta tb tc σ H Q := by
  refine ha _ _ _ _ _ _ _ _ _ _ r (Den.bind h fun x S1 v H1 _ e1 s1 q1 h1 => ?_)
  have r1 := r.step e1 s1
  refine hb _ _ _ _ _ _ _ _ _ _ r1 (Den.bind h1 fun y S2 w H2 _ e2 s2 q2 h2 => ?_)
  have r2 := r1.step e2 s2
  have q1' := Rep.imp (B' := if wk then (· ∈ as) else Bd B ow) e2 (asWk r) (fun _ z => z) x v q1
  cases e : f x y with
  | none => simp only [e] at h2; exact False.elim h2
  | some z =>
    refine hop as (Bd B ow) (· ∈ as) H2 x y z v w _ r.asBd r2.bdDom q1' q2 e fun u H' e3 q3 => ?_
    have s3 := r2.stoNew e3
    have r3 := r2.step e3.any s3
    cases z <;> try (simp only [e] at h2; exact False.elim h2)
    rename_i k
    refine ⟨k, q3, ?_⟩
    cases k with
    | false =>
      simp only [e] at h2
      exact h2 _ H' e3.any s3 rfl
    | true =>
      simp only [e] at h2
      refine hc _ _ _ _ _ _ _ _ _ _ r3 (Den.bind (Den.evo e3.any h2) fun z S4 w4 H4 _ e4 s4 q4 h4 => ?_)
      have r4 := r3.step e4 s4
      cases e' : g y z with
      | none => simp only [e'] at h4; exact False.elim h4
      | some u2 =>
        simp only [e'] at h4
        have q2' := Rep.imp (B' := if wk then (· ∈ as) else Bd B ow) (e3.any.trans e4) (asWk r) (fun _ z => z) y w q2
        refine hop' as (Bd B ow) (· ∈ as) H4 y z u2 w w4 Q r.asBd r4.bdDom q2' q4 e' fun u5 H5 e5 q5 => ?_
        exact h4 u5 H5 e5.any (r4.stoNew e5) q5
theorem e2_chain {op op' : CmpOp} {r2 r2' : R2} {f g : D → D → Option D} (ho : OpR X (compareOp op) r2) (hop : BinOk X.K wk f r2) (ho' : OpR X (compareOp op') r2') (hop' : BinOk X.K wk g r2')
    (ha : PE2 X W wk a ma) (hb : PE2 X W wk b mb) (hc : PE2 X W wk c mc) (hm : lastMarks [op, op'] [b, c] = false := by with_unfolding_all rfl) : PE2 X W wk (.Compare a [op, op'] [b, c] pos) (mChain f g ma mb mc) := by
  obtain ⟨ta, a1, a2⟩ := ha
  obtain ⟨tb, b1, b2⟩ := hb
  obtain ⟨tc, c1, c2⟩ := hc
  exact ⟨_, pe_chain ho ho' a1 b1 c1 hm, fun B H0 as ks ow sg S σ H Q r h => chain_den (op := op) (op' := op') hop hop' a2 b2 c2 r h⟩
theorem t2_chain {op op' : CmpOp} {r2 r2' : R2} {f g : D → D → Option D} (ho : OpR X (compareOp op) r2) (hop : BinOk X.K wk f r2) (ho' : OpR X (compareOp op') r2') (hop' : BinOk X.K wk g r2')
    (ha : PE2 X W wk a ma) (hb : PE2 X W wk b mb) (hc : PE2 X W wk c mc) (hm : lastMarks [op, op'] [b, c] = false := by with_unfolding_all rfl) : PT2 X W (.Compare a [op, op'] [b, c] pos) (mTst (mChain f g ma mb mc)) := by
  obtain ⟨ta, a1, a2⟩ := ha
  obtain ⟨tb, b1, b2⟩ := hb
  obtain ⟨tc, c1, c2⟩ := hc
  refine ⟨_, pt_chain ho ho' a1 b1 c1 hm, fun B H0 as ks ow sg S σ H Q r h => ?_⟩
  refine chain_den (op := op) (op' := op') (W := W) hop hop' a2 b2 c2 r (Q := fun x H' => ∃ k, x = .bl k ∧ Q k H') (Den.bind h fun d S' v H' e0 e s q h => ?_)
  clear e0
  cases d <;> try exact False.elim h
  rename_i b
  have e : v = .bl b := q
  exact ⟨b, e, h b H' Evo.refl s rfl⟩

/-! ### calls of built-ins -/
def CallOk (K : PySem.W.Frag) (wk : Bool) (f : List D → Option D) (r : List V → Hp → VK → Prop) : Prop := ∀ (as : List Addr) (Bs Bw : Addr → Prop) (H : Hp) (ds : List D) (z : D) (vs : List V) (Q : VK), (∀ a, Bw a → Bs a) → (∀ a, Bs a → H a ≠ none) →
  RepA K as (if wk then Bw else Bs) H ds vs → f ds = some z → (∀ u H', Evo (fun _ => False) H H' → Rep K as (if wk then Bw else Bs) H' z u → Q u H') → r vs H Q
def mBi (f : List D → Option D) (ms : MA) : ME := fun sg S => (ms sg S).bind fun x => R.of ((f x.1).map fun z => (z, x.2))
theorem bi_den {r2 : List V → Hp → VK → Prop} {f : List D → Option D} {ta : TA} (hop : CallOk X.K wk f r2)
    (ha : ∀ B H0 as ks ow sg S σ H (Q : List V → Hp → Prop), Rl X.K B H0 as ks ow sg S σ H → Den (ctOf X W B H0 as ks) ow ((ctOf X W B H0 as ks).rpa ow wk) (ms sg S) H Q → ta σ H Q)
    {B : Addr → Prop} {H0 : Hp} {as : List Addr} {ks : List (D × V)} {ow : List (Option Addr)} {sg : List Sl} {S : List O} {σ : L2.St} {H : Hp} {Q : VK} (r : Rl X.K B H0 as ks ow sg S σ H) (h : Den (ctOf X W B H0 as ks) ow ((ctOf X W B H0 as ks).rp ow wk) (mBi f ms sg S) H Q) : tCB r2 ta σ H Q := by
  refine ha _ _ _ _ _ _ _ _ _ _ r (Den.bind h fun x S1 v H1 _ e1 s1 q1 h1 => ?_)
  have r1 := r.step e1 s1
  cases e : f x with
  | none => simp only [e] at h1; exact False.elim h1
  | some z =>
    simp only [e] at h1
    exact hop as (Bd B ow) (· ∈ as) H1 x z v Q r.asBd r1.bdDom q1 e fun u H' e3 q3 => h1 u H' e3.any (r1.stoNew e3) q3
theorem e2_callB {id : String} {x : Str} {p : Pos} {r2 : List V → Hp → VK → Prop} {f : List D → Option D} (hc : CallR X (.builtin id) r2) (hop : CallOk X.K wk f r2) (hg : Gl X x) (hm : X.mg x = none) (hv : bootBuiltins x = some (.builtin id)) (ha : PA2 X W wk (e :: es) ms)
    (hn : x ≠ "__name__" := by decide) (hdb : (x == ("__debug__" : Str)) = false := by decide) (he : starEach (e :: es) X.env = (false, eval e X.env) :: starEach es X.env := by rfl) (hpl : (backTo pos (starEach es X.env)).any (·.1) = false := by rfl) :
    PE2 X W wk (.Call (.Name x p) (e :: es) [] pos) (mBi f ms) := by
  obtain ⟨ta, a1, a2⟩ := ha
  exact ⟨_, pe_callB hc hg hm hv a1 hn hdb he hpl, fun B H0 as ks ow sg S σ H Q r h => bi_den hop a2 r h⟩
theorem e2_callTy {T : String} {x : Str} {p : Pos} {r2 : List V → Hp → VK → Prop} {f : List D → Option D} (hc : CallR X (.type T) r2) (hop : CallOk X.K wk f r2) (hg : Gl X x) (hm : X.mg x = none) (hv : bootBuiltins x = some (.type T)) (ha : PA2 X W wk (e :: es) ms)
    (hn : x ≠ "__name__" := by decide) (hdb : (x == ("__debug__" : Str)) = false := by decide) (he : starEach (e :: es) X.env = (false, eval e X.env) :: starEach es X.env := by rfl) (hpl : (backTo pos (starEach es X.env)).any (·.1) = false := by rfl) :
    PE2 X W wk (.Call (.Name x p) (e :: es) [] pos) (mBi f ms) := by
  obtain ⟨ta, a1, a2⟩ := ha
  exact ⟨_, pe_callTy hc hg hm hv a1 hn hdb he hpl, fun B H0 as ks ow sg S σ H Q r h => bi_den hop a2 r h⟩
end
end D2

namespace D2
open PySem PySem.Spec PyProof.Rows L2

/-! ### how the state goes on -/
section
variable {K : PySem.W.Frag} {as : List Addr} {B : Addr → Prop} {H H0 H' : Hp} {ks : List (D × V)} {ow : List (Option Addr)} {sg : List Sl} {S S' : List O} {σ : L2.St}
theorem mem_set_none {i : Nat} {a : Addr} (h : some a ∈ ow.set i none) : some a ∈ ow := by
  rcases List.mem_or_eq_of_mem_set h with h | h
  · exact h
  · cases h
theorem bd_none {i : Nat} : ∀ a, Bd B (ow.set i none) a → Bd B ow a := fun a h => h.imp id mem_set_none
/-- what stands in slots other than i -/
theorem Sto.weak {B' : Addr → Prop} (s : Sto K as B H S) (h : ∀ a, B' a → B a) : Sto K as B' H S :=
  ⟨s.len, s.nd, fun n o e => let ⟨a, h1, h2⟩ := s.ob n o e; ⟨a, h1, ORep.imp (W := fun _ => False) Evo.refl (fun _ z => z.elim) h o a (fun z => z) h2⟩⟩
theorem SlRep.weak {B' : Addr → Prop} {s : Sl} {w : Option Addr} {x : Option V} (h : ∀ a, B' a → B a) (q : SlRep K as B H s w x) : SlRep K as B' H s w x := by
  cases s with
  | no => exact q
  | val d =>
    obtain ⟨q1, v, q2, q3⟩ := q
    exact ⟨q1, v, q2, Rep.imp (W := fun _ => False) Evo.refl (fun _ z => z.elim) h d v q3⟩
  | own o =>
    obtain ⟨a, q1, q2, q3⟩ := q
    exact ⟨a, q1, q2, ORep.imp (W := fun _ => False) Evo.refl (fun _ z => z.elim) h o a (fun z => z) q3⟩
theorem Rl.setVal (r : Rl K B H0 as ks ow sg S σ H) (i : Nat) {d : D} {v : V} (h : Rep K as (Bd B ow) H d v) : Rl K B H0 as ks (ow.set i none) (sg.set i (.val d)) S (σ.set i (some v)) H := by
  refine ⟨by simpa only [List.length_set] using r.lo, by simpa using r.ls, fun j s hs => ?_, fun j k a hj hk => ?_, fun a ha => r.new a (mem_set_none ha), fun a ha => r.odom a (mem_set_none ha), r.bdom, r.asB, r.evo, r.sto.weak bd_none, fun p hp => Rep.imp (W := fun _ => False) Evo.refl (fun _ z => z.elim) bd_none _ _ (r.kp p hp)⟩
  · by_cases hij : i = j
    · subst hij
      have hl : i < sg.length := by
        have := (List.getElem?_eq_some_iff.mp hs).1
        simpa using this
      rw [List.getElem?_set_self hl] at hs
      cases hs
      exact ⟨none, some v, List.getElem?_set_self (Nat.lt_of_lt_of_le hl r.lo), List.getElem?_set_self (by rw [r.ls]; exact hl), rfl, v, rfl, Rep.imp (W := fun _ => False) Evo.refl (fun _ z => z.elim) bd_none d v h⟩
    · rw [List.getElem?_set_ne hij] at hs ⊢
      rw [List.getElem?_set_ne hij]
      obtain ⟨w, x, h1, h2, h3⟩ := r.sl j s hs
      exact ⟨w, x, h1, h2, h3.weak bd_none⟩
  · have e : ∀ k, (ow.set i none)[k]? = some (some a) → ow[k]? = some (some a) := fun k e => by
      by_cases hik : i = k
      · subst hik
        have hl : i < ow.length := by
          have := (List.getElem?_eq_some_iff.mp e).1
          simpa using this
        rw [List.getElem?_set_self hl] at e
        cases e
      · rwa [List.getElem?_set_ne hik] at e
    exact r.inj j k a (e j hj) (e k hk)
theorem Rl.setOwn (r : Rl K B H0 as ks ow sg S σ H) (i : Nat) {o : O} {a : Addr} (hi : i < sg.length) (ha : H a = none) (e : Evo (· ∈ as) H H') (s : Sto K as (fun b => Bd B ow b ∨ b = a) H' S') (h : ORep K as (fun b => Bd B ow b ∨ b = a) H' o a) :
    Rl K B H0 as ks (ow.set i (some a)) (sg.set i (.own o)) S' (σ.set i (some (.ref a))) H' := by
  have h0 : H0 a = none := r.evo.back ha
  have mem : ∀ b, some b ∈ ow.set i (some a) → some b ∈ ow ∨ b = a := fun b hb => by
    rcases List.mem_or_eq_of_mem_set hb with hb | hb
    · exact .inl hb
    · exact .inr (Option.some.inj hb)
  have bd : ∀ b, Bd B (ow.set i (some a)) b → Bd B ow b ∨ b = a := fun b hb => by
    rcases hb with hb | hb
    · exact .inl (.inl hb)
    · rcases mem b hb with hb | hb
      · exact .inl (.inr hb)
      · exact .inr hb
  have notin : some a ∉ ow := fun z => by
    exact r.bdDom a (.inr z) ha
  refine ⟨by simpa only [List.length_set] using r.lo, by simpa using r.ls, fun j t hs => ?_, fun j k b hj hk => ?_, fun b hb => ?_, fun b hb => ?_, r.bdom, r.asB, r.evo.trans e, s.weak bd, fun p hp => Rep.imp e (fun b hb => .inl (r.asB b hb)) (fun _ z => z) _ _ (Rep.more ha bd _ _ (r.kp p hp))⟩
  · by_cases hij : i = j
    · subst hij
      rw [List.getElem?_set_self hi] at hs
      cases hs
      exact ⟨some a, some (.ref a), List.getElem?_set_self (Nat.lt_of_lt_of_le hi r.lo), List.getElem?_set_self (by rw [r.ls]; exact hi), a, rfl, rfl, ORep.imp (W := fun _ => False) Evo.refl (fun _ z => z.elim) bd o a (fun z => z) h⟩
    · rw [List.getElem?_set_ne hij] at hs ⊢
      rw [List.getElem?_set_ne hij]
      obtain ⟨w, x, h1, h2, h3⟩ := r.sl j t hs
      refine ⟨w, x, h1, h2, ?_⟩
      have as' : ∀ b, b ∈ as → Bd B (ow.set i (some a)) b := fun b hb => .inl (r.asB b hb)
      cases t with
      | no => exact h3
      | val d =>
        obtain ⟨q1, v, q2, q3⟩ := h3
        exact ⟨q1, v, q2, Rep.imp e as' (fun _ z => z) d v (Rep.more ha bd d v q3)⟩
      | own o' =>
        obtain ⟨b, q1, q2, q3⟩ := h3
        subst q1
        exact ⟨b, rfl, q2, ORep.imp e as' (fun _ z => z) o' b (r.ownAs (List.mem_of_getElem? h1)) (ORep.more ha bd o' b q3)⟩
  · have up : ∀ k b, (ow.set i (some a))[k]? = some (some b) → (k = i ∧ b = a) ∨ (k ≠ i ∧ ow[k]? = some (some b)) := fun k b e => by
      by_cases hik : i = k
      · subst hik
        rw [List.getElem?_set_self (Nat.lt_of_lt_of_le hi r.lo)] at e
        exact .inl ⟨rfl, (Option.some.inj (Option.some.inj e)).symm⟩
      · rw [List.getElem?_set_ne hik] at e
        exact .inr ⟨fun z => hik z.symm, e⟩
    rcases up j b hj with ⟨e1, e2⟩ | ⟨e1, e2⟩
    · rcases up k b hk with ⟨f1, f2⟩ | ⟨f1, f2⟩
      · rw [e1, f1]
      · exact absurd (List.mem_of_getElem? f2) (by rw [e2]; exact notin)
    · rcases up k b hk with ⟨f1, f2⟩ | ⟨f1, f2⟩
      · exact absurd (List.mem_of_getElem? e2) (by rw [f2]; exact notin)
      · exact r.inj j k b e2 f2
  · rcases mem b hb with hb | hb
    · exact r.new b hb
    · rw [hb]; exact h0
  · rcases mem b hb with hb | hb
    · exact e.dom b (r.odom b hb)
    · obtain ⟨u, hu, _⟩ := h.there
      rw [hb, hu]
      exact fun z => nomatch z
/-- an owned object is changed -/
theorem Rl.putOwn (r : Rl K B H0 as ks ow sg S σ H) {i : Nat} {o o' : O} {a : Addr} {u : HO} (hi : sg[i]? = some (.own o)) (hw : ow[i]? = some (some a)) (hu : ORep K as (Bd B ow) (upd H a u) o' a) :
    Rl K B H0 as ks ow (sg.set i (.own o')) S σ (upd H a u) := by
  obtain ⟨w, x, h1, h2, b, h3, h4, h5⟩ := r.sl i _ hi
  subst h3
  rw [hw] at h1
  cases h1
  obtain ⟨t, ht, n1, n2⟩ := h5.there
  have ha := List.mem_of_getElem? hw
  have e : Evo (· = a) H (upd H a u) := Evo.put ht n1 n2 rfl
  have bda : ∀ b, b = a → Bd B ow b := fun b z => .inr (z ▸ ha)
  have il : i < sg.length := (List.getElem?_eq_some_iff.mp hi).1
  have e0 : Evo (· ∈ as) H0 (upd H a u) := by
    have n0 := r.new a ha
    refine ⟨fun b o q n => ?_, fun b xs q => ?_, fun b ob w q => ?_, fun b q => e.dom b (r.evo.dom b q)⟩
    · rw [upd_ne (ne_of_none q n0)]; exact r.evo.keep b o q n
    · rw [upd_ne (ne_of_none q n0)]; exact r.evo.tups b xs q
    · rw [upd_ne (ne_of_none q n0)]; exact r.evo.frzs b ob w q
  refine ⟨by simpa only [List.length_set] using r.lo, by simpa using r.ls, fun j s hs => ?_, r.inj, r.new, fun b hb => e.dom b (r.odom b hb), r.bdom, r.asB, e0, ⟨r.sto.len, r.sto.nd, fun n o hn => ?_⟩, fun p hp => Rep.imp e bda (fun _ z => z) _ _ (r.kp p hp)⟩
  · by_cases hij : i = j
    · subst hij
      rw [List.getElem?_set_self il] at hs
      cases hs
      exact ⟨some a, x, hw, h2, a, rfl, h4, hu⟩
    · rw [List.getElem?_set_ne hij] at hs
      obtain ⟨w, y, g1, g2, g3⟩ := r.sl j s hs
      refine ⟨w, y, g1, g2, ?_⟩
      cases s with
      | no => exact g3
      | val d =>
        obtain ⟨q1, v, q2, q3⟩ := g3
        exact ⟨q1, v, q2, Rep.imp e bda (fun _ z => z) d v q3⟩
      | own o2 =>
        obtain ⟨b, q1, q2, q3⟩ := g3
        subst q1
        exact ⟨b, rfl, q2, ORep.imp e bda (fun _ z => z) o2 b (fun z => hij (r.inj i j a hw (z ▸ g1))) q3⟩
  · obtain ⟨b, q1, q2⟩ := r.sto.ob n o hn
    exact ⟨b, q1, ORep.imp e bda (fun _ z => z) o b (fun z => r.ownAs ha (z ▸ List.mem_of_getElem? q1)) q2⟩
/-- an object of the store is changed -/
theorem Rl.putSto (r : Rl K B H0 as ks ow sg S σ H) {n : Nat} {o : O} {a : Addr} {u t : HO} (hn : as[n]? = some a) (ht : H a = some t) (n1 : ∀ xs, t ≠ .tup xs) (n2 : ∀ ob w, t ≠ .frz ob w) (hu : ORep K as (Bd B ow) (upd H a u) o a) :
    Rl K B H0 as ks ow sg (S.set n o) σ (upd H a u) ∧ Evo (· ∈ as) H (upd H a u) := by
  have e : Evo (· ∈ as) H (upd H a u) := Evo.put ht n1 n2 (List.mem_of_getElem? hn)
  have e1 : Evo (· = a) H (upd H a u) := Evo.put ht n1 n2 rfl
  have bda : ∀ b, b = a → Bd B ow b := fun b z => r.asBd b (z ▸ List.mem_of_getElem? hn)
  have s : Sto K as (Bd B ow) (upd H a u) (S.set n o) := by
    refine ⟨by simpa using r.sto.len, r.sto.nd, fun m x hm => ?_⟩
    by_cases hnm : n = m
    · subst hnm
      have hl : n < S.length := by
        have := (List.getElem?_eq_some_iff.mp hm).1
        simpa using this
      rw [List.getElem?_set_self hl] at hm
      cases hm
      exact ⟨a, hn, hu⟩
    · rw [List.getElem?_set_ne hnm] at hm
      obtain ⟨b, q1, q2⟩ := r.sto.ob m x hm
      refine ⟨b, q1, ORep.imp e1 bda (fun _ z => z) x b (fun z => hnm ?_) q2⟩
      exact nd_ix r.sto.nd hn (z ▸ q1)
  exact ⟨r.step e s, e⟩
/-- a list that a name owns is let go: it will not change any more -/
def O.toD : O → D
  | .lst ds => .lst ds
  | .dic ks ds => .dic ks ds
def frz (i : Nat) (sg : List Sl) : List Sl := match sg[i]? with
  | some (.own o) => sg.set i (.val o.toD)
  | _ => sg
theorem ORep.rep {B' : Addr → Prop} {o : O} {a : Addr} (h : ORep K as B H o a) (hB : ∀ b, B' b → B b) (n : ¬ B' a) : Rep K as B' H o.toD (.ref a) := by
  cases o with
  | lst ds =>
    obtain ⟨xs, h1, h2⟩ := h
    exact ⟨a, xs, rfl, n, h1, RepA.imp (W := fun _ => False) Evo.refl (fun _ z => z.elim) hB _ _ h2⟩
  | dic ks ds =>
    obtain ⟨xs, h1, hl, h2⟩ := h
    exact ⟨a, xs, rfl, n, .inl h1, hl, RepA.imp (W := fun _ => False) Evo.refl (fun _ z => z.elim) hB _ _ h2⟩
theorem Rl.frz (r : Rl K B H0 as ks ow sg S σ H) (i : Nat) : ∃ ow', Rl K B H0 as ks ow' (D2.frz i sg) S σ H := by
  unfold D2.frz
  cases e : sg[i]? with
  | none => exact ⟨ow, r⟩
  | some s =>
    cases s with
    | no => exact ⟨ow, r⟩
    | val d => exact ⟨ow, r⟩
    | own o =>
      obtain ⟨w, x, h1, h2, a, h3, h4, h5⟩ := r.sl i _ e
      subst h3
      subst h4
      have il : i < sg.length := (List.getElem?_eq_some_iff.mp e).1
      have na : ¬ Bd B (ow.set i none) a := fun z => by
        rcases z with z | z
        · exact r.ownNo (List.mem_of_getElem? h1) z
        · obtain ⟨j, hj⟩ := List.getElem?_of_mem z
          by_cases hij : i = j
          · subst hij
            rw [List.getElem?_set_self (Nat.lt_of_lt_of_le il r.lo)] at hj
            cases hj
          · rw [List.getElem?_set_ne hij] at hj
            exact hij (r.inj i j a h1 hj)
      have q := h5.rep (B' := Bd B (ow.set i none)) bd_none na
      refine ⟨ow.set i none, ?_⟩
      refine ⟨by simpa only [List.length_set] using r.lo, by simpa using r.ls, fun j s hs => ?_, fun j k b hj hk => ?_, fun b hb => r.new b (mem_set_none hb), fun b hb => r.odom b (mem_set_none hb), r.bdom, r.asB, r.evo, r.sto.weak bd_none, fun p hp => Rep.imp (W := fun _ => False) Evo.refl (fun _ z => z.elim) bd_none _ _ (r.kp p hp)⟩
      · by_cases hij : i = j
        · subst hij
          rw [List.getElem?_set_self il] at hs
          cases hs
          exact ⟨none, some (.ref a), List.getElem?_set_self (Nat.lt_of_lt_of_le il r.lo), h2, rfl, _, rfl, q⟩
        · rw [List.getElem?_set_ne hij] at hs ⊢
          obtain ⟨w, x, g1, g2, g3⟩ := r.sl j s hs
          exact ⟨w, x, g1, g2, g3.weak bd_none⟩
      · have e : ∀ k, (ow.set i none)[k]? = some (some b) → ow[k]? = some (some b) := fun k e => by
          by_cases hik : i = k
          · subst hik
            rw [List.getElem?_set_self (Nat.lt_of_lt_of_le il r.lo)] at e
            cases e
          · rwa [List.getElem?_set_ne hik] at e
        exact r.inj j k b (e j hj) (e k hk)
end

/-! ### statements -/
section
variable {X : Cx} {W : WX2} {wk : Bool} {e a b c : Expr} {es : List Expr} {m ma mb mc : ME} {ms : MA} {mt : MT} {m1 m2 : MS} {pos : Pos} {st : Stmt} {rest ss ts : List Stmt}
def mSeq (m1 m2 : MS) : MS := fun sg S => (m1 sg S).bind fun x => match x.1 with
  | .nx => m2 x.2.1 x.2.2
  | f => .ok (f, x.2)
def mNx : MS := fun sg S => .ok (.nx, sg, S)
theorem ss_nil : PSs2 X W [] mNx := ⟨_, pss_nil, fun B H0 as ks ow sg S σ H Dd r h => h ow σ H r⟩
theorem ss_cons (h1 : PS2 X W st m1) (h2 : PSs2 X W rest m2) : PSs2 X W (st :: rest) (mSeq m1 m2) := by
  obtain ⟨t, g1, g2⟩ := h1
  obtain ⟨u, f1, f2⟩ := h2
  refine ⟨_, pss_cons g1 f1, fun B H0 as ks ow sg S σ H Dd r h => ?_⟩
  refine g2 _ _ _ _ _ _ _ _ _ _ r ?_
  unfold mSeq at h
  revert h
  cases m1 sg S with
  | ok x =>
    obtain ⟨fl, sg', S'⟩ := x
    cases fl with
    | nx => exact fun h ow' σ' H' r' => f2 _ _ _ _ _ _ _ _ _ _ r' h
    | bk => exact fun h => h
    | ct => exact fun h => h
    | rt d => exact fun h => h
  | ex x sg' S' => exact fun h => h
  | bad => exact fun h => h
theorem ss_one (h1 : PS2 X W st m1) : PSs2 X W [st] m1 := by
  obtain ⟨t, g1, g2⟩ := h1
  exact ⟨_, pss_one g1, g2⟩
/-- an expression within a statement -/
theorem DenS.bindE {c : Ct} {ow : List (Option Addr)} {β γ : Type} {Rp : Hp → γ → β → Prop} {r : R (γ × List O)} {f : γ × List O → R (Fl × List Sl × List O)} {H : Hp} {Dd : Ends} {Q' : β → Hp → Prop} (h : DenS c (r.bind f) Dd)
    (k : ∀ d S' v H', r = .ok (d, S') → Evo (· ∈ c.as) H H' → Sto c.K c.as (Bd c.B ow) H' S' → Rp H' d v → DenS c (f (d, S')) Dd → Q' v H') : Den c ow Rp r H Q' := by
  cases r with
  | ok a => obtain ⟨d, S'⟩ := a; exact fun v H' e s q => k d S' v H' rfl e s q h
  | ex e' sg S' => exact h
  | bad => exact h
theorem s2_pass : PS2 X W (.Pass pos) mNx := ⟨_, ps_pass, fun B H0 as ks ow sg S σ H Dd r h => h ow σ H r⟩
theorem s2_doc {x : Str} {j p'} : PS2 X W (.Expr (.Constant (.str x) j pos) p') mNx := ⟨_, ps_doc, fun B H0 as ks ow sg S σ H Dd r h => h ow σ H r⟩
def mBk : MS := fun sg S => .ok (.bk, sg, S)
def mCt : MS := fun sg S => .ok (.ct, sg, S)
theorem s2_break : PS2 X W (.Break pos) mBk := ⟨_, ps_break, fun B H0 as ks ow sg S σ H Dd r h => h ow σ H r⟩
theorem s2_cont : PS2 X W (.Continue pos) mCt := ⟨_, ps_continue, fun B H0 as ks ow sg S σ H Dd r h => h ow σ H r⟩
def mDrop (m : ME) : MS := fun sg S => (m sg S).bind fun x => .ok (.nx, sg, x.2)
theorem s2_expr (h : PE2 X W wk e m) (hs : swapsWith e none pos.line X.env = pure false := by rfl) : PS2 X W (.Expr e pos) (mDrop m) := by
  obtain ⟨t, h1, h2⟩ := h
  refine ⟨_, ps_expr h1 hs, fun B H0 as ks ow sg S σ H Dd r h => ?_⟩
  refine h2 _ _ _ _ _ _ _ _ _ _ r (DenS.bindE h fun d S1 v H1 _ e1 s1 q1 h1 => ?_)
  exact h1 ow σ H1 (r.step e1 s1)
theorem bdB {B : Addr → Prop} {ow : List (Option Addr)} : ∀ a, B a → Bd B ow a := fun _ h => .inl h
def mRet (m : ME) : MS := fun sg S => (m sg S).bind fun x => .ok (.rt x.1, sg, x.2)
theorem s2_ret (h : PE2 X W false e m) : PS2 X W (.Return (some e) pos) (mRet m) := by
  obtain ⟨t, h1, h2⟩ := h
  refine ⟨_, ps_ret h1, fun B H0 as ks ow sg S σ H Dd r h => ?_⟩
  refine h2 _ _ _ _ _ _ _ _ _ _ r (DenS.bindE h fun d S1 v H1 _ e1 s1 q1 h1 => ?_)
  exact h1 v H1 (r.evo.trans e1) (s1.weak bdB) (Rep.imp (W := fun _ => False) Evo.refl (fun _ z => z.elim) bdB d v q1)
def mRetN : MS := fun sg S => .ok (.rt .non, sg, S)
theorem s2_retN : PS2 X W (.Return none pos) mRetN := ⟨_, ps_retN, fun B H0 as ks ow sg S σ H Dd r h => h .non H r.evo (r.sto.weak bdB) rfl⟩
def mIfS (mt : MT) (m1 m2 : MS) : MS := fun sg S => (mt sg S).bind fun x => if x.1 = true then m1 sg x.2 else m2 sg x.2
theorem s2_if (hc : PT2 X W c mt) (ha : PSs2 X W ss m1) (hb : PSs2 X W ts m2) : PS2 X W (.If c ss ts pos) (mIfS mt m1 m2) := by
  obtain ⟨t, h1, h2⟩ := hc
  obtain ⟨u, f1, f2⟩ := ha
  obtain ⟨w, g1, g2⟩ := hb
  refine ⟨_, ps_if h1 f1 g1, fun B H0 as ks ow sg S σ H Dd r h => ?_⟩
  refine h2 _ _ _ _ _ _ _ _ _ _ r (DenS.bindE h fun d S1 v H1 e0 e1 s1 q1 h1 => ?_)
  have q : v = d := q1
  subst q
  cases v with
  | true => exact f2 _ _ _ _ _ _ _ _ _ _ (r.step e1 s1) h1
  | false => exact g2 _ _ _ _ _ _ _ _ _ _ (r.step e1 s1) h1
/-- before a statement a name's own list may be let go -/
def mFrz (i : Nat) (m : MS) : MS := fun sg S => m (frz i sg) S
theorem s2_frz (i : Nat) (h : PS2 X W st m1) : PS2 X W st (mFrz i m1) := by
  obtain ⟨t, h1, h2⟩ := h
  refine ⟨t, h1, fun B H0 as ks ow sg S σ H Dd r h => ?_⟩
  obtain ⟨ow', r'⟩ := r.frz i
  exact h2 _ _ _ _ _ _ _ _ _ _ r' h
/-- x = e -/
def mSet (i : Nat) (m : ME) : MS := fun sg S => (m sg S).bind fun x => .ok (.nx, sg.set i (.val x.1), x.2)
theorem s2_set (i : Nat) {x : Str} {px : Pos} (hN : X.N.Nodup) (h : PE2 X W false e m) (hi : X.N[i]? = some x := by rfl) (hx : Loc X.env.scope x := by first | exact Or.inl rfl | exact Or.inr rfl) (hf : X.fn x = true ∨ X.env.scope.names.lookup x = some .local := by first | exact .inl rfl | exact .inr rfl)
    (hs : swapsWithSole [.Name x px] e pos.line X.env = pure false := by rfl) (hw : swappedStores [.Name x px] e X.env = pure none := by rfl) (h1 : (assignEach [.Name x px] X.env).map (·.2) = [assign (.Name x px) X.env] := by rfl) : PS2 X W (.Assign [.Name x px] e pos) (mSet i m) := by
  obtain ⟨t, h1', h2⟩ := h
  refine ⟨_, ps_asg h1' (pg_name hN hi hx hf) hs hw h1, fun B H0 as ks ow sg S σ H Dd r h => ?_⟩
  refine h2 _ _ _ _ _ _ _ _ _ _ r (DenS.bindE h fun d S1 v H1 _ e1 s1 q1 h1 => ?_)
  exact h1 _ _ H1 ((r.step e1 s1).setVal i q1)

/-! ### an expression that makes a new list or dict -/
abbrev MO := List Sl → List O → R (O × List O)
def DenO (c : Ct) (ow : List (Option Addr)) (r : R (O × List O)) (H : Hp) (Q : VK) : Prop := match r with
  | .ok (o, S') => ∀ a H', H a = none → Evo (· ∈ c.as) H H' → Sto c.K c.as (fun b => Bd c.B ow b ∨ b = a) H' S' → ORep c.K c.as (fun b => Bd c.B ow b ∨ b = a) H' o a → Q (.ref a) H'
  | .ex e sg S' => ExW c e sg S'
  | .bad => False
def PF2 (X : Cx) (W : WX2) (e : Expr) (m : MO) : Prop := ∃ t : TE, PE X e t ∧ ∀ B H0 as ks ow sg S σ H (Q : VK), Rl X.K B H0 as ks ow sg S σ H → DenO (ctOf X W B H0 as ks) ow (m sg S) H Q → t σ H Q
theorem DenO.bind {c : Ct} {ow : List (Option Addr)} {α β : Type} {Rp : Hp → α → β → Prop} {r : R (α × List O)} {f : α × List O → R (O × List O)} {H : Hp} {Q : VK} {Q' : β → Hp → Prop} (h : DenO c ow (r.bind f) H Q)
    (k : ∀ d S' v H', r = .ok (d, S') → Evo (· ∈ c.as) H H' → Sto c.K c.as (Bd c.B ow) H' S' → Rp H' d v → DenO c ow (f (d, S')) H' Q → Q' v H') : Den c ow Rp r H Q' := by
  cases r with
  | ok a =>
    obtain ⟨d, S'⟩ := a
    refine fun v H' e s q => k d S' v H' rfl e s q ?_
    revert h
    show DenO c ow (f (d, S')) H Q → _
    cases f (d, S') with
    | ok b => obtain ⟨o, S2⟩ := b; exact fun h a H2 ha e2 => h a H2 (e.back ha) (e.trans e2)
    | ex e' sg S' => exact fun h => h
    | bad => exact fun h => h
  | ex e' sg S' => exact h
  | bad => exact h
def mOfO (m : MO) : ME := fun sg S => (m sg S).bind fun x => .ok (x.1.toD, x.2)
theorem e2_ofO {mo : MO} (h : PF2 X W e mo) : PE2 X W wk e (mOfO mo) := by
  refine e2_weak ?_
  obtain ⟨t, h1, h2⟩ := h
  refine ⟨t, h1, fun B H0 as ks ow sg S σ H Q r h => h2 _ _ _ _ _ _ _ _ _ _ r ?_⟩
  unfold mOfO at h
  revert h
  cases mo sg S with
  | ok x =>
    obtain ⟨o, S'⟩ := x
    intro h a H' ha e s q
    exact h _ H' e (s.weak fun _ z => .inl z) (q.rep (fun _ z => .inl z) fun z => r.bdDom a z ha)
  | ex e' sg S' => exact fun h => h
  | bad => exact fun h => h
/-- x = a new list -/
def mSetO (i : Nat) (m : MO) : MS := fun sg S => (m sg S).bind fun x => if i < sg.length then .ok (.nx, sg.set i (.own x.1), x.2) else .bad
theorem s2_own (i : Nat) {mo : MO} {x : Str} {px : Pos} (hN : X.N.Nodup) (h : PF2 X W e mo) (hi : X.N[i]? = some x := by rfl) (hx : Loc X.env.scope x := by first | exact Or.inl rfl | exact Or.inr rfl) (hf : X.fn x = true ∨ X.env.scope.names.lookup x = some .local := by first | exact .inl rfl | exact .inr rfl)
    (hs : swapsWithSole [.Name x px] e pos.line X.env = pure false := by rfl) (hw : swappedStores [.Name x px] e X.env = pure none := by rfl) (h1 : (assignEach [.Name x px] X.env).map (·.2) = [assign (.Name x px) X.env] := by rfl) : PS2 X W (.Assign [.Name x px] e pos) (mSetO i mo) := by
  obtain ⟨t, h1', h2⟩ := h
  refine ⟨_, ps_asg h1' (pg_name hN hi hx hf) hs hw h1, fun B H0 as ks ow sg S σ H Dd r h => ?_⟩
  refine h2 _ _ _ _ _ _ _ _ _ _ r ?_
  unfold mSetO at h
  revert h
  cases mo sg S with
  | ok x =>
    obtain ⟨o, S'⟩ := x
    intro h a H' ha e s q
    by_cases il : i < sg.length
    · simp only [R.bind, if_pos il] at h
      exact h _ _ H' (r.setOwn i il ha e s q)
    · simp only [R.bind, if_neg il] at h
      exact False.elim h
  | ex e' sg S' => exact fun h => h
  | bad => exact fun h => h
theorem boxNew {K : PySem.W.Frag} {as : List Addr} {Bs : Addr → Prop} {H : Hp} {S : List O} {p : Addr} {o : HO} (hp : H p = none) (s : Sto K as Bs H S) : Sto K as (fun b => Bs b ∨ b = p) (upd H p o) S :=
  ⟨s.len, s.nd, fun n x e => let ⟨a, h1, h2⟩ := s.ob n x e; ⟨a, h1, ORep.imp (W := fun _ => False) (Evo.new hp) (fun _ z => z.elim) (fun _ z => z) x a (fun z => z) (ORep.more hp (fun _ z => z) x a h2)⟩⟩
theorem boxNewA {K : PySem.W.Frag} {as : List Addr} {Bs : Addr → Prop} {H : Hp} {p : Addr} {o : HO} {ds : List D} {xs : List V} (hp : H p = none) (h : RepA K as Bs H ds xs) : RepA K as (fun b => Bs b ∨ b = p) (upd H p o) ds xs :=
  RepA.imp (W := fun _ => False) (Evo.new hp) (fun _ z => z.elim) (fun _ z => z) _ _ (RepA.more hp (fun _ z => z) _ _ h)
def oLst (ms : MA) : MO := fun sg S => (ms sg S).bind fun x => if x.1.length ≤ 16777216 then .ok (.lst x.1, x.2) else .bad
theorem f2_lst (h : PA2 X W false es ms) : PF2 X W (.List es pos) (oLst ms) := by
  obtain ⟨t, h1, h2⟩ := h
  refine ⟨_, pe_lst h1, fun B H0 as ks ow sg S σ H Q r h => ?_⟩
  refine h2 _ _ _ _ _ _ _ _ _ _ r (DenO.bind h fun x S1 v H1 _ e1 s1 q1 h1 => ?_)
  by_cases hl : x.length ≤ 16777216
  · simp only [if_pos hl] at h1
    refine ⟨lineN (by rw [← q1.length]; exact hl), fun p hp => h1 p _ hp (Evo.new hp) (boxNew hp s1) ⟨v, upd_same, boxNewA hp q1⟩⟩
  · simp only [if_neg hl] at h1
    exact False.elim h1
/-- [..] * n -/
def oRep (m : ME) (mb : ME) : MO := fun sg S => (m sg S).bind fun x => (mb sg x.2).bind fun y => match x.1, y.1 with
  | .lst xs, .int k => if decide (-4611686018427387904 ≤ k ∧ k < 4611686018427387904 ∧ xs.length * k.toNat ≤ 16777216) = true then .ok (.lst (List.replicate k.toNat xs).flatten, y.2) else .bad
  | _, _ => .bad
theorem f2_rep (ha : PE2 X W false a ma) (hb : PE2 X W false b mb) : PF2 X W (.BinOp a .Mult b pos) (oRep ma mb) := by
  obtain ⟨t, h1, h2⟩ := ha
  obtain ⟨u, g1, g2⟩ := hb
  refine ⟨_, pe_op op_rep h1 g1, fun B H0 as ks ow sg S σ H Q r h => ?_⟩
  refine h2 _ _ _ _ _ _ _ _ _ _ r (DenO.bind h fun x S1 v H1 c1 e1 s1 q1 h1 => ?_)
  refine g2 _ _ _ _ _ _ _ _ _ _ (r.step e1 s1) (DenO.bind h1 fun y S2 w H2 c2 e2 s2 q2 h2 => ?_)
  clear c1 c2
  cases x <;> try exact False.elim h2
  rename_i xs
  cases y <;> try exact False.elim h2
  rename_i k
  have q1' := Rep.imp (B' := Bd B ow) e2 r.asBd (fun _ z => z) _ v q1
  obtain ⟨p, vs, ep, np, k1, k2⟩ := q1'
  by_cases hc : decide (-4611686018427387904 ≤ k ∧ k < 4611686018427387904 ∧ xs.length * k.toNat ≤ 16777216) = true
  · simp only [if_pos hc] at h2
    have hc' := of_decide_eq_true hc
    rw [k2.length] at hc'
    exact ⟨p, k, vs, ep, q2, k1, by have := hc'.1; omega, by have := hc'.2.1; omega, lineN hc'.2.2, fun l hl => h2 l _ hl (Evo.new hl) (boxNew hl s2) ⟨_, upd_same, boxNewA hl (k2.rep _)⟩⟩
  · simp only [if_neg hc] at h2
    exact False.elim h2
/-- {} -/
def oDic : MO := fun _ S => .ok (.dic [] [], S)
theorem f2_dic : PF2 X W (.Dict [] [] pos) oDic :=
  ⟨_, pe_dnewK, fun B H0 as ks ow sg S σ H Q r h p hp => h p _ hp (Evo.new hp) (boxNew hp r.sto) ⟨[], upd_same, rfl, rfl⟩⟩
end
end D2

namespace D2
open PySem PySem.Spec PyProof.Rows L2

/-! ### targets -/
def isOwn : Option Sl → Bool
  | some (.own _) => true
  | _ => false
/-- only the names at tch are stored -/
def OnlyAt (tch : List Nat) (σ σ' : L2.St) : Prop := σ'.length = σ.length ∧ ∀ j : Nat, j ∉ tch → σ'[j]? = σ[j]?
def PG2 (X : Cx) (tg : Expr) (tch : List Nat) (g : D → List Sl → Option (List Sl)) : Prop := ∃ t : TG, PG X tg t ∧ ∀ B H0 as ks ow sg S σ H d v sg1 (Q : L2.St → Hp → Prop), Rl X.K B H0 as ks ow sg S σ H → Rep X.K as (Bd B ow) H d v → g d sg = some sg1 →
  (∀ σ', Rl X.K B H0 as ks ow sg1 S σ' H → OnlyAt tch σ σ' → Q σ' H) → t v σ H Q
def PGs2 (X : Cx) (tgs : List Expr) (tch : List Nat) (g : List D → List Sl → Option (List Sl)) : Prop := ∃ t : TGs, PGs X tgs t ∧ ∀ B H0 as ks ow sg S σ H ds vs sg1 (Q : L2.St → Hp → Prop), Rl X.K B H0 as ks ow sg S σ H → RepA X.K as (Bd B ow) H ds vs → g ds sg = some sg1 →
  (∀ σ', Rl X.K B H0 as ks ow sg1 S σ' H → OnlyAt tch σ σ' → Q σ' H) → t vs σ H Q
section
variable {K : PySem.W.Frag} {as : List Addr} {B : Addr → Prop} {H H0 H' : Hp} {ks : List (D × V)} {ow : List (Option Addr)} {sg : List Sl} {S S' : List O} {σ : L2.St}
theorem set_none_same {l : List (Option Addr)} {i : Nat} (h : l[i]? = some none ∨ l.length ≤ i) : l.set i none = l := by
  refine List.ext_getElem? fun j => ?_
  by_cases hij : i = j
  · subst hij
    rcases h with h | h
    · rw [List.getElem?_set_self (List.getElem?_eq_some_iff.mp h).1, h]
    · rw [List.getElem?_eq_none (by simpa using h), List.getElem?_eq_none h]
  · rw [List.getElem?_set_ne hij]
theorem Rl.owNone (r : Rl K B H0 as ks ow sg S σ H) {i : Nat} (hl : i < sg.length) (h : isOwn sg[i]? = false) : ow[i]? = some none := by
  have e : sg[i]? = some sg[i] := List.getElem?_eq_getElem hl
  obtain ⟨w, x, h1, h2, h3⟩ := r.sl i _ e
  rw [e] at h
  revert h h3
  cases sg[i] with
  | no => intro _ h3; rw [h1, show w = none from h3]
  | val d => intro _ h3; rw [h1, h3.1]
  | own o => intro h _; cases h
theorem Rl.setVal' (r : Rl K B H0 as ks ow sg S σ H) (i : Nat) {d : D} {v : V} (hn : isOwn sg[i]? = false) (h : Rep K as (Bd B ow) H d v) : Rl K B H0 as ks ow (sg.set i (.val d)) S (σ.set i (some v)) H := by
  by_cases hl : i < sg.length
  · have q := r.setVal i h
    rwa [set_none_same (.inl (r.owNone hl hn))] at q
  · rw [List.set_eq_of_length_le (by omega), List.set_eq_of_length_le (by rw [r.ls]; omega)]
    exact r
theorem Rl.unkp {p : D × V} (r : Rl K B H0 as (p :: ks) ow sg S σ H) : Rl K B H0 as ks ow sg S σ H :=
  ⟨r.lo, r.ls, r.sl, r.inj, r.new, r.odom, r.bdom, r.asB, r.evo, r.sto, fun q hq => r.kp q (List.mem_cons_of_mem _ hq)⟩
theorem Rl.addkp {d : D} {v : V} (r : Rl K B H0 as ks ow sg S σ H) (h : Rep K as (Bd B ow) H d v) : Rl K B H0 as ((d, v) :: ks) ow sg S σ H :=
  ⟨r.lo, r.ls, r.sl, r.inj, r.new, r.odom, r.bdom, r.asB, r.evo, r.sto, fun q hq => by
    rcases List.mem_cons.mp hq with e | hq
    · subst e; exact h
    · exact r.kp q hq⟩
end
section
variable {X : Cx} {W : WX2} {wk : Bool} {pos : Pos}
def gNm (i : Nat) : D → List Sl → Option (List Sl) := fun d sg => if isOwn sg[i]? = true then none else some (sg.set i (.val d))
theorem g2_name (i : Nat) {x : Str} (hN : X.N.Nodup) (hi : X.N[i]? = some x := by rfl) (hx : Loc X.env.scope x := by first | exact Or.inl rfl | exact Or.inr rfl) (hf : X.fn x = true ∨ X.env.scope.names.lookup x = some .local := by first | exact .inl rfl | exact .inr rfl) : PG2 X (.Name x pos) [i] (gNm i) := by
  refine ⟨_, pg_name hN hi hx hf, fun B H0 as ks ow sg S σ H d v sg1 Q r h e q => ?_⟩
  simp only [gNm] at e
  split at e
  · cases e
  · rename_i hn
    cases e
    refine q _ (r.setVal' i (by simpa using hn) h) ⟨List.length_set, fun j hj => ?_⟩
    rw [List.getElem?_set_ne (fun z => hj (by simp [z]))]
def gsNil : List D → List Sl → Option (List Sl) := fun ds sg => match ds with
  | [] => some sg
  | _ => none
def gsCons (g : D → List Sl → Option (List Sl)) (gs : List D → List Sl → Option (List Sl)) : List D → List Sl → Option (List Sl) := fun ds sg => match ds with
  | [] => none
  | d :: ds => (g d sg).bind fun sg1 => gs ds sg1
theorem gs2_nil : PGs2 X [] [] gsNil := by
  refine ⟨_, pgs_nil, fun B H0 as ks ow sg S σ H ds vs sg1 Q r h e q => ?_⟩
  cases ds with
  | nil =>
    cases e
    exact ⟨h, q σ r ⟨rfl, fun _ _ => rfl⟩⟩
  | cons _ _ => cases e
theorem gs2_cons {tg : Expr} {tgs : List Expr} {t1 t2 : List Nat} {g : D → List Sl → Option (List Sl)} {gs : List D → List Sl → Option (List Sl)} (h1 : PG2 X tg t1 g) (h2 : PGs2 X tgs t2 gs)
    (hs : (assignEach (tg :: tgs) X.env).map (·.2) = assign tg X.env :: (assignEach tgs X.env).map (·.2) := by rfl) : PGs2 X (tg :: tgs) (t1 ++ t2) (gsCons g gs) := by
  obtain ⟨t, a1, a2⟩ := h1
  obtain ⟨u, b1, b2⟩ := h2
  refine ⟨_, pgs_cons a1 b1 hs, fun B H0 as ks ow sg S σ H ds vs sg1 Q r h e q => ?_⟩
  cases ds with
  | nil => cases e
  | cons d ds =>
    obtain ⟨v, ws, ev, h1, h2⟩ := h
    obtain ⟨sg2, e1, e2⟩ := Option.bind_eq_some_iff.mp e
    refine ⟨v, ws, ev, a2 _ _ _ _ _ _ _ _ _ _ _ _ _ r h1 e1 fun σ1 r1 k1 => ?_⟩
    refine b2 _ _ _ _ _ _ _ _ _ _ _ _ _ r1 h2 e2 fun σ2 r2 k2 => ?_
    refine q σ2 r2 ⟨k2.1.trans k1.1, fun j hj => ?_⟩
    rw [k2.2 j (fun z => hj (List.mem_append_right _ z)), k1.2 j (fun z => hj (List.mem_append_left _ z))]
def gTu (n : Nat) (gs : List D → List Sl → Option (List Sl)) : D → List Sl → Option (List Sl) := fun d sg => match d with
  | .tup ds => if ds.length = n then gs ds sg else none
  | _ => none
theorem g2_tup {tgs : List Expr} {k : Nat} {tch : List Nat} {n : Nat} {gs : List D → List Sl → Option (List Sl)} (hc : X.calm = true) (h : PGs2 X tgs tch gs) (hn : (assignEach tgs X.env).length = n := by rfl) (hst : (assignEach tgs X.env).findIdx? (·.1) = none := by rfl) : PG2 X (.Tuple tgs k pos) tch (gTu n gs) := by
  obtain ⟨t, a1, a2⟩ := h
  refine ⟨_, pg_tup hc a1 hn hst, fun B H0 as ks ow sg S σ H d v sg1 Q r h e q => ?_⟩
  cases d <;> try (cases e; done)
  rename_i ds
  obtain ⟨a, xs, ev, h1, h2⟩ := h
  simp only [gTu] at e
  split at e
  · rename_i hl
    exact ⟨a, xs, ev, h1, by rw [← h2.length]; exact hl, a2 _ _ _ _ _ _ _ _ _ _ _ _ _ r h2 e q⟩
  · cases e
/-- tuple = value, as a statement -/
def mAsg (m : ME) (g : D → List Sl → Option (List Sl)) : MS := fun sg S => (m sg S).bind fun x => match g x.1 sg with
  | some sg1 => .ok (.nx, sg1, x.2)
  | none => .bad
theorem s2_asg {tg e : Expr} {m : ME} {tch : List Nat} {g : D → List Sl → Option (List Sl)} (h : PE2 X W false e m) (hg : PG2 X tg tch g) (hs : swapsWithSole [tg] e pos.line X.env = pure false := by rfl) (hw : swappedStores [tg] e X.env = pure none := by rfl)
    (h1 : (assignEach [tg] X.env).map (·.2) = [assign tg X.env] := by rfl) : PS2 X W (.Assign [tg] e pos) (mAsg m g) := by
  obtain ⟨t, a1, a2⟩ := h
  obtain ⟨u, b1, b2⟩ := hg
  refine ⟨_, ps_asg a1 b1 hs hw h1, fun B H0 as ks ow sg S σ H Dd r h => ?_⟩
  refine a2 _ _ _ _ _ _ _ _ _ _ r (DenS.bindE h fun d S1 v H1 _ e1 s1 q1 h1 => ?_)
  cases e : g d sg with
  | none => simp only [e] at h1; exact False.elim h1
  | some sg1 =>
    simp only [e] at h1
    exact b2 _ _ _ _ _ _ _ _ _ _ _ _ _ (r.step e1 s1) q1 e fun σ' r' _ => h1 _ _ _ r'

/-! ### what is walked -/
def rpI (c : Ct) (Bs : Addr → Prop) : Hp → List D → It → Prop := fun H ds J => ∃ kps : List (D × V), (∀ q ∈ kps, Rep c.K c.as Bs H q.1 q.2) ∧ ∀ (B2 : Addr → Prop) H2, (∀ q ∈ kps, Rep c.K c.as B2 H2 q.1 q.2) → ∀ i : Nat, (ds.length ≤ i → J.stop i H2) ∧
  ∀ d, ds[i]? = some d → J.go i H2 ∧ ∀ x H3, J.yld i H2 x H3 → Evo (fun _ => False) H2 H3 ∧ Rep c.K c.as B2 H3 d x
theorem rpI1 {c : Ct} {Bs : Addr → Prop} {H : Hp} {ds : List D} {J : It} {dk : D} {vk : V} (h : Rep c.K c.as Bs H dk vk)
    (g : ∀ (B2 : Addr → Prop) H2, Rep c.K c.as B2 H2 dk vk → ∀ i : Nat, (ds.length ≤ i → J.stop i H2) ∧
  ∀ d, ds[i]? = some d → J.go i H2 ∧ ∀ x H3, J.yld i H2 x H3 → Evo (fun _ => False) H2 H3 ∧ Rep c.K c.as B2 H3 d x) : rpI c Bs H ds J :=
  ⟨[(dk, vk)], fun q hq => by rw [List.mem_singleton.mp hq]; exact h, fun B2 H2 k => g B2 H2 (k (dk, vk) (List.mem_singleton_self _))⟩
def PI2 (X : Cx) (W : WX2) (wk : Bool) (tg iter : Expr) (mi : MA) : Prop := ∃ wi : TI, PI X tg iter wi ∧ ∀ B H0 as ks ow sg S σ H (R : It → Hp → Prop), Rl X.K B H0 as ks ow sg S σ H →
  Den (ctOf X W B H0 as ks) ow (rpI (ctOf X W B H0 as ks) (if wk then (· ∈ as) else Bd B ow)) (mi sg S) H R → wi σ H R
def mIl (m : ME) : MA := fun sg S => (m sg S).bind fun x => match x.1 with
  | .lst ds => .ok (ds, x.2)
  | _ => .bad
def mIt (m : ME) : MA := fun sg S => (m sg S).bind fun x => match x.1 with
  | .tup ds => .ok (ds, x.2)
  | _ => .bad
theorem i2_lst {tg e : Expr} {m : ME} (h : PE2 X W wk e m) : PI2 X W wk tg e (mIl m) := by
  obtain ⟨t, a1, a2⟩ := h
  refine ⟨_, pi_list a1, fun B H0 as ks ow sg S σ H R r h => ?_⟩
  refine a2 _ _ _ _ _ _ _ _ _ _ r (Den.bind h fun d S1 v H1 e0 e1 s1 q1 h1 => ?_)
  clear e0
  cases d <;> try exact False.elim h1
  rename_i ds
  obtain ⟨a, xs, ev, nb, g1, g2⟩ := id q1
  refine ⟨a, ev, ⟨xs, SqL.of g1⟩, h1 _ H1 Evo.refl s1 (rpI1 (dk := .lst ds) (vk := v) q1 fun B2 H2 rp i => ?_)⟩
  obtain ⟨a', ys, ev', nb', k1, k2⟩ := rp
  rw [ev] at ev'
  cases ev'
  refine ⟨fun hi => ⟨ys, SqL.of k1, by rw [← k2.length]; exact hi⟩, fun d hd => ?_⟩
  obtain ⟨w, w1, w2⟩ := k2.get hd
  refine ⟨⟨ys, w, SqL.of k1, w1⟩, fun x H3 ⟨e3, hx⟩ => ?_⟩
  subst e3
  have := hx ys (SqL.of k1)
  rw [w1] at this
  cases this
  exact ⟨Evo.refl, w2⟩
theorem i2_tup {tg e : Expr} {m : ME} (h : PE2 X W wk e m) : PI2 X W wk tg e (mIt m) := by
  obtain ⟨t, a1, a2⟩ := h
  refine ⟨_, pi_tup a1, fun B H0 as ks ow sg S σ H R r h => ?_⟩
  refine a2 _ _ _ _ _ _ _ _ _ _ r (Den.bind h fun d S1 v H1 e0 e1 s1 q1 h1 => ?_)
  clear e0
  cases d <;> try exact False.elim h1
  rename_i ds
  obtain ⟨a, xs, ev, g1, g2⟩ := id q1
  refine ⟨a, ev, ⟨xs, g1⟩, h1 _ H1 Evo.refl s1 (rpI1 (dk := .tup ds) (vk := v) q1 fun B2 H2 rp i => ?_)⟩
  obtain ⟨a', ys, ev', k1, k2⟩ := rp
  rw [ev] at ev'
  cases ev'
  refine ⟨fun hi => ⟨ys, k1, by rw [← k2.length]; exact hi⟩, fun d hd => ?_⟩
  obtain ⟨w, w1, w2⟩ := k2.get hd
  refine ⟨⟨ys, w, k1, w1⟩, fun x H3 ⟨e3, hx⟩ => ?_⟩
  subst e3
  have := hx ys k1
  rw [w1] at this
  cases this
  exact ⟨Evo.refl, w2⟩
def rngD (lo : Int) (n : Nat) : List D := (List.range n).map fun (k : Nat) => D.int (lo + (k : Int))
theorem rngD_len (lo : Int) (n : Nat) : (rngD lo n).length = n := by simp [rngD]
theorem rngD_get {lo : Int} {n i : Nat} {d : D} (h : (rngD lo n)[i]? = some d) : i < n ∧ d = .int (lo + i) := by
  unfold rngD at h
  rw [List.getElem?_map] at h
  by_cases hi : i < n
  · rw [List.getElem?_range hi] at h
    exact ⟨hi, (Option.some.inj h).symm⟩
  · rw [List.getElem?_eq_none (by simpa using hi)] at h
    cases h
def one1 : List D → Option Int
  | [.int j] => some j
  | _ => none
def two2 : List D → Option (Int × Int)
  | [.int i, .int j] => some (i, j)
  | _ => none
theorem one1_rep {K : PySem.W.Frag} {as : List Addr} {B : Addr → Prop} {H : Hp} {ds : List D} {vs : List V} {j : Int} (h : RepA K as B H ds vs) (e : one1 ds = some j) : vs = [.int j] := by
  match ds, e, h with
  | [.int j], rfl, h =>
    obtain ⟨x, xs, ev, k1, k2⟩ := h
    have k2' : xs = [] := k2
    have k1' : x = .int j := k1
    rw [ev, k1', k2']
theorem two2_rep {K : PySem.W.Frag} {as : List Addr} {B : Addr → Prop} {H : Hp} {ds : List D} {vs : List V} {i j : Int} (h : RepA K as B H ds vs) (e : two2 ds = some (i, j)) : vs = [.int i, .int j] := by
  match ds, e, h with
  | [.int i, .int j], rfl, h =>
    obtain ⟨x, xs, ev, k1, y, ys, ev2, k2, k3⟩ := h
    have k3' : ys = [] := k3
    have k1' : x = .int i := k1
    have k2' : y = .int j := k2
    rw [ev, ev2, k1', k2', k3']
def lim62 (j : Int) : Bool := decide (-4611686018427387904 ≤ j ∧ j < 4611686018427387904)
theorem lim62_of {j : Int} (h : lim62 j = true) : -(2 ^ 62) ≤ j ∧ j < 2 ^ 62 := by
  have h' : -4611686018427387904 ≤ j ∧ j < 4611686018427387904 := of_decide_eq_true h
  have e : (2 : Int) ^ 62 = 4611686018427387904 := by decide
  rw [e]
  exact h'
def mIr1 (ms : MA) : MA := fun sg S => (ms sg S).bind fun x => match one1 x.1 with
  | some j => if lim62 j = true then .ok (rngD 0 j.toNat, x.2) else .bad
  | none => .bad
theorem i2_rng1 {tg a : Expr} {ms : MA} {p : Pos} (hg : Gl X "range") (hm : X.mg "range" = none) (ha : PA2 X W wk [a] ms) (hs : starEach [a] X.env = [(false, eval a X.env)] := by rfl) : PI2 X W wk tg (.Call (.Name "range" p) [a] [] pos) (mIr1 ms) := by
  obtain ⟨t, a1, a2⟩ := ha
  refine ⟨_, pi_range1 hg hm a1 hs, fun B H0 as ks ow sg S σ H R r h => ?_⟩
  refine a2 _ _ _ _ _ _ _ _ _ _ r (Den.bind h fun d S1 v H1 e0 e1 s1 q1 h1 => ?_)
  clear e0
  cases ej : one1 d with
  | none => simp only [ej] at h1; exact False.elim h1
  | some j =>
    simp only [ej] at h1
    have ev := one1_rep q1 ej
    by_cases hc : lim62 j = true
    · simp only [if_pos hc] at h1
      have hc' := lim62_of hc
      refine ⟨j, ev, hc'.1, hc'.2, h1 _ H1 Evo.refl s1 (rpI1 (dk := .non) (vk := .non) rfl fun B2 H2 _ i => ⟨fun hi => by rw [rngD_len] at hi; exact hi, fun d hd => ?_⟩)⟩
      obtain ⟨hi, ed⟩ := rngD_get hd
      refine ⟨hi, fun x H3 ⟨e3, ex⟩ => ?_⟩
      subst e3 ex ed
      exact ⟨Evo.refl, rfl⟩
    · simp only [if_neg hc] at h1
      exact False.elim h1
def mIr2 (ms : MA) : MA := fun sg S => (ms sg S).bind fun x => match two2 x.1 with
  | some (i, j) => if (lim62 i && lim62 j) = true then .ok (rngD i (j - i).toNat, x.2) else .bad
  | none => .bad
theorem i2_rng2 {tg a b : Expr} {ms : MA} {p : Pos} (hg : Gl X "range") (hm : X.mg "range" = none) (ha : PA2 X W wk [a, b] ms) (hs : starEach [a, b] X.env = [(false, eval a X.env), (false, eval b X.env)] := by rfl) (hs2 : starEach [b] X.env = [(false, eval b X.env)] := by rfl) :
    PI2 X W wk tg (.Call (.Name "range" p) [a, b] [] pos) (mIr2 ms) := by
  obtain ⟨t, a1, a2⟩ := ha
  refine ⟨_, pi_range2 hg hm a1 hs hs2, fun B H0 as ks ow sg S σ H R r h => ?_⟩
  refine a2 _ _ _ _ _ _ _ _ _ _ r (Den.bind h fun d S1 v H1 e0 e1 s1 q1 h1 => ?_)
  clear e0
  cases ej : two2 d with
  | none => simp only [ej] at h1; exact False.elim h1
  | some p =>
    obtain ⟨i, j⟩ := p
    simp only [ej] at h1
    have ev := two2_rep q1 ej
    by_cases hc : (lim62 i && lim62 j) = true
    · simp only [if_pos hc] at h1
      rw [Bool.and_eq_true] at hc
      have c1 := lim62_of hc.1
      have c2 := lim62_of hc.2
      refine ⟨i, j, ev, ⟨c1.1, c1.2, c2.1, c2.2⟩, h1 _ H1 Evo.refl s1 (rpI1 (dk := .non) (vk := .non) rfl fun B2 H2 _ k => ⟨fun hi => by rw [rngD_len] at hi; exact hi, fun d hd => ?_⟩)⟩
      obtain ⟨hi, ed⟩ := rngD_get hd
      refine ⟨hi, fun x H3 ⟨e3, ex⟩ => ?_⟩
      subst e3 ex ed
      exact ⟨Evo.refl, rfl⟩
    · simp only [if_neg hc] at h1
      exact False.elim h1
def enumD : Nat → List D → List D
  | _, [] => []
  | n, d :: ds => .tup [.int (n : Int), d] :: enumD (n + 1) ds
theorem enumD_len : ∀ (n : Nat) (ds : List D), (enumD n ds).length = ds.length
  | _, [] => rfl
  | n, d :: ds => by rw [enumD, List.length_cons, enumD_len, List.length_cons]
theorem enumD_get : ∀ {n : Nat} {ds : List D} {i : Nat} {d : D}, (enumD n ds)[i]? = some d → ∃ x, ds[i]? = some x ∧ d = .tup [.int ((n + i : Nat) : Int), x]
  | n, [], i, d, h => by simp [enumD] at h
  | n, x :: ds, 0, d, h => by
    simp [enumD] at h
    exact ⟨x, rfl, h.symm⟩
  | n, x :: ds, i + 1, d, h => by
    simp only [enumD, List.getElem?_cons_succ] at h
    obtain ⟨y, h1, h2⟩ := enumD_get h
    refine ⟨y, by simpa using h1, ?_⟩
    rw [h2]
    have : n + 1 + i = n + (i + 1) := by omega
    rw [this]
def oneL : List D → Option (List D)
  | [.lst ds] => some ds
  | _ => none
theorem oneL_eq {ds es : List D} (h : oneL ds = some es) : ds = [.lst es] := by
  match ds, h with
  | [.lst _], rfl => rfl
def mIe (ms : MA) : MA := fun sg S => (ms sg S).bind fun x => match oneL x.1 with
  | some ds => .ok (enumD 0 ds, x.2)
  | none => .bad
theorem i2_enum {e : Expr} {ms : MA} {p tpos : Pos} {elts : List Expr} {kk : Nat} (hg : Gl X "enumerate") (hm : X.mg "enumerate" = none) (ha : PA2 X W wk [e] ms) (hs : starEach [e] X.env = [(false, eval e X.env)] := by rfl) :
    PI2 X W wk (.Tuple elts kk tpos) (.Call (.Name "enumerate" p) [e] [] pos) (mIe ms) := by
  obtain ⟨t, a1, a2⟩ := ha
  refine ⟨_, pi_enum hg hm a1 hs, fun B H0 as ks ow sg S σ H R r h => ?_⟩
  refine a2 _ _ _ _ _ _ _ _ _ _ r (Den.bind h fun d S1 v H1 e0 e1 s1 q1 h1 => ?_)
  clear e0
  cases ej : oneL d with
  | none => simp only [ej] at h1; exact False.elim h1
  | some ds =>
    simp only [ej] at h1
    rw [oneL_eq ej] at q1
    obtain ⟨x, xs, ev, k1, k2⟩ := q1
    have k2' : xs = [] := k2
    subst k2'
    obtain ⟨a, ys, ex, nb, g1, g2⟩ := id k1
    subst ex
    refine ⟨a, ys, ev, SqL.of g1, h1 _ H1 Evo.refl s1 (rpI1 (dk := .lst ds) (vk := .ref a) k1 fun B2 H2 rp i => ?_)⟩
    obtain ⟨a', zs, ev', nb', l1, l2⟩ := rp
    cases ev'
    refine ⟨fun hi => ⟨zs, SqL.of l1, by rw [enumD_len] at hi; rw [← l2.length]; exact hi⟩, fun d hd => ?_⟩
    obtain ⟨x, hx, ed⟩ := enumD_get hd
    obtain ⟨w, w1, w2⟩ := l2.get hx
    refine ⟨⟨zs, w, SqL.of l1, w1⟩, fun y H3 ⟨T, z, ey, hT, e3, hz⟩ => ?_⟩
    have := hz zs (SqL.of l1)
    rw [w1] at this
    cases this
    subst ey e3 ed
    refine ⟨Evo.new hT, repNewT hT (RepA.cons ?_ (RepA.one w2))⟩
    have e0 : 0 + i = i := Nat.zero_add i
    rw [e0]
    exact rfl
/-! ### for -/
def loopM (g : D → List Sl → Option (List Sl)) (body : MS) : List D → MS
  | [], sg, S => .ok (.nx, sg, S)
  | d :: ds, sg, S => match g d sg with
    | none => .bad
    | some sg1 => (body sg1 S).bind fun x => match x.1 with
      | .nx => loopM g body ds x.2.1 x.2.2
      | .ct => loopM g body ds x.2.1 x.2.2
      | .bk => .ok (.nx, x.2)
      | .rt v => .ok (.rt v, x.2)
def mFor (mi : MA) (g : D → List Sl → Option (List Sl)) (body : MS) : MS := fun sg S => (mi sg S).bind fun x => loopM g body x.1 sg x.2
theorem ExW.kp {X : Cx} {B : Addr → Prop} {H0 : Hp} {as : List Addr} {ks : List (D × V)} {p : D × V} {e : Exn} {sg : List Sl} {S : List O} (h : ExW (ctOf X W B H0 as ks) e sg S) : ExW (ctOf X W B H0 as (p :: ks)) e sg S :=
  fun cl dx ow σ H r q => h cl dx ow σ H r.unkp q
theorem ExW.kps {X : Cx} {W : WX2} {B : Addr → Prop} {H0 : Hp} {as : List Addr} {ks : List (D × V)} {e : Exn} {sg : List Sl} {S : List O} : ∀ {kps : List (D × V)}, ExW (ctOf X W B H0 as ks) e sg S → ExW (ctOf X W B H0 as (kps ++ ks)) e sg S
  | [], h => h
  | _ :: _, h => ExW.kp (ExW.kps h)
theorem Rl.addkps {K : PySem.W.Frag} {B : Addr → Prop} {H0 : Hp} {as : List Addr} {ks : List (D × V)} {ow : List (Option Addr)} {sg : List Sl} {S : List O} {σ : L2.St} {H : Hp} (r : Rl K B H0 as ks ow sg S σ H) : ∀ {kps : List (D × V)}, (∀ q ∈ kps, Rep K as (Bd B ow) H q.1 q.2) → Rl K B H0 as (kps ++ ks) ow sg S σ H
  | [], _ => r
  | (d, v) :: kps, h => (Rl.addkps r fun q hq => h q (List.mem_cons_of_mem _ hq)).addkp (h (d, v) List.mem_cons_self)
theorem Rl.unkps {K : PySem.W.Frag} {B : Addr → Prop} {H0 : Hp} {as : List Addr} {ks : List (D × V)} {ow : List (Option Addr)} {sg : List Sl} {S : List O} {σ : L2.St} {H : Hp} : ∀ {kps : List (D × V)}, Rl K B H0 as (kps ++ ks) ow sg S σ H → Rl K B H0 as ks ow sg S σ H
  | [], r => r
  | _ :: _, r => Rl.unkps (Rl.unkp r)
theorem s2_for {tg iter : Expr} {body : List Stmt} {mi : MA} {tch : List Nat} {g : D → List Sl → Option (List Sl)} {mb : MS} (hp : PassesOwn (model X.prog X.w) X.A X.env X.xe) (hc : X.calm = true) (hi : PI2 X W false tg iter mi) (hg : PG2 X tg tch g) (hb : PSs2 X W body mb)
    (hs : ∀ x, foldedSetIterable iter X.env x = pure x := by intro _; rfl) : PS2 X W (.For tg iter body [] pos) (mFor mi g mb) := by
  obtain ⟨wi, a1, a2⟩ := hi
  obtain ⟨tt, b1, b2⟩ := hg
  obtain ⟨tb, c1, c2⟩ := hb
  refine ⟨_, ps_for hp hc a1 b1 c1 hs, fun B H0 as ks ow sg S σ H Dd r h => ?_⟩
  refine a2 _ _ _ _ _ _ _ _ _ _ r (DenS.bindE h fun ds S1 J H1 _ e1 s1 q1 h1 => ?_)
  obtain ⟨kps, rk, wk⟩ := q1
  have r1 := (r.step e1 s1).addkps rk
  refine ⟨fun i m σ' H' => m = ds.length - i ∧ i ≤ ds.length ∧ ∃ ow' sg' S', Rl X.K B H0 as (kps ++ ks) ow' sg' S' σ' H' ∧ DenS (ctOf X W B H0 as ks) (loopM g mb (ds.drop i) sg' S') Dd, ⟨_, rfl, Nat.zero_le _, ow, sg, S1, r1, h1⟩, ?_⟩
  rintro i m σ2 H2 ⟨em, hi, ow2, sg2, S2, r2, h2⟩
  have wi := wk _ H2 (fun q hq => r2.kp q (List.mem_append_left _ hq)) i
  by_cases hlt : i < ds.length
  · right
    have ed : ds[i]? = some ds[i] := List.getElem?_eq_getElem hlt
    obtain ⟨go, yl⟩ := wi.2 _ ed
    refine ⟨go, fun σ' H' => i + 1 ≤ ds.length ∧ ∃ ow' sg' S', Rl X.K B H0 as (kps ++ ks) ow' sg' S' σ' H' ∧ DenS (ctOf X W B H0 as ks) (loopM g mb (ds.drop (i + 1)) sg' S') Dd, fun σ' H' ⟨l, q⟩ => ⟨ds.length - (i + 1), by omega, rfl, l, q⟩, fun x H3 y => ?_⟩
    obtain ⟨e3, rx⟩ := yl x H3 y
    have r3 := r2.step e3.any (r2.stoNew e3)
    rw [List.drop_eq_getElem_cons hlt] at h2
    simp only [loopM] at h2
    cases eg : g ds[i] sg2 with
    | none => simp only [eg] at h2; exact False.elim h2
    | some sg3 =>
      simp only [eg] at h2
      refine b2 _ _ _ _ _ _ _ _ _ _ _ _ _ r3 rx eg fun σ4 r4 _ => ?_
      refine c2 _ _ _ _ _ _ _ _ _ _ r4 ?_
      revert h2
      cases mb sg3 S2 with
      | ok z =>
        obtain ⟨fl, sg5, S5⟩ := z
        cases fl with
        | nx => exact fun h2 ow6 σ6 H6 r6 => ⟨hlt, ow6, sg5, S5, r6, h2⟩
        | ct => exact fun h2 ow6 σ6 H6 r6 => ⟨hlt, ow6, sg5, S5, r6, h2⟩
        | bk => exact fun h2 ow6 σ6 H6 r6 => h2 ow6 σ6 H6 r6.unkps
        | rt d => exact fun h2 => h2
      | ex e sg5 S5 => exact fun h2 => ExW.kps h2
      | bad => exact fun h2 => h2
  · left
    have ei : i = ds.length := by omega
    subst ei
    refine ⟨wi.1 (Nat.le_refl _), ?_⟩
    rw [List.drop_length] at h2
    exact h2 _ _ _ r2.unkps
/-! ### while: n the turns that are let -/
def whileM (t : MT) (body : MS) : Nat → MS
  | 0, _, _ => .bad
  | n + 1, sg, S => (t sg S).bind fun x => if x.1 = true then (body sg x.2).bind fun y => match y.1 with
      | .nx => whileM t body n y.2.1 y.2.2
      | .ct => whileM t body n y.2.1 y.2.2
      | .bk => .ok (.nx, y.2)
      | .rt v => .ok (.rt v, y.2)
    else .ok (.nx, sg, x.2)
def mWhile (n : Nat) (t : MT) (body : MS) : MS := whileM t body n
theorem s2_while (n : Nat) {c : Expr} {body : List Stmt} {t : MT} {mb : MS} (hp : PassesOwn (model X.prog X.w) X.A X.env X.xe) (hc : PT2 X W c t) (hb : PSs2 X W body mb) : PS2 X W (.While c body [] pos) (mWhile n t mb) := by
  obtain ⟨tc, a1, a2⟩ := hc
  obtain ⟨tb, b1, b2⟩ := hb
  refine ⟨_, ps_while hp a1 b1, fun B H0 as ks ow sg S σ H Dd r h => ?_⟩
  refine ⟨fun m σ' H' => ∃ ow' sg' S', Rl X.K B H0 as ks ow' sg' S' σ' H' ∧ DenS (ctOf X W B H0 as ks) (whileM t mb m sg' S') Dd, ⟨n, ow, sg, S, r, h⟩, ?_⟩
  rintro m σ1 H1 ⟨ow1, sg1, S1, r1, h1⟩
  cases m with
  | zero => exact False.elim h1
  | succ m =>
    simp only [whileM] at h1
    refine a2 _ _ _ _ _ _ _ _ _ _ r1 (DenS.bindE h1 fun d S2 v H2 e0 e2 s2 q2 h2 => ?_)
    have q : v = d := q2
    subst q
    have r2 := r1.step e2 s2
    cases v with
    | false => exact h2 _ _ _ r2
    | true =>
      refine ⟨fun σ' H' => ∃ ow' sg' S', Rl X.K B H0 as ks ow' sg' S' σ' H' ∧ DenS (ctOf X W B H0 as ks) (whileM t mb m sg' S') Dd, fun σ' H' q => ⟨m, Nat.lt_succ_self m, q⟩, ?_⟩
      refine b2 _ _ _ _ _ _ _ _ _ _ r2 ?_
      simp only [if_pos] at h2
      revert h2
      cases mb sg1 S2 with
      | ok z =>
        obtain ⟨fl, sg5, S5⟩ := z
        cases fl with
        | nx => exact fun h2 ow6 σ6 H6 r6 => ⟨ow6, sg5, S5, r6, h2⟩
        | ct => exact fun h2 ow6 σ6 H6 r6 => ⟨ow6, sg5, S5, r6, h2⟩
        | bk => exact fun h2 => h2
        | rt d => exact fun h2 => h2
      | ex e sg5 S5 => exact fun h2 => h2
      | bad => exact fun h2 => h2
end
end D2

namespace D2
open PySem PySem.Spec PyProof.Rows L2

/-! ### a new object that is not any name's yet -/
section
variable {K : PySem.W.Frag} {as : List Addr} {B : Addr → Prop} {H H0 H' : Hp} {ks : List (D × V)} {ow : List (Option Addr)} {sg : List Sl} {S S' : List O} {σ : L2.St} {p : Addr} {o : HO}
theorem bd_ghost : ∀ b, Bd B (ow ++ [some p]) b → Bd B ow b ∨ b = p := fun b h => by
  rcases h with h | h
  · exact .inl (.inl h)
  · rcases List.mem_append.mp h with h | h
    · exact .inl (.inr h)
    · have e : some b = some p := by simpa using h
      exact .inr (Option.some.inj e)
theorem bd_ghost' : ∀ b, Bd B ow b ∨ b = p → Bd B (ow ++ [some p]) b := fun b h => by
  rcases h with (h | h) | h
  · exact .inl h
  · exact .inr (List.mem_append_left _ h)
  · subst h; exact .inr (List.mem_append_right _ List.mem_cons_self)
theorem bd_un : ∀ b, Bd B ow b → Bd B (ow ++ [some p]) b := fun b h => bd_ghost' b (.inl h)
theorem get_ghost {i : Nat} {x : Option Addr} (hl : i < ow.length) : (ow ++ [some p])[i]? = ow[i]? := List.getElem?_append_left hl
theorem Rl.slw (r : Rl K B H0 as ks ow sg S σ H) {B' : Addr → Prop} {H1 : Hp} {ow1 : List (Option Addr)} (h1 : ∀ (i : Nat) w, i < sg.length → ow[i]? = some w → ow1[i]? = some w) (h2 : ∀ s w x, SlRep K as (Bd B ow) H s w x → (∀ a, w = some a → some a ∈ ow) → SlRep K as B' H1 s w x) :
    ∀ (i : Nat) (s : Sl), sg[i]? = some s → ∃ w x, ow1[i]? = some w ∧ σ[i]? = some x ∧ SlRep K as B' H1 s w x := fun i s hs => by
  obtain ⟨w, x, g1, g2, g3⟩ := r.sl i s hs
  exact ⟨w, x, h1 i w (List.getElem?_eq_some_iff.mp hs).1 g1, g2, h2 s w x g3 fun a e => List.mem_of_getElem? (e ▸ g1)⟩
theorem inj_ghost (r : Rl K B H0 as ks ow sg S σ H) (hp : some p ∉ ow) : ∀ (i j : Nat) (a : Addr), (ow ++ [some p])[i]? = some (some a) → (ow ++ [some p])[j]? = some (some a) → i = j := fun i j a hi hj => by
  have up : ∀ k, (ow ++ [some p])[k]? = some (some a) → (ow[k]? = some (some a)) ∨ (k = ow.length ∧ a = p) := fun k e => by
    by_cases hk : k < ow.length
    · rw [List.getElem?_append_left hk] at e; exact .inl e
    · rw [List.getElem?_append_right (by omega)] at e
      have := (List.getElem?_eq_some_iff.mp e).1
      have e0 : k - ow.length = 0 := by simpa using this
      rw [e0] at e
      have e' : some p = some a := by simpa using e
      exact .inr ⟨by omega, (Option.some.inj e').symm⟩
  rcases up i hi with h1 | ⟨h1, e1⟩
  · rcases up j hj with h2 | ⟨h2, e2⟩
    · exact r.inj i j a h1 h2
    · exact absurd (List.mem_of_getElem? h1) (by rw [e2]; exact hp)
  · rcases up j hj with h2 | ⟨h2, e2⟩
    · exact absurd (List.mem_of_getElem? h2) (by rw [e1]; exact hp)
    · rw [h1, h2]
/-- a new object at p -/
theorem Rl.ghost (r : Rl K B H0 as ks ow sg S σ H) (hp : H p = none) : Rl K B H0 as ks (ow ++ [some p]) sg S σ (upd H p o) := by
  have np : some p ∉ ow := fun z => r.odom p z hp
  have e : Evo (fun _ => False) H (upd H p o) := Evo.new hp
  have mem : ∀ b, some b ∈ ow ++ [some p] → some b ∈ ow ∨ b = p := fun b hb => by
    rcases List.mem_append.mp hb with hb | hb
    · exact .inl hb
    · have : some b = some p := by simpa using hb
      exact .inr (Option.some.inj this)
  refine ⟨by simp only [List.length_append]; exact Nat.le_trans r.lo (Nat.le_add_right _ _), r.ls, r.slw (fun i w _ h => ?_) (fun s w x h _ => ?_), inj_ghost r np, fun a ha => ?_, fun a ha => ?_, r.bdom, r.asB, r.evo.trans (Evo.new hp), ?_, fun q hq => ?_⟩
  · rw [List.getElem?_append_left (List.getElem?_eq_some_iff.mp h).1]; exact h
  · cases s with
    | no => exact h
    | val d =>
      obtain ⟨q1, v, q2, q3⟩ := h
      exact ⟨q1, v, q2, Rep.new hp (Rep.more hp bd_ghost d v q3)⟩
    | own ob =>
      obtain ⟨a, q1, q2, q3⟩ := h
      exact ⟨a, q1, q2, ORep.imp e (fun _ z => z.elim) (fun _ z => z) ob a (fun z => z) (ORep.more hp bd_ghost ob a q3)⟩
  · rcases mem a ha with z | z
    · exact r.new a z
    · rw [z]; exact r.evo.back hp
  · rcases mem a ha with z | z
    · exact e.dom a (r.odom a z)
    · rw [z, upd_same]; exact fun z => nomatch z
  · exact ⟨r.sto.len, r.sto.nd, fun n x hx => let ⟨a, h1, h2⟩ := r.sto.ob n x hx; ⟨a, h1, ORep.imp e (fun _ z => z.elim) (fun _ z => z) x a (fun z => z) (ORep.more hp bd_ghost x a h2)⟩⟩
  · exact Rep.new hp (Rep.more hp bd_ghost _ _ (r.kp q hq))
/-- it is written -/
theorem Rl.putGhost {t : HO} (r : Rl K B H0 as ks (ow ++ [some p]) sg S σ H) (hl : sg.length ≤ ow.length) (ht : H p = some t) (n1 : ∀ xs, t ≠ .tup xs) (n2 : ∀ ob w, t ≠ .frz ob w) : Rl K B H0 as ks (ow ++ [some p]) sg S σ (upd H p o) ∧ Evo (· = p) H (upd H p o) := by
  have hm : some p ∈ ow ++ [some p] := List.mem_append_right _ List.mem_cons_self
  have e : Evo (· = p) H (upd H p o) := Evo.put ht n1 n2 rfl
  have bda : ∀ b, b = p → Bd B (ow ++ [some p]) b := fun b z => .inr (z ▸ hm)
  have gl : (ow ++ [some p])[ow.length]? = some (some p) := by rw [List.getElem?_append_right (Nat.le_refl _)]; simp
  have e0 : Evo (· ∈ as) H0 (upd H p o) := by
    have n0 := r.new p hm
    refine ⟨fun b o q n => ?_, fun b xs q => ?_, fun b ob w q => ?_, fun b q => e.dom b (r.evo.dom b q)⟩
    · rw [upd_ne (ne_of_none q n0)]; exact r.evo.keep b o q n
    · rw [upd_ne (ne_of_none q n0)]; exact r.evo.tups b xs q
    · rw [upd_ne (ne_of_none q n0)]; exact r.evo.frzs b ob w q
  refine ⟨⟨r.lo, r.ls, fun i s hs => ?_, r.inj, r.new, fun a ha => e.dom a (r.odom a ha), r.bdom, r.asB, e0, ⟨r.sto.len, r.sto.nd, fun n x hx => ?_⟩, fun q hq => Rep.imp e bda (fun _ z => z) _ _ (r.kp q hq)⟩, e⟩
  · obtain ⟨w, x, g1, g2, g3⟩ := r.sl i s hs
    refine ⟨w, x, g1, g2, ?_⟩
    cases s with
    | no => exact g3
    | val d =>
      obtain ⟨q1, v, q2, q3⟩ := g3
      exact ⟨q1, v, q2, Rep.imp e bda (fun _ z => z) d v q3⟩
    | own ob =>
      obtain ⟨a, q1, q2, q3⟩ := g3
      subst q1
      refine ⟨a, rfl, q2, ORep.imp e bda (fun _ z => z) ob a (fun z => ?_) q3⟩
      have := r.inj i ow.length p (z ▸ g1) gl
      have := (List.getElem?_eq_some_iff.mp hs).1
      omega
  · obtain ⟨b, q1, q2⟩ := r.sto.ob n x hx
    exact ⟨b, q1, ORep.imp e bda (fun _ z => z) x b (fun z => r.ownAs hm (z ▸ List.mem_of_getElem? q1)) q2⟩
/-- names forgotten -/
def wipeS (sg : List Sl) : List Nat → List Sl
  | [] => sg
  | v :: vs => (wipeS sg vs).set v .no
theorem wipeS_length (sg : List Sl) : ∀ vs : List Nat, (wipeS sg vs).length = sg.length
  | [] => rfl
  | v :: vs => by unfold wipeS; rw [List.length_set, wipeS_length sg vs]
theorem Rl.setNo (r : Rl K B H0 as ks ow sg S σ H) (i : Nat) (hn : isOwn sg[i]? = false) (x : Option V) : Rl K B H0 as ks ow (sg.set i .no) S (σ.set i x) H := by
  refine ⟨by simpa only [List.length_set] using r.lo, by simpa using r.ls, fun j s hs => ?_, r.inj, r.new, r.odom, r.bdom, r.asB, r.evo, r.sto, r.kp⟩
  by_cases hij : i = j
  · subst hij
    have hl : i < sg.length := by
      have := (List.getElem?_eq_some_iff.mp hs).1
      simpa using this
    rw [List.getElem?_set_self hl] at hs
    cases hs
    exact ⟨none, x, r.owNone hl hn, List.getElem?_set_self (by rw [r.ls]; exact hl), rfl⟩
  · rw [List.getElem?_set_ne hij] at hs ⊢
    exact r.sl j s hs
theorem isOwn_wipeS {sg : List Sl} {i : Nat} (h : isOwn sg[i]? = false) : ∀ vs : List Nat, isOwn (wipeS sg vs)[i]? = false
  | [] => h
  | v :: vs => by
    have ih := isOwn_wipeS h vs
    unfold wipeS
    by_cases hv : v = i
    · subst hv
      by_cases hl : v < (wipeS sg vs).length
      · rw [List.getElem?_set_self hl]; rfl
      · rw [List.getElem?_eq_none (by simpa using hl)]; rfl
    · rw [List.getElem?_set_ne hv]; exact ih
theorem Rl.wipe (r : Rl K B H0 as ks ow sg S σ H) : ∀ vs : List Nat, (∀ v ∈ vs, isOwn sg[v]? = false) → Rl K B H0 as ks ow (wipeS sg vs) S (L2.wipe σ vs) H
  | [], _ => r
  | v :: vs, h => by
    have ih := Rl.wipe r vs fun u hu => h u (List.mem_cons_of_mem _ hu)
    unfold wipeS L2.wipe
    exact ih.setNo v (isOwn_wipeS (h v List.mem_cons_self) vs) none
theorem wipe_get {σ : L2.St} {i : Nat} : ∀ {vs : List Nat}, (L2.wipe σ vs)[i]? = if i ∈ vs ∧ i < σ.length then some none else σ[i]?
  | [] => by rw [if_neg (by simp)]; rfl
  | v :: vs => by
    unfold L2.wipe
    have ih := wipe_get (σ := σ) (i := i) (vs := vs)
    by_cases hv : v = i
    · subst hv
      by_cases hl : v < σ.length
      · rw [List.getElem?_set_self (by rw [wipe_length]; exact hl), if_pos ⟨List.mem_cons_self, hl⟩]
      · rw [List.getElem?_eq_none (by rw [List.length_set, wipe_length]; omega), if_neg (fun z => hl z.2), List.getElem?_eq_none (by omega)]
    · rw [List.getElem?_set_ne hv, ih]
      have : (i ∈ v :: vs) ↔ i ∈ vs := by simp [Ne.symm hv]
      by_cases h : i ∈ vs ∧ i < σ.length
      · rw [if_pos h, if_pos ⟨this.mpr h.1, h.2⟩]
      · rw [if_neg h, if_neg (fun z => h ⟨this.mp z.1, z.2⟩)]
theorem wipe_back {σ τ : L2.St} {vs : List Nat} (hl : τ.length = σ.length) (h : ∀ j : Nat, j ∉ vs → τ[j]? = (L2.wipe σ vs)[j]?) : L2.wipe τ vs = L2.wipe σ vs := by
  refine List.ext_getElem? fun j => ?_
  rw [wipe_get]
  by_cases hj : j ∈ vs
  · rw [wipe_get, hl]
    by_cases hlt : j < σ.length
    · rw [if_pos ⟨hj, hlt⟩, if_pos ⟨hj, hlt⟩]
    · rw [if_neg (fun z => hlt z.2), if_neg (fun z => hlt z.2), List.getElem?_eq_none (by omega), List.getElem?_eq_none (by omega)]
  · rw [if_neg (fun z => hj z.1), h j hj]
end

/-! ### one reading for all contexts with the same K, mg -/
def canE (K : PySem.W.Frag) (mg : Str → Option Value) (W : WX2) (wk : Bool) (m : ME) : TE := fun σ H Q => ∃ B H0 as ks ow sg S, Rl K B H0 as ks ow sg S σ H ∧ Den ⟨K, mg, B, H0, as, ks, W⟩ ow ((⟨K, mg, B, H0, as, ks, W⟩ : Ct).rp ow wk) (m sg S) H Q
theorem PE2.can {X : Cx} {W : WX2} {wk : Bool} {e : Expr} {m : ME} (h : PE2 X W wk e m) : PE X e (canE X.K X.mg W wk m) := by
  obtain ⟨t, h1, h2⟩ := h
  exact ⟨fun pins s σ H Q I ⟨B, H0, as, ks, ow, sg, S, r, q⟩ => h1.run pins s σ H Q I (h2 _ _ _ _ _ _ _ _ _ _ r q)⟩
def canT (K : PySem.W.Frag) (mg : Str → Option Value) (W : WX2) (m : MT) : TT := fun σ H Q => ∃ B H0 as ks ow sg S, Rl K B H0 as ks ow sg S σ H ∧ Den ⟨K, mg, B, H0, as, ks, W⟩ ow rpB (m sg S) H Q
theorem PT2.can {X : Cx} {W : WX2} {e : Expr} {m : MT} (h : PT2 X W e m) : PT X e (canT X.K X.mg W m) := by
  obtain ⟨t, h1, h2⟩ := h
  exact ⟨fun pins s σ H Q I ⟨B, H0, as, ks, ow, sg, S, r, q⟩ => h1.run pins s σ H Q I (h2 _ _ _ _ _ _ _ _ _ _ r q)⟩
def canG (K : PySem.W.Frag) (tch : List Nat) (g : D → List Sl → Option (List Sl)) : TG := fun v σ H Q => ∃ B H0 as ks ow sg S d sg1, Rl K B H0 as ks ow sg S σ H ∧ Rep K as (Bd B ow) H d v ∧ g d sg = some sg1 ∧
  (∀ σ', Rl K B H0 as ks ow sg1 S σ' H → OnlyAt tch σ σ' → Q σ' H)
theorem PG2.can {X : Cx} {tg : Expr} {tch : List Nat} {g : D → List Sl → Option (List Sl)} (h : PG2 X tg tch g) : PG X tg (canG X.K tch g) := by
  obtain ⟨t, h1, h2⟩ := h
  exact ⟨fun pins s σ H v u Q I rv ⟨B, H0, as, ks, ow, sg, S, d, sg1, r, q1, q2, q3⟩ => h1.run pins s σ H v u Q I rv (h2 _ _ _ _ _ _ _ _ _ _ _ _ _ r q1 q2 q3)⟩
/-! ### tests of a comprehension -/
def PTs2 (X : Cx) (W : WX2) (ifs : List Expr) (m : MT) : Prop := PTs X ifs (canT X.K X.mg W m)
def mYes : MT := fun _ S => .ok (true, S)
section
variable {X : Cx} {W : WX2} {wk : Bool} {pos : Pos}
theorem ts2_nil : PTs2 X W [] mYes := ⟨fun pins s σ H Q I ⟨B, H0, as, ks, ow, sg, S, r, q⟩ => pts_nil.run pins s σ H Q I (q true H Evo.refl r.sto rfl)⟩
theorem ts2_one {c : Expr} {m : MT} (h : PT2 X W c m) : PTs2 X W [c] m := pts_one h.can
end
def W0 : WX2 := fun _ _ _ _ => False

/-! ### comprehensions -/
def lcR (g : D → List Sl → Option (List Sl)) (mt : MT) (me : ME) (sg : List Sl) : List D → List O → R (List D × List O)
  | [], S => .ok ([], S)
  | d :: ds, S => match g d sg with
    | none => .bad
    | some sg1 => match mt sg1 S with
      | .ok (true, S1) => match me sg1 S1 with
        | .ok (x, S2) => (lcR g mt me sg ds S2).bind fun y => .ok (x :: y.1, y.2)
        | _ => .bad
      | .ok (false, S1) => lcR g mt me sg ds S1
      | _ => .bad
def oLc (wk : Bool) (mi : MA) (g : D → List Sl → Option (List Sl)) (mt : MT) (me : ME) (vs : List Nat) : MO := fun sg S => (mi sg S).bind fun x =>
  if (decide (x.1.length ≤ 16777216) && (!wk || D.flatA x.1) && vs.all fun v => !isOwn sg[v]?) = true then (lcR g mt me (wipeS sg vs) x.1 x.2).bind fun y => .ok (.lst y.1, y.2) else .bad
section
variable {X : Cx} {W : WX2} {wk wi' : Bool} {pos : Pos}
theorem lc_den {tg iter elt : Expr} {ifs : List Expr} {vs tch : List Nat} {mi : MA} {g : D → List Sl → Option (List Sl)} {mt : MT} {me : ME} {wi : TI} (htch : ∀ j ∈ tch, j ∈ vs)
    (hi : ∀ B H0 as ks ow sg S σ H (R : It → Hp → Prop), Rl X.K B H0 as ks ow sg S σ H → Den (ctOf X W B H0 as ks) ow (rpI (ctOf X W B H0 as ks) (if wk then (· ∈ as) else Bd B ow)) (mi sg S) H R → wi σ H R)
    {B : Addr → Prop} {H0 : Hp} {as : List Addr} {ks : List (D × V)} {ow : List (Option Addr)} {sg : List Sl} {S : List O} {σ : L2.St} {H : Hp} {Q : VK} (r : Rl X.K B H0 as ks ow sg S σ H)
    (h : DenO (ctOf X W B H0 as ks) ow (oLc wk mi g mt me vs sg S) H Q) : tLc wi (canG X.K tch g) (canT X.K X.mg W0 mt) (canE X.K X.mg W0 false me) vs σ H Q := by
  refine hi _ _ _ _ _ _ _ _ _ _ r (DenO.bind h fun ds S1 J H1 e0 e1 s1 q1 h1 => ?_)
  clear e0
  by_cases hc : (decide (ds.length ≤ 16777216) && (!wk || D.flatA ds) && vs.all fun v => !isOwn sg[v]?) = true
  · simp only [if_pos hc] at h1
    rw [Bool.and_eq_true, Bool.and_eq_true] at hc
    have hlen : ds.length ≤ 16777216 := of_decide_eq_true hc.1.1
    have hfl : wk = true → D.flatA ds = true := fun z => by
      have := hc.1.2
      rw [z] at this
      exact this
    have hno : ∀ v ∈ vs, isOwn sg[v]? = false := fun v hv => by
      have := List.all_eq_true.mp hc.2 v hv
      simpa using this
    obtain ⟨kps, rk, wk2⟩ := q1
    have r1 := r.step e1 s1
    intro p hp
    have r2 : Rl X.K B H0 as ks (ow ++ [some p]) sg S1 σ (upd H1 p (.lst [])) := r1.ghost hp
    have hlo : (wipeS sg vs).length ≤ ow.length := by rw [wipeS_length]; exact r.lo
    have pas : p ∉ as := fun z => r1.bdDom p (r1.asBd p z) hp
    have evH : Evo (· ∈ as) H1 (upd H1 p (.lst [])) := Evo.new hp
    -- what the walked thing needs
    have rk' : ∀ q ∈ kps, Rep X.K as (if wk then (· ∈ as) else Bd B (ow ++ [some p])) (upd H1 p (.lst [])) q.1 q.2 := fun q hq => by
      cases wk with
      | true => exact Rep.new hp (rk q hq)
      | false => exact Rep.new hp (Rep.more hp bd_ghost _ _ (rk q hq))
    have asW : ∀ a, a ∈ as → (if wk then (· ∈ as) else Bd B (ow ++ [some p])) a := fun a h => asWk r2 a h
    refine ⟨fun i m H' => m = ds.length - i ∧ i ≤ ds.length ∧ ∃ acc vacc S', Rl X.K B H0 as ks (ow ++ [some p]) (wipeS sg vs) S' (L2.wipe σ vs) H' ∧ (∀ a o, H1 a = some o → a ∉ as → H' a = some o) ∧ Evo (fun a => a ∈ as) H1 H' ∧ (∀ q ∈ kps, Rep X.K as (if wk then (· ∈ as) else Bd B (ow ++ [some p])) H' q.1 q.2) ∧
      H' p = some (.lst vacc) ∧ RepA X.K as (Bd B (ow ++ [some p])) H' acc vacc ∧ acc.length ≤ i ∧ DenO (ctOf X W B H0 as ks) ow (((lcR g mt me (wipeS sg vs) (ds.drop i) S').bind fun y => .ok (acc ++ y.1, y.2)).bind fun y => .ok (.lst y.1, y.2)) H1 Q,
      ⟨_, rfl, Nat.zero_le _, [], [], S1, r2.wipe vs hno, evH.keep, evH, rk', upd_same, rfl, Nat.le_refl _, ?_⟩, ?_⟩
    · revert h1
      rw [List.drop_zero]
      show DenO _ _ ((lcR g mt me (wipeS sg vs) ds S1).bind _) H1 Q → _
      cases lcR g mt me (wipeS sg vs) ds S1 with
      | ok a => exact fun h => h
      | ex => exact fun h => h
      | bad => exact fun h => h
    rintro i m H2 ⟨em, hi2, acc, vacc, S2, r2, kp2, ev2, rk2, hp2, ra2, la2, h2⟩
    have wi2 := wk2 _ H2 rk2 i
    by_cases hlt : i < ds.length
    · right
      have ed : ds[i]? = some ds[i] := List.getElem?_eq_getElem hlt
      obtain ⟨go, yl⟩ := wi2.2 _ ed
      refine ⟨go, fun H' => i + 1 ≤ ds.length ∧ ∃ acc vacc S', Rl X.K B H0 as ks (ow ++ [some p]) (wipeS sg vs) S' (L2.wipe σ vs) H' ∧ (∀ a o, H1 a = some o → a ∉ as → H' a = some o) ∧ Evo (fun a => a ∈ as) H1 H' ∧ (∀ q ∈ kps, Rep X.K as (if wk then (· ∈ as) else Bd B (ow ++ [some p])) H' q.1 q.2) ∧
        H' p = some (.lst vacc) ∧ RepA X.K as (Bd B (ow ++ [some p])) H' acc vacc ∧ acc.length ≤ i + 1 ∧ DenO (ctOf X W B H0 as ks) ow (((lcR g mt me (wipeS sg vs) (ds.drop (i + 1)) S').bind fun y => .ok (acc ++ y.1, y.2)).bind fun y => .ok (.lst y.1, y.2)) H1 Q,
        fun H' q => ⟨ds.length - (i + 1), by omega, rfl, q.1, q.2⟩, fun x H3 y => ?_⟩
      obtain ⟨e3, rx⟩ := yl x H3 y
      have r3 := r2.step e3.any (r2.stoNew e3)
      have rx' : Rep X.K as (Bd B (ow ++ [some p])) H3 ds[i] x := by
        cases wk with
        | false => exact rx
        | true =>
          have fl : ∀ (l : List D) (k : Nat) (d : D), D.flatA l = true → l[k]? = some d → d.flat = true := by
            intro l
            induction l with
            | nil => intro k d _ h; simp at h
            | cons c l ih =>
              intro k d hf h
              have hf' : (c.flat && D.flatA l) = true := hf
              rw [Bool.and_eq_true] at hf'
              cases k with
              | zero => simp at h; subst h; exact hf'.1
              | succ k => exact ih k d hf'.2 (by simpa using h)
          exact Rep.ofFlat _ _ (fl ds i _ (hfl rfl) ed) rx
      rw [List.drop_eq_getElem_cons hlt] at h2
      simp only [lcR] at h2
      cases eg : g ds[i] (wipeS sg vs) with
      | none => simp only [eg] at h2; exact False.elim h2
      | some sg1 =>
        simp only [eg] at h2
        refine ⟨B, H0, as, ks, ow ++ [some p], wipeS sg vs, S2, ds[i], sg1, r3, rx', eg, fun σ4 r4 k4 => ⟨wipe_back (k4.1.trans (wipe_length σ vs)) fun j hj => k4.2 j fun z => hj (htch j z), ?_⟩⟩
        -- the test, then the element
        have ev3 : Evo (· ∈ as) H1 H3 := ev2.trans e3.any
        have hp3 : H3 p = some (.lst vacc) := e3.keep _ _ hp2 fun z => z
        have ra3 := RepA.imp (B' := Bd B (ow ++ [some p])) e3 (fun _ z => z.elim) (fun _ z => z) _ _ ra2
        have rk3 := fun q hq => Rep.imp (B' := if wk then (· ∈ as) else Bd B (ow ++ [some p])) e3 (fun _ z => z.elim) (fun _ z => z) _ _ (rk2 q hq)
        cases et : mt sg1 S2 with
        | ex e sg5 S5 => simp only [et] at h2; exact False.elim h2
        | bad => simp only [et] at h2; exact False.elim h2
        | ok z =>
          obtain ⟨b, S3⟩ := z
          refine ⟨B, H0, as, ks, ow ++ [some p], sg1, S2, r4, ?_⟩
          rw [et]
          rintro b' H4 e4 s4 rfl
          have r5 := r4.step e4 s4
          have ev4 : Evo (· ∈ as) H1 H4 := ev3.trans e4
          have hp4 : H4 p = some (.lst vacc) := e4.keep _ _ hp3 pas
          have ra4 := RepA.imp (B' := Bd B (ow ++ [some p])) e4 r4.asBd (fun _ z => z) _ _ ra3
          have rk4 := fun q hq => Rep.imp (B' := if wk then (· ∈ as) else Bd B (ow ++ [some p])) e4 asW (fun _ z => z) _ _ (rk3 q hq)
          cases b' with
          | false =>
            simp only [et] at h2
            exact ⟨hlt, acc, vacc, S3, (r3.step e4 s4), fun a o q n => ev4.keep a o q n, ev4, rk4, hp4, ra4, by omega, h2⟩
          | true =>
            simp only [et] at h2
            cases em2 : me sg1 S3 with
            | ex e sg5 S5 => simp only [em2] at h2; exact False.elim h2
            | bad => simp only [em2] at h2; exact False.elim h2
            | ok z =>
              obtain ⟨d, S4⟩ := z
              simp only [em2] at h2
              refine ⟨B, H0, as, ks, ow ++ [some p], sg1, S3, r5, ?_⟩
              rw [em2]
              intro v H5 e5 s5 rv
              have r6 := (r3.step e4 s4).step e5 s5
              have ev5 : Evo (· ∈ as) H1 H5 := ev4.trans e5
              have hp5 : H5 p = some (.lst vacc) := e5.keep _ _ hp4 pas
              have ra5 := RepA.imp (B' := Bd B (ow ++ [some p])) e5 r4.asBd (fun _ z => z) _ _ ra4
              have rk5 := fun q hq => Rep.imp (B' := if wk then (· ∈ as) else Bd B (ow ++ [some p])) e5 asW (fun _ z => z) _ _ (rk4 q hq)
              have lv : vacc.length < 16777216 := by rw [← ra5.length]; omega
              refine ⟨vacc, hp5, lineL lv, ?_⟩
              obtain ⟨r7, e7⟩ := r6.putGhost (o := .lst (vacc ++ [v])) hlo hp5 (fun _ z => by cases z) (fun _ _ z => by cases z)
              have bp : ∀ b, b = p → Bd B (ow ++ [some p]) b := fun b z => .inr (z ▸ List.mem_append_right _ List.mem_cons_self)
              have ev7 : Evo (· ∈ as) H1 (upd H5 p (.lst (vacc ++ [v]))) := by
                refine ⟨fun a o q n => ?_, fun a xs q => ?_, fun a ob w q => ?_, fun a q => e7.dom a (ev5.dom a q)⟩
                · rw [upd_ne (ne_of_none q hp)]; exact ev5.keep a o q n
                · rw [upd_ne (ne_of_none q hp)]; exact ev5.tups a xs q
                · rw [upd_ne (ne_of_none q hp)]; exact ev5.frzs a ob w q
              have rk7 : ∀ q ∈ kps, Rep X.K as (if wk then (· ∈ as) else Bd B (ow ++ [some p])) (upd H5 p (.lst (vacc ++ [v]))) q.1 q.2 := fun q hq => by
                cases wk with
                | false => exact Rep.imp e7 bp (fun _ z => z) _ _ (rk5 q hq)
                | true =>
                  -- what is walked was there ahead of the new list
                  exact Rep.imp ev7 (fun _ z => z) (fun _ z => z) _ _ (rk q hq)
              refine ⟨hlt, acc ++ [d], vacc ++ [v], S4, r7, ev7.keep, ev7, rk7, upd_same, ?_, by rw [List.length_append]; show _ + 1 ≤ _; omega, ?_⟩
              · exact RepA.imp e7 bp (fun _ z => z) _ _ (ra5.append (RepA.one rv))
              · revert h2
                cases lcR g mt me (wipeS sg vs) (ds.drop (i + 1)) S4 with
                | ok y =>
                  intro h2
                  simp only [R.bind, List.append_assoc, List.singleton_append] at h2 ⊢
                  exact h2
                | ex => exact fun h => h
                | bad => exact fun h => h
    · left
      have ei : i = ds.length := by omega
      subst ei
      refine ⟨wi2.1 (Nat.le_refl _), ?_⟩
      rw [List.drop_length] at h2
      simp only [lcR, R.bind, List.append_nil] at h2
      exact h2 p H2 hp ev2 (r2.sto.weak bd_ghost') ⟨vacc, hp2, RepA.imp (W := fun _ => False) Evo.refl (fun _ z => z.elim) bd_ghost' _ _ ra2⟩
  · simp only [if_neg hc] at h1
    exact False.elim h1
end
end D2

namespace D2
open PySem PySem.Spec PyProof.Rows L2

section
variable {X : Cx} {W : WX2} {wk : Bool} {pos spos : Pos}
abbrev blkW (X : Cx) (P : Cx → Prop) (scope : Scope) : Prop := ∀ (s : Shared) (H : Hp) (C : Addr) (cl : List (Str × Addr)) (fp : List Addr), P (X.blk s H scope (compEnvC scope cl C X.env) fp)
/-- [elt for tg in iter if ..] -/
theorem f2_lc {elt tg iter : Expr} {ifs : List Expr} {scope : Scope} (own : List (Str × Nat)) {mi : MA} {g : D → List Sl → Option (List Sl)} {mt : MT} {me : ME} {tch : List Nat} (hc : X.calm = true) (hN : X.N.Nodup) (hi : PI2 X W wk tg iter mi) (ok : BlkOk X.N X.env.scope scope own)
    (hg : ∀ (s : Shared) (H : Hp) (C : Addr) (cl : List (Str × Addr)) (fp : List Addr), PG2 (X.blk s H scope (compEnvC scope cl C X.env) fp) tg tch g) (ht : ∀ (s : Shared) (H : Hp) (C : Addr) (cl : List (Str × Addr)) (fp : List Addr), PTs2 (X.blk s H scope (compEnvC scope cl C X.env) fp) W0 ifs mt)
    (he : ∀ (s : Shared) (H : Hp) (C : Addr) (cl : List (Str × Addr)) (fp : List Addr), PE2 (X.blk s H scope (compEnvC scope cl C X.env) fp) W0 false elt me) (htch : ∀ j ∈ tch, j ∈ own.map (·.2) := by decide) (hs : ∀ x, foldedSetIterable iter X.env x = pure x := by intro _; rfl) :
    PF2 X W (.ListComp elt [⟨tg, iter, ifs, 0⟩] scope pos) (oLc wk mi g mt me (own.map (·.2))) := by
  obtain ⟨wi, a1, a2⟩ := hi
  refine ⟨_, pe_lc (te := canE X.K X.mg W0 false me) (tt := canT X.K X.mg W0 mt) (g := canG X.K tch g) hc hN a1 ok (fun s H C cl fp => (hg s H C cl fp).can) (fun s H C cl fp => ht s H C cl fp) (fun s H C cl fp => (he s H C cl fp).can) hs, fun B H0 as ks ow sg S σ H Q r h => ?_⟩
  exact lc_den (tg := tg) (iter := iter) (elt := elt) (ifs := ifs) htch a2 r h
/-- name = [..] on one line -/
theorem lc_own {wi : TI} {tch vs : List Nat} {g : D → List Sl → Option (List Sl)} {mt : MT} {me : ME} {mi : MA} (i : Nat) {B : Addr → Prop} {H0 : Hp} {as : List Addr} {ks : List (D × V)} {ow : List (Option Addr)} {sg : List Sl} {S : List O} {σ : L2.St} {H : Hp} {Dd : Ends} (r : Rl X.K B H0 as ks ow sg S σ H)
    (k : ∀ Q : VK, DenO (ctOf X W B H0 as ks) ow (oLc wk mi g mt me vs sg S) H Q → tLc wi (canG X.K tch g) (canT X.K X.mg W0 mt) (canE X.K X.mg W0 false me) vs σ H Q)
    (h : DenS (ctOf X W B H0 as ks) (mSetO i (oLc wk mi g mt me vs) sg S) Dd) : tAsg (tLc wi (canG X.K tch g) (canT X.K X.mg W0 mt) (canE X.K X.mg W0 false me) vs) (gName i) Dd σ H := by
  refine k _ ?_
  unfold mSetO at h
  revert h
  cases oLc wk mi g mt me vs sg S with
  | ok x =>
    obtain ⟨o, S'⟩ := x
    intro h a H' ha e s q
    by_cases il : i < sg.length
    · simp only [R.bind, if_pos il] at h
      exact h _ _ H' (r.setOwn i il ha e s q)
    · simp only [R.bind, if_neg il] at h
      exact False.elim h
  | ex e' sg S' => exact fun h => h
  | bad => exact fun h => h
theorem s2_ownLc (i : Nat) {y : Str} {py : Pos} {elt tg iter : Expr} {ifs : List Expr} {scope : Scope} (own : List (Str × Nat)) {mi : MA} {g : D → List Sl → Option (List Sl)} {mt : MT} {me : ME} {tch : List Nat} (hc : X.calm = true) (hN : X.N.Nodup) (hy : X.N[i]? = some y) (hyl : X.env.scope.names.lookup y = some .local)
    (hsw : swapsWith (.ListComp elt [⟨tg, iter, ifs, 0⟩] scope pos) (some (.Name y py)) spos.line X.env = pure true) (hi : PI2 X W wk tg iter mi) (ok : BlkOk X.N X.env.scope scope own)
    (hg : ∀ (s : Shared) (H : Hp) (C : Addr) (cl : List (Str × Addr)) (fp : List Addr), PG2 (X.blk s H scope (compEnvC scope cl C X.env) fp) tg tch g) (ht : ∀ (s : Shared) (H : Hp) (C : Addr) (cl : List (Str × Addr)) (fp : List Addr), PTs2 (X.blk s H scope (compEnvC scope cl C X.env) fp) W0 ifs mt)
    (he : ∀ (s : Shared) (H : Hp) (C : Addr) (cl : List (Str × Addr)) (fp : List Addr), PE2 (X.blk s H scope (compEnvC scope cl C X.env) fp) W0 false elt me) (htch : ∀ j ∈ tch, j ∈ own.map (·.2) := by decide) (hs : ∀ x, foldedSetIterable iter X.env x = pure x := by intro _; rfl) :
    PS2 X W (.Assign [.Name y py] (.ListComp elt [⟨tg, iter, ifs, 0⟩] scope pos) spos) (mSetO i (oLc wk mi g mt me (own.map (·.2)))) := by
  obtain ⟨wi, a1, a2⟩ := hi
  refine ⟨_, ps_setLc (te := canE X.K X.mg W0 false me) (tt := canT X.K X.mg W0 mt) (g := canG X.K tch g) hc hN hy hyl hsw a1 ok (fun s H C cl fp => (hg s H C cl fp).can) (fun s H C cl fp => ht s H C cl fp) (fun s H C cl fp => (he s H C cl fp).can) hs, fun B H0 as ks ow sg S σ H Dd r h => ?_⟩
  exact lc_own i r (fun Q q => lc_den (tg := tg) (iter := iter) (elt := elt) (ifs := ifs) htch a2 r q) h
/-- a name's own new list is let go at once -/
def mAft (i : Nat) (m : MS) : MS := fun sg S => (m sg S).bind fun x => .ok (x.1, frz i x.2.1, x.2.2)
abbrev mSetF (i : Nat) (m : MO) : MS := mAft i (mSetO i m)
theorem s2_after (i : Nat) {st : Stmt} {m : MS} (h : PS2 X W st m) : PS2 X W st (mAft i m) := by
  obtain ⟨t, h1, h2⟩ := h
  refine ⟨t, h1, fun B H0 as ks ow sg S σ H Dd r h => h2 _ _ _ _ _ _ _ _ _ _ r ?_⟩
  unfold mAft at h
  revert h
  cases m sg S with
  | ok x =>
    obtain ⟨fl, sg', S'⟩ := x
    cases fl with
    | nx => exact fun h ow' σ' H' r' => let ⟨ow2, r2⟩ := r'.frz i; h ow2 σ' H' r2
    | bk => exact fun h ow' σ' H' r' => let ⟨ow2, r2⟩ := r'.frz i; h ow2 σ' H' r2
    | ct => exact fun h ow' σ' H' r' => let ⟨ow2, r2⟩ := r'.frz i; h ow2 σ' H' r2
    | rt d => exact fun h => h
  | ex => exact fun h => h
  | bad => exact fun h => h
theorem s2_letGo (i : Nat) {st : Stmt} {mo : MO} (h : PS2 X W st (mSetO i mo)) : PS2 X W st (mSetF i mo) := s2_after i h
end

/-! ### the defs -/
/-- what a def computes -/
abbrev FD := List D → List O → R (D × List O)
def Fn2 (K : PySem.W.Frag) (n : Nat) (F : FD) : Sp := fun vs H Q _ => vs.length = n ∧ ∃ (B : Addr → Prop) (as : List Addr) (S : List O) (ds : List D), (∀ a, B a → H a ≠ none) ∧ (∀ a, a ∈ as → B a) ∧ Sto K as B H S ∧ RepA K as B H ds vs ∧
  match F ds S with
  | .ok (d, S') => ∀ v H', Evo (· ∈ as) H H' → Sto K as B H' S' → Rep K as B H' d v → Q v H'
  | _ => False
def startS (N : List Str) (ds : List D) : List Sl := ds.map Sl.val ++ List.replicate (N.length - ds.length) Sl.no
def fnR : R (Fl × List Sl × List O) → R (D × List O)
  | .ok (.nx, _, S) => .ok (.non, S)
  | .ok (.rt d, _, S) => .ok (d, S)
  | .ok _ => .bad
  | .ex e sg S => .ex e sg S
  | .bad => .bad
def fnF (N : List Str) (m : MS) : FD := fun ds S => fnR (m (startS N ds) S)
theorem rl_start {K : PySem.W.Frag} {B : Addr → Prop} {H : Hp} {as : List Addr} {S : List O} {N : List Str} {ds : List D} {vs : List V} (hB : ∀ a, B a → H a ≠ none) (hA : ∀ a, a ∈ as → B a) (hS : Sto K as B H S) (hR : RepA K as B H ds vs) :
    Rl K B H as [] (List.replicate (startS N ds).length none) (startS N ds) S (L2.start N vs) H := by
  have nomem : ∀ a (n : Nat), some a ∉ (List.replicate n none : List (Option Addr)) := fun a n z => by
    have := List.eq_of_mem_replicate z
    cases this
  have bd : ∀ a, Bd B (List.replicate (startS N ds).length none) a → B a := fun a h => h.elim id fun z => absurd z (nomem a _)
  refine ⟨by simp, by simp [startS, L2.start, hR.length], fun i s hs => ?_, fun i j a h _ => absurd (List.mem_of_getElem? h) (nomem a _), fun a h => absurd h (nomem a _), fun a h => absurd h (nomem a _), hB, hA, Evo.refl, hS.weak bd, fun p hp => by cases hp⟩
  have hl : i < (startS N ds).length := (List.getElem?_eq_some_iff.mp hs).1
  refine ⟨none, (L2.start N vs).getD i none, by rw [List.getElem?_replicate, if_pos hl], ?_, ?_⟩
  · rw [List.getD_eq_getElem?_getD]
    have : i < (L2.start N vs).length := by simp [startS, L2.start, hR.length] at hl ⊢; omega
    rw [List.getElem?_eq_getElem this]; rfl
  · unfold startS at hs
    by_cases hi : i < ds.length
    · rw [List.getElem?_append_left (by simpa using hi), List.getElem?_map] at hs
      cases e : ds[i]? with
      | none => rw [e] at hs; cases hs
      | some d =>
        rw [e] at hs
        cases hs
        obtain ⟨v, hv, rv⟩ := hR.get e
        refine ⟨rfl, v, ?_, Rep.imp (W := fun _ => False) Evo.refl (fun _ z => z.elim) bd d v rv⟩
        have hi' : i < vs.length := by rw [← hR.length]; exact hi
        rw [List.getD_eq_getElem?_getD]
        unfold L2.start
        rw [List.getElem?_append_left (by simpa using hi'), List.getElem?_map, hv]; rfl
    · rw [List.getElem?_append_right (by simpa using hi), List.getElem?_replicate] at hs
      split at hs
      · cases hs; rfl
      · cases hs
section
variable {P : Program} {w : World} {K : PySem.W.Frag} {mg : Str → Option Value} {base : Heap}
/-- THE RULE for a def: its body -/
theorem fn2_ok {x qual : Str} {st : Stmt} {f : Addr} {fd : FuncData} {N ps : List Str} {k : Nat} {m : MS} (F : Fun K x qual st f fd) (Sc : FnScope N ps (defScope st))
    (body : ∀ (cdv : Value) (A : Around) (outer : List Env) (s : Shared) (H : Hp) (E : XK), Room k (A.deeper (envOfC qual (defScope st) s.heap.objs.size f cdv)) → PSs2 (cxOf CX0 P w K mg base N qual (defScope st) f cdv A outer s H E).nox W0 (defBody st) m) :
    FnOk P w K mg base CX0 (k + 1) f fd ps (Fn2 K ps.length (fnF N m)) := by
  refine F.ok Sc (fun vs H Q E h => h.1) (fun cdv A outer s H vs Q E hr h => ?_)
  obtain ⟨hl, B, as, S, ds, hB, hA, hS, hR, hF⟩ := h
  obtain ⟨t, p, sim⟩ := body cdv A outer s H E hr
  refine ⟨t, p, sim B H as [] _ (startS N ds) S (L2.start N vs) H _ (rl_start hB hA hS hR) ?_⟩
  unfold fnF at hF
  revert hF
  cases m (startS N ds) S with
  | ok z =>
    obtain ⟨fl, sg', S'⟩ := z
    cases fl with
    | nx => exact fun hF ow' σ' H' r' => hF .non H' r'.evo (r'.sto.weak bdB) rfl
    | bk => exact fun hF => False.elim hF
    | ct => exact fun hF => False.elim hF
    | rt d => exact fun hF v H' e s q => hF v H' e s q
  | ex e sg S' => exact fun hF => False.elim hF
  | bad => exact fun hF => False.elim hF
theorem FnOk.none {f : Addr} {fd : FuncData} {ps : List Str} {n : Nat} : FnOk P w K mg base CX0 0 f fd ps (Fn2 K n fun _ _ => .bad) := by
  have no : ∀ vs H Q E, ¬ Fn2 K n (fun _ _ => .bad) vs H Q E := fun vs H Q E h => by
    obtain ⟨_, _, _, _, _, _, _, _, _, z⟩ := h
    exact z
  exact ⟨fun vs H Q E h => absurd h (no vs H Q E), fun A outer s H args us vs Q E _ _ _ _ h => absurd h (no vs H Q E)⟩
end
section
variable {X : Cx} {W : WX2} {wk : Bool} {pos : Pos}
def mCall (F : FD) (ms : MA) : ME := fun sg S => (ms sg S).bind fun x => match F x.1 x.2 with
  | .ok y => .ok y
  | _ => .bad
theorem e2_call {F : FD} {ms : MA} {k : Nat} {f : Addr} {fd : FuncData} {ps : List Str} {x : Str} {p : Pos} {e : Expr} {es : List Expr} {n : Nat} (G : FnOk X.prog X.w X.K X.mg X.base CX0 k f fd ps (Fn2 X.K n F)) (hr : Room k X.A) (hg : Gl X x) (hm : X.mg x = some (.ref f)) (hk : PySem.W.keepIn X.K (.ref f) = true) (hb : Binds X.K fd ps [])
    (ha : PA2 X W false (e :: es) ms) (hn : ∀ sg S ds S', ms sg S = .ok (ds, S') → ds.length = n) (hdb : (x == ("__debug__" : Str)) = false := by decide) (he : starEach (e :: es) X.env = (false, eval e X.env) :: starEach es X.env := by rfl) (hpl : (backTo pos (starEach es X.env)).any (·.1) = false := by rfl) :
    PE2 X W false (.Call (.Name x p) (e :: es) [] pos) (mCall F ms) := by
  obtain ⟨t, a1, a2⟩ := ha
  refine ⟨_, pe_call G hr hg hm hk hb .nil pass0 a1 hdb he hpl, fun B H0 as ks ow sg S σ H Q r h => ?_⟩
  refine a2 _ _ _ _ _ _ _ _ _ _ r (Den.bind h fun ds S1 vs H1 e0 e1 s1 q1 h1 => ?_)
  have r1 := r.step e1 s1
  rw [List.append_nil]
  refine ⟨by rw [← q1.length]; exact hn _ _ _ _ e0, Bd B ow, as, S1, ds, r1.bdDom, r1.asBd, r1.sto, q1, ?_⟩
  cases eF : F ds S1 with
  | ok z =>
    obtain ⟨d, S'⟩ := z
    simp only [eF] at h1
    exact fun v H' e s q => h1 v H' e s q
  | ex => simp only [eF] at h1; exact False.elim h1
  | bad => simp only [eF] at h1; exact False.elim h1
theorem nil_len {n : Nat} : ∀ sg S ds S', mNil sg S = .ok (ds, S') → ds.length = 0 := fun sg S ds S' h => by
  cases h
  rfl
theorem cons_len {m : ME} {ms : MA} {n : Nat} (h : ∀ sg S ds S', ms sg S = .ok (ds, S') → ds.length = n) : ∀ sg S ds S', mCons m ms sg S = .ok (ds, S') → ds.length = n + 1 := fun sg S ds S' e => by
  unfold mCons at e
  cases e1 : m sg S with
  | ok x =>
    rw [e1] at e
    simp only [R.bind] at e
    cases e2 : ms sg x.2 with
    | ok y =>
      rw [e2] at e
      cases e
      rw [List.length_cons, h _ _ y.1 y.2 e2]
    | ex => rw [e2] at e; cases e
    | bad => rw [e2] at e; cases e
  | ex => rw [e1] at e; cases e
  | bad => rw [e1] at e; cases e
/-! a call of a def that touches no object: its arguments may be weak -/
mutual
def D.noref : D → Bool
  | .tup ds => D.norefA ds
  | .lst ds => D.norefA ds
  | .xd _ ds => D.norefA ds
  | .dic _ ds => D.norefA ds
  | .ref _ => false
  | _ => true
def D.norefA : List D → Bool
  | [] => true
  | d :: ds => d.noref && D.norefA ds
end
mutual
theorem Rep.noref {K : PySem.W.Frag} {as bs : List Addr} {B : Addr → Prop} {H : Hp} : ∀ (d : D) (v : V), d.noref = true → Rep K as B H d v → Rep K bs B H d v
  | .non, _, _, h => h
  | .bl _, _, _, h => h
  | .int _, _, _, h => h
  | .str _, _, _, h => h
  | .tup ds, v, f, h => by
    obtain ⟨a, xs, e1, h1, h2⟩ := h
    exact ⟨a, xs, e1, h1, RepA.noref ds xs f h2⟩
  | .lst ds, v, f, h => by
    obtain ⟨a, xs, e1, nb, h1, h2⟩ := h
    exact ⟨a, xs, e1, nb, h1, RepA.noref ds xs f h2⟩
  | .dic ks ds, v, f, h => by
    obtain ⟨a, xs, e1, nb, h1, hl, h2⟩ := h
    exact ⟨a, xs, e1, nb, h1, hl, RepA.noref ds xs f h2⟩
  | .rng _ _, _, _, h => h
  | .xd ns ds, v, f, h => by
    obtain ⟨a, xs, e1, nb, h1, hl, h2⟩ := h
    exact ⟨a, xs, e1, nb, h1, hl, RepA.noref ds xs f h2⟩
  | .ref _, _, f, _ => nomatch f
theorem RepA.noref {K : PySem.W.Frag} {as bs : List Addr} {B : Addr → Prop} {H : Hp} : ∀ (ds : List D) (xs : List V), D.norefA ds = true → RepA K as B H ds xs → RepA K bs B H ds xs
  | [], _, _, h => h
  | d :: ds, xs, f, h => by
    obtain ⟨v, vs, e1, h1, h2⟩ := h
    have f' : (d.noref && D.norefA ds) = true := f
    rw [Bool.and_eq_true] at f'
    exact ⟨v, vs, e1, Rep.noref d v f'.1 h1, RepA.noref ds vs f'.2 h2⟩
end
mutual
theorem Rep.ofNil {K : PySem.W.Frag} {bs : List Addr} {B : Addr → Prop} {H : Hp} : ∀ (d : D) (v : V), Rep K [] B H d v → Rep K bs B H d v
  | .non, _, h => h
  | .bl _, _, h => h
  | .int _, _, h => h
  | .str _, _, h => h
  | .tup ds, v, h => by
    obtain ⟨a, xs, e1, h1, h2⟩ := h
    exact ⟨a, xs, e1, h1, RepA.ofNil ds xs h2⟩
  | .lst ds, v, h => by
    obtain ⟨a, xs, e1, nb, h1, h2⟩ := h
    exact ⟨a, xs, e1, nb, h1, RepA.ofNil ds xs h2⟩
  | .dic ks ds, v, h => by
    obtain ⟨a, xs, e1, nb, h1, hl, h2⟩ := h
    exact ⟨a, xs, e1, nb, h1, hl, RepA.ofNil ds xs h2⟩
  | .rng _ _, _, h => h
  | .xd ns ds, v, h => by
    obtain ⟨a, xs, e1, nb, h1, hl, h2⟩ := h
    exact ⟨a, xs, e1, nb, h1, hl, RepA.ofNil ds xs h2⟩
  | .ref _, v, h => by
    obtain ⟨a, _, h2⟩ := h
    simp at h2
theorem RepA.ofNil {K : PySem.W.Frag} {bs : List Addr} {B : Addr → Prop} {H : Hp} : ∀ (ds : List D) (xs : List V), RepA K [] B H ds xs → RepA K bs B H ds xs
  | [], _, h => h
  | d :: ds, xs, h => by
    obtain ⟨v, vs, e1, h1, h2⟩ := h
    exact ⟨v, vs, e1, Rep.ofNil d v h1, RepA.ofNil ds vs h2⟩
end
def mCallP (F : FD) (ms : MA) : ME := fun sg S => (ms sg S).bind fun x => if D.norefA x.1 = true then match F x.1 [] with
  | .ok (d, []) => .ok (d, x.2)
  | _ => .bad
  else .bad
theorem e2_callP {F : FD} {ms : MA} {k : Nat} {f : Addr} {fd : FuncData} {ps : List Str} {x : Str} {p : Pos} {e : Expr} {es : List Expr} {n : Nat} (G : FnOk X.prog X.w X.K X.mg X.base CX0 k f fd ps (Fn2 X.K n F)) (hr : Room k X.A) (hg : Gl X x) (hm : X.mg x = some (.ref f)) (hk : PySem.W.keepIn X.K (.ref f) = true) (hb : Binds X.K fd ps [])
    (ha : PA2 X W wk (e :: es) ms) (hn : ∀ sg S ds S', ms sg S = .ok (ds, S') → ds.length = n) (hdb : (x == ("__debug__" : Str)) = false := by decide) (he : starEach (e :: es) X.env = (false, eval e X.env) :: starEach es X.env := by rfl) (hpl : (backTo pos (starEach es X.env)).any (·.1) = false := by rfl) :
    PE2 X W wk (.Call (.Name x p) (e :: es) [] pos) (mCallP F ms) := by
  obtain ⟨t, a1, a2⟩ := ha
  refine ⟨_, pe_call G hr hg hm hk hb .nil pass0 a1 hdb he hpl, fun B H0 as ks ow sg S σ H Q r h => ?_⟩
  refine a2 _ _ _ _ _ _ _ _ _ _ r (Den.bind h fun ds S1 vs H1 e0 e1 s1 q1 h1 => ?_)
  have r1 := r.step e1 s1
  rw [List.append_nil]
  by_cases hf : D.norefA ds = true
  · simp only [if_pos hf] at h1
    refine ⟨by rw [← q1.length]; exact hn _ _ _ _ e0, (if wk then (· ∈ as) else Bd B ow), [], [], ds, fun a ha => r1.bdDom a (wkBd r1 a ha), (fun a ha => absurd ha List.not_mem_nil), ⟨rfl, List.nodup_nil, (fun n o z => by simp at z)⟩, RepA.noref ds vs hf q1, ?_⟩
    cases eF : F ds [] with
    | ok z =>
      obtain ⟨d, S'⟩ := z
      cases S' with
      | nil =>
        simp only [eF] at h1
        intro v H' e s q
        have e' : Evo (fun _ => False) H1 H' := e.weak fun a z => by cases z
        exact h1 v H' e'.any (r1.stoNew e') (Rep.ofNil d v q)
      | cons o S' => simp only [eF] at h1; exact False.elim h1
    | ex => simp only [eF] at h1; exact False.elim h1
    | bad => simp only [eF] at h1; exact False.elim h1
  · simp only [if_neg hf] at h1
    exact False.elim h1

/-! ### a method that changes a name's own object -/
def O.isL : O → Bool
  | .lst _ => true
  | _ => false
def O.isD : O → Bool
  | .dic _ _ => true
  | _ => false
def OwnOk (K : PySem.W.Frag) (T : String) (c : O → Bool) (f : O → List D → Option (O × D)) (r : V → List V → Hp → VK → Prop) : Prop := ∀ (as : List Addr) (Bs : Addr → Prop) (H : Hp) (o : O) (a : Addr), ORep K as Bs H o a → Bs a → c o = true →
  tyV K T (.ref a) H ∧ ∀ H2 ds vs o' z (Q : VK), ORep K as Bs H2 o a → RepA K as Bs H2 ds vs → f o ds = some (o', z) → (∀ u ho, ORep K as Bs (upd H2 a ho) o' a → Rep K as Bs (upd H2 a ho) z u → Q u (upd H2 a ho)) → r (.ref a) vs H2 Q
def mOwn (i : Nat) (c : O → Bool) (f : O → List D → Option (O × D)) (ms : MA) : List Sl → List O → R (D × List Sl × List O) := fun sg S => match sg[i]? with
  | some (.own o) => if c o = true then (ms sg S).bind fun x => match f o x.1 with
      | some (o', z) => .ok (z, sg.set i (.own o'), x.2)
      | none => .bad
    else .bad
  | _ => .bad
def mOwnE (i : Nat) (c : O → Bool) (f : O → List D → Option (O × D)) (ms : MA) : MS := fun sg S => (mOwn i c f ms sg S).bind fun x => .ok (.nx, x.2)
def mOwnS (i j : Nat) (c : O → Bool) (f : O → List D → Option (O × D)) (ms : MA) : MS := fun sg S => (mOwn i c f ms sg S).bind fun x => .ok (.nx, x.2.1.set j (.val x.1), x.2.2)
theorem own_den {T : String} {c : O → Bool} {f : O → List D → Option (O × D)} {r2 : V → List V → Hp → VK → Prop} {i : Nat} {ms : MA} {t : TA} (hop : OwnOk X.K T c f r2)
    (a2 : ∀ B H0 as ks ow sg S σ H (Q : List V → Hp → Prop), Rl X.K B H0 as ks ow sg S σ H → Den (ctOf X W B H0 as ks) ow ((ctOf X W B H0 as ks).rpa ow false) (ms sg S) H Q → t σ H Q)
    {B : Addr → Prop} {H0 : Hp} {as : List Addr} {ks : List (D × V)} {ow : List (Option Addr)} {sg : List Sl} {S : List O} {σ : L2.St} {H : Hp} {Dd : Ends} {k : D × List Sl × List O → R (Fl × List Sl × List O)} (r : Rl X.K B H0 as ks ow sg S σ H)
    (h : DenS (ctOf X W B H0 as ks) ((mOwn i c f ms sg S).bind k) Dd) (Q : VK)
    (hQ : ∀ u z sg' S' H', Rl X.K B H0 as ks ow sg' S' σ H' → Rep X.K as (Bd B ow) H' z u → DenS (ctOf X W B H0 as ks) (k (z, sg', S')) Dd → Q u H') :
    tVar i σ H fun x H1 => tyV X.K T x H1 ∧ t σ H1 fun xs H2 => r2 x xs H2 Q := by
  cases e : sg[i]? with
  | none => simp only [mOwn, e] at h; exact False.elim h
  | some s =>
    cases s with
    | no => simp only [mOwn, e] at h; exact False.elim h
    | val d => simp only [mOwn, e] at h; exact False.elim h
    | own o =>
      obtain ⟨w, x, h1, h2, a, h3, h4, h5⟩ := r.sl i _ e
      subst h3
      subst h4
      have ha := List.mem_of_getElem? h1
      by_cases hc : c o = true
      · simp only [mOwn, e, if_pos hc] at h
        obtain ⟨ty, go⟩ := hop as (Bd B ow) H o a h5 (.inr ha) hc
        refine ⟨_, h2, ty, a2 _ _ _ _ _ _ _ _ _ _ r ?_⟩
        revert h
        cases ms sg S with
        | ok y =>
          obtain ⟨ds, S1⟩ := y
          intro h vs H2 e2 s2 q2
          have r2 := r.step e2 s2
          have o2 : ORep X.K as (Bd B ow) H2 o a := ORep.imp e2 r.asBd (fun _ z => z) o a (r.ownAs ha) h5
          cases ef : f o ds with
          | none => simp only [R.bind, ef] at h; exact False.elim h
          | some p =>
            obtain ⟨o', z⟩ := p
            simp only [R.bind, ef] at h
            exact go H2 ds vs o' z Q o2 q2 ef fun u ho k1 k2 => hQ u z _ S1 _ (r2.putOwn e h1 k1) k2 h
        | ex => exact fun h => h
        | bad => exact fun h => h
      · simp only [mOwn, e, if_neg hc] at h; exact False.elim h
section
variable {x y meth : Str} {px py apos cpos : Pos} {e : Expr} {es : List Expr} {T id : String} {c : O → Bool} {f : O → List D → Option (O × D)} {r2 : V → List V → Hp → VK → Prop} {ms : MA}
/-- x.meth(e, ..) -/
theorem s2_ownE (i : Nat) (pa : PlainAttrs T) (slot : Slot T meth id) (hty : typeOf (.builtin id) = pure (.type "method_descriptor")) (hm : MtR X id r2) (hop : OwnOk X.K T c f r2) (ha : PA2 X W false (e :: es) ms)
    (hN : X.N[i]? = some x := by rfl) (hv : Vis X.env.scope x := by first | exact Or.inl rfl | exact Or.inr (Or.inl rfl) | exact Or.inr (Or.inr rfl)) (hd : (x == ("__debug__" : Str)) = false := by decide) (hcd : (x == ("__classdict__" : Str)) = false := by decide)
    (hbase : attributeBase (.Name x px) meth X.env (eval (.Name x px) X.env) = eval (.Name x px) X.env := by rfl)
    (hfew : ((backTo cpos (starEach (e :: es) X.env)).all (fun x => !x.1) && (backToKw cpos (keywordEach [] X.env)).all (fun x => x.1.isSome)
      && decide ((e :: es).length + ([] : List Keyword).length + (if ([] : List Keyword).isEmpty then 0 else 1) < 30)) = true := by rfl)
    (hline : (apos.endLine == cpos.line) = true := by rfl) (hs : starEach (e :: es) X.env = (false, eval e X.env) :: starEach es X.env := by rfl) (hplain : (backTo cpos (starEach es X.env)).any (·.1) = false := by rfl)
    (hsw : swapsWith (.Call (.Attribute (.Name x px) meth apos) (e :: es) [] cpos) none pos.line X.env = pure false := by rfl) :
    PS2 X W (.Expr (.Call (.Attribute (.Name x px) meth apos) (e :: es) [] cpos) pos) (mOwnE i c f ms) := by
  obtain ⟨t, a1, a2⟩ := ha
  refine ⟨_, ps_expr (pe_bm pa slot hty hm (pe_var hN hv hd hcd) a1 hbase hfew hline hs hplain) hsw, fun B H0 as ks ow sg S σ H Dd r h => ?_⟩
  exact own_den hop a2 r h _ fun u z sg' S' H' r' q' h' => h' _ _ _ r'
theorem s2_ownE0 (i : Nat) (pa : PlainAttrs T) (slot : Slot T meth id) (hty : typeOf (.builtin id) = pure (.type "method_descriptor")) (hm : MtR X id r2) (hop : OwnOk X.K T c f r2)
    (hN : X.N[i]? = some x := by rfl) (hv : Vis X.env.scope x := by first | exact Or.inl rfl | exact Or.inr (Or.inl rfl) | exact Or.inr (Or.inr rfl)) (hd : (x == ("__debug__" : Str)) = false := by decide) (hcd : (x == ("__classdict__" : Str)) = false := by decide)
    (hbase : attributeBase (.Name x px) meth X.env (eval (.Name x px) X.env) = eval (.Name x px) X.env := by rfl) (hline : (apos.endLine == cpos.line) = true := by rfl)
    (hsw : swapsWith (.Call (.Attribute (.Name x px) meth apos) [] [] cpos) none pos.line X.env = pure false := by rfl) :
    PS2 X W (.Expr (.Call (.Attribute (.Name x px) meth apos) [] [] cpos) pos) (mOwnE i c f mNil) := by
  refine ⟨_, ps_expr (pe_bm0 pa slot hty hm (pe_var hN hv hd hcd) hbase hline) hsw, fun B H0 as ks ow sg S σ H Dd r h => ?_⟩
  exact own_den (W := W) (ms := mNil) (t := tNil) hop (fun B H0 as ks ow sg S σ H Q r h => h [] H Evo.refl r.sto rfl) r h _ fun u z sg' S' H' r' q' h' => h' _ _ _ r'
/-- y = x.meth() -/
theorem s2_ownS0 (i j : Nat) (pa : PlainAttrs T) (slot : Slot T meth id) (hty : typeOf (.builtin id) = pure (.type "method_descriptor")) (hm : MtR X id r2) (hop : OwnOk X.K T c f r2) (hND : X.N.Nodup)
    (hN : X.N[i]? = some x := by rfl) (hv : Vis X.env.scope x := by first | exact Or.inl rfl | exact Or.inr (Or.inl rfl) | exact Or.inr (Or.inr rfl)) (hd : (x == ("__debug__" : Str)) = false := by decide) (hcd : (x == ("__classdict__" : Str)) = false := by decide)
    (hbase : attributeBase (.Name x px) meth X.env (eval (.Name x px) X.env) = eval (.Name x px) X.env := by rfl) (hline : (apos.endLine == cpos.line) = true := by rfl)
    (hj : X.N[j]? = some y := by rfl) (hy : Loc X.env.scope y := by first | exact Or.inl rfl | exact Or.inr rfl) (hf : X.fn y = true ∨ X.env.scope.names.lookup y = some .local := by first | exact .inl rfl | exact .inr rfl)
    (hsw : swapsWithSole [.Name y py] (.Call (.Attribute (.Name x px) meth apos) [] [] cpos) pos.line X.env = pure false := by rfl) (hw : swappedStores [.Name y py] (.Call (.Attribute (.Name x px) meth apos) [] [] cpos) X.env = pure none := by rfl) (h1 : (assignEach [.Name y py] X.env).map (·.2) = [assign (.Name y py) X.env] := by rfl) :
    PS2 X W (.Assign [.Name y py] (.Call (.Attribute (.Name x px) meth apos) [] [] cpos) pos) (mOwnS i j c f mNil) := by
  refine ⟨_, ps_asg (pe_bm0 pa slot hty hm (pe_var hN hv hd hcd) hbase hline) (pg_name hND hj hy hf) hsw hw h1, fun B H0 as ks ow sg S σ H Dd r h => ?_⟩
  exact own_den (W := W) (ms := mNil) (t := tNil) hop (fun B H0 as ks ow sg S σ H Q r h => h [] H Evo.refl r.sto rfl) r h _ fun u z sg' S' H' r' q' h' => h' _ _ _ (r'.setVal j q')
end
/-! the methods -/
theorem tyL {K : PySem.W.Frag} {H : Hp} {a : Addr} {xs : List V} (h : H a = some (.lst xs)) : tyV K "list" (.ref a) H := .inl ⟨rfl, xs, SqL.of h⟩
theorem put_rep {K : PySem.W.Frag} {as : List Addr} {Bs : Addr → Prop} {H : Hp} {a : Addr} {t u : HO} {ds : List D} {xs : List V} (ht : H a = some t) (n1 : ∀ xs, t ≠ .tup xs) (n2 : ∀ ob w, t ≠ .frz ob w) (hb : Bs a) (h : RepA K as Bs H ds xs) : RepA K as Bs (upd H a u) ds xs :=
  RepA.imp (W := (· = a)) (Evo.put ht n1 n2 rfl) (fun b z => z ▸ hb) (fun _ z => z) _ _ h
def O.append : O → List D → Option (O × D)
  | .lst ds, [d] => if ds.length < 16777216 then some (.lst (ds ++ [d]), .non) else none
  | _, _ => none
theorem own_append {K : PySem.W.Frag} : OwnOk K "list" O.isL O.append rAppend := by
  intro as Bs H o a ho hb hc
  cases o <;> try (cases hc; done)
  rename_i xs
  obtain ⟨vs, g1, g2⟩ := ho
  refine ⟨tyL g1, fun H2 ds ws o' z Q h2 hd e q => ?_⟩
  obtain ⟨vs, g1, g2⟩ := h2
  match ds, e with
  | [d], e =>
    simp only [O.append] at e
    split at e
    · rename_i hl
      cases e
      obtain ⟨w, r, ew, k1, k2⟩ := hd
      have k2' : r = [] := k2
      subst k2'
      refine ⟨a, vs, w, rfl, ew, g1, lineL (by rw [← g2.length]; exact hl), q .non _ ⟨vs ++ [w], upd_same, ?_⟩ rfl⟩
      exact put_rep g1 (fun _ z => by cases z) (fun _ _ z => by cases z) hb (g2.append (RepA.one k1))
    · cases e
def O.extend : O → List D → Option (O × D)
  | .lst ds, [.lst es] => if ds.length + es.length ≤ 16777216 then some (.lst (ds ++ es), .non) else none
  | _, _ => none
theorem own_extend {K : PySem.W.Frag} : OwnOk K "list" O.isL O.extend rExtend := by
  intro as Bs H o a ho hb hc
  cases o <;> try (cases hc; done)
  rename_i xs
  obtain ⟨vs, g1, g2⟩ := ho
  refine ⟨tyL g1, fun H2 ds ws o' z Q h2 hd e q => ?_⟩
  obtain ⟨vs, g1, g2⟩ := h2
  match ds, e with
  | [.lst es], e =>
    simp only [O.extend] at e
    split at e
    · rename_i hl
      cases e
      obtain ⟨w, r, ew, k1, k2⟩ := hd
      have k2' : r = [] := k2
      subst k2'
      obtain ⟨b, us, eb, nb, k3, k4⟩ := k1
      subst eb
      refine ⟨a, b, vs, us, rfl, ew, g1, k3, lineN (by rw [← g2.length, ← k4.length]; exact hl), q .non _ ⟨vs ++ us, upd_same, ?_⟩ rfl⟩
      exact put_rep g1 (fun _ z => by cases z) (fun _ _ z => by cases z) hb (g2.append k4)
    · cases e
def O.pop : O → List D → Option (O × D)
  | .lst ds, [] => match ds[ds.length - 1]? with
    | some d => some (.lst ds.dropLast, d)
    | none => none
  | _, _ => none
theorem own_pop {K : PySem.W.Frag} : OwnOk K "list" O.isL O.pop rPop := by
  intro as Bs H o a ho hb hc
  cases o <;> try (cases hc; done)
  rename_i xs
  obtain ⟨vs, g1, g2⟩ := ho
  refine ⟨tyL g1, fun H2 ds ws o' z Q h2 hd e q => ?_⟩
  obtain ⟨vs, g1, g2⟩ := h2
  cases ds with
  | cons _ _ => cases e
  | nil =>
    have hd' : ws = [] := hd
    subst hd'
    simp only [O.pop] at e
    split at e
    · rename_i d hl
      cases e
      obtain ⟨v, k1, k2⟩ := g2.get hl
      rw [g2.length] at k1
      refine ⟨a, vs, v, rfl, rfl, g1, k1, q v _ ⟨vs.dropLast, upd_same, ?_⟩ ?_⟩
      · exact put_rep g1 (fun _ z => by cases z) (fun _ _ z => by cases z) hb g2.dropLast
      · exact Rep.imp (W := (· = a)) (Evo.put g1 (fun _ z => by cases z) (fun _ _ z => by cases z) rfl) (fun b z => z ▸ hb) (fun _ z => z) _ _ k2
    · cases e
end
end D2

namespace D2
open PySem PySem.Spec PyProof.Rows L2

/-! ### a dict as two lists -/
def dicPut (ks : List Key) (ds : List D) (k : Key) (d : D) : List Key × List D :=
  if (ks.any fun j => decide (j = k)) = true then (ks, List.zipWith (fun j e => if j = k then d else e) ks ds) else (ks ++ [k], ds ++ [d])
section
variable {K : PySem.W.Frag} {as : List Addr} {B : Addr → Prop} {H : Hp}
theorem zip_any (k : Key) : ∀ {ks : List Key} {xs : List V}, ks.length = xs.length → ((ks.zip xs).any fun kv => decide (kv.1 = k)) = ks.any fun j => decide (j = k)
  | [], xs, _ => by simp
  | j :: ks, [], h => by cases h
  | j :: ks, x :: xs, h => by
    rw [List.zip_cons_cons, List.any_cons, List.any_cons, zip_any k (by simpa using h)]
theorem zip_put (k : Key) (v : V) : ∀ {ks : List Key} {xs : List V}, ks.length = xs.length → (ks.zip xs).map (fun kv => if kv.1 = k then (kv.1, v) else kv) = ks.zip (List.zipWith (fun j e => if j = k then v else e) ks xs)
  | [], xs, _ => by simp
  | j :: ks, [], h => by cases h
  | j :: ks, x :: xs, h => by
    rw [List.zip_cons_cons, List.map_cons, List.zipWith_cons_cons, List.zip_cons_cons, zip_put k v (by simpa using h)]
    by_cases e : j = k
    · simp [e]
    · simp [e]
theorem rep_zipPut (k : Key) {d : D} {v : V} (hd : Rep K as B H d v) : ∀ {ks : List Key} {ds : List D} {xs : List V}, RepA K as B H ds xs → RepA K as B H (List.zipWith (fun j e => if j = k then d else e) ks ds) (List.zipWith (fun j e => if j = k then v else e) ks xs)
  | [], ds, xs, _ => by
    simp only [List.zipWith_nil_left]
    exact rfl
  | j :: ks, [], xs, h => by
    have e : xs = [] := h
    subst e
    exact rfl
  | j :: ks, c :: ds, xs, h => by
    obtain ⟨w, ws, e1, h1, h2⟩ := h
    subst e1
    rw [List.zipWith_cons_cons, List.zipWith_cons_cons]
    refine RepA.cons ?_ (rep_zipPut k hd h2)
    by_cases e : j = k
    · rw [if_pos e, if_pos e]; exact hd
    · rw [if_neg e, if_neg e]; exact h1
theorem dicPut_rep {ks : List Key} {ds : List D} {xs : List V} (k : Key) {d : D} {v : V} (hl : ks.length = xs.length) (h : RepA K as B H ds xs) (hd : Rep K as B H d v) :
    ∃ ys, putK (ks.zip xs) k v = (dicPut ks ds k d).1.zip ys ∧ (dicPut ks ds k d).1.length = ys.length ∧ RepA K as B H (dicPut ks ds k d).2 ys := by
  unfold putK dicPut
  rw [zip_any k hl]
  by_cases c : (ks.any fun j => decide (j = k)) = true
  · rw [if_pos c, if_pos c]
    refine ⟨_, zip_put k v hl, ?_, rep_zipPut k hd h⟩
    show ks.length = (List.zipWith _ ks xs).length
    rw [List.length_zipWith, ← hl]
    exact (Nat.min_self _).symm
  · rw [if_neg c, if_neg c]
    refine ⟨xs ++ [v], ?_, ?_, h.append (RepA.one hd)⟩
    · rw [List.zip_append hl]; rfl
    · simp [hl]
end

/-! ### x[k] = e -/
def O.put : O → D → D → Option O
  | .lst ds, .int j, d => match ixN ds.length j with
    | some p => some (.lst (ds.set p d))
    | none => none
  | .dic ks ds, k, d => match k.key? with
    | some k => if ks.length < 16777216 then some (.dic (dicPut ks ds k d).1 (dicPut ks ds k d).2) else none
    | none => none
  | _, _, _ => none
def rPut : TSet := fun o i v H Q => rSetL o i v H Q ∨ ∃ a H', o = .ref a ∧ DPut H a i v H' ∧ Q H'
theorem set_any {X : Cx} (hu : X.A.units + 1 < cLine) : PSet X rPut := by
  intro pins s σ H o i v ov iv u Q I ro ri rv h
  rcases h with h | ⟨a, H', rfl, g, q⟩
  · exact set_list pins s σ H o i v ov iv u Q I ro ri rv h
  · cases ro
    exact d_setItem hu I g ri rv fun s' I' => ⟨H', I', q⟩
theorem put_ok {K : PySem.W.Frag} {as : List Addr} {Bs : Addr → Prop} {H : Hp} {o o' : O} {a : Addr} {i d : D} {iv v : V} {Q : Hp → Prop} (ho : ORep K as Bs H o a) (hb : Bs a) (hi : Rep K as Bs H i iv) (hd : Rep K as Bs H d v) (e : o.put i d = some o')
    (q : ∀ u, ORep K as Bs (upd H a u) o' a → Q (upd H a u)) : rPut (.ref a) iv v H Q := by
  cases o with
  | lst ds =>
    cases i <;> try (cases e; done)
    rename_i j
    obtain ⟨xs, g1, g2⟩ := ho
    simp only [O.put] at e
    cases c : ixN ds.length j with
    | none => rw [c] at e; cases e
    | some p =>
      rw [c] at e
      cases e
      refine .inl ⟨a, xs, j, p, rfl, hi, g1, by rw [← g2.length]; exact c, q _ ⟨xs.set p v, upd_same, ?_⟩⟩
      exact put_rep g1 (fun _ z => by cases z) (fun _ _ z => by cases z) hb (g2.set p hd)
  | dic ks ds =>
    obtain ⟨xs, g1, gl, g2⟩ := ho
    simp only [O.put] at e
    cases c : i.key? with
    | none => rw [c] at e; cases e
    | some k =>
      rw [c] at e
      simp only at e
      split at e
      · rename_i hl
        cases e
        have ek := key_rep hi c
        subst ek
        obtain ⟨ys, y1, y2, y3⟩ := dicPut_rep k gl g2 hd
        refine .inr ⟨a, _, rfl, DPut.k (k := k) g1 (by rw [List.length_zip]; exact lineL (by omega)), q _ ⟨ys, by rw [upd_same, y1], y2, ?_⟩⟩
        exact put_rep g1 (fun _ z => by cases z) (fun _ _ z => by cases z) hb y3
      · cases e
section
variable {X : Cx} {W : WX2} {wk : Bool} {pos : Pos}
def mPut (i : Nat) (me mk : ME) : MS := fun sg S => (me sg S).bind fun x => match sg[i]? with
  | some (.own o) => (mk sg x.2).bind fun k => match o.put k.1 x.1 with
    | some o' => .ok (.nx, sg.set i (.own o'), k.2)
    | none => .bad
  | some (.val (.ref n)) => (mk sg x.2).bind fun k => match k.2[n]? with
    | some o => match o.put k.1 x.1 with
      | some o' => .ok (.nx, sg, k.2.set n o')
      | none => .bad
    | none => .bad
  | _ => .bad
theorem s2_put (i : Nat) {x : Str} {px p2 : Pos} {k e : Expr} {me mk : ME} (hu : X.A.units + 1 < cLine) (he : PE2 X W false e me) (hk : PE2 X W false k mk)
    (hN : X.N[i]? = some x := by rfl) (hv : Vis X.env.scope x := by first | exact Or.inl rfl | exact Or.inr (Or.inl rfl) | exact Or.inr (Or.inr rfl)) (hd : (x == ("__debug__" : Str)) = false := by decide) (hcd : (x == ("__classdict__" : Str)) = false := by decide)
    (ha : ∀ v, assign (.Subscript (.Name x px) k p2) X.env v = (do
      let ov ← PySem.holding [v] (eval (.Name x px) X.env)
      let iv ← PySem.holding [v, ov] (eval k X.env)
      standAt p2
      PySem.holding [v, ov, iv] (setItem ov iv v)
      release [v, ov, iv] []) := by intro _; rfl)
    (hs : swapsWithSole [.Subscript (.Name x px) k p2] e pos.line X.env = pure false := by rfl) (hw : swappedStores [.Subscript (.Name x px) k p2] e X.env = pure none := by rfl)
    (h1 : (assignEach [.Subscript (.Name x px) k p2] X.env).map (·.2) = [assign (.Subscript (.Name x px) k p2) X.env] := by rfl) : PS2 X W (.Assign [.Subscript (.Name x px) k p2] e pos) (mPut i me mk) := by
  obtain ⟨t, a1, a2⟩ := he
  obtain ⟨u, b1, b2⟩ := hk
  refine ⟨_, ps_asg a1 (pg_sub (pe_var hN hv hd hcd) b1 (set_any hu) ha) hs hw h1, fun B H0 as ks ow sg S σ H Dd r h => ?_⟩
  refine a2 _ _ _ _ _ _ _ _ _ _ r (DenS.bindE h fun d S1 v H1 e0 e1 s1 q1 h1 => ?_)
  have r1 := r.step e1 s1
  cases e : sg[i]? with
  | none => simp only [e] at h1; exact False.elim h1
  | some s =>
    cases s with
    | no => simp only [e] at h1; exact False.elim h1
    | own o =>
      simp only [e] at h1
      obtain ⟨w, xx, g1, g2, a, g3, g4, g5⟩ := r1.sl i _ e
      subst g3
      subst g4
      have hm := List.mem_of_getElem? g1
      refine ⟨.ref a, g2, ?_⟩
      refine b2 _ _ _ _ _ _ _ _ _ _ r1 (DenS.bindE h1 fun kd S2 kv H2 c0 e2 s2 q2 h2 => ?_)
      have r2 := r1.step e2 s2
      cases ep : o.put kd d with
      | none => simp only [ep] at h2; exact False.elim h2
      | some o' =>
        simp only [ep] at h2
        have g6 : ORep X.K as (Bd B ow) H2 o a := ORep.imp e2 r.asBd (fun _ z => z) o a (r1.ownAs hm) g5
        have q1' := Rep.imp (B' := Bd B ow) e2 r.asBd (fun _ z => z) d v q1
        exact put_ok g6 (.inr hm) q2 q1' ep fun u k1 => h2 _ _ _ (r2.putOwn e g1 k1)
    | val vd =>
      cases vd <;> try (simp only [e] at h1; exact False.elim h1)
      rename_i n
      simp only [e] at h1
      obtain ⟨w, xx, g1, g2, g3, vv, g4, g5⟩ := r1.sl i _ e
      subst g4
      obtain ⟨a, ea, hn⟩ := g5
      subst ea
      refine ⟨.ref a, g2, ?_⟩
      refine b2 _ _ _ _ _ _ _ _ _ _ r1 (DenS.bindE h1 fun kd S2 kv H2 c0 e2 s2 q2 h2 => ?_)
      have r2 := r1.step e2 s2
      cases eo : S2[n]? with
      | none => simp only [eo] at h2; exact False.elim h2
      | some o =>
        simp only [eo] at h2
        cases ep : o.put kd d with
        | none => simp only [ep] at h2; exact False.elim h2
        | some o' =>
          simp only [ep] at h2
          obtain ⟨a', ha', g6⟩ := r2.sto.ob n o eo
          rw [hn] at ha'
          cases ha'
          have q1' := Rep.imp (B' := Bd B ow) e2 r.asBd (fun _ z => z) d v q1
          obtain ⟨t, ht, n1, n2⟩ := g6.there
          exact put_ok g6 (r.asBd a (List.mem_of_getElem? hn)) q2 q1' ep fun u k1 => h2 _ _ _ (r2.putSto hn ht n1 n2 k1).1
/-! ### x[k]: also of an object that several may change -/
def ixS (S : List O) : D → D → Option D
  | .ref n, y => match S[n]? with
    | some o => D.ixo o.toD y
    | none => none
  | x, y => D.ixo x y
def mIx (ma mb : ME) : ME := fun sg S => (ma sg S).bind fun x => (mb sg x.2).bind fun y => R.of ((ixS y.2 x.1 y.1).map fun z => (z, y.2))
theorem e2_sub {a b : Expr} {ma mb : ME} (hu : X.A.units + 1 < cLine) (ha : PE2 X W wk a ma) (hb : PE2 X W wk b mb) (hs : PlainIx b) : PE2 X W wk (.Subscript a b pos) (mIx ma mb) := by
  obtain ⟨ta, a1, a2⟩ := ha
  obtain ⟨tb, b1, b2⟩ := hb
  refine ⟨_, pe_ix (ix_all hu) a1 b1 hs, fun B H0 as ks ow sg S σ H Q r h => ?_⟩
  refine a2 _ _ _ _ _ _ _ _ _ _ r (Den.bind h fun x S1 v H1 c1 e1 s1 q1 h1 => ?_)
  have r1 := r.step e1 s1
  refine b2 _ _ _ _ _ _ _ _ _ _ r1 (Den.bind h1 fun y S2 w H2 c2 e2 s2 q2 h2 => ?_)
  clear c1 c2 h1
  have r2 := r1.step e2 s2
  have q1' := Rep.imp (B' := if wk then (· ∈ as) else Bd B ow) e2 (asWk r) (fun _ z => z) x v q1
  cases e : ixS S2 x y with
  | none =>
    simp only [e] at h2
    exact False.elim h2
  | some z =>
    simp only [e] at h2
    have fin : ∀ u H', Evo (fun _ => False) H2 H' → Rep X.K as (if wk then (· ∈ as) else Bd B ow) H' z u → Q u H' := fun u H' e3 q3 => h2 u H' e3.any (r2.stoNew e3) q3
    have dflt : D.ixo x y = some z → rIx2 X.K v w H2 Q := fun e => ok_ix as (Bd B ow) (· ∈ as) H2 x y z v w Q r.asBd r2.bdDom q1' q2 e fin
    cases x with
    | ref n =>
      simp only [ixS] at e
      cases eo : S2[n]? with
      | none => rw [eo] at e; cases e
      | some o =>
        rw [eo] at e
        simp only at e
        obtain ⟨a, ea, hn0⟩ := q1'
        have hn : as[n]? = some a := hn0
        subst ea
        obtain ⟨a', ha', g6⟩ := r2.sto.ob n o eo
        rw [hn] at ha'
        cases ha'
        -- the object is read as a list that no one changes just now
        have g7 : Rep X.K as (fun _ => False) H2 o.toD (.ref a) := g6.rep (fun _ z => z.elim) fun z => z
        cases o with
        | lst ds =>
          obtain ⟨xs, g1, g2⟩ := g6
          cases y <;> try (simp only [O.toD, D.ixo] at e; cases e; done)
          rename_i i
          obtain ⟨u, k1, k2⟩ := atI_rep g2 e
          exact .inl (.inl ⟨a, xs, i, u, rfl, q2, SqL.of g1, k1, fin _ _ Evo.refl (Rep.imp (W := fun _ => False) Evo.refl (fun _ z => z.elim) (wkBd r) _ _ k2)⟩)
        | dic ks2 ds =>
          obtain ⟨xs, g1, gl, g2⟩ := g6
          simp only [O.toD, D.ixo] at e
          split at e
          · rename_i k c1
            have ek := key_rep q2 c1
            subst ek
            obtain ⟨u, k1, k2⟩ := (dicGet_val (j := k) gl g2).2 z e
            exact .inr ⟨a, u, rfl, .inl ⟨_, k, .inl g1, rfl, k1.symm⟩, fin _ _ Evo.refl (Rep.imp (W := fun _ => False) Evo.refl (fun _ z => z.elim) (wkBd r) _ _ k2)⟩
          · cases e
    | _ => exact dflt e

/-! ### {k: v, ..} -/
abbrev MP := List Sl → List O → R (List (D × D) × List O)
def mPn : MP := fun _ S => .ok ([], S)
def mPc (mk mv : ME) (mp : MP) : MP := fun sg S => (mk sg S).bind fun k => (mv sg k.2).bind fun v => (mp sg v.2).bind fun p => .ok ((k.1, v.1) :: p.1, p.2)
def rpP (c : Ct) (ow : List (Option Addr)) : Hp → List (D × D) → List (V × V) → Prop := fun H ds vs => RepA c.K c.as (Bd c.B ow) H (ds.map (·.1)) (vs.map (·.1)) ∧ RepA c.K c.as (Bd c.B ow) H (ds.map (·.2)) (vs.map (·.2)) ∧ ds.length = vs.length
def PP2 (X : Cx) (W : WX2) (pos : Pos) (keys : List (Option Expr)) (values : List Expr) (m : MP) : Prop := ∃ trs, PPs X pos keys values trs ∧ ∀ B H0 as ks ow sg S σ H (Q : List (V × V) → Hp → Prop), Rl X.K B H0 as ks ow sg S σ H →
  Den (ctOf X W B H0 as ks) ow (rpP (ctOf X W B H0 as ks) ow) (m sg S) H Q → tPairs trs σ H Q
theorem p2_nil : PP2 X W pos [] [] mPn := ⟨_, pps_nil, fun B H0 as ks ow sg S σ H Q r h => h [] H Evo.refl r.sto ⟨rfl, rfl, rfl⟩⟩
theorem p2_cons {k v : Expr} {keys : List (Option Expr)} {values : List Expr} {mk mv : ME} {mp : MP} (hk : PE2 X W false k mk) (hv : PE2 X W false v mv) (hr : PP2 X W pos keys values mp) : PP2 X W pos (some k :: keys) (v :: values) (mPc mk mv mp) := by
  obtain ⟨tk, a1, a2⟩ := hk
  obtain ⟨tv, b1, b2⟩ := hv
  obtain ⟨tr, c1, c2⟩ := hr
  refine ⟨_, pps_cons a1 b1 c1, fun B H0 as ks ow sg S σ H Q r h => ?_⟩
  refine a2 _ _ _ _ _ _ _ _ _ _ r (Den.bind h fun x S1 u H1 _ e1 s1 q1 h1 => ?_)
  have r1 := r.step e1 s1
  refine b2 _ _ _ _ _ _ _ _ _ _ r1 (Den.bind h1 fun y S2 w H2 _ e2 s2 q2 h2 => ?_)
  have r2 := r1.step e2 s2
  refine c2 _ _ _ _ _ _ _ _ _ _ r2 (Den.bind h2 fun p S3 vs H3 _ e3 s3 q3 h3 => ?_)
  obtain ⟨k1, k2, k3⟩ := q3
  refine h3 ((u, w) :: vs) H3 Evo.refl s3 ⟨RepA.cons ?_ k1, RepA.cons ?_ k2, by simp [k3]⟩
  · exact Rep.imp (B' := Bd B ow) (e2.trans e3) r.asBd (fun _ z => z) _ _ q1
  · exact Rep.imp (B' := Bd B ow) e3 r.asBd (fun _ z => z) _ _ q2
def dicMerge : List (Key × D) → List Key → List D → List Key × List D
  | [], ks, ds => (ks, ds)
  | (k, d) :: r, ks, ds => dicMerge r (dicPut ks ds k d).1 (dicPut ks ds k d).2
def keyed : List (D × D) → Option (List (Key × D))
  | [] => some []
  | (k, d) :: r => match k.key?, keyed r with
    | some k, some r => some ((k, d) :: r)
    | _, _ => none
def oDisp (mp : MP) : MO := fun sg S => (mp sg S).bind fun x => match keyed x.1 with
  | some ps => if ps.length ≤ 15 then .ok (.dic (dicMerge ps [] []).1 (dicMerge ps [] []).2, x.2) else .bad
  | none => .bad
theorem merge_rep {K : PySem.W.Frag} {as : List Addr} {Bs : Addr → Prop} {H : Hp} : ∀ {ps : List (Key × D)} {kvs : List (Key × V)} {ks : List Key} {ds : List D} {xs : List V}, ps.map (·.1) = kvs.map (·.1) → RepA K as Bs H (ps.map (·.2)) (kvs.map (·.2)) → ks.length = xs.length → RepA K as Bs H ds xs →
    ∃ ys, mergeK (ks.zip xs) kvs = (dicMerge ps ks ds).1.zip ys ∧ (dicMerge ps ks ds).1.length = ys.length ∧ RepA K as Bs H (dicMerge ps ks ds).2 ys
  | [], [], ks, ds, xs, _, _, hl, h => ⟨xs, rfl, hl, h⟩
  | [], _ :: _, _, _, _, e, _, _, _ => by cases e
  | _ :: _, [], _, _, _, e, _, _, _ => by cases e
  | (k, d) :: ps, (k', v) :: kvs, ks, ds, xs, e, r, hl, h => by
    rw [List.map_cons, List.map_cons] at e
    have e1 : k = k' := (List.cons.inj e).1
    have e2 := (List.cons.inj e).2
    subst e1
    obtain ⟨w, ws, ew, r1, r2⟩ := r
    have ew1 := (List.cons.inj ew).1
    have ew2 := (List.cons.inj ew).2
    simp only at ew1
    subst ew1
    rw [← ew2] at r2
    obtain ⟨ys, y1, y2, y3⟩ := dicPut_rep k hl h r1
    obtain ⟨zs, z1, z2, z3⟩ := merge_rep (ps := ps) (kvs := kvs) (ks := (dicPut ks ds k d).1) (ds := (dicPut ks ds k d).2) (xs := ys) e2 r2 y2 y3
    refine ⟨zs, ?_, z2, z3⟩
    show mergeK (putK (ks.zip xs) k v) kvs = _
    rw [y1]
    exact z1
theorem keyed_rep {K : PySem.W.Frag} {as : List Addr} {Bs : Addr → Prop} {H : Hp} : ∀ {ds : List (D × D)} {vs : List (V × V)} {ps : List (Key × D)}, RepA K as Bs H (ds.map (·.1)) (vs.map (·.1)) → RepA K as Bs H (ds.map (·.2)) (vs.map (·.2)) → ds.length = vs.length → keyed ds = some ps →
    ∃ kvs : List (Key × V), vs = kvs.map (fun kv => (kV kv.1, kv.2)) ∧ ps.map (·.1) = kvs.map (·.1) ∧ RepA K as Bs H (ps.map (·.2)) (kvs.map (·.2)) ∧ ps.length = kvs.length
  | [], [], ps, _, _, _, e => by
    cases e
    exact ⟨[], rfl, rfl, rfl, rfl⟩
  | [], _ :: _, _, _, _, e, _ => by cases e
  | _ :: _, [], _, _, _, e, _ => by cases e
  | (k, d) :: ds, (u, v) :: vs, ps, r1, r2, hl, e => by
    simp only [keyed] at e
    cases ek : k.key? with
    | none => rw [ek] at e; cases e
    | some k' =>
      cases er : keyed ds with
      | none => rw [ek, er] at e; cases e
      | some r =>
        rw [ek, er] at e
        cases e
        obtain ⟨w, ws, ew, a1, a2⟩ := r1
        obtain ⟨w', ws', ew', b1, b2⟩ := r2
        have f1 := (List.cons.inj ew).1
        have f2 := (List.cons.inj ew).2
        have f3 := (List.cons.inj ew').1
        have f4 := (List.cons.inj ew').2
        simp only at f1 f3
        subst f1 f3
        rw [← f2] at a2
        rw [← f4] at b2
        obtain ⟨kvs, k1, k2, k3, k4⟩ := keyed_rep (ds := ds) (vs := vs) a2 b2 (by simpa using hl) er
        have ev := key_rep a1 ek
        refine ⟨(k', v) :: kvs, by rw [List.map_cons, ← k1, ev], by rw [List.map_cons, List.map_cons, k2], RepA.cons b1 k3, by simp [k4]⟩
theorem f2_disp {keys : List (Option Expr)} {values : List Expr} {mp : MP} (h : PP2 X W pos keys values mp) (hall : keys.all (·.isSome) = true) (hl : keys.length = values.length) (h0 : keys ≠ []) (h15 : keys.length ≤ 15) : PF2 X W (.Dict keys values pos) (oDisp mp) := by
  obtain ⟨trs, a1, a2⟩ := h
  refine ⟨_, pe_disp a1 hall hl h0 h15, fun B H0 as ks ow sg S σ H Q r h p hp => ?_⟩
  have r1 : Rl X.K B H0 as ks (ow ++ [some p]) sg S σ (upd H p (.dK [])) := r.ghost hp
  have pas : p ∉ as := fun z => r.bdDom p (r.asBd p z) hp
  have evH : Evo (· ∈ as) H (upd H p (.dK [])) := Evo.new hp
  refine a2 _ _ _ _ _ _ _ _ _ _ r1 ?_
  revert h
  unfold oDisp
  cases mp sg S with
  | ok y =>
    obtain ⟨ds, S1⟩ := y
    intro h vs H2 e2 s2 q2
    obtain ⟨k1, k2, k3⟩ := q2
    have hp2 : H2 p = some (.dK []) := e2.keep _ _ upd_same pas
    refine ⟨hp2, ?_⟩
    simp only [R.bind] at h
    cases ek : keyed ds with
    | none => simp only [ek] at h; exact False.elim h
    | some ps =>
      simp only [ek] at h
      by_cases h15 : ps.length ≤ 15
      · simp only [if_pos h15] at h
        obtain ⟨kvs, l1, l2, l3, l4⟩ := keyed_rep k1 k2 k3 ek
        refine ⟨kvs, l1, by rw [← l4]; exact h15, ?_⟩
        have r2 := r1.step e2 s2
        have bp : ∀ b, b = p → Bd B (ow ++ [some p]) b := fun b z => .inr (z ▸ List.mem_append_right _ List.mem_cons_self)
        have ep : Evo (· = p) H2 (upd H2 p (.dK (mergeK [] kvs))) := Evo.put hp2 (fun _ z => by cases z) (fun _ _ z => by cases z) rfl
        obtain ⟨ys, y1, y2, y3⟩ := merge_rep (ks := []) (ds := []) (xs := []) l2 l3 rfl rfl
        have ev : Evo (· ∈ as) H (upd H2 p (.dK (mergeK [] kvs))) := by
          have e02 := evH.trans e2
          refine ⟨fun a o q n => ?_, fun a xs q => ?_, fun a ob w q => ?_, fun a q => ep.dom a (e02.dom a q)⟩
          · rw [upd_ne (ne_of_none q hp)]; exact e02.keep a o q n
          · rw [upd_ne (ne_of_none q hp)]; exact e02.tups a xs q
          · rw [upd_ne (ne_of_none q hp)]; exact e02.frzs a ob w q
        refine h p _ hp ev ?_ ⟨ys, ?_, y2, ?_⟩
        · exact ((r2.putGhost r.lo hp2 (fun _ z => by cases z) (fun _ _ z => by cases z)).1.sto).weak bd_ghost'
        · rw [upd_same]
          exact congrArg (fun z => some (HO.dK z)) y1
        · exact RepA.imp (W := fun _ => False) Evo.refl (fun _ z => z.elim) bd_ghost' _ _ (RepA.imp ep bp (fun _ z => z) _ _ y3)
      · simp only [if_neg h15] at h; exact False.elim h
  | ex => exact fun h => h
  | bad => exact fun h => h
/-- d.get(k, x) -/
def dGet2 : D → D → D → Option D
  | .dic ks ds, k, x => match k.key? with
    | some k => some ((dicGet ks ds k).getD x)
    | none => none
  | _, _, _ => none
def mGet2 (md mk mx : ME) : ME := fun sg S => (md sg S).bind fun d => match d.1 with
  | .dic ks ds => (mk sg d.2).bind fun k => (mx sg k.2).bind fun x => R.of ((dGet2 (.dic ks ds) k.1 x.1).map fun z => (z, x.2))
  | _ => .bad
theorem e2_get2 {o e f : Expr} {md mk mx : ME} {apos : Pos} (hu : X.A.units + 1 < cLine) (ho : PE2 X W wk o md) (he : PE2 X W wk e mk) (hf : PE2 X W wk f mx) (m : M2 X o "get" apos e f pos) : PE2 X W wk (.Call (.Attribute o "get" apos) [e, f] [] pos) (mGet2 md mk mx) := by
  obtain ⟨t, a1, a2⟩ := ho
  obtain ⟨u, b1, b2⟩ := he
  obtain ⟨w, c1, c2⟩ := hf
  refine ⟨_, pe_dget2 hu a1 b1 c1 m, fun B H0 as ks ow sg S σ H Q r h => ?_⟩
  refine a2 _ _ _ _ _ _ _ _ _ _ r (Den.bind h fun d S1 v H1 c0 e1 s1 q1 h1 => ?_)
  clear c0
  cases d <;> try exact False.elim h1
  rename_i dk dd
  simp only at h1
  have r1 := r.step e1 s1
  obtain ⟨a, xs, ea, nb, g1, gl, g2⟩ := id q1
  subst ea
  refine ⟨a, rfl, .inl ⟨_, g1⟩, ?_⟩
  refine b2 _ _ _ _ _ _ _ _ _ _ r1 (Den.bind h1 fun k S2 kv H2 _ e2 s2 q2 h2 => ?_)
  have r2 := r1.step e2 s2
  refine c2 _ _ _ _ _ _ _ _ _ _ r2 (Den.bind h2 fun x S3 xv H3 _ e3 s3 q3 h3 => ?_)
  have r3 := r2.step e3 s3
  have q1' := Rep.imp (B' := if wk then (· ∈ as) else Bd B ow) (e2.trans e3) (asWk r) (fun _ z => z) _ _ q1
  have q2' := Rep.imp (B' := if wk then (· ∈ as) else Bd B ow) e3 (asWk r) (fun _ z => z) _ _ q2
  obtain ⟨a', ys, ea, nb', k1, kl, k2⟩ := q1'
  cases ea
  cases ek : k.key? with
  | none => simp only [dGet2, ek] at h3; exact False.elim h3
  | some kk =>
    simp only [dGet2, ek] at h3
    have ev := key_rep q2' ek
    subst ev
    refine ⟨valV (dk.zip ys) kk, .inl ⟨_, kk, k1, rfl, rfl⟩, ?_⟩
    have gv := dicGet_val (j := kk) kl k2
    cases c : dicGet dk dd kk with
    | none =>
      rw [gv.1 c]
      rw [c] at h3
      exact h3 xv H3 Evo.refl s3 q3
    | some z =>
      obtain ⟨zv, z1, z2⟩ := gv.2 z c
      rw [z1]
      rw [c] at h3
      exact h3 zv H3 Evo.refl s3 z2
end
end D2

namespace D2
open PySem PySem.Spec PyProof.Rows L2

section
variable {K : PySem.W.Frag} {wk : Bool}
def on1 (g : D → Option D) : List D → Option D
  | [d] => g d
  | _ => none
def on2 (g : D → D → Option D) : List D → Option D
  | [d, e] => g d e
  | _ => none
theorem ok_on1 {g : D → Option D} {r : List V → Hp → VK → Prop} (h : ∀ (as : List Addr) (Bs Bw : Addr → Prop) (H : Hp) (d z : D) (v : V) (Q : VK), (∀ a, Bw a → Bs a) → (∀ a, Bs a → H a ≠ none) →
    Rep K as (if wk then Bw else Bs) H d v → g d = some z → (∀ u H', Evo (fun _ => False) H H' → Rep K as (if wk then Bw else Bs) H' z u → Q u H') → r [v] H Q) : CallOk K wk (on1 g) r := by
  intro as Bs Bw H ds z vs Q h1 h2 hr e q
  match ds, e with
  | [d], e =>
    obtain ⟨v, ws, ev, k1, k2⟩ := hr
    have k2' : ws = [] := k2
    subst k2'
    subst ev
    exact h as Bs Bw H d z v Q h1 h2 k1 e q
theorem ok_on2 {g : D → D → Option D} {r : List V → Hp → VK → Prop} (h : ∀ (as : List Addr) (Bs Bw : Addr → Prop) (H : Hp) (c d z : D) (u v : V) (Q : VK), (∀ a, Bw a → Bs a) → (∀ a, Bs a → H a ≠ none) →
    Rep K as (if wk then Bw else Bs) H c u → Rep K as (if wk then Bw else Bs) H d v → g c d = some z → (∀ u H', Evo (fun _ => False) H H' → Rep K as (if wk then Bw else Bs) H' z u → Q u H') → r [u, v] H Q) : CallOk K wk (on2 g) r := by
  intro as Bs Bw H ds z vs Q h1 h2 hr e q
  match ds, e with
  | [c, d], e =>
    obtain ⟨u, ws, ev, k1, v, ws2, ev2, k2, k3⟩ := hr
    have k3' : ws2 = [] := k3
    subst k3'
    subst ev2
    subst ev
    exact h as Bs Bw H c d z u v Q h1 h2 k1 k2 e q
def D.len : D → Option D
  | .tup ds => some (.int (ds.length : Int))
  | .lst ds => some (.int (ds.length : Int))
  | .str x => if x.length ≤ 16777216 then some (.int (x.length : Int)) else none
  | .dic ks _ => some (.int (ks.length : Int))
  | _ => none
def rLenD : List V → Hp → VK → Prop := fun xs H Q => ∃ p kvs, xs = [.ref p] ∧ Rd H p (.dK kvs) ∧ Q (.int kvs.length) H
theorem call_lenRd {X : Cx} : CallR X (.builtin "len") rLenD := by
  intro pins s σ H vs us Q I r h
  obtain ⟨p, kvs, rfl, hd, q⟩ := h
  rw [Vals.ref1 r]
  exact d_len I hd fun t s' I' => ⟨.int kvs.length, H, I', ⟨_, rfl⟩, q⟩
def rLen2 (K : PySem.W.Frag) : List V → Hp → VK → Prop := fun xs H Q => (∃ p ys, xs = [.ref p] ∧ (SqL K H p ys ∨ SqT K H p ys) ∧ Q (.int ys.length) H) ∨ ((∃ z, xs = [.str z] ∧ z.length ≤ sizeLine ∧ Q (.int z.length) H) ∨ rLenD xs H Q)
theorem call_len2 {X : Cx} : CallR X (.builtin "len") (rLen2 X.K) := call_len_seq.or (call_len_str.or call_lenRd)
theorem ok_len : CallOk K wk (on1 D.len) (rLen2 K) := by
  refine ok_on1 fun as Bs Bw H d z v Q h1 h2 hr e q => ?_
  cases d with
  | tup ds =>
    cases e
    obtain ⟨a, xs, ev, g1, g2⟩ := hr
    subst ev
    exact .inl ⟨a, xs, rfl, .inr g1, by rw [← g2.length]; exact q _ _ Evo.refl rfl⟩
  | lst ds =>
    cases e
    obtain ⟨a, xs, ev, nb, g1, g2⟩ := hr
    subst ev
    exact .inl ⟨a, xs, rfl, .inl (SqL.of g1), by rw [← g2.length]; exact q _ _ Evo.refl rfl⟩
  | str x =>
    simp only [D.len] at e
    split at e
    · rename_i hl
      cases e
      have ev : v = .str x := hr
      subst ev
      exact .inr (.inl ⟨x, rfl, lineN hl, q _ _ Evo.refl rfl⟩)
    · cases e
  | dic ks ds =>
    cases e
    obtain ⟨a, xs, ev, nb, g1, gl, g2⟩ := hr
    subst ev
    refine .inr (.inr ⟨a, _, rfl, g1, ?_⟩)
    rw [List.length_zip, ← gl, Nat.min_self]
    exact q _ _ Evo.refl rfl
  | _ => cases e
/-- int(n), int(flag), int(text) -/
def D.toInt : D → Option D
  | .int i => some (.int i)
  | .bl k => some (.int (if k then 1 else 0))
  | .str a => if a.length ≤ 640 then (PySem.intText? a).map D.int else none
  | _ => none
def rInt2 : List V → Hp → VK → Prop := fun xs H Q => ((∃ i, xs = [.int i] ∧ Q (.int i) H) ∨ ∃ k, xs = [.bl k] ∧ Q (.int (if k then 1 else 0)) H) ∨ (∃ a n, xs = [.str a] ∧ PySem.intText? a = some n ∧ a.length ≤ 640 ∧ Q (.int n) H)
theorem call_int2 {X : Cx} : CallR X (.type "int") rInt2 := call_int1.or call_int_str
theorem ok_int : CallOk K wk (on1 D.toInt) rInt2 := by
  refine ok_on1 fun as Bs Bw H d z v Q h1 h2 hr e q => ?_
  cases d with
  | int i => cases e; exact .inl (.inl ⟨i, congrArg (fun x => [x]) hr, q _ _ Evo.refl rfl⟩)
  | bl k => cases e; exact .inl (.inr ⟨k, congrArg (fun x => [x]) hr, q _ _ Evo.refl rfl⟩)
  | str a =>
    simp only [D.toInt] at e
    split at e
    · rename_i hl
      obtain ⟨n, e1, e2⟩ := Option.map_eq_some_iff.mp e
      subst e2
      exact .inr ⟨a, n, congrArg (fun x => [x]) hr, e1, hl, q _ _ Evo.refl rfl⟩
    · cases e
  | _ => cases e
def D.abs : D → Option D
  | .int i => some (.int (if i < 0 then -i else i))
  | _ => none
theorem ok_abs : CallOk K wk (on1 D.abs) (fun xs H Q => ∃ i, xs = [.int i] ∧ Q (.int (if i < 0 then -i else i)) H) := by
  refine ok_on1 fun as Bs Bw H d z v Q h1 h2 hr e q => ?_
  cases d <;> try (cases e; done)
  rename_i i
  cases e
  exact ⟨i, congrArg (fun x => [x]) hr, q _ _ Evo.refl rfl⟩
/-- str(n) -/
def D.toStr : D → Option D
  | .int i => if i.natAbs.log2 < 1920 then some (.str (Str.ofString (toString i))) else none
  | .str x => some (.str x)
  | _ => none
def rStr1 : List V → Hp → VK → Prop := fun xs H Q => ∃ i, xs = [.int i] ∧ i.natAbs.log2 < 1920 ∧ Q (.str (toString i)) H
def D.toStrI : D → Option D
  | .int i => if i.natAbs.log2 < 1920 then some (.str (Str.ofString (toString i))) else none
  | _ => none
theorem ok_strI : CallOk K wk (on1 D.toStrI) rStr1 := by
  refine ok_on1 fun as Bs Bw H d z v Q h1 h2 hr e q => ?_
  cases d <;> try (cases e; done)
  rename_i i
  simp only [D.toStrI] at e
  split at e
  · rename_i hl
    cases e
    exact ⟨i, congrArg (fun x => [x]) hr, hl, q _ _ Evo.refl rfl⟩
  · cases e
/-- max, min of two ints -/
def D.max2 : D → D → Option D
  | .int i, .int j => some (.int (if j > i then j else i))
  | _, _ => none
def D.min2 : D → D → Option D
  | .int i, .int j => some (.int (if j < i then j else i))
  | _, _ => none
theorem ok_max2 : CallOk K wk (on2 D.max2) (fun xs H Q => ∃ i j, xs = [.int i, .int j] ∧ Q (.int (if j > i then j else i)) H) := by
  refine ok_on2 fun as Bs Bw H c d z u v Q h1 h2 hr hs e q => ?_
  cases c <;> try (cases e; done)
  cases d <;> try (cases e; done)
  rename_i i j
  cases e
  have eu : u = .int i := hr
  have ev : v = .int j := hs
  subst eu ev
  exact ⟨i, j, rfl, q _ _ Evo.refl rfl⟩
theorem ok_min2 : CallOk K wk (on2 D.min2) (fun xs H Q => ∃ i j, xs = [.int i, .int j] ∧ Q (.int (if j < i then j else i)) H) := by
  refine ok_on2 fun as Bs Bw H c d z u v Q h1 h2 hr hs e q => ?_
  cases c <;> try (cases e; done)
  cases d <;> try (cases e; done)
  rename_i i j
  cases e
  have eu : u = .int i := hr
  have ev : v = .int j := hs
  subst eu ev
  exact ⟨i, j, rfl, q _ _ Evo.refl rfl⟩
/-- of a list of ints -/
def D.intsL (f : List Int → Option D) : D → Option D
  | .lst ds => match D.ints ds with
    | some ns => f ns
    | none => none
  | _ => none
theorem intsL_rep {as : List Addr} {B : Addr → Prop} {H : Hp} {d z : D} {v : V} {f : List Int → Option D} (hr : Rep K as B H d v) (e : D.intsL f d = some z) : ∃ a ns, v = .ref a ∧ H a = some (.lst (ns.map V.int)) ∧ f ns = some z := by
  cases d <;> try (cases e; done)
  rename_i ds
  simp only [D.intsL] at e
  split at e
  · rename_i ns hn
    obtain ⟨a, xs, ev, nb, g1, g2⟩ := hr
    exact ⟨a, ns, ev, by rw [← ints_rep g2 hn]; exact g1, e⟩
  · cases e
theorem ok_sum : CallOk K wk (on1 (D.intsL fun ns => some (.int ns.sum))) (rSum K) := by
  refine ok_on1 fun as Bs Bw H d z v Q h1 h2 hr e q => ?_
  obtain ⟨a, ns, ev, g, e2⟩ := intsL_rep hr e
  cases e2
  exact ⟨a, ns, by rw [ev], SqL.of g, q _ _ Evo.refl rfl⟩
def maxI : List Int → Option Int
  | [] => none
  | n :: ns => some (ns.foldl max n)
def minI : List Int → Option Int
  | [] => none
  | n :: ns => some (ns.foldl min n)
theorem foldl_max : ∀ (ns : List Int) (n m : Int), m ∈ n :: ns → (∀ y ∈ n :: ns, y ≤ m) → ns.foldl max n = m
  | [], n, m, h1, h2 => by
    have : m = n := by simpa using h1
    simp [this]
  | k :: ns, n, m, h1, h2 => by
    refine foldl_max ns (max n k) m ?_ ?_
    · have hn := h2 n List.mem_cons_self
      have hk := h2 k (List.mem_cons_of_mem _ List.mem_cons_self)
      rcases List.mem_cons.mp h1 with e | h1
      · subst e
        have : max m k = m := by omega
        rw [this]; exact List.mem_cons_self
      · rcases List.mem_cons.mp h1 with e | h1
        · subst e
          have : max n m = m := by omega
          rw [this]; exact List.mem_cons_self
        · exact List.mem_cons_of_mem _ h1
    · intro y hy
      rcases List.mem_cons.mp hy with e | hy
      · have hn := h2 n List.mem_cons_self
        have hk := h2 k (List.mem_cons_of_mem _ List.mem_cons_self)
        omega
      · exact h2 y (List.mem_cons_of_mem _ (List.mem_cons_of_mem _ hy))
theorem foldl_min : ∀ (ns : List Int) (n m : Int), m ∈ n :: ns → (∀ y ∈ n :: ns, m ≤ y) → ns.foldl min n = m
  | [], n, m, h1, h2 => by
    have : m = n := by simpa using h1
    simp [this]
  | k :: ns, n, m, h1, h2 => by
    refine foldl_min ns (min n k) m ?_ ?_
    · have hn := h2 n List.mem_cons_self
      have hk := h2 k (List.mem_cons_of_mem _ List.mem_cons_self)
      rcases List.mem_cons.mp h1 with e | h1
      · subst e
        have : min m k = m := by omega
        rw [this]; exact List.mem_cons_self
      · rcases List.mem_cons.mp h1 with e | h1
        · subst e
          have : min n m = m := by omega
          rw [this]; exact List.mem_cons_self
        · exact List.mem_cons_of_mem _ h1
    · intro y hy
      rcases List.mem_cons.mp hy with e | hy
      · have hn := h2 n List.mem_cons_self
        have hk := h2 k (List.mem_cons_of_mem _ List.mem_cons_self)
        omega
      · exact h2 y (List.mem_cons_of_mem _ (List.mem_cons_of_mem _ hy))
theorem ok_maxL : CallOk K wk (on1 (D.intsL fun ns => (maxI ns).map D.int)) (rMax K) := by
  refine ok_on1 fun as Bs Bw H d z v Q h1 h2 hr e q => ?_
  obtain ⟨a, ns, ev, g, e2⟩ := intsL_rep hr e
  cases ns with
  | nil => cases e2
  | cons n ns =>
    cases e2
    refine ⟨a, n :: ns, by rw [ev], SqL.of g, Nat.zero_lt_succ _, fun m hm hle => ?_⟩
    have := foldl_max ns n m hm hle
    rw [this] at q
    exact q _ _ Evo.refl rfl
theorem ok_minL : CallOk K wk (on1 (D.intsL fun ns => (minI ns).map D.int)) (rMin K) := by
  refine ok_on1 fun as Bs Bw H d z v Q h1 h2 hr e q => ?_
  obtain ⟨a, ns, ev, g, e2⟩ := intsL_rep hr e
  cases ns with
  | nil => cases e2
  | cons n ns =>
    cases e2
    refine ⟨a, n :: ns, by rw [ev], SqL.of g, Nat.zero_lt_succ _, fun m hm hle => ?_⟩
    have := foldl_min ns n m hm hle
    rw [this] at q
    exact q _ _ Evo.refl rfl
/-- sorted of ints -/
def insI (n : Int) : List Int → List Int
  | [] => [n]
  | m :: ms => if n ≤ m then n :: m :: ms else m :: insI n ms
def sortI : List Int → List Int
  | [] => []
  | n :: ns => insI n (sortI ns)
theorem insI_perm (n : Int) : ∀ l : List Int, (insI n l).Perm (n :: l)
  | [] => List.Perm.refl _
  | m :: ms => by
    unfold insI
    split
    · exact List.Perm.refl _
    · exact ((insI_perm n ms).cons m).trans (List.Perm.swap n m ms)
theorem sortI_perm : ∀ l : List Int, (sortI l).Perm l
  | [] => List.Perm.refl _
  | n :: ns => (insI_perm n (sortI ns)).trans ((sortI_perm ns).cons n)
theorem insI_sorted (n : Int) : ∀ l : List Int, l.Pairwise (· ≤ ·) → (insI n l).Pairwise (· ≤ ·)
  | [], _ => List.pairwise_singleton _ _
  | m :: ms, h => by
    have h' := List.pairwise_cons.mp h
    unfold insI
    split
    · rename_i hnm
      refine List.pairwise_cons.mpr ⟨fun y hy => ?_, h⟩
      rcases List.mem_cons.mp hy with e | hy
      · rw [e]; exact hnm
      · exact Int.le_trans hnm (h'.1 y hy)
    · rename_i hnm
      refine List.pairwise_cons.mpr ⟨fun y hy => ?_, insI_sorted n ms h'.2⟩
      have := (insI_perm n ms).mem_iff.mp hy
      rcases List.mem_cons.mp this with e | hy
      · rw [e]; omega
      · exact h'.1 y hy
theorem sortI_sorted : ∀ l : List Int, (sortI l).Pairwise (· ≤ ·)
  | [] => List.Pairwise.nil
  | n :: ns => insI_sorted n _ (sortI_sorted ns)
theorem sorted_one {l m : List Int} (h : l.Perm m) (h1 : l.Pairwise (· ≤ ·)) (h2 : m.Pairwise (· ≤ ·)) : l = m :=
  h.eq_of_pairwise (fun a b _ _ hab hba => Int.le_antisymm hab hba) h1 h2
theorem ok_sortI : CallOk K wk (on1 (D.intsL fun ns => some (.lst ((sortI ns).map D.int)))) (rSortedI K) := by
  refine ok_on1 fun as Bs Bw H d z v Q h1 h2 hr e q => ?_
  obtain ⟨a, ns, ev, g, e2⟩ := intsL_rep hr e
  cases e2
  refine ⟨a, ns, by rw [ev], SqL.of g, fun ns' p perm hs hp => ?_⟩
  have := sorted_one (perm.trans (sortI_perm ns).symm) hs (sortI_sorted ns)
  subst this
  exact q _ _ (Evo.new hp) (repNewL h1 h2 hp (rep_ints _))
/-- any, all of a list of truth values -/
def D.blsL (f : List Bool → Option D) : D → Option D
  | .lst ds => match D.bls ds with
    | some ns => f ns
    | none => none
  | _ => none
theorem blsL_rep {as : List Addr} {B : Addr → Prop} {H : Hp} {d z : D} {v : V} {f : List Bool → Option D} (hr : Rep K as B H d v) (e : D.blsL f d = some z) : ∃ a ns, v = .ref a ∧ H a = some (.lst (ns.map V.bl)) ∧ f ns = some z := by
  cases d <;> try (cases e; done)
  rename_i ds
  simp only [D.blsL] at e
  split at e
  · rename_i ns hn
    obtain ⟨a, xs, ev, nb, g1, g2⟩ := hr
    exact ⟨a, ns, ev, by rw [← bls_rep g2 hn]; exact g1, e⟩
  · cases e
theorem ok_any : CallOk K wk (on1 (D.blsL fun ns => some (.bl (ns.any id)))) (rAny K) := by
  refine ok_on1 fun as Bs Bw H d z v Q h1 h2 hr e q => ?_
  obtain ⟨a, ns, ev, g, e2⟩ := blsL_rep hr e
  cases e2
  exact ⟨a, ns, by rw [ev], SqL.of g, q _ _ Evo.refl rfl⟩
theorem ok_all : CallOk K wk (on1 (D.blsL fun ns => some (.bl (ns.all id)))) (rAll K) := by
  refine ok_on1 fun as Bs Bw H d z v Q h1 h2 hr e q => ?_
  obtain ⟨a, ns, ev, g, e2⟩ := blsL_rep hr e
  cases e2
  exact ⟨a, ns, by rw [ev], SqL.of g, q _ _ Evo.refl rfl⟩
/-- tuple(x), list(x) -/
def D.toTup : D → Option D
  | .lst ds => some (.tup ds)
  | .tup ds => some (.tup ds)
  | _ => none
theorem ok_tup : CallOk K wk (on1 D.toTup) (fun xs H Q => ∃ p ys, xs = [.ref p] ∧ ((SqL K H p ys ∧ ∀ l, H l = none → Q (.ref l) (upd H l (.tup ys))) ∨ (SqT K H p ys ∧ Q (.ref p) H))) := by
  refine ok_on1 fun as Bs Bw H d z v Q h1 h2 hr e q => ?_
  cases d <;> try (cases e; done)
  · rename_i ds
    cases e
    obtain ⟨a, xs, ev, g1, g2⟩ := hr
    subst ev
    exact ⟨a, xs, rfl, .inr ⟨g1, q _ _ Evo.refl ⟨a, xs, rfl, g1, g2⟩⟩⟩
  · rename_i ds
    cases e
    obtain ⟨a, xs, ev, nb, g1, g2⟩ := hr
    subst ev
    exact ⟨a, xs, rfl, .inl ⟨SqL.of g1, fun l hl => q _ _ (Evo.new hl) (repNewT hl g2)⟩⟩
def D.toLst : D → Option D
  | .lst ds => some (.lst ds)
  | .tup ds => some (.lst ds)
  | _ => none
theorem ok_lst : CallOk K wk (on1 D.toLst) (fun xs H Q => ∃ p ys, xs = [.ref p] ∧ (SqL K H p ys ∨ SqT K H p ys) ∧ ∀ l, H l = none → Q (.ref l) (upd H l (.lst ys))) := by
  refine ok_on1 fun as Bs Bw H d z v Q h1 h2 hr e q => ?_
  cases d <;> try (cases e; done)
  · rename_i ds
    cases e
    obtain ⟨a, xs, ev, g1, g2⟩ := hr
    subst ev
    exact ⟨a, xs, rfl, .inr g1, fun l hl => q _ _ (Evo.new hl) (repNewL h1 h2 hl g2)⟩
  · rename_i ds
    cases e
    obtain ⟨a, xs, ev, nb, g1, g2⟩ := hr
    subst ev
    exact ⟨a, xs, rfl, .inl (SqL.of g1), fun l hl => q _ _ (Evo.new hl) (repNewL h1 h2 hl g2)⟩
end

/-! ### methods of values -/
section
variable {X : Cx} {W : WX2} {wk : Bool} {pos : Pos}
def MethOk (K : PySem.W.Frag) (wk : Bool) (T : String) (c : D → Bool) (f : D → List D → Option D) (r : V → List V → Hp → VK → Prop) : Prop := ∀ (as : List Addr) (Bs Bw : Addr → Prop) (H : Hp) (x : D) (v : V), (∀ a, Bw a → Bs a) → (∀ a, Bs a → H a ≠ none) → Rep K as (if wk then Bw else Bs) H x v → c x = true →
  tyV K T v H ∧ ∀ H2 ds vs z (Q : VK), (∀ a, Bs a → H2 a ≠ none) → Rep K as (if wk then Bw else Bs) H2 x v → RepA K as (if wk then Bw else Bs) H2 ds vs → f x ds = some z → (∀ u H', Evo (fun _ => False) H2 H' → Rep K as (if wk then Bw else Bs) H' z u → Q u H') → r v vs H2 Q
def mMeth (c : D → Bool) (f : D → List D → Option D) (mo : ME) (ms : MA) : ME := fun sg S => (mo sg S).bind fun x => if c x.1 = true then (ms sg x.2).bind fun y => R.of ((f x.1 y.1).map fun z => (z, y.2)) else .bad
theorem meth_den {T : String} {c : D → Bool} {f : D → List D → Option D} {r2 : V → List V → Hp → VK → Prop} {to : TE} {ta : TA} {mo : ME} {ms : MA} (hop : MethOk X.K wk T c f r2)
    (a2 : ∀ B H0 as ks ow sg S σ H (Q : VK), Rl X.K B H0 as ks ow sg S σ H → Den (ctOf X W B H0 as ks) ow ((ctOf X W B H0 as ks).rp ow wk) (mo sg S) H Q → to σ H Q)
    (b2 : ∀ B H0 as ks ow sg S σ H (Q : List V → Hp → Prop), Rl X.K B H0 as ks ow sg S σ H → Den (ctOf X W B H0 as ks) ow ((ctOf X W B H0 as ks).rpa ow wk) (ms sg S) H Q → ta σ H Q)
    {B : Addr → Prop} {H0 : Hp} {as : List Addr} {ks : List (D × V)} {ow : List (Option Addr)} {sg : List Sl} {S : List O} {σ : L2.St} {H : Hp} {Q : VK} (r : Rl X.K B H0 as ks ow sg S σ H)
    (h : Den (ctOf X W B H0 as ks) ow ((ctOf X W B H0 as ks).rp ow wk) (mMeth c f mo ms sg S) H Q) : to σ H fun x H1 => tyV X.K T x H1 ∧ ta σ H1 fun xs H2 => r2 x xs H2 Q := by
  refine a2 _ _ _ _ _ _ _ _ _ _ r (Den.bind h fun x S1 v H1 _ e1 s1 q1 h1 => ?_)
  have r1 := r.step e1 s1
  by_cases hc : c x = true
  · simp only [if_pos hc] at h1
    obtain ⟨ty, go⟩ := hop as (Bd B ow) (· ∈ as) H1 x v r.asBd r1.bdDom q1 hc
    refine ⟨ty, b2 _ _ _ _ _ _ _ _ _ _ r1 (Den.bind h1 fun y S2 ws H2 _ e2 s2 q2 h2 => ?_)⟩
    have r2 := r1.step e2 s2
    have q1' := Rep.imp (B' := if wk then (· ∈ as) else Bd B ow) e2 (asWk r) (fun _ z => z) x v q1
    cases e : f x y with
    | none => simp only [e] at h2; exact False.elim h2
    | some z =>
      simp only [e] at h2
      exact go H2 y ws z Q r2.bdDom q1' q2 e fun u H' e3 q3 => h2 u H' e3.any (r2.stoNew e3) q3
  · simp only [if_neg hc] at h1; exact False.elim h1
theorem e2_meth {o e : Expr} {es : List Expr} {meth : Str} {apos : Pos} {T id : String} {c : D → Bool} {f : D → List D → Option D} {r2 : V → List V → Hp → VK → Prop} {mo : ME} {ms : MA} (pa : PlainAttrs T) (slot : Slot T meth id) (hty : typeOf (.builtin id) = pure (.type "method_descriptor")) (hm : MtR X id r2) (hop : MethOk X.K wk T c f r2)
    (ho : PE2 X W wk o mo) (ha : PA2 X W wk (e :: es) ms) (hbase : attributeBase o meth X.env (eval o X.env) = eval o X.env := by rfl)
    (hfew : ((backTo pos (starEach (e :: es) X.env)).all (fun x => !x.1) && (backToKw pos (keywordEach [] X.env)).all (fun x => x.1.isSome)
      && decide ((e :: es).length + ([] : List Keyword).length + (if ([] : List Keyword).isEmpty then 0 else 1) < 30)) = true := by rfl)
    (hline : (apos.endLine == pos.line) = true := by rfl) (hs : starEach (e :: es) X.env = (false, eval e X.env) :: starEach es X.env := by rfl) (hplain : (backTo pos (starEach es X.env)).any (·.1) = false := by rfl) :
    PE2 X W wk (.Call (.Attribute o meth apos) (e :: es) [] pos) (mMeth c f mo ms) := by
  obtain ⟨t, a1, a2⟩ := ho
  obtain ⟨u, b1, b2⟩ := ha
  exact ⟨_, pe_bm pa slot hty hm a1 b1 hbase hfew hline hs hplain, fun B H0 as ks ow sg S σ H Q r h => meth_den hop a2 b2 r h⟩
theorem e2_meth0 {o : Expr} {meth : Str} {apos : Pos} {T id : String} {c : D → Bool} {f : D → List D → Option D} {r2 : V → List V → Hp → VK → Prop} {mo : ME} (pa : PlainAttrs T) (slot : Slot T meth id) (hty : typeOf (.builtin id) = pure (.type "method_descriptor")) (hm : MtR X id r2) (hop : MethOk X.K wk T c f r2)
    (ho : PE2 X W wk o mo) (hbase : attributeBase o meth X.env (eval o X.env) = eval o X.env := by rfl) (hline : (apos.endLine == pos.line) = true := by rfl) : PE2 X W wk (.Call (.Attribute o meth apos) [] [] pos) (mMeth c f mo mNil) := by
  obtain ⟨t, a1, a2⟩ := ho
  refine ⟨_, pe_bm0 pa slot hty hm a1 hbase hline, fun B H0 as ks ow sg S σ H Q r h => ?_⟩
  exact meth_den (W := W) (ta := tNil) (ms := mNil) hop a2 (fun B H0 as ks ow sg S σ H Q r h => h [] H Evo.refl r.sto rfl) r h
/-- xs.index(y), flat things: the first place -/
def flatD : D → Bool
  | .int _ => true
  | .str _ => true
  | .non => true
  | _ => false
def idxD (y : D) : List D → Option Nat
  | [] => none
  | d :: ds => if D.eqv d y = true then some 0 else (idxD y ds).map (· + 1)
def D.index : D → List D → Option D
  | .lst ds, [y] => if (flatD y && ds.all flatD) = true then (idxD y ds).map fun (j : Nat) => D.int (j : Int) else none
  | _, _ => none
theorem flatD_rep {K : PySem.W.Frag} {as : List Addr} {B : Addr → Prop} {H : Hp} {d : D} {v : V} (h : Rep K as B H d v) (f : flatD d = true) : flatV v = true := by
  cases d <;> try (cases f; done)
  · have e : v = .non := h; subst e; rfl
  · rename_i i; have e : v = .int i := h; subst e; rfl
  · rename_i i; have e : v = .str i := h; subst e; rfl
theorem flatD_eqv {K : PySem.W.Frag} {as : List Addr} {B : Addr → Prop} {H : Hp} {d c : D} {v u : V} (h : Rep K as B H d v) (g : Rep K as B H c u) (f1 : flatD d = true) (f2 : flatD c = true) : eqV v u = D.eqv d c := by
  cases d <;> try (cases f1; done)
  all_goals
    cases c <;> try (cases f2; done)
    all_goals
      simp only [Rep] at h g
      subst h g
      simp [eqV, D.eqv, D.pd, PyData.eqv]
end
end D2

namespace PySem
set_option maxHeartbeats 1000000 in
theorem meets_enumerate_newT (t : Addr) (items : Array Value) :
    Meets (Builtin.«enumerate.__new__» ⟨[.type "enumerate", .ref t], []⟩) (fun _ R s => s.heap.IsTuple t items ∧
      R (.ok (.ret (.ref (s.heap.push { cls := .type "tuple_iterator", data := .fields #[.ref t, .int 0 0] }).objs.size)))
        { s with heap := (s.heap.push { cls := .type "tuple_iterator", data := .fields #[.ref t, .int 0 0] }).push { cls := .type "enumerate", data := .fields #[.none, .bool false, .ref s.heap.objs.size, rawInt 0, .none, .none] } }) :=
  .of_wp fun prog w A R s h => by
    obtain ⟨hT, h⟩ := h
    obtain ⟨hp, g, d, tk, os⟩ := s
    have hsub := sub_enumerate
    wp_walk
    refine wpAny_stack_any fun st => wpAny_pure ?_
    split
    · rename_i c _ _ _ _ _
      cases (c == Value.type "enumerate")
      · wp_walk using wpAny_pyIter_tuple hT
        exact ⟨_, rfl, h⟩
      · wp_walk using wpAny_pyIter_tuple hT
        exact ⟨_, rfl, h⟩
    · wp_walk using wpAny_pyIter_tuple hT
      exact ⟨_, rfl, h⟩
section
variable {prog : Program} {w : World} {A : Around} {E : Value → Shared → Prop} {s : Shared}
theorem call_enumerate_tuple {t : Addr} {items : Array Value} {Q : Value → Shared → Prop} (hT : s.heap.IsTuple t items)
    (h : ∀ h', IsEnum h' (s.heap.objs.size + 1) s.heap.objs.size 0 .none → h'.IsTupleIter s.heap.objs.size t 0 → h'.objs.size = s.heap.objs.size + 2 →
      (∀ b o, s.heap.get? b = some o → h'.get? b = some o) → Q (.ref (s.heap.objs.size + 1)) { s with heap := h' }) :
    wpAny (model prog w) A (call (.type "enumerate") [.ref t]) Q E s := by
  refine callType_new F.called_enumerate (by decide) (F.typeCall_enumerate_1 _) (F.newCall_enumerate_1 _) (fun obj => F.args_object_init_2 obj _) F.entry_enumerate_new
    (meets_enumerate_newT t items) ⟨hT, ?_⟩
  have hz : (s.heap.push { cls := .type "tuple_iterator", data := .fields #[.ref t, .int 0 0] }).objs.size = s.heap.objs.size + 1 := Heap.size_push ..
  show _ ∧ _
  rw [hz]
  have he : IsEnum ((s.heap.push { cls := .type "tuple_iterator", data := .fields #[.ref t, .int 0 0] }).push
      { cls := .type "enumerate", data := .fields #[.none, .bool false, .ref s.heap.objs.size, rawInt 0, .none, .none] }) (s.heap.objs.size + 1) s.heap.objs.size 0 .none := by
    have := Heap.get?_push_size (s.heap.push { cls := .type "tuple_iterator", data := .fields #[.ref t, .int 0 0] })
      (o := { cls := .type "enumerate", data := .fields #[.none, .bool false, .ref s.heap.objs.size, rawInt 0, .none, .none] }) rfl
    rw [hz] at this; exact this
  refine ⟨⟨_, he, rfl⟩, h _ he ⟨_, Heap.get?_push_of_some _ (Heap.get?_push_size _ rfl), rfl, rfl⟩ (by rw [Heap.size_push, hz]) fun b o x => Heap.get?_push_of_some _ (Heap.get?_push_of_some _ x)⟩
end
end PySem
namespace D2
open PySem PySem.Spec PyProof.Rows L2

/-! ### enumerate(a tuple) -/
def Iet (K : PySem.W.Frag) (a : Addr) : It :=
  ⟨fun i H => ∃ (xs : List V) (x : V), SqT K H a xs ∧ xs[i]? = some x, fun i H v H' => ∃ T x, v = .ref T ∧ H T = none ∧ H' = upd H T (.tup [.int (i : Nat), x]) ∧ ∀ xs, SqT K H a xs → xs[i]? = some x, fun i H => ∃ xs : List V, SqT K H a xs ∧ xs.length ≤ i⟩
theorem turn_enumT {P : Program} {w : World} {K : PySem.W.Frag} {elts : List Expr} {kk : Nat} {tpos : Pos} (a e it : Addr) :
    Turn P w K (.Tuple elts kk tpos) (Iet K a) [e, it] e (fun i h => (∃ old, IsEnum h e it ((i : Nat) : Int) old) ∧ h.IsTupleIter it a i ∧ e ≠ it) where
  mem := by simp
  obj := fun i h st b hb => by
    obtain ⟨⟨old, he⟩, ⟨o, ho, hc, hd⟩, _⟩ := st
    have e' : b = e ∨ b = it := by simpa using hb
    rcases e' with z | z
    · rw [z]; exact ⟨_, he, fun v q => nomatch q⟩
    · rw [z]; exact ⟨o, ho, fun v q => by rw [hd] at q; cases q⟩
  keep := fun i h h' st k => let ⟨⟨old, he⟩, hi, hne⟩ := st; ⟨⟨old, k e (by simp) _ he⟩, hi.at fun o q => k it (by simp) o q, hne⟩
  item := by
    intro X hP hw hK hc i pins s σ H E I hf st hg
    subst hP hw hK
    obtain ⟨⟨old, he⟩, hit, hne⟩ := st
    obtain ⟨xs, x, hq, hx⟩ := hg
    obtain ⟨its, rv, p, hz⟩ := I.tuple hq
    obtain ⟨u, hu, ru⟩ := rv.get hx
    have hel : e < s.heap.objs.size := Heap.lt_size he
    have hil : it < s.heap.objs.size := by obtain ⟨_, q, _⟩ := hit; exact Heap.lt_size q
    have hT : s.heap.IsTuple a its.toArray := p
    have hat : a ≠ it := fun z => by
      obtain ⟨o, ho, hc, hd⟩ := hit
      obtain ⟨o', ho', hc', hd'⟩ := hT
      rw [z, ho] at ho'; cases ho'
      obtain ⟨_, hd'⟩ := hd'
      rw [hd] at hd'; cases hd'
    have hae : e ≠ a := fun z => by
      obtain ⟨o', ho', hc', _, hd'⟩ := hT
      have he' : s.heap.get? a = _ := z ▸ he
      rw [he'] at ho'; cases ho'
      cases hd'
    have hh : X.A.in1.handled = none := I.ok.hd hc
    have D := Draws.tuple (prog := X.prog) (w := X.w) (A := X.A.in1) hh it a hat its.toArray
    have hlt : i < its.toArray.size := by
      have := (List.getElem?_eq_some_iff.mp hu).1
      simpa using this
    refine wpAny_pyNext_enum_itemD D he ⟨hit, hT⟩ hlt hne (by simp only [List.mem_cons, List.not_mem_nil, or_false, not_or]; exact ⟨hne, hae⟩) fun y h' tk hy ho hst hT3 hsz hk => ?_
    have hy' : its[i]? = some y := by simpa using hy
    rw [hu] at hy'
    cases hy'
    refine ⟨_, rfl, wpAny_letOwnedTupleGo_enum (s := { s with heap := h', toks := tk + 1 }) ho fun h'' he' sb => ?_⟩
    have hT2 : h''.get? s.heap.objs.size = some { cls := .type "tuple", data := .seq #[.int i tk, u] } := (sb.2 _ (Nat.ne_of_gt hel)).trans hT3
    have new : ObjOk X.prog X.w (upd H s.heap.objs.size (.tup [.int (i : Nat), x])) h'' s.heap.objs.size (.tup [.int (i : Nat), x]) :=
      ⟨by show 2 ≤ sizeLine; decide, [.int i tk, u], .cons ⟨_, rfl⟩ (.cons ru .nil), ⟨_, hT2, rfl, _, rfl⟩⟩
    have I1 : Inv X pins σ (upd H s.heap.objs.size (.tup [.int (i : Nat), x])) { s with heap := h'', toks := tk + 1 } :=
      I.turnedNew (ch := [e, it]) (fun b ob hb q => (sb.2 b (fun z => hb (by simp [z]))).trans (hk b ob (fun z => hb (by simp [z])) (fun z => hb (by simp [z])) q)) hf (Nat.le_refl _) new
    refine ⟨.ref s.heap.objs.size, _, I1, rfl, ⟨_, x, rfl, I.hok.fresh (Nat.le_refl _), rfl, fun ys hy => by rw [I.tuple_inj hy hq]; exact hx⟩, ⟨⟨u, ?_⟩, hst.1.at fun o q => (sb.2 it (Ne.symm hne)).trans q, hne⟩, fun b hb => ?_⟩
    · have e1 : ((i + 1 : Nat) : Int) = (i : Int) + 1 := by omega
      rw [e1]; exact he'
    · have hb' : b < s.heap.objs.size := by
        have e' : b = e ∨ b = it := by simpa using hb
        rcases e' with z | z
        · rw [z]; exact hel
        · rw [z]; exact hil
      rw [upd_ne (Nat.ne_of_lt hb')]
      exact (hf b hb).1
  done := by
    intro X hP hw hK hc i pins s σ H E I hf st hg
    subst hP hw hK
    obtain ⟨⟨old, he⟩, hit, hne⟩ := st
    obtain ⟨xs, hq, hx⟩ := hg
    obtain ⟨its, rv, p, hz⟩ := I.tuple hq
    obtain ⟨f0, f1, f2, f3, f4, f5⟩ := hf it (by simp)
    have hl := rv.length
    have hT : s.heap.IsTuple a its.toArray := p
    have hT' := hT
    have hh : X.A.in1.handled = none := I.ok.hd hc
    have hsz : its.toArray.size ≤ i := by simp; omega
    unfold pyNext
    refine wpAny_bind (wpAny_attempt (wpAny_callSpecial?_slot (name := Str.ofString "__next__") ⟨_, he, rfl⟩ PySem.F.slot_enumerate_next
      (wpAny_call_entry PySem.F.slot_enumerate_next ⟨_, he, rfl⟩ PySem.F.entry_enumerate_next ?_ (PySem.F.args_enumerate_next_1 _))))
    show wpAny _ _ (field (.ref e) 2 >>= _) _ _ _
    refine wpAny_bind (wpAny_field he rfl (x := .ref it) rfl ?_)
    refine wpAny_bind (wpAny_nextOf_tuple_end hh hit hT (by simp; omega) fun h' x he' hx' => ?_)
    obtain ⟨o, ho, hc⟩ := hx'
    refine wpAny_bind (wpAny_isInstance (T := "StopIteration") (b := true) ⟨o, ho, hc⟩ isSubtype_stop ?_)
    exact wpAny_pure ⟨rfl, I.turned (t' := s.toks) (fun b o hb q => he' b o hb q) f0 f1 f3 f4 f5⟩
  self := fun A i s Q E st h => let ⟨⟨_, he⟩, _⟩ := st; wpAny_pyIter_enum he h
def iEnumT (K : PySem.W.Frag) (ta : TA) : TI := fun σ H R => ta σ H fun vs H1 => ∃ a xs, vs = [.ref a] ∧ SqT K H1 a xs ∧ R (Iet K a) H1
theorem pi_enumT {X : Cx} {e : Expr} {ta : TA} {p pos tpos : Pos} {elts : List Expr} {kk : Nat} (hg : Gl X "enumerate") (hm : X.mg "enumerate" = none) (ha : PA X [e] ta) (hs : starEach [e] X.env = [(false, eval e X.env)] := by rfl) :
    PI X (.Tuple elts kk tpos) (.Call (.Name "enumerate" p) [e] [] pos) (iEnumT X.K ta) := by
  refine ⟨fun pins s σ H R I h => ?_⟩
  refine Call_ (ld_blt I hg hm boot_enumerate (PyProof.Rows.callWith_type1 (thn (ha.run pos pins s σ H _ I h) fun us s1 ⟨vs, H1, I1, r1, q1⟩ => ?_) hs rfl))
  obtain ⟨a, xs, ex, hq, q⟩ := q1
  subst ex
  cases r1 with
  | cons r rr =>
    cases rr
    cases r
    obtain ⟨its, rv, p', hz⟩ := I1.tuple hq
    refine call_enumerate_tuple (show s1.heap.IsTuple a its.toArray from p') fun h' he hit hsz hk => wpAny_pyIter_enum he ?_
    have I2 : Inv X pins σ H1 { s1 with heap := h' } := I1.kept (t' := s1.toks) hk
    refine ⟨s1.heap.objs.size + 1, [s1.heap.objs.size + 1, s1.heap.objs.size], _, _, H1, rfl, I2, turn_enumT a (s1.heap.objs.size + 1) s1.heap.objs.size, ⟨⟨.none, he⟩, hit, Nat.succ_ne_self _⟩, fun b hb => ?_, q⟩
    have e' : b = s1.heap.objs.size + 1 ∨ b = s1.heap.objs.size := by simpa using hb
    have hle : s1.heap.objs.size ≤ b := by
      rcases e' with z | z
      · rw [z]; exact Nat.le_add_right _ _
      · rw [z]; exact Nat.le_refl _
    exact I1.fpOk hle (I1.hok.fresh hle)
section
variable {X : Cx} {W : WX2} {wk : Bool} {pos : Pos}
def oneT : List D → Option (List D)
  | [.tup ds] => some ds
  | _ => none
theorem oneT_eq {ds es : List D} (h : oneT ds = some es) : ds = [.tup es] := by
  match ds, h with
  | [.tup _], rfl => rfl
def mIeT (ms : MA) : MA := fun sg S => (ms sg S).bind fun x => match oneT x.1 with
  | some ds => .ok (enumD 0 ds, x.2)
  | none => .bad
theorem i2_enumT {e : Expr} {ms : MA} {p tpos : Pos} {elts : List Expr} {kk : Nat} (hg : Gl X "enumerate") (hm : X.mg "enumerate" = none) (ha : PA2 X W wk [e] ms) (hs : starEach [e] X.env = [(false, eval e X.env)] := by rfl) :
    PI2 X W wk (.Tuple elts kk tpos) (.Call (.Name "enumerate" p) [e] [] pos) (mIeT ms) := by
  obtain ⟨t, a1, a2⟩ := ha
  refine ⟨_, pi_enumT hg hm a1 hs, fun B H0 as ks ow sg S σ H R r h => ?_⟩
  refine a2 _ _ _ _ _ _ _ _ _ _ r (Den.bind h fun d S1 v H1 e0 e1 s1 q1 h1 => ?_)
  clear e0
  cases ej : oneT d with
  | none => simp only [ej] at h1; exact False.elim h1
  | some ds =>
    simp only [ej] at h1
    rw [oneT_eq ej] at q1
    obtain ⟨x, xs, ev, k1, k2⟩ := q1
    have k2' : xs = [] := k2
    subst k2'
    obtain ⟨a, ys, ex, g1, g2⟩ := id k1
    subst ex
    refine ⟨a, ys, ev, g1, h1 _ H1 Evo.refl s1 (rpI1 (dk := .tup ds) (vk := .ref a) k1 fun B2 H2 rp i => ?_)⟩
    obtain ⟨a', zs, ev', l1, l2⟩ := rp
    cases ev'
    refine ⟨fun hi => ⟨zs, l1, by rw [enumD_len] at hi; rw [← l2.length]; exact hi⟩, fun d hd => ?_⟩
    obtain ⟨x, hx, ed⟩ := enumD_get hd
    obtain ⟨w, w1, w2⟩ := l2.get hx
    refine ⟨⟨zs, w, l1, w1⟩, fun y H3 ⟨T, z, ey, hT, e3, hz⟩ => ?_⟩
    have := hz zs l1
    rw [w1] at this
    cases this
    subst ey e3 ed
    refine ⟨Evo.new hT, repNewT hT (RepA.cons ?_ (RepA.one w2))⟩
    have e0 : 0 + i = i := Nat.zero_add i
    rw [e0]
    exact rfl
/-! ### index -/
theorem idxD_rep {K : PySem.W.Frag} {as : List Addr} {B : Addr → Prop} {H : Hp} {y : D} {w : V} (hy : Rep K as B H y w) (fy : flatD y = true) : ∀ {ds : List D} {vs : List V} {j : Nat}, RepA K as B H ds vs → ds.all flatD = true → idxD y ds = some j →
    ∃ z, vs[j]? = some z ∧ eqV z w = true ∧ ∀ (m : Nat) (z' : V), m < j → vs[m]? = some z' → eqV z' w = false
  | [], vs, j, h, _, e => by cases e
  | d :: ds, vs, j, h, f, e => by
    obtain ⟨v, ws, ev, h1, h2⟩ := h
    subst ev
    rw [List.all_cons, Bool.and_eq_true] at f
    have q := flatD_eqv h1 hy f.1 fy
    simp only [idxD] at e
    split at e
    · rename_i c
      cases e
      exact ⟨v, rfl, by rw [q]; exact c, fun m z' hm => by cases hm⟩
    · rename_i c
      obtain ⟨k, e1, e2⟩ := Option.map_eq_some_iff.mp e
      subst e2
      obtain ⟨z, z1, z2, z3⟩ := idxD_rep hy fy h2 f.2 e1
      refine ⟨z, by simpa using z1, z2, fun m z' hm hz => ?_⟩
      cases m with
      | zero =>
        simp at hz
        subst hz
        rw [q]
        simpa using c
      | succ m => exact z3 m z' (by omega) (by simpa using hz)
def D.isL : D → Bool
  | .lst _ => true
  | _ => false
def D.isS : D → Bool
  | .str _ => true
  | _ => false
theorem flatA_rep {K : PySem.W.Frag} {as : List Addr} {B : Addr → Prop} {H : Hp} : ∀ {ds : List D} {vs : List V}, RepA K as B H ds vs → ds.all flatD = true → vs.all flatV = true
  | [], vs, h, _ => by
    have e : vs = [] := h
    subst e
    rfl
  | d :: ds, vs, h, f => by
    obtain ⟨v, ws, ev, h1, h2⟩ := h
    subst ev
    rw [List.all_cons, Bool.and_eq_true] at f
    rw [List.all_cons, flatD_rep h1 f.1, flatA_rep h2 f.2]
    rfl
theorem meth_index {K : PySem.W.Frag} : MethOk K wk "list" D.isL D.index (rIndex K) := by
  intro as Bs Bw H x v h1 h2 hr hc
  cases x <;> try (cases hc; done)
  rename_i ds
  obtain ⟨a, xs, ev, nb, g1, g2⟩ := hr
  subst ev
  refine ⟨.inl ⟨rfl, xs, SqL.of g1⟩, fun H2 es vs z Q h3 hr ha e q => ?_⟩
  obtain ⟨a', ys, ev, nb, g1, g2⟩ := hr
  cases ev
  match es, e with
  | [y], e =>
    simp only [D.index] at e
    split at e
    · rename_i c
      rw [Bool.and_eq_true] at c
      obtain ⟨j, e1, e2⟩ := Option.map_eq_some_iff.mp e
      subst e2
      obtain ⟨w, ws, ew, k1, k2⟩ := ha
      have k2' : ws = [] := k2
      subst k2'
      obtain ⟨z, z1, z2, z3⟩ := idxD_rep k1 c.1 g2 c.2 e1
      exact ⟨a, ys, w, j, z, rfl, ew, SqL.of g1, flatD_rep k1 c.1, flatA_rep g2 c.2, z1, z2, z3, q _ _ Evo.refl rfl⟩
    · cases e
/-- index in a tuple of texts that the module holds -/
def idxS (z : Str) : List Str → Option Nat
  | [] => none
  | y :: ys => if y = z then some 0 else (idxS z ys).map (· + 1)
theorem idxS_spec (z : Str) : ∀ (ys : List Str) (j : Nat), idxS z ys = some j → ys[j]? = some z ∧ ∀ m, m < j → ys[m]? ≠ some z
  | [], j, e => by cases e
  | y :: ys, j, e => by
    simp only [idxS] at e
    split at e
    · rename_i c
      cases e
      exact ⟨by simp [c], fun m hm => by cases hm⟩
    · rename_i c
      obtain ⟨k, e1, e2⟩ := Option.map_eq_some_iff.mp e
      subst e2
      obtain ⟨h1, h2⟩ := idxS_spec z ys k e1
      refine ⟨by simpa using h1, fun m hm => ?_⟩
      cases m with
      | zero => simpa using c
      | succ m => simpa using h2 m (by omega)
def D.idxIn (l : List Str) : D → Option D
  | .str z => (idxS z l).map fun (j : Nat) => D.int (j : Int)
  | _ => none
theorem e2_gIdx {x : Str} {px apos : Pos} {a : Addr} {l : List Str} {e : Expr} {m : ME} (hg : Gl X x) (hm : X.mg x = some (.ref a)) (ho : ∃ o, X.K.lookup a = some o ∧ o.cls = .type "tuple" ∧ o.dict = none) (hS : ∀ H, SqT X.K H a (l.map V.str)) (he : PE2 X W wk e m) (hd : (x == ("__debug__" : Str)) = false := by decide)
    (hbase : attributeBase (.Name x px) "index" X.env (eval (.Name x px) X.env) = eval (.Name x px) X.env := by rfl)
    (hfew : ((backTo pos (starEach [e] X.env)).all (fun x => !x.1) && (backToKw pos (keywordEach [] X.env)).all (fun x => x.1.isSome)
      && decide (([e] : List Expr).length + ([] : List Keyword).length + (if ([] : List Keyword).isEmpty then 0 else 1) < 30)) = true := by rfl)
    (hline : (apos.endLine == pos.line) = true := by rfl) (hs : starEach [e] X.env = (false, eval e X.env) :: starEach [] X.env := by rfl) (hplain : (backTo pos (starEach [] X.env)).any (·.1) = false := by rfl) :
    PE2 X W wk (.Call (.Attribute (.Name x px) "index" apos) [e] [] pos) (mUn (D.idxIn l) m) := by
  obtain ⟨t, a1, a2⟩ := he
  refine ⟨_, pe_bm PySem.F.plainAttrs_tuple PySem.F.slot_tuple_index PySem.F.type_tuple_index mt_tup_index (pe_glob (v := V.ref a) hg hm rfl hd) (pa_cons a1 pa_nil hs) hbase hfew hline hs hplain, fun B H0 as ks ow sg S σ H Q r h => ?_⟩
  refine ⟨.inr (.inl ⟨rfl, ho⟩), a2 _ _ _ _ _ _ _ _ _ _ r (Den.bind h fun d S1 v H1 e0 e1 s1 q1 h1 => ?_)⟩
  clear e0
  cases d <;> try exact False.elim h1
  rename_i z
  simp only [D.idxIn] at h1
  cases ei : idxS z l with
  | none => rw [ei] at h1; exact False.elim h1
  | some j =>
    rw [ei] at h1
    have ev : v = .str z := q1
    subst ev
    obtain ⟨h3, h4⟩ := idxS_spec z l j ei
    exact ⟨a, l, z, j, rfl, rfl, hS H1, h3, h4, h1 _ H1 Evo.refl s1 rfl⟩
/-! ### slices -/
abbrev MOp := List Sl → List O → R (Option Int × List O)
def PO2 (X : Cx) (W : WX2) (e : Option Expr) (m : MOp) : Prop := ∃ t : TO, PO X e t ∧ ∀ B H0 as ks ow sg S σ H (Q : Option Int → Hp → Prop), Rl X.K B H0 as ks ow sg S σ H →
  Den (ctOf X W B H0 as ks) ow (fun _ a b => b = a) (m sg S) H Q → t σ H Q
def mNoP : MOp := fun _ S => .ok (none, S)
def mPart (m : ME) : MOp := fun sg S => (m sg S).bind fun x => match x.1 with
  | .int i => .ok (some i, x.2)
  | _ => .bad
theorem o2_none : PO2 X W none mNoP := ⟨_, po_none, fun B H0 as ks ow sg S σ H Q r h => h none H Evo.refl r.sto rfl⟩
theorem o2_some {e : Expr} {m : ME} (h : PE2 X W wk e m) : PO2 X W (some e) (mPart m) := by
  obtain ⟨t, a1, a2⟩ := h
  refine ⟨_, po_some a1, fun B H0 as ks ow sg S σ H Q r h => ?_⟩
  refine a2 _ _ _ _ _ _ _ _ _ _ r (Den.bind h fun d S1 v H1 e0 e1 s1 q1 h1 => ?_)
  clear e0
  cases d <;> try exact False.elim h1
  rename_i i
  exact ⟨i, q1, h1 _ H1 Evo.refl s1 rfl⟩
def cutD (xs : List D) (lo hi : Option Int) : List D := (xs.drop (HT.sIx xs.length 0 lo)).take (HT.sIx xs.length xs.length hi - HT.sIx xs.length 0 lo)
def D.slo (lo hi : Option Int) : D → Option D
  | .lst ds => some (.lst (cutD ds lo hi))
  | .tup ds => some (.tup (cutD ds lo hi))
  | .str z => if z.length ≤ 16777216 then some (.str (cutS z lo hi)) else none
  | _ => none
theorem cut_rep {K : PySem.W.Frag} {as : List Addr} {B : Addr → Prop} {H : Hp} {ds : List D} {xs : List V} (h : RepA K as B H ds xs) (lo hi : Option Int) : RepA K as B H (cutD ds lo hi) (cutV xs lo hi) := by
  unfold cutD cutV
  rw [h.length]
  exact (h.drop _).take _
def rSl2 (K : PySem.W.Frag) : V → Option Int → Option Int → Hp → VK → Prop := fun x lo hi H Q => rSlL K x lo hi H Q ∨ (rSlA K x lo hi H Q ∨ rSlS x lo hi H Q)
theorem sl_all : SlR X (rSl2 X.K) := sl_list.or (sl_tupA.or sl_str)
def mSl (m : ME) (ml mh : MOp) : ME := fun sg S => (m sg S).bind fun x => (ml sg x.2).bind fun l => (mh sg l.2).bind fun u => R.of ((D.slo l.1 u.1 x.1).map fun z => (z, u.2))
theorem e2_slice {e : Expr} {lo hi : Option Expr} {m : ME} {ml mh : MOp} {p2 : Pos} (he : PE2 X W wk e m) (hl : PO2 X W lo ml) (hh : PO2 X W hi mh) : PE2 X W wk (.Subscript e (.Slice lo hi none p2) pos) (mSl m ml mh) := by
  obtain ⟨t, a1, a2⟩ := he
  obtain ⟨u, b1, b2⟩ := hl
  obtain ⟨w, c1, c2⟩ := hh
  refine ⟨_, pe_slice sl_all a1 b1 c1, fun B H0 as ks ow sg S σ H Q r h => ?_⟩
  refine a2 _ _ _ _ _ _ _ _ _ _ r (Den.bind h fun d S1 v H1 _ e1 s1 q1 h1 => ?_)
  have r1 := r.step e1 s1
  refine b2 _ _ _ _ _ _ _ _ _ _ r1 (Den.bind h1 fun l S2 l' H2 _ e2 s2 q2 h2 => ?_)
  have r2 := r1.step e2 s2
  refine c2 _ _ _ _ _ _ _ _ _ _ r2 (Den.bind h2 fun k S3 k' H3 _ e3 s3 q3 h3 => ?_)
  have r3 := r2.step e3 s3
  have q2' : l' = l := q2
  have q3' : k' = k := q3
  subst q2' q3'
  have q1' := Rep.imp (B' := if wk then (· ∈ as) else Bd B ow) (e2.trans e3) (asWk r) (fun _ z => z) _ _ q1
  cases d with
  | lst ds =>
    obtain ⟨a, xs, ev, nb, g1, g2⟩ := q1'
    exact .inl ⟨a, xs, ev, SqL.of g1, fun p hp => h3 _ _ (Evo.new hp) (r3.stoNew (Evo.new hp)) (repNewL r.asBd r3.bdDom hp (cut_rep g2 _ _))⟩
  | tup ds =>
    obtain ⟨a, xs, ev, g1, g2⟩ := q1'
    refine .inr (.inl ⟨a, xs, ev, g1, fun hw => h3 _ _ Evo.refl s3 ⟨a, xs, rfl, g1, ?_⟩, fun _ p hp => h3 _ _ (Evo.new hp) (r3.stoNew (Evo.new hp)) (repNewT hp (cut_rep g2 _ _))⟩)
    have := cut_rep g2 l' k'
    unfold cutV at this
    rw [hw.1, hw.2, List.drop_zero, Nat.sub_zero, List.take_length] at this
    exact this
  | str z =>
    simp only [D.slo] at h3
    split at h3
    · rename_i hz
      exact .inr (.inr ⟨z, q1', lineN hz, h3 _ _ Evo.refl s3 rfl⟩)
    · exact False.elim h3
  | _ => exact False.elim h3
end
end D2

namespace D2
open PySem PySem.Spec PyProof.Rows L2

/-! ### the law's own drawer of numbers: a list that all defs share -/
def spBegin (K : PySem.W.Frag) : Sp := fun vs H Q _ => ∃ (a : Addr) (ns : List Int), vs = [.ref a] ∧ SqL K H a (ns.map V.int) ∧ ns.length ≤ 63 ∧
  ∀ (p q : Addr) (seed : Int) (H' : Hp), 0 ≤ seed → seed < 2147483647 → p ≠ q → Evo (fun _ => False) H H' → H' p = some (.lst [.ref q, .int 0, .int 0, .int seed]) → H' q = some (.lst (ns.map V.int)) → Q (.ref p) H'
def spLaw (K : PySem.W.Frag) : Sp := fun vs H Q _ => ∃ (a : Addr) (ns : List Int), vs = [.ref a] ∧ SqL K H a (ns.map V.int) ∧ ns.length ≤ 63 ∧ ∀ H', Q (.bl true) H'
def drawer (ns : List Int) (seed : Int) : O := .lst [.lst (ns.map D.int), .int 0, .int 0, .int seed]
def lawS (n : Nat) : List Sl := .no :: .val (.ref 0) :: List.replicate n .no
theorem rl_law {K : PySem.W.Frag} {p q : Addr} {ns : List Int} {seed : Int} {H : Hp} {σ : L2.St} {n : Nat} (hσ : σ.length = n + 2) (h1 : σ[1]? = some (some (.ref p))) (npq : p ≠ q) (hp : H p = some (.lst [.ref q, .int 0, .int 0, .int seed])) (hq : H q = some (.lst (ns.map V.int))) :
    Rl K (· = p) H [p] [] (List.replicate (n + 2) none) (lawS n) [drawer ns seed] σ H := by
  have nomem : ∀ a (n : Nat), some a ∉ (List.replicate n none : List (Option Addr)) := fun a n z => by
    have := List.eq_of_mem_replicate z
    cases this
  have bd : ∀ a, Bd (· = p) (List.replicate (n + 2) none) a → a = p := fun a h => h.elim id fun z => absurd z (nomem a _)
  refine ⟨by simp [lawS], by simp [lawS, hσ], fun i s hs => ?_, fun i j a h _ => absurd (List.mem_of_getElem? h) (nomem a _), fun a h => absurd h (nomem a _), fun a h => absurd h (nomem a _), fun a h => ?_, fun a h => List.mem_singleton.mp h, Evo.refl, ⟨rfl, List.pairwise_singleton _ _, fun m o hm => ?_⟩, fun p hp => by cases hp⟩
  · have hl : i < (lawS n).length := (List.getElem?_eq_some_iff.mp hs).1
    have hl' : i < n + 2 := by simpa [lawS] using hl
    have hx : i < σ.length := by omega
    refine ⟨none, σ[i], by rw [List.getElem?_replicate, if_pos hl'], List.getElem?_eq_getElem hx, ?_⟩
    match i, hs, hx with
    | 0, hs, hx => cases hs; rfl
    | 1, hs, hx =>
      cases hs
      refine ⟨rfl, .ref p, ?_, p, rfl, rfl⟩
      rw [List.getElem?_eq_getElem hx] at h1
      exact Option.some.inj h1
    | i + 2, hs, hx =>
      have hs' : (List.replicate n Sl.no)[i]? = some s := hs
      rw [List.getElem?_replicate] at hs'
      split at hs'
      · cases hs'; rfl
      · cases hs'
  · rw [h, hp]
    exact fun z => nomatch z
  · match m, hm with
    | 0, hm =>
      cases hm
      refine ⟨p, rfl, [.ref q, .int 0, .int 0, .int seed], hp, .ref q, _, rfl, ⟨q, _, rfl, fun z => npq (bd q z).symm, hq, rep_ints ns⟩, .int 0, _, rfl, rfl, .int 0, _, rfl, rfl, .int seed, _, rfl, rfl, rfl⟩
    | m + 1, hm => cases hm
theorem sqL_ints {K : PySem.W.Frag} {H : Hp} {a : Addr} {ns : List Int} (h : SqL K H a (ns.map V.int)) {i : Nat} {x : V} (e : (ns.map V.int)[i]? = some x) : ∃ z, x = V.int z := by
  rw [List.getElem?_map] at e
  cases q : ns[i]? with
  | none => rw [q] at e; cases e
  | some z => rw [q] at e; exact ⟨z, (Option.some.inj e).symm⟩
theorem units64 {A : Around} {k : Nat} (hr : Room k A) : A.units + 64 < cLine := Nat.lt_of_le_of_lt (by omega) hr.un
/-! constants of the module: tuples of texts -/
def strsOf : List Value → Option (List Str)
  | [] => some []
  | .str x _ :: vs => (strsOf vs).map (x :: ·)
  | _ :: _ => none
theorem vals_strs : ∀ {vs : List Value} {l : List Str}, strsOf vs = some l → Vals (l.map V.str) vs
  | [], l, h => by cases h; exact .nil
  | v :: vs, l, h => by
    cases v <;> try (cases h; done)
    rename_i x t
    simp only [strsOf, Option.map_eq_some_iff] at h
    obtain ⟨ms, h1, h2⟩ := h
    subst h2
    exact .cons ⟨_, rfl⟩ (vals_strs h1)
theorem sqT_const {K : PySem.W.Frag} {H : Hp} {a : Addr} {od : Option Addr} {osl : Array (Option Value)} {its : Array Value} {n : Nat} {l : List Str} (h : K.lookup a = some ⟨.type "tuple", od, .seq its n, osl⟩) (hv : strsOf its.toList = some l) (hl : l.length ≤ sizeLine) : SqT K H a (l.map V.str) := by
  have q := vals_strs hv
  refine .inr ⟨_, its, n, h, rfl, rfl, ?_, q⟩
  have := q.length
  rw [List.length_map] at this
  simp at this
  omega
theorem rep_const {K : PySem.W.Frag} {as : List Addr} {B : Addr → Prop} {H : Hp} {a : Addr} {od : Option Addr} {osl : Array (Option Value)} {its : Array Value} {n : Nat} {l : List Str} (h : K.lookup a = some ⟨.type "tuple", od, .seq its n, osl⟩) (hv : strsOf its.toList = some l) (hl : l.length ≤ sizeLine) : Rep K as B H (.tup (l.map D.str)) (.ref a) :=
  ⟨a, _, rfl, sqT_const h hv hl, rep_strs l⟩
/-- walking the top: as in the guides, for spLaw -/
theorem walkL {l : PySem.W.OpenLaw} {q : Program} {loose : List Str} {XP : (Str → Option Value) → Heap → Prop} {YP : World → Heap → Prop} {d : DefRec} {K : Params → PySem.W.Frag} {k : Nat} (hn : l.most = some 63) (hdf : d.params.defaults = []) (hr : Room k callerA)
    (hY : ∀ (w : World) (h : Heap), YP w h → (K w.params).In h)
    (F : ∀ (w : World) (mg : Str → Option Value) (fa : Addr) (h : Heap), (K w.params).In h → h.Ns mainGlobals mg → mg d.name = some (.ref fa) →
      ∃ fd : FuncData, (∀ (s : Shared) (u : Value), BindsTo s fd ⟨[u], []⟩ [("script", u)]) ∧ ∀ base : Heap, (K w.params).In base → base.Ns mainGlobals mg → FnOk l.prog w (K w.params) mg base CX0 k fa fd ["script"] (spLaw (K w.params))) :
    PySem.W.WalkO q loose XP YP l.row.toRowW d [] (fun f vs => PySem.call f vs) :=
  L2.walk_of (n := 63) (k := k) (x := "script") (CX := fun _ => CX0) (sp := fun w => spLaw (K w.params)) hn (by decide) hdf hr hY F (fun _ _ a ns hl _ hS => ⟨a, ns, rfl, hS, hl, fun _ => rfl⟩) fun _ _ _ _ _ z => z
end D2

namespace D2
open PySem PySem.Spec PyProof.Rows L2

section
variable {X : Cx} {W : WX2} {wk wk' : Bool} {pos : Pos}
/-! ### ranges whose bounds read a name's own object; ranges with a step -/
theorem i2_rng1x {tg a : Expr} {ms : MA} {p : Pos} (hg : Gl X "range") (hm : X.mg "range" = none) (ha : PA2 X W wk [a] ms) (hs : starEach [a] X.env = [(false, eval a X.env)] := by rfl) : PI2 X W wk' tg (.Call (.Name "range" p) [a] [] pos) (mIr1 ms) := by
  obtain ⟨t, a1, a2⟩ := ha
  refine ⟨_, pi_range1 hg hm a1 hs, fun B H0 as ks ow sg S σ H R r h => ?_⟩
  refine a2 _ _ _ _ _ _ _ _ _ _ r (Den.bind h fun d S1 v H1 e0 e1 s1 q1 h1 => ?_)
  clear e0
  cases ej : one1 d with
  | none => simp only [ej] at h1; exact False.elim h1
  | some j =>
    simp only [ej] at h1
    have ev := one1_rep q1 ej
    by_cases hc : lim62 j = true
    · simp only [if_pos hc] at h1
      have hc' := lim62_of hc
      refine ⟨j, ev, hc'.1, hc'.2, h1 _ H1 Evo.refl s1 (rpI1 (dk := .non) (vk := .non) rfl fun B2 H2 _ i => ⟨fun hi => by rw [rngD_len] at hi; exact hi, fun d hd => ?_⟩)⟩
      obtain ⟨hi, ed⟩ := rngD_get hd
      refine ⟨hi, fun x H3 ⟨e3, ex⟩ => ?_⟩
      subst e3 ex ed
      exact ⟨Evo.refl, rfl⟩
    · simp only [if_neg hc] at h1
      exact False.elim h1
theorem i2_rng2x {tg a b : Expr} {ms : MA} {p : Pos} (hg : Gl X "range") (hm : X.mg "range" = none) (ha : PA2 X W wk [a, b] ms) (hs : starEach [a, b] X.env = [(false, eval a X.env), (false, eval b X.env)] := by rfl) (hs2 : starEach [b] X.env = [(false, eval b X.env)] := by rfl) :
    PI2 X W wk' tg (.Call (.Name "range" p) [a, b] [] pos) (mIr2 ms) := by
  obtain ⟨t, a1, a2⟩ := ha
  refine ⟨_, pi_range2 hg hm a1 hs hs2, fun B H0 as ks ow sg S σ H R r h => ?_⟩
  refine a2 _ _ _ _ _ _ _ _ _ _ r (Den.bind h fun d S1 v H1 e0 e1 s1 q1 h1 => ?_)
  clear e0
  cases ej : two2 d with
  | none => simp only [ej] at h1; exact False.elim h1
  | some p =>
    obtain ⟨i, j⟩ := p
    simp only [ej] at h1
    have ev := two2_rep q1 ej
    by_cases hc : (lim62 i && lim62 j) = true
    · simp only [if_pos hc] at h1
      rw [Bool.and_eq_true] at hc
      have c1 := lim62_of hc.1
      have c2 := lim62_of hc.2
      refine ⟨i, j, ev, ⟨c1.1, c1.2, c2.1, c2.2⟩, h1 _ H1 Evo.refl s1 (rpI1 (dk := .non) (vk := .non) rfl fun B2 H2 _ k => ⟨fun hi => by rw [rngD_len] at hi; exact hi, fun d hd => ?_⟩)⟩
      obtain ⟨hi, ed⟩ := rngD_get hd
      refine ⟨hi, fun x H3 ⟨e3, ex⟩ => ?_⟩
      subst e3 ex ed
      exact ⟨Evo.refl, rfl⟩
    · simp only [if_neg hc] at h1
      exact False.elim h1
def rngC (lo c : Int) (n : Nat) : List D := (List.range n).map fun (k : Nat) => D.int (lo + (k : Int) * c)
theorem rngC_len (lo c : Int) (n : Nat) : (rngC lo c n).length = n := by simp [rngC]
theorem rngC_get {lo c : Int} {n i : Nat} {d : D} (h : (rngC lo c n)[i]? = some d) : i < n ∧ d = .int (lo + (i : Int) * c) := by
  unfold rngC at h
  rw [List.getElem?_map] at h
  by_cases hi : i < n
  · rw [List.getElem?_range hi] at h
    exact ⟨hi, (Option.some.inj h).symm⟩
  · rw [List.getElem?_eq_none (by simpa using hi)] at h
    cases h
def thr3 : List D → Option (Int × Int × Int)
  | [.int i, .int j, .int k] => some (i, j, k)
  | _ => none
theorem thr3_rep {K : PySem.W.Frag} {as : List Addr} {B : Addr → Prop} {H : Hp} {ds : List D} {vs : List V} {i j k : Int} (h : RepA K as B H ds vs) (e : thr3 ds = some (i, j, k)) : vs = [.int i, .int j, .int k] := by
  match ds, e, h with
  | [.int i, .int j, .int k], rfl, h =>
    obtain ⟨x, xs, ev, k1, y, ys, ev2, k2, z, zs, ev3, k4, k5⟩ := h
    have k5' : zs = [] := k5
    have k1' : x = .int i := k1
    have k2' : y = .int j := k2
    have k4' : z = .int k := k4
    rw [ev, ev2, ev3, k1', k2', k4', k5']
def rgOk (i j c : Int) : Bool := decide (0 < c ∧ c < 1073741824) && Builtin.Range.small i j c
def mIr3 (ms : MA) : MA := fun sg S => (ms sg S).bind fun x => match thr3 x.1 with
  | some (i, j, c) => if rgOk i j c = true then .ok (rngC i c (Builtin.Range.rangeSize i j c).toNat, x.2) else .bad
  | none => .bad
theorem rgOk_of {i j c : Int} (h : rgOk i j c = true) : RgC i j c (Builtin.Range.rangeSize i j c).toNat := by
  unfold rgOk at h
  rw [Bool.and_eq_true] at h
  have h1 : 0 < c ∧ c < 1073741824 := of_decide_eq_true h.1
  refine ⟨by omega, by omega, h.2, ?_⟩
  have h0 : 0 ≤ Builtin.Range.rangeSize i j c := by
    unfold Builtin.Range.rangeSize
    split
    · split
      · rename_i h2 h3
        have := Int.ediv_nonneg (a := j - i - 1) (b := c) (by omega) (by omega)
        first | omega | (show (0 : Int) ≤ _; omega)
      · omega
    · first | omega | (split <;> omega)
  omega
theorem i2_rng3x {tg a b c : Expr} {ms : MA} {p : Pos} (hg : Gl X "range") (hm : X.mg "range" = none) (ha : PA2 X W wk [a, b, c] ms) (hs : starEach [a, b, c] X.env = (false, eval a X.env) :: starEach [b, c] X.env := by rfl) (hpl : (backTo pos (starEach [b, c] X.env)).any (·.1) = false := by rfl) :
    PI2 X W wk' tg (.Call (.Name "range" p) [a, b, c] [] pos) (mIr3 ms) := by
  obtain ⟨t, a1, a2⟩ := ha
  refine ⟨_, pi_range3 hg hm a1 hs hpl, fun B H0 as ks ow sg S σ H R r h => ?_⟩
  refine a2 _ _ _ _ _ _ _ _ _ _ r (Den.bind h fun d S1 v H1 e0 e1 s1 q1 h1 => ?_)
  clear e0
  cases ej : thr3 d with
  | none => simp only [ej] at h1; exact False.elim h1
  | some p =>
    obtain ⟨i, j, c⟩ := p
    simp only [ej] at h1
    have ev := thr3_rep q1 ej
    by_cases hc : rgOk i j c = true
    · simp only [if_pos hc] at h1
      refine ⟨i, j, c, _, ev, rgOk_of hc, h1 _ H1 Evo.refl s1 (rpI1 (dk := .non) (vk := .non) rfl fun B2 H2 _ k => ⟨fun hi => by rw [rngC_len] at hi; exact hi, fun d hd => ?_⟩)⟩
      obtain ⟨hi, ed⟩ := rngC_get hd
      refine ⟨hi, fun x H3 ⟨e3, ex⟩ => ?_⟩
      subst e3 ex ed
      exact ⟨Evo.refl, rfl⟩
    · simp only [if_neg hc] at h1
      exact False.elim h1
/-! ### list(range(n)) -/
def oLrg (m : ME) : MO := fun sg S => (m sg S).bind fun x => match x.1 with
  | .int n => if decide (0 ≤ n ∧ n ≤ 16777216) = true then .ok (.lst (rngD 0 n.toNat), x.2) else .bad
  | _ => .bad
theorem repA_map {K : PySem.W.Frag} {as : List Addr} {B : Addr → Prop} {H : Hp} {α : Type} {f : α → D} {g : α → V} : ∀ {l : List α}, (∀ x ∈ l, Rep K as B H (f x) (g x)) → RepA K as B H (l.map f) (l.map g)
  | [], _ => rfl
  | x :: l, h => RepA.cons (h x List.mem_cons_self) (repA_map fun y hy => h y (List.mem_cons_of_mem _ hy))
theorem f2_lrng {e : Expr} {m : ME} {p p2 q : Pos} (hc : X.calm = true) (hg : Gl X "list") (hm : X.mg "list" = none) (hg2 : Gl X "range") (hm2 : X.mg "range" = none) (he : PE2 X W wk e m)
    (n1 : starEach [e] X.env = (false, eval e X.env) :: starEach [] X.env := by rfl) (n2 : starEach [.Call (.Name "range" p2) [e] [] q] X.env = (false, eval (.Call (.Name "range" p2) [e] [] q) X.env) :: starEach [] X.env := by rfl) :
    PF2 X W (.Call (.Name "list" p) [.Call (.Name "range" p2) [e] [] q] [] pos) (oLrg m) := by
  obtain ⟨t, a1, a2⟩ := he
  refine ⟨_, pe_listRg hc hg hm (prg_1 hg2 hm2 a1 n1) n2, fun B H0 as ks ow sg S σ H Q r h => ?_⟩
  refine a2 _ _ _ _ _ _ _ _ _ _ r (DenO.bind h fun x S1 v H1 c1 e1 s1 q1 h1 => ?_)
  clear c1
  cases x <;> try exact False.elim h1
  rename_i n
  by_cases hl : 0 ≤ n ∧ n ≤ 16777216
  · simp only [decide_eq_true hl, if_true] at h1
    refine ⟨n, q1, RgOk.of_le (Int.le_refl _) hl.2 (by decide) hl.1, fun p hp => h1 p _ hp (Evo.new hp) (boxNew hp s1) ⟨rgV 0 n, upd_same, boxNewA hp ?_⟩⟩
    unfold rgV rngD
    rw [Int.sub_zero]
    exact repA_map fun k _ => rfl
  · simp only [decide_eq_false hl] at h1
    exact False.elim h1
/-! ### tests x is None -/
theorem t2_isN {a : Expr} {m : ME} {j pos'} (h : PE2 X W wk a m) : PT2 X W (.Compare a [.Is] [.Constant .none j pos'] pos) (mTst (mIsN false m)) := by
  obtain ⟨t, h1, h2⟩ := h
  refine ⟨_, pt_cmp (pc_isN h1) rfl, fun B H0 as ks ow sg S σ H Q r h => ?_⟩
  rw [show mTst (mIsN false m) sg S = (m sg S).bind (fun x => .ok ((match x.1 with | .non => true | _ => false), x.2)) from by
    unfold mTst mIsN
    cases m sg S with
    | ok x => rfl
    | ex => rfl
    | bad => rfl] at h
  refine h2 _ _ _ _ _ _ _ _ _ _ r (Den.bind h fun d S1 v H1 e0 e1 s1 q1 h1 => ?_)
  refine ⟨decide (v = V.non), rfl, ?_⟩
  rw [isN_rep q1]
  exact h1 _ H1 Evo.refl s1 (by cases d <;> rfl)
theorem t2_notN {a : Expr} {m : ME} {j pos'} (h : PE2 X W wk a m) : PT2 X W (.Compare a [.IsNot] [.Constant .none j pos'] pos) (mTst (mIsN true m)) := by
  obtain ⟨t, h1, h2⟩ := h
  refine ⟨_, pt_cmp (pc_notN h1) rfl, fun B H0 as ks ow sg S σ H Q r h => ?_⟩
  rw [show mTst (mIsN true m) sg S = (m sg S).bind (fun x => .ok ((match x.1 with | .non => false | _ => true), x.2)) from by
    unfold mTst mIsN
    cases m sg S with
    | ok x => rfl
    | ex => rfl
    | bad => rfl] at h
  refine h2 _ _ _ _ _ _ _ _ _ _ r (Den.bind h fun d S1 v H1 e0 e1 s1 q1 h1 => ?_)
  refine ⟨!decide (v = V.non), rfl, ?_⟩
  rw [isN_rep q1]
  exact h1 _ H1 Evo.refl s1 (by cases d <;> rfl)
/-! ### x.append(y.pop(e)) -/
def popAt (ys : List D) (k : Int) : Option (List D × D) := if decide (0 ≤ k ∧ k < (ys.length : Int) ∧ k < 4611686018427387904) = true then match ys[k.toNat]? with
    | some d => some (ys.eraseIdx k.toNat, d)
    | none => none
  else none
def mAppPop (i j : Nat) (m : ME) : MS := fun sg S => match sg[i]?, sg[j]? with
  | some (.own (.lst xs)), some (.own (.lst ys)) => (m sg S).bind fun z => match z.1 with
    | .int k => match popAt ys k with
      | some (ys', d) => if xs.length < 16777216 then .ok (.nx, (sg.set j (.own (.lst ys'))).set i (.own (.lst (xs ++ [d]))), z.2) else .bad
      | none => .bad
    | _ => .bad
  | _, _ => .bad
theorem RepA.eraseIdx {K : PySem.W.Frag} {as : List Addr} {B : Addr → Prop} {H : Hp} : ∀ {ds : List D} {xs : List V} (n : Nat), RepA K as B H ds xs → RepA K as B H (ds.eraseIdx n) (xs.eraseIdx n)
  | [], xs, n, h => by
    have e : xs = [] := h
    subst e
    exact rfl
  | d :: ds, xs, 0, h => by
    obtain ⟨v, vs, e1, h1, h2⟩ := h
    subst e1
    exact h2
  | d :: ds, xs, n + 1, h => by
    obtain ⟨v, vs, e1, h1, h2⟩ := h
    subst e1
    exact RepA.cons h1 (RepA.eraseIdx n h2)
theorem s2_appPop (i j : Nat) {x y : Str} {px py apos cpos apos2 cpos2 : Pos} {e : Expr} {me : ME} (hij : i ≠ j)
    (pa : PlainAttrs "list") (slot : Slot "list" "append" "list.append") (hty : typeOf (.builtin "list.append") = pure (.type "method_descriptor")) (slot2 : Slot "list" "pop" "list.pop") (hty2 : typeOf (.builtin "list.pop") = pure (.type "method_descriptor")) (he : PE2 X W wk e me)
    (hN : X.N[i]? = some x := by rfl) (hv : Vis X.env.scope x := by first | exact Or.inl rfl | exact Or.inr (Or.inl rfl) | exact Or.inr (Or.inr rfl)) (hd : (x == ("__debug__" : Str)) = false := by decide) (hcd : (x == ("__classdict__" : Str)) = false := by decide)
    (hN2 : X.N[j]? = some y := by rfl) (hv2 : Vis X.env.scope y := by first | exact Or.inl rfl | exact Or.inr (Or.inl rfl) | exact Or.inr (Or.inr rfl)) (hd2 : (y == ("__debug__" : Str)) = false := by decide) (hcd2 : (y == ("__classdict__" : Str)) = false := by decide)
    (b2 : attributeBase (.Name y py) "pop" X.env (eval (.Name y py) X.env) = eval (.Name y py) X.env := by rfl)
    (f2 : ((backTo cpos2 (starEach [e] X.env)).all (fun x => !x.1) && (backToKw cpos2 (keywordEach [] X.env)).all (fun x => x.1.isSome)
      && decide (([e] : List Expr).length + ([] : List Keyword).length + (if ([] : List Keyword).isEmpty then 0 else 1) < 30)) = true := by rfl)
    (l2 : (apos2.endLine == cpos2.line) = true := by rfl) (s2 : starEach [e] X.env = (false, eval e X.env) :: starEach [] X.env := by rfl) (p2 : (backTo cpos2 (starEach [] X.env)).any (·.1) = false := by rfl)
    (b1 : attributeBase (.Name x px) "append" X.env (eval (.Name x px) X.env) = eval (.Name x px) X.env := by rfl)
    (f1 : ((backTo cpos (starEach [.Call (.Attribute (.Name y py) "pop" apos2) [e] [] cpos2] X.env)).all (fun x => !x.1) && (backToKw cpos (keywordEach [] X.env)).all (fun x => x.1.isSome)
      && decide (([.Call (.Attribute (.Name y py) "pop" apos2) [e] [] cpos2] : List Expr).length + ([] : List Keyword).length + (if ([] : List Keyword).isEmpty then 0 else 1) < 30)) = true := by rfl)
    (l1 : (apos.endLine == cpos.line) = true := by rfl) (s1 : starEach [.Call (.Attribute (.Name y py) "pop" apos2) [e] [] cpos2] X.env = (false, eval (.Call (.Attribute (.Name y py) "pop" apos2) [e] [] cpos2) X.env) :: starEach [] X.env := by rfl) (p1 : (backTo cpos (starEach [] X.env)).any (·.1) = false := by rfl)
    (hsw : swapsWith (.Call (.Attribute (.Name x px) "append" apos) [.Call (.Attribute (.Name y py) "pop" apos2) [e] [] cpos2] [] cpos) none pos.line X.env = pure false := by rfl) :
    PS2 X W (.Expr (.Call (.Attribute (.Name x px) "append" apos) [.Call (.Attribute (.Name y py) "pop" apos2) [e] [] cpos2] [] cpos) pos) (mAppPop i j me) := by
  obtain ⟨t, a1, a2⟩ := he
  refine ⟨_, ps_expr (pe_bm pa slot hty mt_append (pe_var hN hv hd hcd) (pa_cons (pe_bm pa slot2 hty2 mt_popAt (pe_var hN2 hv2 hd2 hcd2) (pa_cons a1 pa_nil s2) b2 f2 l2 s2 p2) pa_nil s1) b1 f1 l1 s1 p1) hsw, fun B H0 as ks ow sg S σ H Dd r h => ?_⟩
  unfold mAppPop at h
  cases ei : sg[i]? with
  | none => simp only [ei] at h; exact False.elim h
  | some si =>
    cases si with
    | no => simp only [ei] at h; exact False.elim h
    | val d => simp only [ei] at h; exact False.elim h
    | own oi =>
      cases oi with
      | dic _ _ => simp only [ei] at h; exact False.elim h
      | lst xs =>
        cases ej : sg[j]? with
        | none => simp only [ei, ej] at h; exact False.elim h
        | some sj =>
          cases sj with
          | no => simp only [ei, ej] at h; exact False.elim h
          | val d => simp only [ei, ej] at h; exact False.elim h
          | own oj =>
            cases oj with
            | dic _ _ => simp only [ei, ej] at h; exact False.elim h
            | lst ys =>
              simp only [ei, ej] at h
              obtain ⟨wi, xi, i1, i2, a, i3, i4, i5⟩ := r.sl i _ ei
              subst i3 i4
              obtain ⟨wj, xj, j1, j2, b, j3, j4, j5⟩ := r.sl j _ ej
              subst j3 j4
              obtain ⟨vs, v1, v2⟩ := i5
              obtain ⟨us, u1, u2⟩ := j5
              refine ⟨_, i2, tyL v1, ⟨_, j2, tyL u1, a2 _ _ _ _ _ _ _ _ _ _ r (DenS.bindE h fun d S1 v H1 c1 e1 s1 q1 h1 => ?_)⟩⟩
              clear c1
              cases d <;> try exact False.elim h1
              rename_i k
              have ev : v = .int k := q1
              subst ev
              have r1 := r.step e1 s1
              simp only [popAt] at h1
              by_cases hk : 0 ≤ k ∧ k < (ys.length : Int) ∧ k < 4611686018427387904
              · simp only [decide_eq_true hk, if_true] at h1
                have hb : k.toNat < ys.length := by omega
                rw [List.getElem?_eq_getElem hb] at h1
                simp only [] at h1
                by_cases hl : xs.length < 16777216
                · rw [if_pos hl] at h1
                  obtain ⟨us', w1, w2⟩ : ORep X.K as (Bd B ow) H1 (.lst ys) b := ORep.imp e1 r.asBd (fun _ z => z) _ b (r.ownAs (List.mem_of_getElem? j1)) ⟨us, u1, u2⟩
                  obtain ⟨z, z1, z2⟩ := w2.get (List.getElem?_eq_getElem hb)
                  refine ⟨b, us', k, k.toNat, z, rfl, rfl, w1, by omega, by omega, ?_, z1, ?_⟩
                  · unfold seqIndex?
                    rw [← w2.length]
                    have e0 : ¬ k < 0 := by omega
                    simp only [if_neg e0]
                    rw [if_pos (by simp; omega)]
                  · have mj := List.mem_of_getElem? j1
                    have mi := List.mem_of_getElem? i1
                    have r2 := r1.putOwn (o' := .lst (ys.eraseIdx k.toNat)) (u := .lst (us'.eraseIdx k.toNat)) ej j1 ⟨us'.eraseIdx k.toNat, upd_same, put_rep w1 (fun _ z => by cases z) (fun _ _ z => by cases z) (.inr mj) (w2.eraseIdx _)⟩
                    have z2' := Rep.imp (W := (· = b)) (B' := Bd B ow) (Evo.put (o' := .lst (us'.eraseIdx k.toNat)) w1 (fun _ z => by cases z) (fun _ _ z => by cases z) rfl) (fun c z => z ▸ .inr mj) (fun _ z => z) _ _ z2
                    have ei2 : (sg.set j (.own (.lst (ys.eraseIdx k.toNat))))[i]? = some (.own (.lst xs)) := by rw [List.getElem?_set_ne (Ne.symm hij)]; exact ei
                    obtain ⟨wi2, xi2, k1, k2, a', k3, k4, k5⟩ := r2.sl i _ ei2
                    rw [i1] at k1
                    cases k1
                    cases k3
                    obtain ⟨vs', g1, g2⟩ := k5
                    refine ⟨a, vs', z, rfl, rfl, g1, lineL (by rw [← g2.length]; exact hl), ?_⟩
                    exact h1 _ _ _ (r2.putOwn ei2 i1 ⟨vs' ++ [z], upd_same, put_rep g1 (fun _ z => by cases z) (fun _ _ z => by cases z) (.inr mi) (g2.append (RepA.one z2'))⟩)
                · rw [if_neg hl] at h1
                  exact False.elim h1
              · simp only [decide_eq_false hk] at h1
                exact False.elim h1
end

/-! ### sorted(set(x)), x a list of tuples of ints: those that differ, ascending -/
def insU (n : List Int) : List (List Int) → List (List Int)
  | [] => [n]
  | m :: ms => if n = m then m :: ms else if TS.code 1000000 n < TS.code 1000000 m then n :: m :: ms else m :: insU n ms
def sortU : List (List Int) → List (List Int)
  | [] => []
  | n :: ns => insU n (sortU ns)
theorem mem_insU {n x : List Int} : ∀ {l : List (List Int)}, x ∈ insU n l ↔ x = n ∨ x ∈ l
  | [] => by simp [insU]
  | m :: ms => by
    unfold insU
    split
    · rename_i h
      subst h
      simp
    · split
      · simp
      · rw [List.mem_cons, mem_insU (l := ms), List.mem_cons]
        constructor
        · rintro (h | h | h)
          · exact .inr (.inl h)
          · exact .inl h
          · exact .inr (.inr h)
        · rintro (h | h | h)
          · exact .inr (.inl h)
          · exact .inl h
          · exact .inr (.inr h)
theorem mem_sortU {x : List Int} : ∀ {l : List (List Int)}, x ∈ sortU l ↔ x ∈ l
  | [] => by simp [sortU]
  | n :: ns => by rw [sortU, mem_insU, mem_sortU, List.mem_cons]
theorem code_inj {B : Int} : ∀ {r q : List Int}, r.length = q.length → TS.Bd B r → TS.Bd B q → TS.code B r = TS.code B q → r = q
  | [], [], _, _, _, _ => rfl
  | [], _ :: _, h, _, _, _ => by cases h
  | _ :: _, [], h, _, _, _ => by cases h
  | d :: r, e :: q, h, h1, h2, hc => by
    have hl : r.length = q.length := by simpa using h
    rcases Int.lt_trichotomy d e with c | c | c
    · have := TS.code_lt hl h1.tail h2.tail c
      omega
    · subst c
      have hc' : TS.code B r = TS.code B q := by
        rcases Int.lt_trichotomy (TS.code B r) (TS.code B q) with k | k | k
        · have := (TS.code_same (d := d) hl).mpr k
          omega
        · exact k
        · have := (TS.code_same (d := d) hl.symm).mpr k
          omega
      rw [code_inj hl h1.tail h2.tail hc']
    · have := TS.code_lt hl.symm h2.tail h1.tail c
      omega
def U3 (d : Nat) (n : List Int) : Prop := n.length = d ∧ TS.Bd 1000000 n
theorem insU_sorted {d : Nat} {n : List Int} (hn : U3 d n) : ∀ {l : List (List Int)}, (∀ m ∈ l, U3 d m) → l.Pairwise (fun a b => TS.code 1000000 a < TS.code 1000000 b) → (insU n l).Pairwise (fun a b => TS.code 1000000 a < TS.code 1000000 b)
  | [], _, _ => List.pairwise_singleton _ _
  | m :: ms, hu, hp => by
    obtain ⟨p1, p2⟩ := List.pairwise_cons.mp hp
    unfold insU
    split
    · exact hp
    · rename_i hne
      split
      · rename_i hlt
        refine List.pairwise_cons.mpr ⟨fun y hy => ?_, hp⟩
        rcases List.mem_cons.mp hy with e | hy
        · rw [e]; exact hlt
        · exact Int.lt_trans hlt (p1 y hy)
      · rename_i hlt
        refine List.pairwise_cons.mpr ⟨fun y hy => ?_, insU_sorted hn (fun x hx => hu x (List.mem_cons_of_mem _ hx)) p2⟩
        rcases mem_insU.mp hy with e | hy
        · rw [e]
          have hm := hu m List.mem_cons_self
          have : TS.code 1000000 n ≠ TS.code 1000000 m := fun z => hne (code_inj (hn.1.trans hm.1.symm) hn.2 hm.2 z)
          omega
        · exact p1 y hy
theorem sortU_sorted {d : Nat} : ∀ {l : List (List Int)}, (∀ m ∈ l, U3 d m) → (sortU l).Pairwise (fun a b => TS.code 1000000 a < TS.code 1000000 b)
  | [], _ => List.Pairwise.nil
  | n :: ns, hu => insU_sorted (hu n List.mem_cons_self) (fun m hm => hu m (List.mem_cons_of_mem _ (mem_sortU.mp hm))) (sortU_sorted fun m hm => hu m (List.mem_cons_of_mem _ hm))
theorem strict_one {α : Type} {f : α → Int} : ∀ {l m : List α}, l.Pairwise (fun a b => f a < f b) → m.Pairwise (fun a b => f a < f b) → (∀ x, x ∈ l ↔ x ∈ m) → l = m
  | [], [], _, _, _ => rfl
  | [], y :: m, _, _, h => absurd ((h y).mpr List.mem_cons_self) (by simp)
  | x :: l, [], _, _, h => absurd ((h x).mp List.mem_cons_self) (by simp)
  | x :: l, y :: m, hl, hm, h => by
    obtain ⟨l1, l2⟩ := List.pairwise_cons.mp hl
    obtain ⟨m1, m2⟩ := List.pairwise_cons.mp hm
    have exy : x = y := by
      rcases List.mem_cons.mp ((h x).mp List.mem_cons_self) with e | hx
      · exact e
      · rcases List.mem_cons.mp ((h y).mpr List.mem_cons_self) with e | hy
        · exact e.symm
        · have h1 := l1 y hy
          have h2 := m1 x hx
          omega
    subst exy
    rw [strict_one l2 m2 fun z => ?_]
    constructor
    · intro hz
      rcases List.mem_cons.mp ((h z).mp (List.mem_cons_of_mem _ hz)) with e | hz2
      · subst e
        have := l1 z hz
        omega
      · exact hz2
    · intro hz
      rcases List.mem_cons.mp ((h z).mpr (List.mem_cons_of_mem _ hz)) with e | hz2
      · subst e
        have := m1 z hz
        omega
      · exact hz2
def tupI (ns : List Int) : D := .tup (ns.map D.int)
def tupsOf : List D → Option (List (List Int))
  | [] => some []
  | .tup ds :: r => match D.ints ds, tupsOf r with
    | some n, some m => some (n :: m)
    | _, _ => none
  | _ => none
theorem tupsOf_map : ∀ l : List (List Int), tupsOf (l.map tupI) = some l
  | [] => rfl
  | n :: l => by
    rw [List.map_cons, tupI, tupsOf, ints_map, tupsOf_map l]
def okU (l : List (List Int)) : Bool := decide (l.length < 64) && l.all fun ns => decide (ns.length = (l.headD []).length) && (decide (1 ≤ ns.length) && ns.all fun i => decide (0 ≤ i ∧ i < 1000000))
def D.sset : D → Option D
  | .lst ds => match tupsOf ds with
    | some l => if okU l = true then some (.lst ((sortU l).map tupI)) else none
    | none => none
  | _ => none
section
variable {K : PySem.W.Frag} {as : List Addr} {B : Addr → Prop} {H : Hp}
theorem tups_rep : ∀ {ds : List D} {vs : List V} {l : List (List Int)}, RepA K as B H ds vs → tupsOf ds = some l → ∃ ks : List (Addr × List Int), vs = (ks.map fun p => V.ref p.1) ∧ ks.map (·.2) = l ∧ ∀ p ∈ ks, SqT K H p.1 (p.2.map V.int)
  | [], vs, l, h, e => by
    have e' : vs = [] := h
    subst e'
    cases e
    exact ⟨[], rfl, rfl, fun p hp => by cases hp⟩
  | d :: ds, vs, l, h, e => by
    obtain ⟨v, ws, e1, h1, h2⟩ := h
    subst e1
    cases d <;> try (cases e; done)
    rename_i es
    simp only [tupsOf] at e
    split at e
    · rename_i n m hn hm
      cases e
      obtain ⟨ks, k1, k2, k3⟩ := tups_rep h2 hm
      obtain ⟨a, xs, ev, g1, g2⟩ := h1
      subst ev k1
      rw [ints_rep g2 hn] at g1
      refine ⟨(a, n) :: ks, rfl, by rw [List.map_cons, k2], fun p hp => ?_⟩
      rcases List.mem_cons.mp hp with e | hp
      · subst e; exact g1
      · exact k3 p hp
    · cases e
theorem rep_tups : ∀ {ks : List (Addr × List Int)}, (∀ p ∈ ks, SqT K H p.1 (p.2.map V.int)) → RepA K as B H ((ks.map (·.2)).map tupI) (ks.map fun p => V.ref p.1)
  | [], _ => rfl
  | p :: ks, h => RepA.cons ⟨p.1, p.2.map V.int, rfl, h p List.mem_cons_self, rep_ints _⟩ (rep_tups fun q hq => h q (List.mem_cons_of_mem _ hq))
end
theorem okU_of {l : List (List Int)} (h : okU l = true) : l.length < 64 ∧ ∃ d, 1 ≤ d ∧ ∀ n ∈ l, U3 d n := by
  unfold okU at h
  rw [Bool.and_eq_true, List.all_eq_true] at h
  refine ⟨of_decide_eq_true h.1, ?_⟩
  cases l with
  | nil => exact ⟨1, Nat.le_refl _, fun n hn => by cases hn⟩
  | cons m l =>
    refine ⟨m.length, ?_, fun n hn => ?_⟩
    · have := h.2 m List.mem_cons_self
      rw [Bool.and_eq_true, Bool.and_eq_true] at this
      exact of_decide_eq_true this.2.1
    · have := h.2 n hn
      rw [Bool.and_eq_true, Bool.and_eq_true, List.all_eq_true] at this
      exact ⟨of_decide_eq_true this.1, fun i hi => of_decide_eq_true (this.2.2 i hi)⟩
section
variable {X : Cx} {W : WX2} {wk : Bool} {pos : Pos}
theorem e2_sset {e : Expr} {m : ME} {p p2 q : Pos} (hc : X.calm = true) (hu : X.A.units + 64 < cLine) (hg : Gl X "sorted") (hm : X.mg "sorted" = none) (hg2 : Gl X "set") (hm2 : X.mg "set" = none) (he : PE2 X W wk e m)
    (v1 : bootBuiltins "sorted" = some (.builtin "sorted") := by decide +kernel) (v2 : bootBuiltins "set" = some (.type "set") := by decide +kernel)
    (n1 : starEach [e] X.env = (false, eval e X.env) :: starEach [] X.env := by rfl) (n2 : starEach [.Call (.Name "set" p2) [e] [] q] X.env = (false, eval (.Call (.Name "set" p2) [e] [] q) X.env) :: starEach [] X.env := by rfl)
    (pl1 : (backTo q (starEach [] X.env)).any (·.1) = false := by rfl) (pl2 : (backTo pos (starEach [] X.env)).any (·.1) = false := by rfl) :
    PE2 X W wk (.Call (.Name "sorted" p) [.Call (.Name "set" p2) [e] [] q] [] pos) (mUn D.sset m) := by
  obtain ⟨t, a1, a2⟩ := he
  refine ⟨_, pe_callB (cr_sortedT hc) hg hm v1 (pa_cons (pe_callTy (cr_setOfT hc hu) hg2 hm2 v2 (pa_cons a1 pa_nil n1) (by decide) (by decide) n1 pl1) pa_nil n2) (by decide) (by decide) n2 pl2, fun B H0 as ks ow sg S σ H Q r h => ?_⟩
  refine a2 _ _ _ _ _ _ _ _ _ _ r (Den.bind h fun d S1 v H1 e0 e1 s1 q1 h1 => ?_)
  clear e0
  have r1 := r.step e1 s1
  cases es : D.sset d with
  | none => simp only [es] at h1; exact False.elim h1
  | some z =>
    simp only [es] at h1
    cases d <;> try (cases es; done)
    rename_i ds
    simp only [D.sset] at es
    split at es
    · rename_i l hl
      split at es
      · rename_i hok
        cases es
        obtain ⟨h64, dd, hd1, hU⟩ := okU_of hok
        obtain ⟨a, xs, ev, nb, g1, g2⟩ := q1
        subst ev
        obtain ⟨kk, k1, k2, k3⟩ := tups_rep g2 hl
        subst k1
        refine ⟨a, kk, rfl, SqL.of g1, k3, by rw [← k2, List.length_map] at h64; exact h64, fun b L hb l1 l2 => ?_⟩
        have k3' : ∀ p ∈ L, SqT X.K (upd H1 b (SetTO X.prog X.w b L)) p.1 (p.2.map V.int) := fun p hp => (Evo.new (W := fun _ => False) hb).sqT (k3 p (l1 p hp))
        have hUL : ∀ p ∈ L, U3 dd p.2 := fun p hp => hU p.2 (by rw [← k2]; exact List.mem_map.mpr ⟨p, l1 p hp, rfl⟩)
        refine ⟨b, L, dd, 1000000, rfl, upd_same, k3', hd1, hUL, fun L' c pm nd hf pw hcn => ?_⟩
        have hcb : c ≠ b := fun z => by subst z; rw [upd_same] at hcn; cases hcn
        have hc1 : H1 c = none := by rw [upd_ne hcb] at hcn; exact hcn
        have eL : L'.map (·.2) = sortU l := by
          refine strict_one (f := TS.code 1000000) ?_ (sortU_sorted hU) fun x => ?_
          · rw [List.pairwise_map]
            have nd' := List.pairwise_map.mp nd
            refine (nd'.and pw).imp_of_mem fun {x y} hx hy hxy => ?_
            have hx' := hUL x (pm.mem_iff.mp hx)
            have hy' := hUL y (pm.mem_iff.mp hy)
            have : TS.code 1000000 x.2 ≠ TS.code 1000000 y.2 := fun z => hxy.1 (code_inj (hx'.1.trans hy'.1.symm) hx'.2 hy'.2 z)
            have := hxy.2
            omega
          · rw [mem_sortU, ← k2, List.mem_map, List.mem_map]
            constructor
            · rintro ⟨p, hp, e⟩
              exact ⟨p, l1 p (pm.mem_iff.mp hp), e⟩
            · rintro ⟨p, hp, e⟩
              obtain ⟨p', hp', e'⟩ := List.mem_map.mp (l2 p hp)
              exact ⟨p', pm.mem_iff.mpr hp', e'.trans e⟩
        have ev3 : Evo (fun _ => False) H1 (upd (upd H1 b (SetTO X.prog X.w b L)) c (.lst (L'.map fun q => V.ref q.1))) := (Evo.new hb).trans (Evo.new hcn)
        refine h1 _ _ ev3.any (r1.stoNew ev3) ⟨c, _, rfl, newB r.asBd r1.bdDom hc1, upd_same, ?_⟩
        rw [← eL]
        refine RepA.new hcn (rep_tups fun p hp => k3' p (pm.mem_iff.mp hp))
      · cases es
    · cases es
end
/-! ### constants of the module: tuples of ints -/
def intsOf : List Value → Option (List Int)
  | [] => some []
  | .int x _ :: vs => (intsOf vs).map (x :: ·)
  | _ :: _ => none
theorem vals_ints : ∀ {vs : List Value} {l : List Int}, intsOf vs = some l → Vals (l.map V.int) vs
  | [], l, h => by cases h; exact .nil
  | v :: vs, l, h => by
    cases v <;> try (cases h; done)
    rename_i x t
    simp only [intsOf, Option.map_eq_some_iff] at h
    obtain ⟨ms, h1, h2⟩ := h
    subst h2
    exact .cons ⟨_, rfl⟩ (vals_ints h1)
theorem rep_constI {K : PySem.W.Frag} {as : List Addr} {B : Addr → Prop} {H : Hp} {a : Addr} {od : Option Addr} {osl : Array (Option Value)} {its : Array Value} {n : Nat} {l : List Int} (h : K.lookup a = some ⟨.type "tuple", od, .seq its n, osl⟩) (hv : intsOf its.toList = some l) (hl : l.length ≤ sizeLine) : Rep K as B H (.tup (l.map D.int)) (.ref a) := by
  have q := vals_ints hv
  refine ⟨a, _, rfl, .inr ⟨_, its, n, h, rfl, rfl, ?_, q⟩, rep_ints l⟩
  have := q.length
  rw [List.length_map] at this
  simp at this
  omega
end D2

namespace D2
open PySem PySem.Spec PyProof.Rows L2
/-! ### set(x), x a list of ints: its members stay known to sorted -/
section
variable {Pg : Program} {u : World} {Ar : Around} {Ex : Value → Shared → Prop} {sh : Shared}
theorem lst_vals {its : Array Value} {zs : List Int} (hz : IntsAre its.toList zs) : its.size = zs.length ∧ ∀ (j : Nat) (v : Value), its[j]? = some v → ∃ k t, zs[j]? = some k ∧ v = .int k t := by
  have q := hz.length
  rw [Array.length_toList] at q
  refine ⟨q, fun j v hv => ?_⟩
  have hj := (Array.getElem?_eq_some_iff.mp hv).1
  rw [q] at hj
  obtain ⟨t, et⟩ := IntsAre.int_at hz j v (by rwa [Array.getElem?_toList])
  exact ⟨zs[j], t, List.getElem?_eq_getElem hj, by rw [et, List.getD_eq_getElem?_getD, List.getElem?_eq_getElem hj] <;> rfl⟩
theorem set_of_lst {al : Addr} {its : Array Value} (zs : List Int) {Qq : Value → Shared → Prop} (un : Ar.handled = none) (li : sh.heap.IsList al its) (hz : IntsAre its.toList zs) (sm : zs.length + 1 < scanBound)
    (go : ∀ (hp : Heap) (tk n : Nat), SetR u hp sh.heap.objs.size (fun j => decide (j ∈ zs)) n → n ≤ zs.length → (∀ b o, sh.heap.get? b = some o → hp.get? b = some o) → Qq (.ref sh.heap.objs.size) { sh with heap := hp, toks := tk }) :
    wpAny (model Pg u) Ar (call (.type "set") [.ref al]) Qq Ex sh := by
  obtain ⟨sz, vals⟩ := lst_vals hz
  obtain ⟨cc, rest, mro0⟩ := F.called_set.mro
  have k1 := F.called_set.made; have k2 := F.called_set.sub; have k3 := F.called_set.notType; have k4 := F.called_set.canCreate; have k5 := F.typeCall_set_1 (.ref al)
  refine wpAny_call (codeAny_of_tree (?_ : wpAny _ _ (callAny (.type "set") _) _ _ _))
  refine wpAny_pure ⟨Code.quiet_builtin _ (by decide +kernel), codeAny_builtin F.entry_type_call (?_)⟩
  rw [Around.under_plain (weight_type_call_type "set" [Value.ref al] []) rfl]
  repeat (any_goals (first | assumption | wp_step; done | wp_step))
  refine codeAny_mono (code_set_led1 (.ref al) (E := Ex) (Q₁ := fun ob s1 => ob = .ref sh.heap.objs.size ∧ s1 = { sh with heap := sh.heap.push ({ cls := .type "set", dict := none, data := .set #[] 0 (.fresh 0 0 (!u.params.followText "set-order")) } : Obj) }) ⟨rfl, rfl⟩) fun r0 s1 hr0 => ?_
  match r0, hr0 with
  | .error e0, hr0 => exact hr0
  | .ok (.ret ob), hr0 =>
    obtain ⟨rfl, rfl⟩ := hr0
    have at0 : (sh.heap.push ({ cls := .type "set", dict := none, data := .set #[] 0 (.fresh 0 0 (!u.params.followText "set-order")) } : Obj)).get? sh.heap.objs.size = some ({ cls := .type "set", dict := none, data := .set #[] 0 (.fresh 0 0 (!u.params.followText "set-order")) } : Obj) := Heap.get?_push_size _ rfl
    have ty0 : Shared.TypeIs { sh with heap := sh.heap.push ({ cls := .type "set", dict := none, data := .set #[] 0 (.fresh 0 0 (!u.params.followText "set-order")) } : Obj) } (.ref sh.heap.objs.size) "set" := ⟨_, at0, rfl⟩
    have k6 := F.called_set.init.lookup; have k7 := F.called_set.init.bind (.ref sh.heap.objs.size)
    repeat (any_goals (first | assumption | wp_step; done | wp_step))
    refine codeAny_mono (codeAny_call_builtin (R := wants (fun r2 s2 => r2 = .none ∧ ∃ hp tk n, s2 = { sh with heap := hp, toks := tk } ∧ SetR u hp sh.heap.objs.size (fun j => decide (j ∈ zs)) n ∧ n ≤ zs.length ∧ (∀ b o, sh.heap.get? b = some o → hp.get? b = some o)) Ex)
      F.called_set.init.plain F.entry_set_init (check_set_init_1 ty0 ?inn)) fun r2 s2 hr2 => ?outt
    case outt =>
      match r2, hr2 with
      | .error e2, hr2 => exact hr2
      | .ok (.ret v2), hr2 =>
        obtain ⟨rfl, hp, tk, n, rfl, y1, y2, y3⟩ := hr2
        repeat (any_goals (first | assumption | wp_step; done | wp_step))
        exact go _ _ _ y1 y2 y3
    case inn =>
      obtain ⟨⟨oc, od, ot, os⟩, g0, c0, nn, d0⟩ := li
      simp only at c0 d0
      subst c0 d0
      have g1 : (sh.heap.push ({ cls := .type "set", dict := none, data := .set #[] 0 (.fresh 0 0 (!u.params.followText "set-order")) } : Obj)).get? al = some { cls := .type "list", dict := od, data := .seq its nn, slots := os } := Heap.get?_push_of_some _ g0
      have li1 : (sh.heap.push ({ cls := .type "set", dict := none, data := .set #[] 0 (.fresh 0 0 (!u.params.followText "set-order")) } : Obj)).IsList al its := ⟨_, g1, rfl, nn, rfl⟩
      have q1 := F.sub_list_set; have q2 := F.sub_list_frozenset; have q3 : (Value.type "list" == Value.type "dict") = false := by decide
      unfold Builtin.«set.__init__» noKeywords Builtin.Frozenset.updateFrom
      generalize eP : pyIter = PP
      wp_walk
      subst eP
      refine wpAny_pyIter_list li1 (wpAny_bind (wpAny_runValue ?_))
      have below : al < sh.heap.objs.size := Heap.lt_size g0
      have un3 : Ar.in1.in1.in1.handled = none := by simp only [un, Around.in1]
      have sz1 : (sh.heap.push ({ cls := .type "set", dict := none, data := .set #[] 0 (.fresh 0 0 (!u.params.followText "set-order")) } : Obj)).objs.size = sh.heap.objs.size + 1 := Heap.size_push ..
      have far : al ≠ (sh.heap.push ({ cls := .type "set", dict := none, data := .set #[] 0 (.fresh 0 0 (!u.params.followText "set-order")) } : Obj)).objs.size := by rw [sz1]; exact Nat.ne_of_lt (Nat.lt_succ_of_lt below)
      have out0 : sh.heap.objs.size ∉ [(sh.heap.push ({ cls := .type "set", dict := none, data := .set #[] 0 (.fresh 0 0 (!u.params.followText "set-order")) } : Obj)).objs.size, al] := by
        rw [sz1]
        simp only [List.mem_cons, List.not_mem_nil, or_false, not_or]
        exact And.intro (Nat.ne_of_lt (Nat.lt_succ_self _)) (Nat.ne_of_gt below)
      refine set_update_ints ((Walks.list un3 _ al far its).toS) sh.heap.objs.size out0 zs sz sm vals (its.size - 0) 0 _ (by omega) (Nat.zero_le _) ⟨⟨_, Heap.get?_push_size _ rfl, rfl, rfl⟩, (li1.push _)⟩ ⟨0, Nat.le_refl 0, setR_new_at (Heap.get?_push_of_some _ at0)⟩ fun s9 n9 mv hn9 sr9 => ?_
      obtain ⟨hp9, gn9, dr9, tk9, os9⟩ := s9
      obtain rfl : gn9 = sh.gens := mv.gens
      obtain rfl : dr9 = sh.drawn := mv.drawn
      obtain rfl : os9 = sh.os := mv.os
      refine wpAny_pure (?_ : wpAny _ _ (ret Value.none) _ _ _)
      rw [sz] at hn9
      refine wpAny_pure ⟨rfl, hp9, tk9, n9, rfl, sr9, hn9, fun b o eb => ?_⟩
      have lb : b < sh.heap.objs.size := Heap.lt_size eb
      refine mv.heap b o (fun z => ?_) (Heap.get?_push_of_some _ (Heap.get?_push_of_some _ eb))
      rw [sz1] at z
      simp only [List.mem_cons, List.not_mem_nil, or_false] at z
      exact z.elim (fun z => Nat.ne_of_lt lb z) fun z => Nat.ne_of_lt (Nat.lt_succ_of_lt lb) z
end
end D2
namespace D2
open PySem PySem.Spec PyProof.Rows L2
def rSetLst (K : PySem.W.Frag) (u : World) : List V → Hp → VK → Prop := fun xs H Q => ∃ (l : Addr) (zs : List Int), xs = [V.ref l] ∧ SqL K H l (zs.map V.int) ∧ zs.length < 64 ∧ ∀ a n, H a = none → n ≤ zs.length → Q (.ref a) (upd H a (SetO u a (fun j => decide (j ∈ zs)) n))
theorem cr_setLst {X : Cx} (calm : X.calm = true) : CallR X (.type "set") (rSetLst X.K X.w) := by
  intro pins s σ H xs us Q I r h
  obtain ⟨l, zs, rfl, sq, few, q⟩ := h
  obtain ⟨its, rv, pl, _⟩ := I.list sq
  rw [Vals.ref1 r]
  refine set_of_lst zs (I.ok.hd calm) pl.isList (by simpa using L2.intsAre_of rv) (by unfold scanBound; omega) fun hp tk n R hn keep => ?_
  exact ⟨.ref s.heap.objs.size, upd H s.heap.objs.size (SetO X.w s.heap.objs.size (fun j => decide (j ∈ zs)) n), I.laid (t' := tk) keep (Nat.le_refl _) (setO_new R), rfl, q _ _ (I.hok.fresh (Nat.le_refl _)) hn⟩
/-- those that differ, ascending -/
def insS (n : Int) : List Int → List Int
  | [] => [n]
  | m :: ms => if n = m then m :: ms else if n < m then n :: m :: ms else m :: insS n ms
def sortS : List Int → List Int
  | [] => []
  | n :: ns => insS n (sortS ns)
theorem mem_insS {n x : Int} : ∀ {l : List Int}, x ∈ insS n l ↔ x = n ∨ x ∈ l
  | [] => by simp [insS]
  | m :: ms => by
    unfold insS
    split
    · rename_i h
      subst h
      simp
    · split
      · simp
      · rw [List.mem_cons, mem_insS (l := ms), List.mem_cons]
        constructor
        · rintro (h | h | h)
          · exact .inr (.inl h)
          · exact .inl h
          · exact .inr (.inr h)
        · rintro (h | h | h)
          · exact .inr (.inl h)
          · exact .inl h
          · exact .inr (.inr h)
theorem mem_sortS {x : Int} : ∀ {l : List Int}, x ∈ sortS l ↔ x ∈ l
  | [] => by simp [sortS]
  | n :: ns => by rw [sortS, mem_insS, mem_sortS, List.mem_cons]
theorem insS_sorted {n : Int} : ∀ {l : List Int}, l.Pairwise (· < ·) → (insS n l).Pairwise (· < ·)
  | [], _ => List.pairwise_singleton _ _
  | m :: ms, hp => by
    obtain ⟨p1, p2⟩ := List.pairwise_cons.mp hp
    unfold insS
    split
    · exact hp
    · split
      · refine List.pairwise_cons.mpr ⟨fun y hy => ?_, hp⟩
        rcases List.mem_cons.mp hy with e | hy
        · omega
        · have := p1 y hy
          omega
      · refine List.pairwise_cons.mpr ⟨fun y hy => ?_, insS_sorted p2⟩
        rcases mem_insS.mp hy with e | hy
        · omega
        · exact p1 y hy
theorem sortS_sorted : ∀ {l : List Int}, (sortS l).Pairwise (· < ·)
  | [] => List.Pairwise.nil
  | n :: ns => insS_sorted sortS_sorted
theorem insS_len {n : Int} : ∀ {l : List Int}, (insS n l).length ≤ l.length + 1
  | [] => Nat.le_refl _
  | m :: ms => by
    unfold insS
    split
    · simp
    · split
      · simp
      · have := insS_len (n := n) (l := ms)
        simp
        omega
theorem sortS_len : ∀ {l : List Int}, (sortS l).length ≤ l.length
  | [] => Nat.le_refl _
  | n :: ns => Nat.le_trans insS_len (Nat.succ_le_succ sortS_len)
def D.ssetI : D → Option D := D.intsL fun ns => if ns.length < 64 then some (.lst ((sortS ns).map D.int)) else none
section
variable {X : Cx} {W : WX2} {wk : Bool} {pos : Pos}
theorem e2_ssetI {e : Expr} {m : ME} {p p2 q : Pos} (hc : X.calm = true) (hu : X.A.units + 64 < cLine) (hg : Gl X "sorted") (hm : X.mg "sorted" = none) (hg2 : Gl X "set") (hm2 : X.mg "set" = none) (he : PE2 X W wk e m)
    (v1 : bootBuiltins "sorted" = some (.builtin "sorted") := by decide +kernel) (v2 : bootBuiltins "set" = some (.type "set") := by decide +kernel)
    (n1 : starEach [e] X.env = (false, eval e X.env) :: starEach [] X.env := by rfl) (n2 : starEach [.Call (.Name "set" p2) [e] [] q] X.env = (false, eval (.Call (.Name "set" p2) [e] [] q) X.env) :: starEach [] X.env := by rfl)
    (pl1 : (backTo q (starEach [] X.env)).any (·.1) = false := by rfl) (pl2 : (backTo pos (starEach [] X.env)).any (·.1) = false := by rfl) :
    PE2 X W wk (.Call (.Name "sorted" p) [.Call (.Name "set" p2) [e] [] q] [] pos) (mUn D.ssetI m) := by
  obtain ⟨t, a1, a2⟩ := he
  refine ⟨_, pe_callB (cr_sortedSet hc) hg hm v1 (pa_cons (pe_callTy (cr_setLst hc) hg2 hm2 v2 (pa_cons a1 pa_nil n1) (by decide) (by decide) n1 pl1) pa_nil n2) (by decide) (by decide) n2 pl2, fun B H0 as ks ow sg S σ H Q r h => ?_⟩
  refine a2 _ _ _ _ _ _ _ _ _ _ r (Den.bind h fun d S1 v H1 e0 e1 s1 q1 h1 => ?_)
  clear e0
  have r1 := r.step e1 s1
  cases es : D.ssetI d with
  | none => simp only [es] at h1; exact False.elim h1
  | some z =>
    simp only [es] at h1
    obtain ⟨a, ns, ev, g, e2⟩ := intsL_rep q1 es
    subst ev
    split at e2
    · rename_i h64
      cases e2
      refine ⟨a, ns, rfl, SqL.of g, h64, fun b n hb hn => ⟨b, _, n, rfl, upd_same, by omega, fun ms c pw hmem hlen hcn => ?_⟩⟩
      have hcb : c ≠ b := fun z => by subst z; rw [upd_same] at hcn; cases hcn
      have hc1 : H1 c = none := by rw [upd_ne hcb] at hcn; exact hcn
      have em : ms = sortS ns := strict_one (f := fun x => x) pw sortS_sorted fun x => by
        rw [hmem, mem_sortS]
        exact decide_eq_true_iff
      subst em
      have ev3 : Evo (fun _ => False) H1 (upd (upd H1 b (SetO X.w b (fun j => decide (j ∈ ns)) n)) c (.lst ((sortS ns).map V.int))) := (Evo.new hb).trans (Evo.new hcn)
      exact h1 _ _ ev3.any (r1.stoNew ev3) ⟨c, _, rfl, newB r.asBd r1.bdDom hc1, upd_same, rep_ints _⟩
    · cases e2
end
end D2

namespace D2
open PySem PySem.Spec PyProof.Rows L2
section
variable {X : Cx} {W : WX2} {wk : Bool} {pos : Pos}
/-! ### a range as a value -/
theorem cr_range1 : CallR X (.type "range") (fun vs H Q => ∃ j, vs = [V.int j] ∧ ∀ p, H p = none → Q (.ref p) (upd H p (.rng 0 j))) := by
  intro pins s σ H vs us Q I r h
  obtain ⟨j, rfl, q⟩ := h
  cases r with
  | cons r rr =>
    cases rr
    obtain ⟨t, rfl⟩ := r
    refine call_range_1 ⟨.ref s.heap.objs.size, upd H s.heap.objs.size (.rng 0 j), I.laid (t' := _) (fun b o e => Heap.get?_push_of_some _ e) (Nat.le_refl _) ?_, rfl, q _ (I.hok.fresh (Nat.le_refl _))⟩
    exact ⟨_, _, _, Heap.get?_push_size _ rfl⟩
def D.mkRng : D → Option D
  | .int j => if lim62 j = true then some (.rng 0 j) else none
  | _ => none
theorem ok_rng1 {K : PySem.W.Frag} : CallOk K wk (on1 D.mkRng) (fun vs H Q => ∃ j, vs = [V.int j] ∧ ∀ p, H p = none → Q (.ref p) (upd H p (.rng 0 j))) := by
  refine ok_on1 fun as Bs Bw H d z v Q h1 h2 hr e q => ?_
  cases d <;> try (cases e; done)
  rename_i j
  simp only [D.mkRng] at e
  split at e
  · cases e
    exact ⟨j, congrArg (fun x => [x]) hr, fun p hp => q _ _ (Evo.new hp) ⟨p, rfl, newB h1 h2 hp, upd_same⟩⟩
  · cases e
def iRngV (tl : TE) : TI := fun σ H R => tl σ H fun x H1 => ∃ a lo hi, x = .ref a ∧ H1 a = some (.rng lo hi) ∧ (-(2 ^ 62) ≤ lo ∧ lo < 2 ^ 62 ∧ -(2 ^ 62) ≤ hi ∧ hi < 2 ^ 62) ∧ R (Itr lo (hi - lo).toNat) H1
theorem pi_rngV {tg l : Expr} {tl : TE} (hl : PE X l tl) : PI X tg l (iRngV tl) := by
  refine ⟨fun pins s σ H R I h => ?_⟩
  refine thn (hl.run pins s σ H _ I h) fun v s1 ⟨x, H1, I1, r1, q1⟩ => ?_
  obtain ⟨a, lo, hi, e, ha, ⟨b1, b2, b3, b4⟩, q⟩ := q1
  subst e
  cases r1
  obtain ⟨t, u, w, hg⟩ : ∃ t u v, s1.heap.get? a = some { cls := .type "range", data := .fields #[.int lo t, .int hi u, .int 1 v] } := I1.hok a _ ha
  refine wpAny_pyIter_range (t := t) (u := u) (v := w) hg (small_one b1 b2 b3 b4) ⟨s1.heap.objs.size, [s1.heap.objs.size], _, _, H1, rfl, I1.kept (t' := s1.toks) fun b o e => Heap.get?_push_of_some _ e, turn_range _ lo (hi - lo).toNat, ?_, fun b hb => ?_, q⟩
  · have e1 : lo + ((0 : Nat) : Int) * 1 = lo := by simp
    have e2 : (((hi - lo).toNat : Nat) : Int) - ((0 : Nat) : Int) = Builtin.Range.rangeSize lo hi 1 := by rw [rangeSize_one]; split <;> omega
    show IsRangeIter _ _ (lo + ((0 : Nat) : Int) * 1) ((((hi - lo).toNat : Nat) : Int) - ((0 : Nat) : Int)) 1
    rw [e1, e2]; exact Heap.get?_push_size _ rfl
  · rw [show b = s1.heap.objs.size by simpa using hb]
    exact I1.fpOk (Nat.le_refl _) (I1.hok.fresh (Nat.le_refl _))
def mIrv (m : ME) : MA := fun sg S => (m sg S).bind fun x => match x.1 with
  | .rng lo hi => if (lim62 lo && lim62 hi) = true then .ok (rngD lo (hi - lo).toNat, x.2) else .bad
  | _ => .bad
theorem i2_rngV {tg e : Expr} {m : ME} (h : PE2 X W wk e m) : PI2 X W wk tg e (mIrv m) := by
  obtain ⟨t, a1, a2⟩ := h
  refine ⟨_, pi_rngV a1, fun B H0 as ks ow sg S σ H R r h => ?_⟩
  refine a2 _ _ _ _ _ _ _ _ _ _ r (Den.bind h fun d S1 v H1 e0 e1 s1 q1 h1 => ?_)
  clear e0
  cases d <;> try exact False.elim h1
  rename_i lo hi
  obtain ⟨a, ev, nb, g1⟩ := id q1
  simp only [] at h1
  by_cases hc : (lim62 lo && lim62 hi) = true
  · rw [if_pos hc] at h1
    rw [Bool.and_eq_true] at hc
    have c1 := lim62_of hc.1
    have c2 := lim62_of hc.2
    refine ⟨a, lo, hi, ev, g1, ⟨c1.1, c1.2, c2.1, c2.2⟩, h1 _ H1 Evo.refl s1 (rpI1 (dk := .non) (vk := .non) rfl fun B2 H2 _ k => ⟨fun hk => by rw [rngD_len] at hk; exact hk, fun d hd => ?_⟩)⟩
    obtain ⟨hi2, ed⟩ := rngD_get hd
    refine ⟨hi2, fun x H3 ⟨e3, ex⟩ => ?_⟩
    subst e3 ex ed
    exact ⟨Evo.refl, rfl⟩
  · rw [if_neg hc] at h1
    exact False.elim h1
/-! ### (*xs, e, ..) -/
def unroll : D → Option (List D)
  | .tup ds => some ds
  | .lst ds => some ds
  | _ => none
def mStar (m : ME) (ms : MA) : MA := fun sg S => (m sg S).bind fun x => match unroll x.1 with
  | some ds => (ms sg x.2).bind fun y => .ok (ds ++ y.1, y.2)
  | none => .bad
theorem a2_star {e : Expr} {p : Pos} {es : List Expr} {m : ME} {ms : MA} (he : PE2 X W wk e m) (hr : PA2 X W wk es ms) (hs : starEach (.Starred e p :: es) X.env = (true, eval e X.env) :: starEach es X.env := by rfl) : PA2 X W wk (.Starred e p :: es) (mStar m ms) := by
  obtain ⟨t, h1, h2⟩ := he
  obtain ⟨u, g1, g2⟩ := hr
  refine ⟨_, StX.pa_star h1 g1 hs, fun B H0 as ks ow sg S σ H Q r h => ?_⟩
  refine h2 _ _ _ _ _ _ _ _ _ _ r (Den.bind h fun d S1 v H1 e0 e1 s1 q1 h1 => ?_)
  clear e0
  have r1 := r.step e1 s1
  cases eu : unroll d with
  | none => simp only [eu] at h1; exact False.elim h1
  | some ds =>
    simp only [eu] at h1
    have both : ∃ a xs, v = V.ref a ∧ (SqT X.K H1 a xs ∨ SqL X.K H1 a xs) ∧ RepA X.K as (if wk then (· ∈ as) else Bd B ow) H1 ds xs := by
      cases d <;> try (cases eu; done)
      · cases eu
        obtain ⟨a, xs, ev, k1, k2⟩ := q1
        exact ⟨a, xs, ev, .inl k1, k2⟩
      · cases eu
        obtain ⟨a, xs, ev, nb, k1, k2⟩ := q1
        exact ⟨a, xs, ev, .inr (SqL.of k1), k2⟩
    obtain ⟨a, xs, ev, hsq, hre⟩ := both
    refine ⟨a, xs, ev, hsq, g2 _ _ _ _ _ _ _ _ _ _ r1 (Den.bind h1 fun ys S2 ws H2 c2 e2 s2 q2 h2 => ?_)⟩
    clear c2
    refine h2 _ H2 Evo.refl s2 (RepA.append ?_ q2)
    exact RepA.imp (B' := if wk then (· ∈ as) else Bd B ow) e2 (asWk r) (fun _ z => z) _ _ hre
/-! ### never reached -/
def mNever : MS := fun _ _ => .bad
theorem s2_never {st : Stmt} : PS2 X W st mNever := ⟨_, ps_never, fun B H0 as ks ow sg S σ H Dd r h => False.elim h⟩
end
end D2

namespace D2
open PySem PySem.Spec PyProof.Rows L2
/-! ### max(x, default=d), x a list of ints -/
section
variable {Pg : Program} {u : World} {Ar : Around} {Ex : Value → Shared → Prop}
theorem max_args (a d : Value) : argsOk "max" ⟨[a], [(Str.ofString "default", d)]⟩ := by unfold argsOk; kernel_rfl
/-- a built-in with keywords that goes on as another code -/
theorem kw_tree {id : String} {b : Builtin} {args : List Value} {kw : List (Str × Value)} {Qq : Value → Shared → Prop} {sh : Shared} (k1 : builtinKind id = none) (k2 : plainId id = true) (k3 : entryFor table id = some b) (k4 : argsOk id ⟨args, kw⟩)
    (run : wpAny (model Pg u) Ar.in1 (b ⟨args, kw⟩) (fun fin sh' => match fin with
      | .done f => (match (Except.ok f : Result) with | .ok (.ret v) => Qq v sh' | .ok _ => False | .error e => Ex e sh')
      | .again c' => c'.quiet = true ∧ codeAny (model Pg u) Ar c' (fun r sh'' => match r with | .ok (.ret v) => Qq v sh'' | .ok _ => False | .error e => Ex e sh'') sh') Ex sh) : wpAny (model Pg u) Ar (call (.builtin id) args kw) Qq Ex sh := by
  refine wpAny_call (codeAny_call_builtin k2 k3 (?_ : wpAny _ _ _ _ _ _))
  simp only [checkBuiltinCall, k1]
  generalize esig : Manifest.signature? id = sg
  cases sg with
  | none => exact wpAny_pure run
  | some g =>
    have ok2 : Bind.checkArgs id g ⟨args, kw⟩ = pure () := by simpa only [argsOk, esig] using k4
    simp only [ok2]
    exact wpAny_pure run
theorem gtI (m m0 : Int) (t t0 : Tok) (sh : Shared) (Q : Value → Shared → Prop) (Ex : Value → Shared → Prop) (h : Q (.bool (decide (m > m0))) sh) : wpAny (model Pg u) Ar (richCompare .Gt (.int m t) (.int m0 t0)) Q Ex sh :=
  CmpOf.ints_gt (P := fun i v => ∃ t, v = .int (if i = 0 then m else m0) t) (fun i => if i = 0 then m else m0) (fun i v h => h) 0 1 (.int m t) (.int m0 t0) sh Q Ex ⟨t, rfl⟩ ⟨t0, rfl⟩ h
theorem max_more {it bx : Addr} {fp wr : List Addr} {zs : List Int} {Pv : Nat → Value → Prop} {St : Nat → Heap → Prop} {dv : Value} {Rr : Result → Shared → Prop} (Wk : Walks Pg u Ar.in1 it fp wr zs.length Pv St) (far : bx ∉ fp) (val : ∀ i v, Pv i v → ∃ m t, zs[i]? = some m ∧ v = .int m t) :
    ∀ (left j : Nat) (sh : Shared) (m0 : Int) (t0 : Tok) (n : Nat), left + j = zs.length → St j sh.heap → m0 ∈ zs.take j → (∀ y ∈ zs.take j, y ≤ m0) → sh.heap.get? bx = some { cls := .type "list", dict := none, data := .seq #[.int m0 t0, .int m0 t0] n, slots := #[] } →
      (∀ m t hp tk, m ∈ zs → (∀ y ∈ zs, y ≤ m) → (∀ b o, b ∉ wr → b ≠ bx → sh.heap.get? b = some o → hp.get? b = some o) → Rr (.ok (.ret (.int m t))) { sh with heap := hp, toks := tk }) →
      codeAny (model Pg u) Ar (.builtin "max.loop" ⟨[.ref it, .none, .ref bx], [(Str.ofString "default", dv)]⟩) Rr sh := by
  have off : bx ∉ wr := fun z => far (Wk.sub _ z)
  have nm : (toString "max" ++ toString ".loop" : String) = "max.loop" := by decide
  intro left
  induction left with
  | zero =>
    intro j sh m0 t0 n hj st in0 le0 ob goal
    have hj' : j = zs.length := by omega
    subst hj'
    rw [List.take_length] at in0 le0
    refine codeAny_builtin F.entry_max_loop (?_ : wpAny _ _ _ _ _ _)
    rw [Around.under_plainId F.plain_max_loop ⟨_, _⟩]
    show wpAny _ Ar.in1 (seqItems? (.ref bx) >>= _) _ _ sh
    refine wpAny_bind (wpAny_seqItems ob rfl ?_)
    show wpAny _ Ar.in1 (tryCatch (pyNext (.ref it)) _ >>= _) _ _ sh
    refine wpAny_bind (wpAny_tryCatch (Wk.done sh _ _ st fun hp tk kp => ?_))
    have ob' := kp bx _ off ob
    show wpAny _ Ar.in1 (updateSeq bx (fun _ => #[]) >>= _) _ _ _
    refine wpAny_bind ?_
    refine wpAny_updateSeq ob' rfl (wpAny_bind (wpAny_letGo (wpAny_pure ?_)))
    exact goal m0 t0 _ tk in0 le0 fun b o hw hb e => (Heap.get?_update_other _ _ (Ne.symm hb)).trans (kp b o hw e)
  | succ left ih =>
    intro j sh m0 t0 n hj st in0 le0 ob goal
    have hlt : j < zs.length := by omega
    refine codeAny_builtin F.entry_max_loop (?_ : wpAny _ _ _ _ _ _)
    rw [Around.under_plainId F.plain_max_loop ⟨_, _⟩]
    show wpAny _ Ar.in1 (seqItems? (.ref bx) >>= _) _ _ sh
    refine wpAny_bind (wpAny_seqItems ob rfl ?_)
    show wpAny _ Ar.in1 (tryCatch (pyNext (.ref it)) _ >>= _) _ _ sh
    refine wpAny_bind (wpAny_tryCatch (Wk.item j sh _ _ hlt st fun v hp tk pv st' kp => ?_))
    have ob' := kp bx _ off ob
    obtain ⟨m, t, hz, ev⟩ := val j v pv
    subst ev
    have tk1 : zs.take (j + 1) = zs.take j ++ [m] := by rw [List.take_add_one, hz]; rfl
    show wpAny _ Ar.in1 (tryCatch (holding [.int m t, .int m t] (richCompare .Gt (.int m t) (.int m0 t0) >>= _)) _ >>= _) _ _ _
    refine wpAny_bind (wpAny_tryCatch (wpAny_holding (wpAny_bind (gtI m m0 t t0 _ _ _ ?_))))
    refine wpAny_bind (wpAny_holding (wpAny_truthy_bool ?_))
    refine wpAny_bind (wpAny_letGo (wpAny_pure ?_))
    by_cases c : m > m0
    · rw [decide_eq_true c]
      simp only [if_true]
      refine wpAny_bind ?_
      refine wpAny_updateSeq ob' rfl (wpAny_bind (wpAny_letGo ?_))
      rw [nm]
      refine wpAny_pure ⟨plainId_quiet F.plain_max_loop _, ih (j + 1) _ m t _ (by omega) (Wk.frame _ _ _ st' fun b hb o e => ?_) (by rw [tk1]; simp) (fun y hy => ?_) (Heap.get?_update_self _ ob' rfl) fun m2 t2 hp2 tk2 i2 l2 kp2 => ?_⟩
      · exact (Heap.get?_update_other _ _ (fun z : bx = b => far (by rw [z]; exact hb))).trans e
      · rw [tk1] at hy
        rcases List.mem_append.mp hy with hy | hy
        · have := le0 y hy
          omega
        · rw [List.mem_singleton.mp hy]
          exact Int.le_refl _
      · exact goal m2 t2 hp2 tk2 i2 l2 fun b o hw hb e => kp2 b o hw hb ((Heap.get?_update_other _ _ (Ne.symm hb)).trans (kp b o hw e))
    · rw [decide_eq_false c]
      simp only [Bool.false_eq_true, if_false]
      refine wpAny_bind (wpAny_letGo ?_)
      rw [nm]
      refine wpAny_pure ⟨plainId_quiet F.plain_max_loop _, ih (j + 1) _ m0 t0 _ (by omega) st' (by rw [tk1]; exact List.mem_append_left _ in0) (fun y hy => ?_) ob' fun m2 t2 hp2 tk2 i2 l2 kp2 => ?_⟩
      · rw [tk1] at hy
        rcases List.mem_append.mp hy with hy | hy
        · exact le0 y hy
        · rw [List.mem_singleton.mp hy]
          omega
      · exact goal m2 t2 hp2 tk2 i2 l2 fun b o hw hb e => kp2 b o hw hb (kp b o hw e)
end
end D2
namespace D2
open PySem PySem.Spec PyProof.Rows L2
section
variable {Pg : Program} {u : World} {Ar : Around} {Ex : Value → Shared → Prop}
theorem max_zero {it bx : Addr} {fp wr : List Addr} {zs : List Int} {Pv : Nat → Value → Prop} {St : Nat → Heap → Prop} {dv : Value} {Rr : Result → Shared → Prop} (Wk : Walks Pg u Ar.in1 it fp wr zs.length Pv St) (far : bx ∉ fp) (val : ∀ i v, Pv i v → ∃ m t, zs[i]? = some m ∧ v = .int m t)
    {sh : Shared} {n : Nat} (st : St 0 sh.heap) (ob : sh.heap.get? bx = some { cls := .type "list", dict := none, data := .seq #[] n, slots := #[] })
    (goal0 : zs = [] → ∀ hp tk, (∀ b o, b ∉ wr → b ≠ bx → sh.heap.get? b = some o → hp.get? b = some o) → Rr (.ok (.ret dv)) { sh with heap := hp, toks := tk })
    (goal : ∀ m t hp tk, m ∈ zs → (∀ y ∈ zs, y ≤ m) → (∀ b o, b ∉ wr → b ≠ bx → sh.heap.get? b = some o → hp.get? b = some o) → Rr (.ok (.ret (.int m t))) { sh with heap := hp, toks := tk }) :
    codeAny (model Pg u) Ar (.builtin "max.loop" ⟨[.ref it, .none, .ref bx], [(Str.ofString "default", dv)]⟩) Rr sh := by
  have off : bx ∉ wr := fun z => far (Wk.sub _ z)
  have nm : (toString "max" ++ toString ".loop" : String) = "max.loop" := by decide
  refine codeAny_builtin F.entry_max_loop (?_ : wpAny _ _ _ _ _ _)
  rw [Around.under_plainId F.plain_max_loop ⟨_, _⟩]
  show wpAny _ Ar.in1 (seqItems? (.ref bx) >>= _) _ _ sh
  refine wpAny_bind (wpAny_seqItems ob rfl ?_)
  show wpAny _ Ar.in1 (tryCatch (pyNext (.ref it)) _ >>= _) _ _ sh
  cases zs with
  | nil =>
    refine wpAny_bind (wpAny_tryCatch (Wk.done sh _ _ st fun hp tk kp => ?_))
    show wpAny _ Ar.in1 (rule _ >>= fun _ => ret dv) _ _ _
    refine wpAny_bind (wpAny_rule (wpAny_pure ?_))
    exact goal0 rfl hp tk fun b o hw _ e => kp b o hw e
  | cons z zs =>
    refine wpAny_bind (wpAny_tryCatch (Wk.item 0 sh _ _ (Nat.succ_pos _) st fun v hp tk pv st' kp => ?_))
    have ob' := kp bx _ off ob
    obtain ⟨m, t, hz, ev⟩ := val 0 v pv
    subst ev
    obtain rfl : z = m := by simpa using hz
    show wpAny _ Ar.in1 (updateSeq bx (fun _ => #[.int z t, .int z t]) >>= _) _ _ _
    refine wpAny_bind ?_
    refine wpAny_updateSeq ob' rfl ?_
    rw [nm]
    refine wpAny_pure ⟨plainId_quiet F.plain_max_loop _, max_more Wk far val zs.length 1 _ z t _ (by simp) (Wk.frame _ _ _ st' fun b hb o e => ?_) (by simp) (fun y hy => ?_) (Heap.get?_update_self _ ob' rfl) fun m2 t2 hp2 tk2 i2 l2 kp2 => ?_⟩
    · exact (Heap.get?_update_other _ _ (fun q : bx = b => far (by rw [q]; exact hb))).trans e
    · have : y = z := by simpa using hy
      omega
    · exact goal m2 t2 hp2 tk2 i2 l2 fun b o hw hb e => kp2 b o hw hb ((Heap.get?_update_other _ _ (Ne.symm hb)).trans (kp b o hw e))
theorem call_maxD {l : Addr} {its : Array Value} {zs : List Int} {dv : Value} {sh : Shared} {Qq : Value → Shared → Prop} (un : Ar.handled = none) (li : sh.heap.IsList l its) (hz : IntsAre its.toList zs)
    (goal0 : zs = [] → ∀ hp tk, (∀ b o, sh.heap.get? b = some o → hp.get? b = some o) → Qq dv { sh with heap := hp, toks := tk })
    (goal : ∀ m t hp tk, m ∈ zs → (∀ y ∈ zs, y ≤ m) → (∀ b o, sh.heap.get? b = some o → hp.get? b = some o) → Qq (.int m t) { sh with heap := hp, toks := tk }) :
    wpAny (model Pg u) Ar (call (.builtin "max") [.ref l] [(Str.ofString "default", dv)]) Qq Ex sh := by
  obtain ⟨sz, vals⟩ := lst_vals hz
  have nm : (toString "max" ++ toString ".loop" : String) = "max.loop" := by decide
  refine kw_tree F.kind_max F.plain_max F.entry_max (max_args _ _) ?_
  show wpAny _ Ar.in1 (Builtin.Builtins.bindParams "max" ["key", "default"] 0 ⟨[], [(Str.ofString "default", dv)]⟩ >>= _) _ _ sh
  refine wpAny_bind (wpAny_of_eq (show Builtin.Builtins.bindParams "max" ["key", "default"] 0 ⟨[], [(Str.ofString "default", dv)]⟩ = pure [none, some dv] from rfl) ?_)
  refine wpAny_bind (wpAny_pure ?_)
  refine wpAny_bind (wpAny_pyIter_list li ?_)
  refine wpAny_bind (wpAny_newObj_type ?_)
  have h3 : Ar.in1.handled = none := by simp only [un, Around.in1]
  have below : l < sh.heap.objs.size := Heap.lt_size li.choose_spec.1
  have s1 : (sh.heap.push { cls := .type "list_iterator", data := .fields #[.ref l, .int 0 0] }).objs.size = sh.heap.objs.size + 1 := Heap.size_push ..
  rw [nm]
  have wk := Walks.list (prog := Pg) (w := u) h3 sh.heap.objs.size l (Nat.ne_of_lt below) its
  rw [sz] at wk
  refine wpAny_pure ⟨plainId_quiet F.plain_max_loop _, max_zero wk (by
    rw [s1]
    simp only [List.mem_cons, List.not_mem_nil, or_false, not_or]
    exact ⟨Nat.ne_of_gt (Nat.lt_succ_self _), Nat.ne_of_gt (Nat.lt_succ_of_lt below)⟩) vals ⟨⟨_, Heap.get?_push_of_some _ (Heap.get?_push_size _ rfl), rfl, rfl⟩, (li.push _).push _⟩ (Heap.get?_push_size _ rfl) (fun e0 hp tk kp => goal0 e0 hp tk fun b o e => ?_) fun m t hp tk i l2 kp => goal m t hp tk i l2 fun b o e => ?_⟩
  all_goals
    have lb := Heap.lt_size e
    refine kp b o (fun z => Nat.ne_of_lt lb (by simpa using z)) (by rw [s1]; exact Nat.ne_of_lt (Nat.lt_succ_of_lt lb)) (Heap.get?_push_of_some _ (Heap.get?_push_of_some _ e))
end
section
variable {X : Cx} {W : WX2} {wk : Bool} {pos : Pos}
def rMaxDf (K : PySem.W.Frag) : List V → List V → Hp → VK → Prop := fun vs zs H Q => ∃ (a : Addr) (ns : List Int) (z : V), vs = [V.ref a] ∧ zs = [z] ∧ SqL K H a (ns.map V.int) ∧ (ns = [] → Q z H) ∧ ∀ m, m ∈ ns → (∀ y ∈ ns, y ≤ m) → Q (.int m) H
theorem cr_maxDf (calm : X.calm = true) : CallRK X (.builtin "max") [Str.ofString "default"] (rMaxDf X.K) := by
  intro pins s σ H xs zs us ws Q I r1 r2 h
  obtain ⟨l, ns, z, e1, e2, sq, q0, q1⟩ := h
  subst e1 e2
  obtain ⟨its, rv, pl, _⟩ := I.list sq
  rw [Vals.ref1 r1]
  cases r2 with
  | cons rz rr =>
    cases rr
    rename_i w
    refine call_maxD (I.ok.hd calm) pl.isList (by simpa using L2.intsAre_of rv) (fun e0 hp tk kp => ?_) fun m t hp tk im lm kp => ?_
    · exact ⟨z, H, I.kept kp, rz, q0 e0⟩
    · exact ⟨.int m, H, I.kept kp, ⟨t, rfl⟩, q1 m im lm⟩
def D.maxDf : D → D → Option D
  | .lst ds, z => match D.ints ds with
    | some [] => some z
    | some ns => (maxI ns).map D.int
    | none => none
  | _, _ => none
theorem e2_maxDf {a c : Expr} {ma mc : ME} {p kpos : Pos} (calm : X.calm = true) (hg : Gl X "max") (hm : X.mg "max" = none) (ha : PE2 X W wk a ma) (hc : PE2 X W wk c mc)
    (v1 : bootBuiltins "max" = some (.builtin "max") := by decide +kernel) (n1 : starEach [a] X.env = (false, eval a X.env) :: starEach [] X.env := by rfl)
    (he : backTo pos (starEach [a] X.env) = (false, eval a X.env) :: backTo pos (starEach [] X.env) := by rfl) (hpl : (backTo pos (starEach [a] X.env)).any (·.1) = false := by rfl)
    (hall : (backToKw pos (keywordEach [⟨some (Str.ofString "default"), c, kpos⟩] X.env)).all (·.1.isSome) = true := by rfl) (hnone : (backToKw pos (keywordEach [⟨some (Str.ofString "default"), c, kpos⟩] X.env)).any (·.1.isNone) = false := by rfl)
    (hks : (backToKw pos (keywordEach [⟨some (Str.ofString "default"), c, kpos⟩] X.env)).filterMap (·.1) = [Str.ofString "default"] := by rfl) :
    PE2 X W wk (.Call (.Name "max" p) [a] [⟨some (Str.ofString "default"), c, kpos⟩] pos) (mBin D.maxDf ma mc) := by
  obtain ⟨ta, a1, a2⟩ := ha
  obtain ⟨tc, c1, c2⟩ := hc
  refine ⟨_, pe_callBK (cr_maxDf calm) hg hm v1 (pa_cons a1 pa_nil n1) (pk_cons c1 pk_nil) (by decide) (by decide) he hpl hall hnone hks, fun B H0 as ks ow sg S σ H Q r h => ?_⟩
  refine a2 _ _ _ _ _ _ _ _ _ _ r (Den.bind h fun x S1 v H1 k1 e1 s1 q1 h1 => ?_)
  clear k1
  have r1 := r.step e1 s1
  refine c2 _ _ _ _ _ _ _ _ _ _ r1 (Den.bind h1 fun y S2 w H2 k2 e2 s2 q2 h2 => ?_)
  clear k2
  have r2 := r1.step e2 s2
  have q1' := Rep.imp (B' := if wk then (· ∈ as) else Bd B ow) e2 (asWk r) (fun _ z => z) x v q1
  cases e : D.maxDf x y with
  | none => simp only [e] at h2; exact False.elim h2
  | some z =>
    simp only [e] at h2
    cases x <;> try (cases e; done)
    rename_i ds
    simp only [D.maxDf] at e
    obtain ⟨b, xs, ev, nb, g1, g2⟩ := q1'
    cases en : D.ints ds with
    | none => rw [en] at e; cases e
    | some ns =>
      rw [en] at e
      rw [ints_rep g2 en] at g1
      refine ⟨b, ns, w, by rw [ev], rfl, SqL.of g1, fun e0 => ?_, fun m hm hle => ?_⟩
      · subst e0
        cases e
        exact h2 w H2 Evo.refl s2 q2
      · cases ns with
        | nil => cases hm
        | cons n ns =>
          simp only [maxI, Option.map_some] at e
          cases e
          rw [foldl_max ns n m hm hle] at h2
          exact h2 _ H2 Evo.refl s2 rfl
end
end D2

namespace D2
open PySem PySem.Spec PyProof.Rows L2

/-! ### defs that may let an exception out -/
def wE (E : XK) : WX2 := fun cl d _ H => E cl d H
def Fn2X (K : PySem.W.Frag) (mg : Str → Option Value) (n : Nat) (F : FD) : Sp := fun vs H Q E => vs.length = n ∧ ∃ (B : Addr → Prop) (as : List Addr) (S : List O) (ds : List D), (∀ a, B a → H a ≠ none) ∧ (∀ a, a ∈ as → B a) ∧ Sto K as B H S ∧ RepA K as B H ds vs ∧
  match F ds S with
  | .ok (d, S') => ∀ v H', Evo (· ∈ as) H H' → Sto K as B H' S' → Rep K as B H' d v → Q v H'
  | .ex e _ S' => ∀ cl dx H', Evo (· ∈ as) H H' → Sto K as B H' S' → XRep mg K as B H' e cl dx → E cl dx H'
  | .bad => False
theorem XRep.weak {mg : Str → Option Value} {K : PySem.W.Frag} {as : List Addr} {B B' : Addr → Prop} {H : Hp} {e : Exn} {c : Value} {dx : Option Addr} (h : ∀ a, B' a → B a) (x : XRep mg K as B H e c dx) : XRep mg K as B' H e c dx := by
  obtain ⟨C, a, h1, h2, h3, h4⟩ := x
  exact ⟨C, a, h1, h2, h3, Rep.imp (W := fun _ => False) Evo.refl (fun _ z => z.elim) h _ _ h4⟩
section
variable {P : Program} {w : World} {K : PySem.W.Frag} {mg : Str → Option Value} {base : Heap}
/-- THE RULE for a def that may raise: its body -/
theorem fn2x_ok {x qual : Str} {st : Stmt} {f : Addr} {fd : FuncData} {N ps : List Str} {k : Nat} {m : MS} (F : Fun K x qual st f fd) (Sc : FnScope N ps (defScope st))
    (body : ∀ (cdv : Value) (A : Around) (outer : List Env) (s : Shared) (H : Hp) (E : XK), Room k (A.deeper (envOfC qual (defScope st) s.heap.objs.size f cdv)) → PSs2 (cxOf (L2.CX P w) P w K mg base N qual (defScope st) f cdv A outer s H E) (wE E) (defBody st) m) :
    FnOk P w K mg base (L2.CX P w) (k + 1) f fd ps (Fn2X K mg ps.length (fnF N m)) := by
  refine F.okX Sc (fun vs H Q E h => h.1) (fun cdv A outer s H vs Q E hr h => ?_)
  obtain ⟨hl, B, as, S, ds, hB, hA, hS, hR, hF⟩ := h
  obtain ⟨t, p, sim⟩ := body cdv A outer s H E hr
  refine ⟨t, p, sim B H as [] _ (startS N ds) S (L2.start N vs) H _ (rl_start hB hA hS hR) ?_⟩
  unfold fnF at hF
  revert hF
  cases m (startS N ds) S with
  | ok z =>
    obtain ⟨fl, sg', S'⟩ := z
    cases fl with
    | nx => exact fun hF ow' σ' H' r' => hF .non H' r'.evo (r'.sto.weak bdB) rfl
    | bk => exact fun hF => False.elim hF
    | ct => exact fun hF => False.elim hF
    | rt d => exact fun hF v H' e s q => hF v H' e s q
  | ex e sg S' => exact fun hF cl dx ow σ H' r x => hF cl dx H' r.evo (r.sto.weak bdB) (x.weak bdB)
  | bad => exact fun hF => False.elim hF
end
section
variable {X : Cx} {W : WX2} {wk : Bool} {pos : Pos}
def mCallX (F : FD) (ms : MA) : ME := fun sg S => (ms sg S).bind fun x => match F x.1 x.2 with
  | .ok y => .ok y
  | .ex e _ S' => .ex e sg S'
  | .bad => .bad
theorem e2_callX {F : FD} {ms : MA} {k : Nat} {f : Addr} {fd : FuncData} {ps : List Str} {x : Str} {p : Pos} {e : Expr} {es : List Expr} {n : Nat} (tk : L2.Takes X W) (G : FnOk X.prog X.w X.K X.mg X.base (L2.CX X.prog X.w) k f fd ps (Fn2X X.K X.mg n F)) (hr : Room k X.A) (hg : Gl X x) (hm : X.mg x = some (.ref f)) (hk : PySem.W.keepIn X.K (.ref f) = true) (hb : Binds X.K fd ps [])
    (ha : PA2 X W false (e :: es) ms) (hn : ∀ sg S ds S', ms sg S = .ok (ds, S') → ds.length = n) (hdb : (x == ("__debug__" : Str)) = false := by decide) (he : starEach (e :: es) X.env = (false, eval e X.env) :: starEach es X.env := by rfl) (hpl : (backTo pos (starEach es X.env)).any (·.1) = false := by rfl) :
    PE2 X W false (.Call (.Name x p) (e :: es) [] pos) (mCallX F ms) := by
  obtain ⟨t, a1, a2⟩ := ha
  refine ⟨_, pe_callS G hr hg hm hk hb (fun σ => passAt tk σ) a1 hdb he hpl, fun B H0 as ks ow sg S σ H Q r h => ?_⟩
  refine a2 _ _ _ _ _ _ _ _ _ _ r (Den.bind h fun ds S1 vs H1 e0 e1 s1 q1 h1 => ?_)
  have r1 := r.step e1 s1
  refine ⟨by rw [← q1.length]; exact hn _ _ _ _ e0, Bd B ow, as, S1, ds, r1.bdDom, r1.asBd, r1.sto, q1, ?_⟩
  cases eF : F ds S1 with
  | ok z =>
    obtain ⟨d, S'⟩ := z
    simp only [eF] at h1
    exact fun v H' e s q => h1 v H' e s q
  | ex e sg2 S' =>
    simp only [eF] at h1
    exact fun cl dx H' ev st x => h1 cl dx ow σ H' (r1.step ev st) x
  | bad => simp only [eF] at h1; exact False.elim h1
end
/-! ### making an exception: an __init__ of its own class or an inherited one -/
/-- what an __init__ does: it stores its fields, the last one first in ns -/
def spIni (ns : List Str) (K : PySem.W.Frag) : Sp := fun vs H Q _ => ∃ (a C : Addr) (xs : List V), vs = .ref a :: xs ∧ xs.length = ns.length ∧ OexC K C ∧ (∀ n, n ∈ ns → PySem.W.findIn K (.ref C) n = some none) ∧ H a = some (exo a C none) ∧
  ∀ d, H d = none → d ≠ a → Q .non (upd (upd H d (exd d (ns.zip xs.reverse))) a (exo a C (some d)))
theorem zip_rev {K : PySem.W.Frag} {as : List Addr} {B : Addr → Prop} {H : Hp} : ∀ {ds : List D} {xs : List V}, RepA K as B H ds xs → RepA K as B H ds.reverse xs.reverse := by
  intro ds xs h
  have app : ∀ {ds es : List D} {xs ys : List V}, RepA K as B H ds xs → RepA K as B H es ys → RepA K as B H (ds ++ es) (xs ++ ys) := by
    intro ds
    induction ds with
    | nil => intro es xs ys h1 h2; have : xs = [] := h1; subst this; exact h2
    | cons d ds ih =>
      intro es xs ys h1 h2
      obtain ⟨v, vs, e, g1, g2⟩ := h1
      subst e
      exact ⟨v, vs ++ ys, rfl, g1, ih g2 h2⟩
  induction ds generalizing xs with
  | nil => have : xs = [] := h; subst this; exact rfl
  | cons d ds ih =>
    obtain ⟨v, vs, e, g1, g2⟩ := h
    subst e
    rw [List.reverse_cons, List.reverse_cons]
    exact app (ih g2) ⟨v, [], rfl, g1, rfl⟩
section
variable {X : Cx} {W : WX2} {wk : Bool} {pos : Pos}
/-- raise C(e, ..) -/
def mRaise (c : Str) (ns : List Str) (ms : MA) : MS := fun sg S => (ms sg S).bind fun x => if x.1.length = ns.length then .ex ⟨c, ns, x.1.reverse⟩ sg x.2 else .bad
theorem s2_raise {x : Str} {ns : List Str} {e : Expr} {es : List Expr} {ms : MA} {p pos2 : Pos} {C fI : Addr} {k : Nat} {fd : FuncData} {ps : List Str} (hc : X.calm = true) (tk : L2.Takes X W) (T : OexC X.K C) (hN : ∀ n, n ∈ ns → PySem.W.findIn X.K (.ref C) n = some none) (hns : ns.length ≤ 1000)
    (iC : PySem.W.findIn X.K (.ref C) "__init__" = some (some (.ref fI))) (tI : PySem.W.typeIn X.K (.ref fI) = some (.type "function"))
    (F1 : FnOk X.prog X.w X.K X.mg X.base CX0 k fI fd ps (spIni ns X.K)) (hr : Room (k + 1) X.A) (hb : Binds X.K fd ps []) (hg : Gl X x) (hm : X.mg x = some (.ref C)) (ha : PA2 X W false (e :: es) ms)
    (hdb : (x == ("__debug__" : Str)) = false := by decide) (he : starEach (e :: es) X.env = (false, eval e X.env) :: starEach es X.env := by rfl) (hpl : (backTo pos (starEach es X.env)).any (·.1) = false := by rfl) :
    PS2 X W (.Raise (some (.Call (.Name x p) (e :: es) [] pos)) none pos2) (mRaise x ns ms) := by
  obtain ⟨t, a1, a2⟩ := ha
  refine ⟨_, ps_raise hc tk (pmk_oex T iC tI F1 hr hb .nil pass0 hg hm a1 hdb he hpl), fun B H0 as ks ow sg S σ H Dd r h => ?_⟩
  refine a2 _ _ _ _ _ _ _ _ _ _ r ?_
  unfold mRaise at h
  cases e1 : ms sg S with
  | ok z =>
    obtain ⟨ds, S1⟩ := z
    rw [e1] at h
    by_cases hl : ds.length = ns.length
    · simp only [R.bind, if_pos hl] at h
      intro vs H1 ev st q1
      have r1 := r.step ev st
      have hvl : vs.length = ns.length := by rw [← q1.length]; exact hl
      refine ⟨by omega, fun a hn => ⟨a, C, vs, by simp, hvl, T, hN, upd_same, fun d hd hda => ?_⟩⟩
      refine ⟨rfl, d, ns.zip vs.reverse, upd_same, ?_, ?_, ?_⟩
      · rw [upd_ne hda, upd_same]
      · rw [upd_ne hda] at hd
        exact hd
      · have hd1 : H1 d = none := by rw [upd_ne hda] at hd; exact hd
        have eH : upd (del (upd (upd (upd H1 a (exo a C none)) d (exd d (ns.zip vs.reverse))) a (exo a C (some d))) a) d (.xd (ns.zip vs.reverse)) = upd H1 d (.xd (ns.zip vs.reverse)) := by
          funext b
          by_cases hbd : b = d
          · subst hbd
            rw [upd_same, upd_same]
          · rw [upd_ne hbd, upd_ne hbd]
            by_cases hba : b = a
            · subst hba
              rw [del_same, hn]
            · rw [del_ne hba, upd_ne hba, upd_ne hbd, upd_ne hba]
        rw [eH]
        have e2 : Evo (· ∈ as) H1 (upd H1 d (.xd (ns.zip vs.reverse))) := Evo.new hd1
        have nb : ¬ Bd B ow d := fun z => r1.bdDom d z hd1
        have r2 := r1.step e2 (r1.sto.evo (W := fun _ => False) (Evo.new hd1))
        refine h (.ref C) (some d) ow σ _ r2 ⟨C, d, hm, rfl, rfl, d, vs.reverse, rfl, nb, upd_same, by rw [List.length_reverse]; exact hvl.symm, ?_⟩
        exact RepA.imp (W := fun _ => False) (Evo.new hd1) (fun _ z => z.elim) (fun _ z => z) _ _ (zip_rev q1)
    · simp only [R.bind, if_neg hl] at h
      exact False.elim h
  | ex e sg2 S2 =>
    rw [e1] at h
    exact h
  | bad =>
    rw [e1] at h
    exact False.elim h
end
end D2

namespace D2
open PySem PySem.Spec PyProof.Rows L2

/-! ### try: .. except C as n: .. -/
def R.done (i : Nat) : R (Fl × List Sl × List O) → R (Fl × List Sl × List O)
  | .ok (fl, sg, S) => match sg[i]? with
    | some .no => .ok (fl, sg, S)
    | _ => .bad
  | r => r
def mTry (i : Nat) (c : Str) (mb : MS) (ms : Exn → MS) : MS := fun sg S => match mb sg S with
  | .ex e sg1 S1 => if e.cls = c then match sg1[i]? with
      | some .no => (ms e sg1 S1).done i
      | _ => .bad
    else .bad
  | r => r
/-- what a suite computes from the exception that it holds -/
def PSu (X : Cx) (W : WX2) (i : Nat) (x : Str) (a : Addr) (oe : Obj) (cls : Value) (d : Option Addr) (pn : List (Addr × Obj)) (st : List Stmt) (ms : Exn → MS) : Prop :=
  ∃ t, PSs (X.suite a ((a, oe) :: pn)) st t ∧ ∀ (e : Exn) B H0 as ks ow sg S σ H (Dd : Ends), Rl X.K B H0 as ks ow sg S σ H → sg[i]? = some .no → σ[i]? = some (some (.ref a)) → XRep X.mg X.K as (Bd B ow) H e cls d → e.cls = x →
    DenS (ctOf X W B H0 as ks) (ms e sg S) Dd → t Dd σ H
section
variable {X : Cx} {W : WX2} {K : PySem.W.Frag}
theorem rl_slot {B : Addr → Prop} {H0 : Hp} {as : List Addr} {ks : List (D × V)} {ow : List (Option Addr)} {sg : List Sl} {S : List O} {σ : L2.St} {H : Hp} {i : Nat} {v : Option V} (r : Rl K B H0 as ks ow sg S σ H) (h : sg[i]? = some .no) : Rl K B H0 as ks ow sg S (σ.set i v) H := by
  refine ⟨r.lo, by rw [List.length_set]; exact r.ls, fun j s hs => ?_, r.inj, r.new, r.odom, r.bdom, r.asB, r.evo, r.sto, r.kp⟩
  obtain ⟨w, x, h1, h2, h3⟩ := r.sl j s hs
  by_cases hij : i = j
  · subst hij
    rw [h] at hs
    cases hs
    have hl : i < σ.length := (List.getElem?_eq_some_iff.mp h2).1
    exact ⟨w, v, h1, by rw [List.getElem?_set, if_pos rfl, if_pos hl], h3⟩
  · exact ⟨w, x, h1, by rw [List.getElem?_set, if_neg hij]; exact h2, h3⟩
theorem s2_try {x n : Str} {C : Addr} {i : Nat} {body suite : List Stmt} {b₀ : Stmt} {np pos pos' : Pos} {mb : MS} {ms : Exn → MS}
    (hs : X.stack = X.env :: X.outer) (hf : X.env.frame = some X.env.locals) (hN : X.N.Nodup) (hi : X.N[i]? = some n) (hln : X.env.kindOf n = some .local) (hc : Names X x (.ref C)) (hm : X.mg x = some (.ref C)) (te : PySem.W.exmOne X.K (.ref C) (.ref C) = some true) (tk : L2.Takes X W)
    (hb : ∀ (W' : WX2) (pn : List (Addr × Obj)) (xe : Value → Shared → Prop), L2.Takes (X.tr pn xe) W' → PassesOwn (model X.prog X.w) X.A X.env xe → PSs2 (X.tr pn xe) W' body mb)
    (hsu : ∀ (a : Addr) (oe : Obj) (cls : Value) (d : Option Addr) (pn : List (Addr × Obj)), L2.Zc cls d oe → (∃ vs, oe.data = .fields vs) → PSu X W i x a oe cls d pn (b₀ :: suite) ms) :
    PS2 X W (.Try body [.ExceptHandler (some (.Name x np)) (some n) (b₀ :: suite) pos'] [] [] pos) (mTry i x mb ms) := by
  let tb : L2.WX → TS := fun W' D σ H => ∃ (B : Addr → Prop) (H0 : Hp) (as : List Addr) (ks : List (D2.D × V)) (ow : List (Option Addr)) (sg : List Sl) (S : List O), Rl X.K B H0 as ks ow sg S σ H ∧ DenS (ctOf X W' B H0 as ks) (mb sg S) D
  let ts : Addr → Value → Option Addr → TS := fun a cls d D σ H => ∃ (e : Exn) (B : Addr → Prop) (H0 : Hp) (as : List Addr) (ks : List (D2.D × V)) (ow : List (Option Addr)) (sg : List Sl) (S : List O), Rl X.K B H0 as ks ow sg S σ H ∧ sg[i]? = some .no ∧ σ[i]? = some (some (.ref a)) ∧ XRep X.mg X.K as (Bd B ow) H e cls d ∧ e.cls = x ∧ DenS (ctOf X W B H0 as ks) (ms e sg S) D
  refine ⟨_, L2.ps_try_as (i := i) (tb := tb) (ts := ts) hs hf hN hi hln hc tk (fun W' pn xe tk' pw => ?_) (fun a oe cls d pn hz hf2 => ?_), fun B H0 as ks ow sg S σ H Dd r h => ?_⟩
  · obtain ⟨t, p, sim⟩ := hb W' pn xe tk' pw
    exact ⟨fun pins s σ H D I h => by
      obtain ⟨B, H0, as, ks, ow, sg, S, r, hd⟩ := h
      exact p.run pins s σ H D I (sim B H0 as ks ow sg S σ H D r hd)⟩
  · obtain ⟨t, p, sim⟩ := hsu a oe cls d pn hz hf2
    exact ⟨fun pins s σ H D I h => by
      obtain ⟨e, B, H0, as, ks, ow, sg, S, r, h1, h2, h3, h4, hd⟩ := h
      exact p.run pins s σ H D I (sim e B H0 as ks ow sg S σ H D r h1 h2 h3 h4 hd)⟩
  · refine ⟨B, H0, as, ks, ow, sg, S, r, ?_⟩
    unfold mTry at h
    cases e1 : mb sg S with
    | ok z =>
      rw [e1] at h
      obtain ⟨fl, sg2, S2⟩ := z
      cases fl <;> exact h
    | bad =>
      rw [e1] at h
      exact h
    | ex e sg1 S1 =>
      rw [e1] at h
      simp only [] at h
      by_cases c1 : e.cls = x
      · rw [if_pos c1] at h
        cases c2 : sg1[i]? with
        | none => rw [c2] at h; exact False.elim h
        | some s =>
          cases s with
          | val => rw [c2] at h; exact False.elim h
          | own => rw [c2] at h; exact False.elim h
          | no =>
            rw [c2] at h
            simp only [] at h
            intro cl dx ow1 σ1 H1 r1 x1
            have ecl : cl = .ref C := by
              obtain ⟨C', a', h1, h2, _⟩ := x1
              have h1' : X.mg e.cls = some (.ref C') := h1
              rw [c1, hm] at h1'
              rw [h2]
              exact (Option.some.inj h1').symm
            refine ⟨true, by rw [ecl]; exact te, fun _ a ha => ?_, fun z => nomatch z⟩
            refine ⟨e, B, H0, as, ks, ow1, sg1, S1, rl_slot r1 c2, c2, ?_, x1, c1, ?_⟩
            · obtain ⟨w, v, _, h2, _⟩ := r1.sl i _ c2
              rw [List.getElem?_set, if_pos rfl, if_pos (List.getElem?_eq_some_iff.mp h2).1]
            · revert h
              cases e2 : ms e sg1 S1 with
              | ok z =>
                obtain ⟨fl, sg2, S2⟩ := z
                intro h
                unfold R.done at h
                simp only [] at h
                cases c3 : sg2[i]? with
                | none => rw [c3] at h; exact False.elim h
                | some s2 =>
                  cases s2 with
                  | val => rw [c3] at h; exact False.elim h
                  | own => rw [c3] at h; exact False.elim h
                  | no =>
                    rw [c3] at h
                    cases fl with
                    | nx => exact fun ow' σ' H' r' => h ow' _ H' (rl_slot r' c3)
                    | bk => exact fun ow' σ' H' r' => h ow' _ H' (rl_slot r' c3)
                    | ct => exact fun ow' σ' H' r' => h ow' _ H' (rl_slot r' c3)
                    | rt d => exact h
              | ex e3 sg3 S3 => exact fun h => h
              | bad => exact fun h => h
      · rw [if_neg c1] at h
        exact False.elim h
end
end D2

namespace D2
open PySem PySem.Spec PyProof.Rows L2

/-! ### the fields of an exception that is held -/
structure ExF (K : PySem.W.Frag) (C : Addr) : Prop where
  ga : PySem.W.findIn K (.ref C) "__getattribute__" = some (some (.builtin "BaseException.__getattribute__"))
  gg : PySem.W.findIn K (.ref C) "__getattr__" = some none
  exC : PySem.W.subIn K (.ref C) (.type "BaseException") = some true
  hdC : PySem.W.hasDictIn K C = true
def tFld (C : Addr) (a : Addr) (cls : Value) (d : Option Addr) (f : Str) (te : TE) : TE := fun σ H Q => te σ H fun x H1 => x = .ref a ∧ cls = .ref C ∧ ∃ (dd : Addr) (fs : List (Str × V)) (v : V), d = some dd ∧ H1 dd = some (.xd fs) ∧ fs.lookup f = some v ∧ Q v H1
theorem pe_fld {X : Cx} {a C : Addr} {oe : Obj} {cls : Value} {d : Option Addr} {pn : List (Addr × Obj)} {e : Expr} {f : Str} {te : TE} {pos : Pos} (T : ExF X.K C) (noN : PySem.W.findIn X.K (.ref C) f = some none) (hz : L2.Zc cls d oe) (hf : ∃ vs, oe.data = .fields vs) (he : PE (X.suite a ((a, oe) :: pn)) e te)
    (hb : attributeBase e f X.env (eval e X.env) = eval e X.env := by rfl) :
    PE (X.suite a ((a, oe) :: pn)) (.Attribute e f pos) (tFld C a cls d f te) := by
  refine ⟨fun pins s σ H Q I h => ?_⟩
  refine attr_of hb (thn (he.run pins s σ H _ I h) fun u s1 hh => ?_)
  obtain ⟨x, H1, I1, rx, ex, ec, dd, fs, v, ed, ea, el, q⟩ := hh
  subst ex
  obtain rfl : u = Value.ref a := rx
  subst ec
  subst ed
  obtain ⟨ha, _⟩ := I1.pin (a, oe) (List.mem_append_left _ List.mem_cons_self)
  obtain ⟨vs, hd⟩ := hf
  have hx : ObjOk X.prog X.w H1 s1.heap dd (.xd fs) := I1.hok dd _ ea
  obtain ⟨mA, hns, hr⟩ := hx
  obtain ⟨od, ho, hl⟩ := lookIn_ns hns
  obtain ⟨u, hu, ru⟩ := RelO.some_of (v := v) (o := mA f) (by rw [← el]; exact hr f)
  have J : PySem.W.InstAt s1.heap a oe C (some od) := ⟨ha, hz.1, by unfold PySem.W.notCls; rw [hd] <;> rfl, by rw [hz.2]; exact ho⟩
  exact HandSPX.exc_get I1.kIn J T.ga T.gg T.exC (PySem.W.findObj_own T.hdC noN rfl (by rw [hl, hu])) (handed_of ru) ⟨v, H1, I1.tok _, ru, q⟩
/-- a field's data -/
def fld (e : Exn) (f : Str) : Option D := ((e.ns.zip e.ds).lookup f)
theorem lookup_cons {α : Type} (f g : Str) (y : α) (fs : List (Str × α)) : ((f, y) :: fs).lookup g = if g = f then some y else fs.lookup g := by
  by_cases h : g = f
  · subst h
    simp [List.lookup]
  · have e : (g == f) = false := by simpa using h
    rw [if_neg h]
    simp [List.lookup, e]
theorem fld_rep {K : PySem.W.Frag} {as : List Addr} {B : Addr → Prop} {H : Hp} {f : Str} {z : D} : ∀ {ns : List Str} {ds : List D} {xs : List V}, RepA K as B H ds xs → (ns.zip ds).lookup f = some z → ∃ v, (ns.zip xs).lookup f = some v ∧ Rep K as B H z v
  | [], ds, xs, _, h => by simp [List.lookup] at h
  | n :: ns, [], xs, _, h => by simp [List.lookup] at h
  | n :: ns, d :: ds, xs, h1, h => by
    obtain ⟨v, vs, e1, g1, g2⟩ := h1
    subst e1
    rw [List.zip_cons_cons, lookup_cons] at h
    rw [List.zip_cons_cons, lookup_cons]
    by_cases c : f = n
    · rw [if_pos c] at h ⊢
      cases h
      exact ⟨v, rfl, g1⟩
    · rw [if_neg c] at h ⊢
      exact fld_rep g2 h
section
variable {X : Cx} {W : WX2} {i : Nat} {x n : Str} {a C : Addr} {oe : Obj} {cls : Value} {d : Option Addr} {pn : List (Addr × Obj)} {np pos pos2 : Pos}
/-- the facts at a field's place -/
theorem fld_at {mg : Str → Option Value} {K : PySem.W.Frag} {as : List Addr} {B : Addr → Prop} {H : Hp} {e : Exn} {f : Str} {z : D} (hm : mg x = some (.ref C)) (h : XRep mg K as B H e cls d) (hc : e.cls = x) (hz : fld e f = some z) :
    cls = .ref C ∧ ∃ (dd : Addr) (fs : List (Str × V)) (v : V), d = some dd ∧ H dd = some (.xd fs) ∧ fs.lookup f = some v ∧ Rep K as B H z v := by
  obtain ⟨C', dd, h1, h2, h3, dd2, xs, e1, nb, h4, h5, h6⟩ := h
  cases e1
  rw [hc, hm] at h1
  cases h1
  obtain ⟨v, g1, g2⟩ := fld_rep h6 hz
  exact ⟨h2, dd, _, v, h3, h4, g1, g2⟩
/-- return n.f -/
def msRetF (f : Str) : Exn → MS := fun e sg S => match fld e f with
  | some z => .ok (.rt z, sg, S)
  | none => .bad
theorem su_retF {f : Str} (T : ExF X.K C) (hm : X.mg x = some (.ref C)) (noN : PySem.W.findIn X.K (.ref C) f = some none) (hz : L2.Zc cls d oe) (hf : ∃ vs, oe.data = .fields vs)
    (hN : X.N[i]? = some n := by rfl) (hv : Vis X.env.scope n := by first | exact Or.inl rfl | exact Or.inr (Or.inl rfl) | exact Or.inr (Or.inr rfl)) (hd : (n == ("__debug__" : Str)) = false := by decide)
    (hcd : (n == ("__classdict__" : Str)) = false := by decide) (hb : attributeBase (.Name n np) f X.env (eval (.Name n np) X.env) = eval (.Name n np) X.env := by rfl) :
    PSu X W i x a oe cls d pn [.Return (some (.Attribute (.Name n np) f pos)) pos2] (msRetF f) := by
  refine ⟨_, pss_one (ps_ret (pe_fld T noN hz hf (pe_var (i := i) hN hv hd hcd) hb)), fun e B H0 as ks ow sg S σ H Dd r h1 h2 h3 h4 h => ?_⟩
  unfold msRetF at h
  cases e1 : fld e f with
  | none => rw [e1] at h; exact False.elim h
  | some z =>
    rw [e1] at h
    obtain ⟨g1, dd, fs, v, g2, g3, g4, g5⟩ := fld_at hm h3 h4 e1
    refine ⟨.ref a, h2, rfl, g1, dd, fs, v, g2, g3, g4, ?_⟩
    exact h v H r.evo (r.sto.weak bdB) (Rep.imp (W := fun _ => False) Evo.refl (fun _ z => z.elim) bdB _ _ g5)
end
end D2
namespace D2
open PySem PySem.Spec PyProof.Rows L2
/-- what the written part says of an exception class -/
structure ExCl (K : PySem.W.Frag) (mg : Str → Option Value) (x : Str) (C fI : Addr) (fdI : FuncData) (ns ps : List Str) : Prop where
  gm : mg x = some (.ref C)
  oe : OexC K C
  nf : ∀ n, n ∈ ns → PySem.W.findIn K (.ref C) n = some none
  iC : PySem.W.findIn K (.ref C) "__init__" = some (some (.ref fI))
  tI : PySem.W.typeIn K (.ref fI) = some (.type "function")
  b : Binds K fdI ps []
  ef : ExF K C
  te : PySem.W.exmOne K (.ref C) (.ref C) = some true
theorem exm_own {K : PySem.W.Frag} {S : Addr} (h1 : PySem.W.subIn K (.ref S) (.type "BaseException") = some true) (h2 : PySem.W.isClsIn K S = true) (h3 : PySem.W.typeIn K (.ref S) = some (.type "type")) (h4 : PySem.W.subIn K (.ref S) (.ref S) = some true) :
    PySem.W.exmOne K (.ref S) (.ref S) = some true := by
  have e1 : (PySem.W.subIn K (.ref S) (.type "BaseException") == some true) = true := by rw [h1]; rfl
  have h2' : (PySem.W.clsIn K S).isSome = true := h2
  have e2 : ((PySem.W.clsIn K S).isSome && PySem.W.typeIn K (.ref S) == some (.type "type")) = true := by rw [h2', h3]; rfl
  unfold PySem.W.exmOne
  rw [if_pos e1]
  show (if ((PySem.W.clsIn K S).isSome && PySem.W.typeIn K (.ref S) == some (.type "type")) = true then PySem.W.subIn K (.ref S) (.ref S) else none) = some true
  rw [if_pos e2]
  exact h4
end D2

namespace D2
open PySem PySem.Spec PyProof.Rows L2
section
variable {X : Cx} {W : WX2} {wk : Bool} {pos : Pos}
/-- list(e), of its own -/
def oToL (m : ME) : MO := fun sg S => (m sg S).bind fun x => match x.1 with
  | .tup ds => .ok (.lst ds, x.2)
  | .lst ds => .ok (.lst ds, x.2)
  | _ => .bad
theorem f2_toL {e : Expr} {m : ME} {p : Pos} (hg : Gl X "list") (hm : X.mg "list" = none) (he : PE2 X W false e m) (v1 : bootBuiltins "list" = some (.type "list") := by decide +kernel)
    (h1 : starEach [e] X.env = (false, eval e X.env) :: starEach [] X.env := by rfl) (h2 : (backTo pos (starEach [] X.env)).any (·.1) = false := by rfl) :
    PF2 X W (.Call (.Name "list" p) [e] [] pos) (oToL m) := by
  obtain ⟨t, a1, a2⟩ := he
  refine ⟨_, pe_callTy call_list_of hg hm v1 (pa_cons a1 pa_nil h1) (by decide) (by decide) h1 h2, fun B H0 as ks ow sg S σ H Q r h => ?_⟩
  refine a2 _ _ _ _ _ _ _ _ _ _ r (DenO.bind h fun x S1 v H1 c1 e1 s1 q1 h1 => ?_)
  clear c1
  cases x <;> try exact False.elim h1
  · rename_i ds
    obtain ⟨a, xs, ev, g1, g2⟩ := q1
    subst ev
    exact ⟨a, xs, rfl, .inr g1, fun l hl => h1 l _ hl (Evo.new hl) (boxNew hl s1) ⟨xs, upd_same, boxNewA hl g2⟩⟩
  · rename_i ds
    obtain ⟨a, xs, ev, nb, g1, g2⟩ := q1
    subst ev
    exact ⟨a, xs, rfl, .inl (SqL.of g1), fun l hl => h1 l _ hl (Evo.new hl) (boxNew hl s1) ⟨xs, upd_same, boxNewA hl g2⟩⟩
end
section
variable {X : Cx} {W : WX2} {i : Nat} {x n : Str} {a C : Addr} {oe : Obj} {cls : Value} {d : Option Addr} {pn : List (Addr × Obj)} {np np2 pos pos2 pos3 pos4 : Pos}
/-- return True, return False, return None -/
def msRetC (z : D) : Exn → MS := fun _ sg S => .ok (.rt z, sg, S)
theorem su_retB {b : Bool} {j} : PSu X W i x a oe cls d pn [.Return (some (.Constant (.bool b) j pos)) pos2] (msRetC (.bl b)) :=
  ⟨_, pss_one (ps_ret pe_bl), fun e B H0 as ks ow sg S σ H Dd r h1 h2 h3 h4 h => h _ H r.evo (r.sto.weak bdB) rfl⟩
theorem su_retN {j} : PSu X W i x a oe cls d pn [.Return (some (.Constant .none j pos)) pos2] (msRetC .non) :=
  ⟨_, pss_one (ps_ret pe_non), fun e B H0 as ks ow sg S σ H Dd r h1 h2 h3 h4 h => h _ H r.evo (r.sto.weak bdB) rfl⟩
/-- return (n.f, n.g) -/
def msRetP (f g : Str) : Exn → MS := fun e sg S => match fld e f, fld e g with
  | some z, some y => .ok (.rt (.tup [z, y]), sg, S)
  | _, _ => .bad
theorem su_retP {f g : Str} {x1} (T : ExF X.K C) (hm : X.mg x = some (.ref C)) (nf : PySem.W.findIn X.K (.ref C) f = some none) (ng : PySem.W.findIn X.K (.ref C) g = some none) (hz : L2.Zc cls d oe) (hf : ∃ vs, oe.data = .fields vs)
    (hN : X.N[i]? = some n := by rfl) (hv : Vis X.env.scope n := by first | exact Or.inl rfl | exact Or.inr (Or.inl rfl) | exact Or.inr (Or.inr rfl)) (hd : (n == ("__debug__" : Str)) = false := by decide)
    (hcd : (n == ("__classdict__" : Str)) = false := by decide) (hb : attributeBase (.Name n np) f X.env (eval (.Name n np) X.env) = eval (.Name n np) X.env := by rfl) (hb2 : attributeBase (.Name n np2) g X.env (eval (.Name n np2) X.env) = eval (.Name n np2) X.env := by rfl)
    (n1 : starEach [.Attribute (.Name n np) f pos, .Attribute (.Name n np2) g pos2] X.env = (false, eval (.Attribute (.Name n np) f pos) X.env) :: starEach [.Attribute (.Name n np2) g pos2] X.env := by rfl)
    (n2 : starEach [.Attribute (.Name n np2) g pos2] X.env = (false, eval (.Attribute (.Name n np2) g pos2) X.env) :: starEach [] X.env := by rfl) :
    PSu X W i x a oe cls d pn [.Return (some (.Tuple [.Attribute (.Name n np) f pos, .Attribute (.Name n np2) g pos2] x1 pos3)) pos4] (msRetP f g) := by
  refine ⟨_, pss_one (ps_ret (pe_tup (pa_cons (pe_fld T nf hz hf (pe_var (i := i) hN hv hd hcd) hb) (pa_cons (pe_fld T ng hz hf (pe_var (i := i) hN hv hd hcd) hb2) pa_nil n2) n1))), fun e B H0 as ks ow sg S σ H Dd r h1 h2 h3 h4 h => ?_⟩
  unfold msRetP at h
  cases e1 : fld e f with
  | none => rw [e1] at h; exact False.elim h
  | some z =>
    cases e2 : fld e g with
    | none => rw [e1, e2] at h; exact False.elim h
    | some y =>
      rw [e1, e2] at h
      obtain ⟨g1, dd, fs, v, g2, g3, g4, g5⟩ := fld_at hm h3 h4 e1
      obtain ⟨_, dd', fs', u, k2, k3, k4, k5⟩ := fld_at hm h3 h4 e2
      refine ⟨.ref a, h2, rfl, g1, dd, fs, v, g2, g3, g4, .ref a, h2, rfl, g1, dd', fs', u, k2, k3, k4, (by show 2 ≤ sizeLine; decide), fun p hp => ?_⟩
      have e3 : Evo (fun _ => False) H (upd H p (.tup [v, u])) := Evo.new hp
      refine h (.ref p) _ (r.evo.trans e3.any) ((r.sto.weak bdB).evo (W := fun _ => False) e3) ⟨p, [v, u], rfl, SqT.of upd_same, v, [u], rfl, ?_, u, [], rfl, ?_, rfl⟩
      · exact Rep.imp (W := fun _ => False) e3 (fun _ z => z.elim) bdB _ _ g5
      · exact Rep.imp (W := fun _ => False) e3 (fun _ z => z.elim) bdB _ _ k5
end
end D2

namespace D2
open PySem PySem.Spec PyProof.Rows L2
/-! ### C.m(e, ..): a def of a class, called off the class -/
theorem pe_cfn {X : Cx} {CX : CXT} {x m : Str} {C f : Addr} {fd : FuncData} {ps : List Str} {sp : Sp} {k : Nat} {E : XK} {e : Expr} {es : List Expr} {t : TA} {p1 p2 pos : Pos} {pl : Sem Bool} (hg : Gl X x) (hm : X.mg x = some (.ref C))
    (hs : PySem.W.specialIn X.K (.ref C) "__getattribute__" = some (some (.builtin "type.__getattribute__"))) (hd : PySem.W.readsIn X.K C (.type "type") = true) (hf : PySem.W.findCls X.K (.ref C) (.type "type") m = some (.val (.ref f))) (hh : PySem.W.handedIn (.ref f) = true)
    (hk : PySem.W.keepIn X.K (.ref f) = true) (F : FnOk X.prog X.w X.K X.mg X.base CX k f fd ps sp) (hr : Room k X.A) (hb : Binds X.K fd ps []) (hx : Passes CX X E) (ha : PA X (e :: es) t)
    (hc : eval (.Call (.Attribute (.Name x p1) m p2) (e :: es) [] pos) X.env = (do
      let ov ← eval (.Name x p1) X.env
      standAt p2.atName
      let (f, first) ← holding [ov] (getMethod ov m pl)
      callWith pos f first (backTo pos (starEach (e :: es) X.env)) (backToKw pos (keywordEach [] X.env))) := by rfl)
    (hdb : (x == ("__debug__" : Str)) = false := by decide) (he : starEach (e :: es) X.env = (false, eval e X.env) :: starEach es X.env := by rfl) (hpl : (backTo pos (starEach es X.env)).any (·.1) = false := by rfl) :
    PE X (.Call (.Attribute (.Name x p1) m p2) (e :: es) [] pos) (fun σ H Q => t σ H fun vs H1 => sp vs H1 Q E) := by
  refine ⟨fun pins s σ H Q I h => ?_⟩
  refine PySem.W.methodCall_KW (ld_glob I hg hm ?_ hdb) hc
  refine PySem.W.method_cls I.kIn hs (PySem.W.cls_value I.kIn hd hf hh ?_)
  show wpAny _ _ (callWith pos (Value.ref f) [] (backTo pos (starEach (e :: es) X.env)) []) _ _ _
  refine PySem.W.callWith_K (h₀ := X.base) I.ok.mod.kin hk (thn (ha.run pos pins _ σ H _ (I.tok _) h) fun us s1 ⟨vs, H1, I1, r, q⟩ => ⟨I1.kIn, ?_⟩) he hpl
  exact run_fn F hr hb .nil hx I1 r (by rw [List.append_nil]; exact q)
end D2

namespace D2
open PySem PySem.Spec PyProof.Rows L2
/-! ### t * k, t a tuple: any k -/
section
variable {Pg : Program} {u : World} {Ar : Around} {Ex : Value → Shared → Prop} {sh : Shared}
theorem tup_mul_same (l : Addr) (items : Array Value) (n : Nat) (ddz : Option Addr) (slz : Array (Option Value)) (x : Int) (t : Tok) (c0z : (decide (x < -(2 ^ 63)) || decide (x ≥ 2 ^ 63)) = false) (c1z : (items.isEmpty || x == 1) = true) :
    Meets (Builtin.«tuple.__mul__» ⟨[.ref l, .int x t], []⟩) (fun _ Rz sz => sz.heap.get? l = some { cls := .type "tuple", dict := ddz, data := .seq items n, slots := slz } ∧
      Rz (.ok (.ret (Value.ref l))) sz) :=
  .of_wp fun progz wz Az Rz sz hz => by
    obtain ⟨hpz, gz, dz, tkz, osz⟩ := sz
    obtain ⟨hlz, hz⟩ := hz
    have f1z := AutoSeq1.idx_int
    wp_walk using wpAny_loadPart' hlz
    repeat (first
      | (refine wpAny_ite_false (decide_eq_false (by rw [c0z]; exact Bool.false_ne_true)) ?_; wp_walk using wpAny_loadPart' hlz)
      | (refine wpAny_ite_true (decide_eq_true c1z) ?_; wp_walk using wpAny_loadPart' hlz))
    exact ⟨_, rfl, hz⟩
theorem tup_mul_none (l : Addr) (items : Array Value) (n : Nat) (ddz : Option Addr) (slz : Array (Option Value)) (x : Int) (t : Tok) (c0z : (decide (x < -(2 ^ 63)) || decide (x ≥ 2 ^ 63)) = false) (c1z : (items.isEmpty || x == 1) = false) (c2z : (decide (x ≤ 0) || items.isEmpty) = true) :
    Meets (Builtin.«tuple.__mul__» ⟨[.ref l, .int x t], []⟩) (fun _ Rz sz => sz.heap.get? l = some { cls := .type "tuple", dict := ddz, data := .seq items n, slots := slz } ∧
      Rz (.ok (.ret (Value.ref sz.heap.objs.size))) { sz with heap := sz.heap.push { cls := Value.type "tuple", data := Data.seq #[] }, toks := sz.toks }) :=
  .of_wp fun progz wz Az Rz sz hz => by
    obtain ⟨hpz, gz, dz, tkz, osz⟩ := sz
    obtain ⟨hlz, hz⟩ := hz
    have f1z := AutoSeq1.idx_int
    wp_walk using wpAny_loadPart' hlz
    repeat (first
      | (refine wpAny_ite_false (decide_eq_false (by rw [c0z]; exact Bool.false_ne_true)) ?_; wp_walk using wpAny_loadPart' hlz)
      | (refine wpAny_ite_false (decide_eq_false (by rw [c1z]; exact Bool.false_ne_true)) ?_; wp_walk using wpAny_loadPart' hlz)
      | (refine wpAny_ite_true (decide_eq_true c2z) ?_; wp_walk using wpAny_loadPart' hlz))
    exact ⟨_, rfl, hz⟩
end
def rRepTA (K : PySem.W.Frag) : R2 := fun x y Hz Q => ∃ l k xs, x = .ref l ∧ y = .int k ∧ SqT K Hz l xs ∧ -4611686018427387904 ≤ k ∧ k < 4611686018427387904 ∧ xs.length * k.toNat ≤ 16777216 ∧
  ((k = 1 ∨ xs = []) → Q (.ref l) Hz) ∧ (¬ (k = 1 ∨ xs = []) → ∀ p, Hz p = none → Q (.ref p) (upd Hz p (.tup (List.replicate k.toNat xs).flatten)))
theorem op_repTA {X : Cx} : OpR X (binaryOp .Mult) (rRepTA X.K) := by
  intro pinsz sz σz Hz x y v u Q Iz rxz ryz hz
  obtain ⟨l, k, xs, rfl, rfl, hT, h1, h2, hz, q1, q2⟩ := hz
  cases rxz
  obtain ⟨t, rfl⟩ := ryz
  obtain ⟨itsz, r, ⟨⟨clsz, ddz, dataz, slz⟩, ho, hc, n, hd⟩, hs⟩ := Iz.tuple hT
  simp only at hc hd
  subst hc hd
  have hlez : itsz.length = xs.length := r.length.symm
  have c0z : (decide (k < -(2 ^ 63)) || decide (k ≥ 2 ^ 63)) = false := by
    rw [decide_eq_false (by omega), decide_eq_false (by omega)] <;> rfl
  have road : ∀ {Q' : Value → Shared → Prop}, wpAny (model X.prog X.w) X.A (call (.builtin "tuple.__mul__") [.ref l, .int k t]) Q' X.xe sz → wpAny (model X.prog X.w) X.A (binaryOp .Mult (.ref l) (.int k t)) Q' X.xe sz := fun {Q'} hq =>
    wpAny_binaryOp_repeat_ref (T := "tuple") (U := "int") (by decide) ⟨_, ho, rfl⟩ (fun s' => typeIs_int s' k t) noFill_tuple_mul F.fills_int_mul F.slot_int_rmul repeat_tuple F.slot_int_index.lookup
      (call_meets F.slot_int_rmul (typeIs_int sz k t) F.entry_int_rmul (F.args_int_rmul_2 _ _) (int_rmul_tuple k t l itsz.toArray n ddz slz) ⟨ho, rfl, ⟨_, ho, rfl⟩, hq⟩)
  refine road ?_
  by_cases c : k = 1 ∨ xs = []
  · have c1z : (itsz.toArray.isEmpty || k == 1) = true := by
      rcases c with c | c
      · rw [c]; simp
      · subst c
        have ez : itsz = [] := List.eq_nil_of_length_eq_zero (by rw [hlez]; rfl)
        rw [ez]; rfl
    exact call_meets F.slot_tuple_mul ⟨_, ho, rfl⟩ F.entry_tuple_mul (F.args_tuple_mul_2 _ _) (tup_mul_same l itsz.toArray n ddz slz k t c0z c1z) ⟨ho, ⟨.ref l, Hz, Iz, rfl, q1 c⟩⟩
  · have hx : xs ≠ [] := fun z => c (.inr z)
    have hk1 : k ≠ 1 := fun z => c (.inl z)
    have hnz : itsz ≠ [] := fun ez => hx (by
      rw [ez] at hlez
      exact List.eq_nil_of_length_eq_zero hlez.symm)
    have hiz : itsz.toArray.isEmpty = false := by
      cases itsz with
      | nil => exact absurd rfl hnz
      | cons a b => rfl
    have c1z : (itsz.toArray.isEmpty || k == 1) = false := by
      rw [hiz, Bool.false_or]
      exact beq_eq_false_iff_ne.mpr hk1
    by_cases hk : k ≤ 0
    · have c2z : (decide (k ≤ 0) || itsz.toArray.isEmpty) = true := by
        rw [decide_eq_true hk] <;> rfl
      refine call_meets F.slot_tuple_mul ⟨_, ho, rfl⟩ F.entry_tuple_mul (F.args_tuple_mul_2 _ _) (tup_mul_none l itsz.toArray n ddz slz k t c0z c1z c2z) ⟨ho, ?_⟩
      have e0 : (List.replicate k.toNat xs).flatten = [] := by
        rw [Int.toNat_of_nonpos hk] <;> rfl
      rw [e0] at q2
      refine ⟨.ref sz.heap.objs.size, _, Iz.laid (t' := sz.toks) (o := .tup []) (fun b ob q => Heap.get?_push_of_some _ q) (Nat.le_refl _) ?_, rfl, q2 c _ (Iz.hok.fresh (Nat.le_refl _))⟩
      exact ⟨Nat.zero_le _, [], .nil, IsTup.new _ _⟩
    · have c2z : (decide (k ≤ 0) || itsz.toArray.isEmpty) = false := by
        rw [hiz, Bool.or_false]
        exact decide_eq_false hk
      have hlen0 : 0 < xs.length := List.length_pos_iff.mpr hx
      have hm : ((itsz.toArray.size : Nat) : Int) * k ≤ 16777216 := by
        rw [List.size_toArray, hlez]
        have ez : k = ((k.toNat : Nat) : Int) := by omega
        rw [ez]
        have : (((xs.length * k.toNat : Nat)) : Int) ≤ ((16777216 : Nat) : Int) := Int.ofNat_le.mpr hz
        rw [Int.natCast_mul] at this
        exact this
      have flenz : (List.replicate k.toNat itsz).flatten.length ≤ sizeLine := by
        rw [PyProof.Rows.lm_len_rep_flat, hlez, sizeLine_eq, Nat.mul_comm]
        omega
      have c4z : Builtin.Tuple.tupleTooMany (((itsz.toArray.size : Nat) : Int) * k) = false := by
        unfold Builtin.Tuple.tupleTooMany
        rw [sizeLine_eq]
        exact decide_eq_false (by omega)
      refine call_meets F.slot_tuple_mul ⟨_, ho, rfl⟩ F.entry_tuple_mul (F.args_tuple_mul_2 _ _) (tuple_mulW l itsz.toArray n ddz slz k t c0z c1z c2z (by omega) c4z (by rw [size_rep, List.size_toArray]; exact flenz)) ⟨ho, ?_⟩
      rw [size_rep]
      refine ⟨.ref sz.heap.objs.size, _, Iz.laid (t' := sz.toks) (o := .tup (List.replicate k.toNat xs).flatten) (fun b ob q => Heap.get?_push_of_some _ q) (Nat.le_refl _) ?_, rfl, q2 c _ (Iz.hok.fresh (Nat.le_refl _))⟩
      exact ⟨by rw [PyProof.Rows.lm_len_rep_flat, sizeLine_eq, Nat.mul_comm]; omega, _, r.rep k.toNat, IsTup.new _ _⟩
section
variable {K : PySem.W.Frag} {wk : Bool}
/-- a product: ints, a list or a tuple times an int -/
def D.mulT : D → D → Option D
  | .tup xs, .int k => if decide (-4611686018427387904 ≤ k ∧ k < 4611686018427387904 ∧ xs.length * k.toNat ≤ 16777216) = true then some (.tup (List.replicate k.toNat xs).flatten) else none
  | x, y => D.mul x y
def rMulT (K : PySem.W.Frag) : R2 := fun x y H Q => rMulD x y H Q ∨ rRepTA K x y H Q
theorem op_mulT {X : Cx} : OpR X (binaryOp .Mult) (rMulT X.K) := OpR.or op_mulD op_repTA
theorem ok_mulT : BinOk K wk D.mulT (rMulT K) := by
  intro as Bs Bw H x y z v w Q h1 h2 rx ry e q
  cases x <;> try exact .inl (ok_mul as Bs Bw H _ y z v w Q h1 h2 rx ry e q)
  rename_i xs
  cases y <;> try (cases e; done)
  rename_i k
  unfold D.mulT at e
  simp only [] at e
  split at e
  · rename_i hc
    cases e
    have hc' := of_decide_eq_true hc
    obtain ⟨a, vs, e1, a1, a2⟩ := rx
    subst e1
    rw [a2.length] at hc'
    refine .inr ⟨a, k, vs, rfl, ry, a1, hc'.1, hc'.2.1, hc'.2.2, fun hk => ?_, fun _ p hp => ?_⟩
    · refine q _ _ Evo.refl ⟨a, vs, rfl, a1, ?_⟩
      rcases hk with hk | hk
      · subst hk
        have e1 : (List.replicate (1 : Int).toNat xs).flatten = xs := by simp
        rw [e1]
        exact a2
      · subst hk
        have e1 : xs = [] := List.eq_nil_of_length_eq_zero (by rw [a2.length]; rfl)
        subst e1
        have e2 : (List.replicate k.toNat ([] : List D)).flatten = [] := by simp
        rw [e2]
        exact rfl
    · exact q _ _ (Evo.new hp) (repNewT hp (a2.rep _))
  · cases e
end
end D2

namespace D2
open PySem PySem.Spec PyProof.Rows L2
/-! ### t[::-1], t a tuple -/
section
variable {prog : Program} {w : World} {A : Around} {E : Value → Shared → Prop} {s : Shared}
theorem adjust_rev (n : Nat) : Builtin.Slice.sliceAdjust none none (-1) (n : Int) = ((n : Int) - 1, -1) := by
  unfold Builtin.Slice.sliceAdjust
  simp
theorem places_rev (n : Nat) : Builtin.Slice.slicePlaces ((n : Int) - 1) (-1) (-1) = n := by
  unfold Builtin.Slice.slicePlaces
  have h1z : ¬ ((-1 : Int) > 0) := by decide
  simp only [h1z, if_false]
  by_cases hz : (n : Int) - 1 > -1
  · rw [if_pos hz, show (- -1 : Int) = 1 by decide, Int.ediv_one]
    omega
  · rw [if_neg hz]
    omega
theorem sliceApplied_rev {sl : Addr} {vlz vuz vsz : Value} {n : Nat} {Qz : Int × Int × Nat → Shared → Prop} (hsz : sz.heap.IsSliceOf sl vlz vuz vsz) (plz : IsPart vlz none) (puz : IsPart vuz none) (psz : IsPart vsz (some (-1)))
    (hz : Qz ((n : Int) - 1, -1, n) sz) : wpAny (model progz wz) Az (Builtin.Slice.sliceApplied (.ref sl) (pure (n : Int))) Qz Ez sz := by
  obtain ⟨osz, hosz, hcsz, hdsz⟩ := id hsz
  unfold Builtin.Slice.sliceApplied Builtin.Slice.sliceFields
  refine wpAny_bind (wpAny_bind (wpAny_field hosz hdsz (x := vlz) rfl (wpAny_bind (wpAny_field hosz hdsz (x := vuz) rfl (wpAny_bind (wpAny_field hosz hdsz (x := vsz) rfl (wpAny_pure ?_)))))))
  refine wpAny_bind (HT.slicePart_ psz ?_)
  show wpAny _ _ (if ((-1 : Int) == 0) = true then _ else _) _ _ sz
  rw [if_neg (by decide)]
  refine wpAny_bind (HT.slicePart_ plz (wpAny_bind (HT.slicePart_ puz (wpAny_bind (wpAny_pure ?_)))))
  show wpAny _ _ (match Builtin.Slice.sliceAdjust none none (-1) (n : Int) with | (lo, hi) => pure (lo, (-1 : Int), Builtin.Slice.slicePlaces lo hi (-1))) _ _ sz
  rw [adjust_rev n]
  show wpAny _ _ (pure ((n : Int) - 1, (-1 : Int), Builtin.Slice.slicePlaces ((n : Int) - 1) (-1) (-1))) _ _ sz
  rw [places_rev]
  exact wpAny_pure hz
theorem pick_rev (xsz : Array Value) : ((List.range xsz.size).filterMap fun (m : Nat) => xsz[(((xsz.size : Int) - 1) + (m : Int) * -1).toNat]?).toArray = xsz.toList.reverse.toArray := by
  have e : ∀ m, m ∈ List.range xsz.size → (fun (m : Nat) => xsz[(((xsz.size : Int) - 1) + (m : Int) * -1).toNat]?) m = (fun m => xsz[xsz.size - 1 - m]?) m := by
    intro m hm
    have := List.mem_range.mp hm
    have : (((xsz.size : Int) - 1) + (m : Int) * -1).toNat = xsz.size - 1 - m := by omega
    simp only [this]
  have cg : ∀ (l : List Nat), (∀ m, m ∈ l → (fun (m : Nat) => xsz[(((xsz.size : Int) - 1) + (m : Int) * -1).toNat]?) m = (fun m => xsz[xsz.size - 1 - m]?) m) → l.filterMap (fun (m : Nat) => xsz[(((xsz.size : Int) - 1) + (m : Int) * -1).toNat]?) = l.filterMap (fun m => xsz[xsz.size - 1 - m]?) := by
    intro l
    induction l with
    | nil => intro _; rfl
    | cons a l ih =>
      intro hz
      rw [List.filterMap_cons, List.filterMap_cons, ih fun m hm => hz m (List.mem_cons_of_mem _ hm)]
      have := hz a List.mem_cons_self
      simp only [] at this
      rw [this]
  rw [cg _ e]
  have h2 : (List.range xsz.size).filterMap (fun m => xsz[xsz.size - 1 - m]?) = ((List.range xsz.size).map fun k => xsz.size - 1 - k).filterMap (xsz[·]?) := by
    rw [List.filterMap_map]
    rfl
  rw [h2, PySem.W.krv_range, List.filterMap_reverse, PySem.W.krv_all]
theorem getItem_tuple_rev {t sl : Addr} {items : Array Value} {vlz vuz vsz : Value} {Qz : Value → Shared → Prop} (htz : IsTup sz.heap t items) (hsz : sz.heap.IsSliceOf sl vlz vuz vsz) (plz : IsPart vlz none) (puz : IsPart vuz none) (psz : IsPart vsz (some (-1)))
    (hz : Qz (.ref sz.heap.objs.size) { sz with heap := sz.heap.push { cls := .type "tuple", data := .seq items.toList.reverse.toArray } })
    (hszz : items.size ≤ sizeLine) : wpAny (model progz wz) Az (getItem (.ref t) (.ref sl)) Qz Ez sz := by
  have htakez : sizeOk (.seq items.toList.reverse.toArray) := by
    show items.toList.reverse.toArray.size ≤ sizeLine
    rw [List.size_toArray, List.length_reverse, Array.length_toList]
    omega
  obtain ⟨osz, hosz, hcsz, hdsz⟩ := id hsz
  have hTsz : sz.TypeIs (.ref sl) "slice" := ⟨osz, hosz, hcsz⟩
  unfold getItem
  try with_reducible refine wpAny_holding ?_
  first | refine wpAny_bind (wpAny_pure ?_) | skip
  refine wpAny_bind (wpAny_sequenceKey htz.typeIs (by decide) ?_)
  refine wpAny_bind (wpAny_callSpecial?_slot (name := Str.ofString "__getitem__") htz.typeIs PyProof.Rows.slot_tuple_getitem
    (wpAny_call_entry PyProof.Rows.slot_tuple_getitem htz.typeIs entry_tuple_getitem ?_ (args_tuple_getitem _ _)))
  show wpAny _ _ (Builtin.Tuple.tupleItemsOf (.ref t) >>= _) _ _ sz
  refine wpAny_bind (tupleItemsOf_ htz ?_)
  refine wpAny_bind (wpAny_typeOf hTsz ?_)
  rw [if_pos (by decide)]
  refine wpAny_bind (sliceApplied_rev hsz plz puz psz ?_)
  have hnoz : ¬ ((((items.size : Int) - 1) == 0 && (-1 : Int) == 1 && items.size == items.size) = true) := by
    intro qz
    rw [Bool.and_eq_true, Bool.and_eq_true] at qz
    exact absurd qz.1.2 (by decide)
  show wpAny _ _ (if (((items.size : Int) - 1) == 0 && (-1 : Int) == 1 && items.size == items.size) = true then _ else _) _ _ sz
  rw [if_neg hnoz, pick_rev]
  first
    | exact wpAny_bind (m := Builtin.Tuple.tupleExact _) (wpAny_newObj_type (wpAny_pure ⟨_, rfl, wpAny_pure hz⟩) htakez)
    | exact wpAny_bind (m := Builtin.Tuple.tupleExact _) (wpAny_newObj_type (wpAny_bind (wpAny_pure (wpAny_pure ⟨_, rfl, wpAny_pure hz⟩))) htakez)
    | exact wpAny_bind (wpAny_bind (m := Builtin.Tuple.tupleExact _) (wpAny_newObj_type (wpAny_pure (wpAny_pure ⟨_, rfl, wpAny_pure hz⟩)) htakez))
    | exact wpAny_bind (wpAny_bind (m := Builtin.Tuple.tupleExact _) (wpAny_newObj_type (wpAny_pure ⟨_, rfl, wpAny_pure hz⟩) htakez))
end
section
variable {X : Cx} {W : WX2} {wk : Bool}
def tRevT (K : PySem.W.Frag) (te : TE) : TE := fun σz Hz Qz => te σz Hz fun xz H1 => ∃ a xsz, xz = .ref a ∧ SqT K H1 a xsz ∧ ∀ p, H1 p = none → Qz (.ref p) (upd H1 p (.tup xsz.reverse))
theorem pe_revT {e : Expr} {te : TE} {k : Nat} {p1 p2 p3 pos : Pos} (hez : PE X e te) : PE X (.Subscript e (.Slice none none (some (.UnaryOp .USub (.Constant (.int 1) k p1) p2)) p3) pos) (tRevT X.K te) := by
  refine ⟨fun pinsz sz σz Hz Qz Iz hz => ?_⟩
  refine Subscript_ (thn (hez.run pinsz sz σz Hz _ Iz hz) fun vz s1z ⟨xz, H1, I1z, r1z, q1⟩ => ?_)
  obtain ⟨a, xsz, exz, hxz, qz⟩ := q1
  subst exz
  cases r1z
  have hstz : PO X (some (.UnaryOp .USub (.Constant (.int 1) k p1) p2)) (tPart (tUn (rU fun i => .int (-i)) (tC (.int 1)))) := po_some (pe_un un_neg pe_int)
  refine wpAny_Slice (thn (po_none.run pinsz s1z σz H1 (fun o H2 => o = none ∧ H2 = H1) I1z ⟨rfl, rfl⟩) fun vlz s2z ⟨l, H2, I2z, plz, el, e2⟩ => ?_)
  subst el e2
  refine thn (po_none.run pinsz s2z σz H2 (fun o H3 => o = none ∧ H3 = H2) I2z ⟨rfl, rfl⟩) fun vuz s3z ⟨u, H3, I3z, puz, eu, e3⟩ => ?_
  subst eu e3
  refine thn (hstz.run pinsz s3z σz H3 (fun o H4 => o = some (-1) ∧ H4 = H3) I3z ⟨1, rfl, -1, rfl, rfl, rfl⟩) fun vsz s4z ⟨o, H4, I4z, psz, eo, e4⟩ => ?_
  subst eo e4
  have I5z : Inv X pinsz σz H4 { s4z with heap := s4z.heap.push { cls := .type "slice", data := .fields #[vlz, vuz, vsz] } } := I4z.kept (t' := s4z.toks) fun b ob qz => Heap.get?_push_of_some _ qz
  obtain ⟨itsz, r, htz, hz⟩ := I5z.tuple hxz
  have hlen := r.length
  show wpAny (model X.prog X.w) X.A (subscriptTail e (.Slice none none (some (.UnaryOp .USub (.Constant (.int 1) k p1) p2)) p3) (.ref a) (.ref s4z.heap.objs.size)) (EP X pinsz σz Qz) X.xe { s4z with heap := s4z.heap.push { cls := .type "slice", data := .fields #[vlz, vuz, vsz] } }
  refine tail_any (ops := [.ref a, .ref s4z.heap.objs.size]) htz.typeIs (PyProof.Rows.slot_tuple_getitem.lookup) ?_ (by with_unfolding_all rfl)
  refine getItem_tuple_rev htz (Heap.IsSliceOf.new _ vlz vuz vsz) plz puz psz ?_ (by rw [List.size_toArray]; omega)
  refine ⟨.ref _, _, I5z.laid (t' := s4z.toks) (o := .tup xsz.reverse) (fun b ob qz => Heap.get?_push_of_some _ qz) (Nat.le_refl _) ?_, rfl, qz _ (I5z.hok.fresh (Nat.le_refl _))⟩
  exact ⟨by rw [List.length_reverse]; exact hz, _, r.reverse, IsTup.new _ _⟩
def D.revT : D → Option D
  | .tup xs => some (.tup xs.reverse)
  | _ => none
theorem e2_revT {e : Expr} {m : ME} {k : Nat} {p1 p2 p3 pos : Pos} (he : PE2 X W wk e m) : PE2 X W wk (.Subscript e (.Slice none none (some (.UnaryOp .USub (.Constant (.int 1) k p1) p2)) p3) pos) (mUn D.revT m) := by
  obtain ⟨t, a1, a2⟩ := he
  refine ⟨_, pe_revT a1, fun B H0 as ks ow sg S σ H Q r h => ?_⟩
  refine a2 _ _ _ _ _ _ _ _ _ _ r (Den.bind h fun d S1 v H1 e0 e1 s1 q1 h1 => ?_)
  clear e0
  cases d <;> try exact False.elim h1
  rename_i ds
  obtain ⟨a, xs, ev, g1, g2⟩ := q1
  subst ev
  exact ⟨a, xs, rfl, g1, fun p hp => h1 _ _ (Evo.new hp) ((r.step e1 s1).stoNew (Evo.new hp)) (repNewT hp (RepA.reverse g2))⟩
/-! ### a op b op c op d -/
def tChainT (r' r'' : R2) (tc td : TE) (σ : L2.St) (y : V) (H3 : Hp) (Q : VK) : Prop := tc σ H3 fun w' H4 => r' y w' H4 fun z' H5 => ∃ k', z' = .bl k' ∧ (if k' = true then td σ H5 fun w2 H6 => r'' w' w2 H6 Q else Q (.bl false) H5)
def tChain3 (r r' r'' : R2) (ta tb tc td : TE) : TE := fun σ H Q => ta σ H fun x H1 => tb σ H1 fun y H2 => r x y H2 fun z H3 => ∃ k, z = .bl k ∧
  (if k = true then tChainT r' r'' tc td σ y H3 Q else Q (.bl false) H3)
variable {a b c d : Expr} {ta tb tc td : TE} {pos : Pos}
theorem pe_chain3 {op op' op2 : CmpOp} {r r' r2 : R2} (ho : OpR X (compareOp op) r) (ho' : OpR X (compareOp op') r') (ho2 : OpR X (compareOp op2) r2) (ha : PE X a ta) (hb : PE X b tb) (hc : PE X c tc) (hd : PE X d td)
    (hm : lastMarks [op, op', op2] [b, c, d] = false := by with_unfolding_all rfl) : PE X (.Compare a [op, op', op2] [b, c, d] pos) (tChain3 r r' r2 ta tb tc td) := by
  refine ⟨fun pins s σ H Q I h => ?_⟩
  refine Compare_chain (thn (ha.run pins s σ H _ I h) fun v s1 ⟨x, H1, I1, r1, q1⟩ => chain_link (thn (hb.run pins s1 σ H1 _ I1 q1) fun u s2 ⟨y, H2, I2, rr2, q2⟩ =>
    thn (ho pins s2 σ H2 x y v u _ I2 r1 rr2 q2) fun d1 s3 ⟨z, H3, I3, r3, k, e, q3⟩ => ?_)) hm
  subst e
  cases r3
  refine wpAny_truthy_bool ?_
  cases k with
  | false => exact ite_ff ⟨.bl false, H3, I3, rfl, q3⟩
  | true =>
    refine ite_tt (chain_link (thn (hc.run pins s3 σ H3 _ I3 q3) fun w' s4 ⟨z', H4, I4, r4, q4⟩ => thn (ho' pins s4 σ H4 y z' u w' _ I4 rr2 r4 q4) fun d2 s5 ⟨z2, H5, I5, r5, k2, e2, q5⟩ => ?_))
    subst e2
    cases r5
    refine wpAny_truthy_bool ?_
    cases k2 with
    | false => exact ite_ff ⟨.bl false, H5, I5, rfl, q5⟩
    | true => exact ite_tt (chain_last (thn (hd.run pins s5 σ H5 _ I5 q5) fun w2 s6 ⟨z3, H6, I6, r6, q6⟩ => ho2 pins s6 σ H6 z' z3 w' w2 Q I6 r4 r6 q6))
theorem pt_chain3 {op op' op2 : CmpOp} {r r' r2 : R2} (ho : OpR X (compareOp op) r) (ho' : OpR X (compareOp op') r') (ho2 : OpR X (compareOp op2) r2) (ha : PE X a ta) (hb : PE X b tb) (hc : PE X c tc) (hd : PE X d td)
    (hm : lastMarks [op, op', op2] [b, c, d] = false := by with_unfolding_all rfl) : PT X (.Compare a [op, op', op2] [b, c, d] pos) (tTest (tChain3 r r' r2 ta tb tc td)) := by
  refine ⟨fun pins s σ H Q I h => ?_⟩
  refine isTrue_chain (thn (ha.run pins s σ H _ I h) fun v s1 ⟨x, H1, I1, r1, q1⟩ => test_link (thn (hb.run pins s1 σ H1 _ I1 q1) fun u s2 ⟨y, H2, I2, rr2, q2⟩ =>
    thn (ho pins s2 σ H2 x y v u _ I2 r1 rr2 q2) fun d1 s3 ⟨z, H3, I3, r3, k, e, q3⟩ => ?_)) hm
  subst e
  cases r3
  refine wpAny_truthy_bool ?_
  cases k with
  | false =>
    obtain ⟨k', e', q'⟩ := q3
    cases e'
    exact ite_ff ⟨H3, I3, q'⟩
  | true =>
    refine ite_tt (test_link (thn (hc.run pins s3 σ H3 _ I3 q3) fun w' s4 ⟨z', H4, I4, r4, q4⟩ => thn (ho' pins s4 σ H4 y z' u w' _ I4 rr2 r4 q4) fun d2 s5 ⟨z2, H5, I5, r5, k2, e2, q5⟩ => ?_))
    subst e2
    cases r5
    refine wpAny_truthy_bool ?_
    cases k2 with
    | false =>
      obtain ⟨k', e', q'⟩ := q5
      cases e'
      exact ite_ff ⟨H5, I5, q'⟩
    | true =>
      refine ite_tt (test_last (thn (hd.run pins s5 σ H5 _ I5 q5) fun w2 s6 ⟨z3, H6, I6, r6, q6⟩ => thn (ho2 pins s6 σ H6 z' z3 w' w2 _ I6 r4 r6 q6) fun d3 s7 ⟨z4, H7, I7, r7, k3, e3, q7⟩ => ?_))
      subst e3
      cases r7
      exact wpAny_truthy_bool ⟨H7, I7, q7⟩
variable {ma mb mc md : ME}
def mChT (g h : D → D → Option D) (y : D) (mc md : ME) (sg : List Sl) (S : List O) : R (D × List O) := (mc sg S).bind fun z => match g y z.1 with
  | some (.bl true) => (md sg z.2).bind fun w => R.of ((h z.1 w.1).map fun u => (u, w.2))
  | some (.bl false) => .ok (.bl false, z.2)
  | _ => .bad
def mChain3 (f g h : D → D → Option D) (ma mb mc md : ME) : ME := fun sg S => (ma sg S).bind fun x => (mb sg x.2).bind fun y => match f x.1 y.1 with
  | some (.bl true) => mChT g h y.1 mc md sg y.2
  | some (.bl false) => .ok (.bl false, y.2)
  | _ => .bad
theorem chain3_den {op op' op2 : CmpOp} {r2 r2' r2'' : R2} {f g h3 : D → D → Option D} (hop : BinOk X.K wk f r2) (hop' : BinOk X.K wk g r2') (hop2 : BinOk X.K wk h3 r2'')
    (ha : ∀ B H0 as ks ow sg S σ H (Q : VK), Rl X.K B H0 as ks ow sg S σ H → Den (ctOf X W B H0 as ks) ow ((ctOf X W B H0 as ks).rp ow wk) (ma sg S) H Q → ta σ H Q)
    (hb : ∀ B H0 as ks ow sg S σ H (Q : VK), Rl X.K B H0 as ks ow sg S σ H → Den (ctOf X W B H0 as ks) ow ((ctOf X W B H0 as ks).rp ow wk) (mb sg S) H Q → tb σ H Q)
    (hc : ∀ B H0 as ks ow sg S σ H (Q : VK), Rl X.K B H0 as ks ow sg S σ H → Den (ctOf X W B H0 as ks) ow ((ctOf X W B H0 as ks).rp ow wk) (mc sg S) H Q → tc σ H Q)
    (hd : ∀ B H0 as ks ow sg S σ H (Q : VK), Rl X.K B H0 as ks ow sg S σ H → Den (ctOf X W B H0 as ks) ow ((ctOf X W B H0 as ks).rp ow wk) (md sg S) H Q → td σ H Q)
    {B : Addr → Prop} {H0 : Hp} {as : List Addr} {ks : List (D × V)} {ow : List (Option Addr)} {sg : List Sl} {S : List O} {σ : L2.St} {H : Hp} {Q : VK} (r : Rl X.K B H0 as ks ow sg S σ H) (h : Den (ctOf X W B H0 as ks) ow ((ctOf X W B H0 as ks).rp ow wk) (mChain3 f g h3 ma mb mc md sg S) H Q) : tChain3 r2 r2' r2'' ta tb tc td σ H Q := by
  refine ha _ _ _ _ _ _ _ _ _ _ r (Den.bind h fun x S1 v H1 _ e1 s1 q1 h1 => ?_)
  have r1 := r.step e1 s1
  refine hb _ _ _ _ _ _ _ _ _ _ r1 (Den.bind h1 fun y S2 w H2 _ e2 s2 q2 h2 => ?_)
  have r2 := r1.step e2 s2
  have q1' := Rep.imp (B' := if wk then (· ∈ as) else Bd B ow) e2 (asWk r) (fun _ z => z) x v q1
  cases e : f x y with
  | none => simp only [e] at h2; exact False.elim h2
  | some z =>
    refine hop as (Bd B ow) (· ∈ as) H2 x y z v w _ r.asBd r2.bdDom q1' q2 e fun u H' e3 q3 => ?_
    have s3 := r2.stoNew e3
    have r3 := r2.step e3.any s3
    cases z <;> try (simp only [e] at h2; exact False.elim h2)
    rename_i k
    refine ⟨k, q3, ?_⟩
    cases k with
    | false =>
      simp only [e] at h2
      exact h2 _ H' e3.any s3 rfl
    | true =>
      simp only [e] at h2
      unfold mChT at h2
      refine hc _ _ _ _ _ _ _ _ _ _ r3 (Den.bind (Den.evo e3.any h2) fun z S4 w4 H4 _ e4 s4 q4 h4 => ?_)
      have r4 := r3.step e4 s4
      cases e' : g y z with
      | none => simp only [e'] at h4; exact False.elim h4
      | some u2 =>
        have q2' := Rep.imp (B' := if wk then (· ∈ as) else Bd B ow) (e3.any.trans e4) (asWk r) (fun _ z => z) y w q2
        refine hop' as (Bd B ow) (· ∈ as) H4 y z u2 w w4 _ r.asBd r4.bdDom q2' q4 e' fun u5 H5 e5 q5 => ?_
        have s5 := r4.stoNew e5
        have r5 := r4.step e5.any s5
        cases u2 <;> try (simp only [e'] at h4; exact False.elim h4)
        rename_i k2
        refine ⟨k2, q5, ?_⟩
        cases k2 with
        | false =>
          simp only [e'] at h4
          exact h4 _ H5 e5.any s5 rfl
        | true =>
          simp only [e'] at h4
          refine hd _ _ _ _ _ _ _ _ _ _ r5 (Den.bind (Den.evo e5.any h4) fun z6 S6 w6 H6 _ e6 s6 q6 h6 => ?_)
          have r6 := r5.step e6 s6
          cases e7 : h3 z z6 with
          | none => simp only [e7] at h6; exact False.elim h6
          | some u7 =>
            simp only [e7] at h6
            have q4' := Rep.imp (B' := if wk then (· ∈ as) else Bd B ow) (e5.any.trans e6) (asWk r) (fun _ z => z) z w4 q4
            refine hop2 as (Bd B ow) (· ∈ as) H6 z z6 u7 w4 w6 Q r.asBd r6.bdDom q4' q6 e7 fun u8 H8 e8 q8 => ?_
            exact h6 u8 H8 e8.any (r6.stoNew e8) q8
theorem e2_chain3 {op op' op2 : CmpOp} {r2 r2' r2'' : R2} {f g h3 : D → D → Option D} (ho : OpR X (compareOp op) r2) (hop : BinOk X.K wk f r2) (ho' : OpR X (compareOp op') r2') (hop' : BinOk X.K wk g r2') (ho2 : OpR X (compareOp op2) r2'') (hop2 : BinOk X.K wk h3 r2'')
    (ha : PE2 X W wk a ma) (hb : PE2 X W wk b mb) (hc : PE2 X W wk c mc) (hd : PE2 X W wk d md) (hm : lastMarks [op, op', op2] [b, c, d] = false := by with_unfolding_all rfl) : PE2 X W wk (.Compare a [op, op', op2] [b, c, d] pos) (mChain3 f g h3 ma mb mc md) := by
  obtain ⟨ta, a1, a2⟩ := ha
  obtain ⟨tb, b1, b2⟩ := hb
  obtain ⟨tc, c1, c2⟩ := hc
  obtain ⟨td, d1, d2⟩ := hd
  exact ⟨_, pe_chain3 ho ho' ho2 a1 b1 c1 d1 hm, fun B H0 as ks ow sg S σ H Q r h => chain3_den (op := op) (op' := op') (op2 := op2) hop hop' hop2 a2 b2 c2 d2 r h⟩
theorem t2_chain3 {op op' op2 : CmpOp} {r2 r2' r2'' : R2} {f g h3 : D → D → Option D} (ho : OpR X (compareOp op) r2) (hop : BinOk X.K wk f r2) (ho' : OpR X (compareOp op') r2') (hop' : BinOk X.K wk g r2') (ho2 : OpR X (compareOp op2) r2'') (hop2 : BinOk X.K wk h3 r2'')
    (ha : PE2 X W wk a ma) (hb : PE2 X W wk b mb) (hc : PE2 X W wk c mc) (hd : PE2 X W wk d md) (hm : lastMarks [op, op', op2] [b, c, d] = false := by with_unfolding_all rfl) : PT2 X W (.Compare a [op, op', op2] [b, c, d] pos) (mTst (mChain3 f g h3 ma mb mc md)) := by
  obtain ⟨ta, a1, a2⟩ := ha
  obtain ⟨tb, b1, b2⟩ := hb
  obtain ⟨tc, c1, c2⟩ := hc
  obtain ⟨td, d1, d2⟩ := hd
  refine ⟨_, pt_chain3 ho ho' ho2 a1 b1 c1 d1 hm, fun B H0 as ks ow sg S σ H Q r h => ?_⟩
  refine chain3_den (op := op) (op' := op') (op2 := op2) (W := W) hop hop' hop2 a2 b2 c2 d2 r (Q := fun x H' => ∃ k, x = .bl k ∧ Q k H') (Den.bind h fun d S' v H' e0 e s q h => ?_)
  clear e0
  cases d <;> try exact False.elim h
  rename_i b
  have e : v = .bl b := q
  exact ⟨b, e, h b H' Evo.refl s rfl⟩
end
end D2

namespace D2
open PySem PySem.Spec PyProof.Rows L2
/-! ### order of data that are alike -/
mutual
theorem pd_inj : ∀ (x y : D) (n m : Nat), x.okq n = true → y.okq m = true → x.pd = y.pd → x = y
  | .non, y, n, m, _, h2, e => by
    cases y <;> simp [D.pd, D.okq] at e h2 ⊢
  | .bl _, y, n, m, _, h2, e => by
    cases y <;> simp [D.pd, D.okq] at e h2 ⊢
    exact e
  | .int _, y, n, m, _, h2, e => by
    cases y <;> simp [D.pd, D.okq] at e h2 ⊢
    exact e
  | .str _, y, n, m, _, h2, e => by
    cases y <;> simp [D.pd, D.okq] at e h2 ⊢
    exact e
  | .tup ds, y, n, m, h1, h2, e => by
    cases y <;> simp [D.pd] at e ⊢
    cases n <;> simp [D.okq] at h1
    cases m <;> simp [D.okq] at h2
    exact pd_injA ds _ _ _ h1 h2 e
  | .lst ds, y, n, m, h1, h2, e => by
    cases y <;> simp [D.pd] at e ⊢
    cases n <;> simp [D.okq] at h1
    cases m <;> simp [D.okq] at h2
    exact pd_injA ds _ _ _ h1 h2 e
  | .dic _ _, _, _, _, h1, _, _ => by simp [D.okq] at h1
  | .rng _ _, _, _, _, h1, _, _ => by simp [D.okq] at h1
  | .xd _ _, _, _, _, h1, _, _ => by simp [D.okq] at h1
  | .ref _, _, _, _, h1, _, _ => by simp [D.okq] at h1
theorem pd_injA : ∀ (xs ys : List D) (n m : Nat), D.okqA xs n = true → D.okqA ys m = true → D.pdA xs = D.pdA ys → xs = ys
  | [], ys, _, _, _, _, e => by
    cases ys
    · rfl
    · simp [D.pdA] at e
  | x :: xs, [], _, _, _, _, e => by simp [D.pdA] at e
  | x :: xs, y :: ys, n, m, h1, h2, e => by
    simp only [D.okqA, Bool.and_eq_true] at h1 h2
    simp only [D.pdA, List.cons.injEq] at e
    rw [pd_inj x y n m h1.1 h2.1 e.1, pd_injA xs ys n m h1.2 h2.2 e.2]
end
theorem pdA_map : ∀ ds : List D, D.pdA ds = ds.map D.pd
  | [] => rfl
  | d :: ds => by rw [D.pdA, pdA_map ds, List.map_cons]
theorem okqA_mem : ∀ {ds : List D} {n : Nat} {d : D}, D.okqA ds n = true → d ∈ ds → d.okq n = true
  | c :: ds, n, d, h, hd => by
    simp only [D.okqA, Bool.and_eq_true] at h
    rcases List.mem_cons.mp hd with e | hd
    · rw [e]; exact h.1
    · exact okqA_mem h.2 hd
theorem okqA_of : ∀ {ds : List D} {n : Nat}, (∀ d ∈ ds, d.okq n = true) → D.okqA ds n = true
  | [], _, _ => rfl
  | d :: ds, n, h => by
    simp only [D.okqA, Bool.and_eq_true]
    exact ⟨h d List.mem_cons_self, okqA_of fun x hx => h x (List.mem_cons_of_mem _ hx)⟩
def D.ltb (x y : D) : Bool := PySem.W.dataLt x.pd y.pd
def D.alk (x y : D) : Bool := PySem.W.alike x.pd y.pd
def D.noN : D → Bool
  | .non => false
  | _ => true
/-- they can be ordered -/
def D.cmpOk (x y : D) : Bool := x.okq 50 && y.okq 50 && x.alk y && x.noN
theorem pd_non {x : D} {n : Nat} (h : x.okq n = true) (k : x.noN = true) : x.pd ≠ .none := by
  cases x <;> simp [D.pd, D.okq, D.noN] at h k ⊢
def D.ltG (x y : D) : Option D := if x.cmpOk y = true then some (.bl (x.ltb y)) else none
def D.gtG (x y : D) : Option D := if x.cmpOk y = true then some (.bl (y.ltb x)) else none
def D.leG (x y : D) : Option D := if x.cmpOk y = true then some (.bl (!y.ltb x)) else none
def D.geG (x y : D) : Option D := if x.cmpOk y = true then some (.bl (!x.ltb y)) else none
def rCmpD (K : PySem.W.Frag) (f : PyData → PyData → Bool) : R2 := fun x y H Q => ∃ d e, Dp K H x d ∧ Dp K H y e ∧ d.depth ≤ 60 ∧ e.depth ≤ 60 ∧ PySem.W.alike d e = true ∧ d ≠ .none ∧ Q (.bl (f d e)) H
section
variable {X : Cx} {K : PySem.W.Frag} {wk : Bool}
theorem op_ltD (hu : X.A.units + 64 < cLine) : OpR X (compareOp .Lt) (rCmpD X.K fun d e => PySem.W.dataLt d e) := by
  intro pins s σ H x y v u Q I rx ry h
  obtain ⟨d, e, hd, he, d1, e1, al, nn, q⟩ := h
  obtain ⟨as, r1⟩ := Dp.reads I d x v hd rx
  obtain ⟨bs, r2⟩ := Dp.reads I e y u he ry
  exact PySem.W.lt_data r1 r2 al nn (by omega) ⟨.bl _, H, I, rfl, q⟩
theorem op_gtD (hu : X.A.units + 64 < cLine) : OpR X (compareOp .Gt) (rCmpD X.K fun d e => PySem.W.dataLt e d) := by
  intro pins s σ H x y v u Q I rx ry h
  obtain ⟨d, e, hd, he, d1, e1, al, nn, q⟩ := h
  obtain ⟨as, r1⟩ := Dp.reads I d x v hd rx
  obtain ⟨bs, r2⟩ := Dp.reads I e y u he ry
  exact PySem.W.gt_data r1 r2 al nn (by omega) ⟨.bl _, H, I, rfl, q⟩
theorem op_leD (hu : X.A.units + 64 < cLine) : OpR X (compareOp .LtE) (rCmpD X.K fun d e => !PySem.W.dataLt e d) := by
  intro pins s σ H x y v u Q I rx ry h
  obtain ⟨d, e, hd, he, d1, e1, al, nn, q⟩ := h
  obtain ⟨as, r1⟩ := Dp.reads I d x v hd rx
  obtain ⟨bs, r2⟩ := Dp.reads I e y u he ry
  exact PySem.W.le_data r1 r2 al nn (by omega) ⟨.bl _, H, I, rfl, q⟩
theorem op_geD (hu : X.A.units + 64 < cLine) : OpR X (compareOp .GtE) (rCmpD X.K fun d e => !PySem.W.dataLt d e) := by
  intro pins s σ H x y v u Q I rx ry h
  obtain ⟨d, e, hd, he, d1, e1, al, nn, q⟩ := h
  obtain ⟨as, r1⟩ := Dp.reads I d x v hd rx
  obtain ⟨bs, r2⟩ := Dp.reads I e y u he ry
  exact PySem.W.ge_data r1 r2 al nn (by omega) ⟨.bl _, H, I, rfl, q⟩
theorem ok_cmpG {f : PyData → PyData → Bool} {g : D → D → Option D} (hg : ∀ x y z, g x y = some z → x.cmpOk y = true ∧ z = .bl (f x.pd y.pd)) : BinOk K wk g (rCmpD K f) := by
  intro as Bs Bw H x y z v w Q h1 h2 rx ry e q
  obtain ⟨c, ez⟩ := hg x y z e
  subst ez
  unfold D.cmpOk at c
  simp only [Bool.and_eq_true] at c
  obtain ⟨⟨⟨c1, c2⟩, c3⟩, c4⟩ := c
  obtain ⟨p1, p2, p3⟩ := okq_dp x v 50 rx c1
  obtain ⟨k1, k2, k3⟩ := okq_dp y w 50 ry c2
  exact ⟨x.pd, y.pd, p1, k1, by omega, by omega, c3, pd_non c1 c4, q _ H Evo.refl rfl⟩
theorem ok_ltG : BinOk K wk D.ltG (rCmpD K fun d e => PySem.W.dataLt d e) := ok_cmpG fun x y z e => by
  unfold D.ltG at e
  split at e
  · rename_i c; cases e; exact ⟨c, rfl⟩
  · cases e
theorem ok_gtG : BinOk K wk D.gtG (rCmpD K fun d e => PySem.W.dataLt e d) := ok_cmpG fun x y z e => by
  unfold D.gtG at e
  split at e
  · rename_i c; cases e; exact ⟨c, rfl⟩
  · cases e
theorem ok_leG : BinOk K wk D.leG (rCmpD K fun d e => !PySem.W.dataLt e d) := ok_cmpG fun x y z e => by
  unfold D.leG at e
  split at e
  · rename_i c; cases e; exact ⟨c, rfl⟩
  · cases e
theorem ok_geG : BinOk K wk D.geG (rCmpD K fun d e => !PySem.W.dataLt d e) := ok_cmpG fun x y z e => by
  unfold D.geG at e
  split at e
  · rename_i c; cases e; exact ⟨c, rfl⟩
  · cases e
mutual
theorem depth_okq : ∀ (d : D) (n : Nat), d.okq n = true → d.pd.depth ≤ n + 1
  | .non, n, _ => by simp [D.pd, PyData.depth]
  | .bl _, n, _ => by simp [D.pd, PyData.depth]
  | .int _, n, _ => by simp [D.pd, PyData.depth]
  | .str _, n, _ => by simp [D.pd, PyData.depth]
  | .tup ds, n, h => by
    cases n <;> simp [D.okq] at h
    rename_i n
    have := depth_okqA ds n h
    simp only [D.pd, PyData.depth]
    omega
  | .lst ds, n, h => by
    cases n <;> simp [D.okq] at h
    rename_i n
    have := depth_okqA ds n h
    simp only [D.pd, PyData.depth]
    omega
  | .dic _ _, _, h => by simp [D.okq] at h
  | .rng _ _, _, h => by simp [D.okq] at h
  | .xd _ _, _, h => by simp [D.okq] at h
  | .ref _, _, h => by simp [D.okq] at h
theorem depth_okqA : ∀ (ds : List D) (n : Nat), D.okqA ds n = true → PyData.depthAll (D.pdA ds) ≤ n + 1
  | [], n, _ => by simp [D.pdA, PyData.depthAll]
  | d :: ds, n, h => by
    simp only [D.okqA, Bool.and_eq_true] at h
    have h1 := depth_okq d n h.1
    have h2 := depth_okqA ds n h.2
    simp only [D.pdA, PyData.depthAll]
    omega
end
/-! ### sorted of a list of such -/
def D.leS (x y : D) : Bool := PySem.W.dataLe false D.pd x y
def D.tupP : D → Bool
  | .tup (_ :: _) => true
  | _ => false
def D.othP : D → Bool
  | .non => false
  | .tup _ => false
  | _ => true
def D.sortOk (ds : List D) : Bool := D.okqA ds 50 && (ds.all fun x => ds.all fun y => x.alk y) && (ds.all D.tupP || ds.all D.othP) && decide (ds.length ≤ 16777216)
def D.sortG : D → Option D
  | .lst ds => if D.sortOk ds = true then some (.lst (ds.mergeSort D.leS)) else none
  | _ => none
def rSortG (K : PySem.W.Frag) : List V → Hp → VK → Prop := fun vs H Q => ∃ (a : Addr) (xs : List V) (ds : List D), vs = [V.ref a] ∧ SqL K H a xs ∧ xs.length = ds.length ∧ DpAll K H xs (D.pdA ds) ∧ D.sortOk ds = true ∧
  ∀ p, H p = none → Q (.ref p) (upd H p (.lst (((xs.zip ds).mergeSort fun b c => D.leS b.2 c.2).map Prod.fst)))
theorem each_zip {us : List Value} : ∀ {xs : List V} {ds : List D}, Vals xs us → xs.length = ds.length → PySem.W.EachIs (fun (u : Value) (b : V × D) => RelV b.1 u) us (xs.zip ds) := by
  induction us with
  | nil =>
    intro xs ds r hl
    cases r
    exact .nil
  | cons u us ih =>
    intro xs ds r hl
    cases r with
    | cons r1 r2 =>
      cases ds with
      | nil => cases hl
      | cons d ds => exact .cons r1 (ih r2 (by simpa using hl))
theorem each_reads {h : Heap} : ∀ {us : List Value} {xs : List V} {ds : List D} {as : List Addr}, us.length = xs.length → xs.length = ds.length → ReadsAll h us (D.pdA ds) as → PySem.W.EachIs (fun (v : Value) (b : V × D) => ∃ as, Reads h v b.2.pd as) us (xs.zip ds)
  | [], [], [], _, _, _, _ => .nil
  | u :: us, x :: xs, d :: ds, _, h1, h2, r => by
    cases r with
    | cons r1 r2 => exact .cons ⟨_, r1⟩ (each_reads (by simpa using h1) (by simpa using h2) r2)
  | [], _ :: _, _, _, h1, _, _ => by cases h1
  | _ :: _, [], _, _, h1, _, _ => by cases h1
  | _, _ :: _, [], _, _, h2, _ => by cases h2
  | _, [], _ :: _, _, _, h2, _ => by cases h2
theorem vals_each : ∀ {out : List Value} {bs : List (V × D)}, PySem.W.EachIs (fun (u : Value) (b : V × D) => RelV b.1 u) out bs → Vals (bs.map Prod.fst) out
  | _, _, .nil => .nil
  | _, _, .cons r t => .cons r (vals_each t)
theorem zip_snd {xs : List V} {ds : List D} (h : xs.length = ds.length) : (xs.zip ds).map Prod.snd = ds := List.map_snd_zip (by omega)
theorem depth_mem : ∀ {xs : List PyData} {x : PyData}, x ∈ xs → x.depth ≤ PyData.depthAll xs
  | y :: ys, x, h => by
    rw [PyData.depthAll]
    rcases List.mem_cons.mp h with e | h
    · rw [e]; omega
    · have := depth_mem h; omega
theorem cr_sortG (hc : X.calm = true) (hu : X.A.units + 64 < cLine) : CallR X (.builtin "sorted") (rSortG X.K) := by
  intro pins s σ H vs us Q I r h
  obtain ⟨a, xs, ds, rfl, hs, hl, hdp, hok, q⟩ := h
  obtain ⟨its, rv, hli, hz⟩ := I.list hs
  rw [Vals.ref1 r]
  obtain ⟨as, rd⟩ := Dp.readsAll I _ _ _ hdp rv
  unfold D.sortOk at hok
  simp only [Bool.and_eq_true, Bool.or_eq_true, List.all_eq_true, decide_eq_true_eq] at hok
  obtain ⟨⟨⟨o1, o2⟩, o3⟩, o4⟩ := hok
  have eenc : (xs.zip ds).map (fun b => b.2.pd) = ds.map D.pd := by
    rw [show (fun b : V × D => b.2.pd) = D.pd ∘ Prod.snd from rfl, ← List.map_map, zip_snd hl]
  have hdep : ∀ d ∈ ds, d.pd.depth ≤ 51 := fun d hd => by
    exact depth_okq d 50 (okqA_mem o1 hd)
  have lz : (xs.zip ds).length = xs.length := by rw [List.length_zip]; omega
  refine PySem.W.sorted_data (bs := xs.zip ds) (enc := fun b => b.2.pd) (R := fun u b => RelV b.1 u) hli.isList (each_zip rv hl) (each_reads rv.length.symm hl rd) ?_ ?_ (by rw [lz]; exact hz) (fun b hb => ?_) fun out ho eo => ?_
  · rw [eenc]
    intro d hd d' hd'
    obtain ⟨x, hx, rfl⟩ := List.mem_map.mp hd
    obtain ⟨y, hy, rfl⟩ := List.mem_map.mp hd'
    exact o2 x hx y hy
  · rw [eenc]
    rcases o3 with o3 | o3
    · refine .inl fun d hd => ?_
      obtain ⟨x, hx, rfl⟩ := List.mem_map.mp hd
      have := o3 x hx
      cases x <;> simp [D.tupP] at this
      rename_i ys
      cases ys with
      | nil => simp [D.tupP] at this
      | cons y ys => exact ⟨y.pd, D.pdA ys, by simp [D.pd, D.pdA]⟩
    · refine .inr fun d hd => ?_
      obtain ⟨x, hx, rfl⟩ := List.mem_map.mp hd
      have h1 := o3 x hx
      have h2 := okqA_mem o1 hx
      cases x <;> simp [D.othP, D.pd, D.okq] at h1 h2 ⊢
  · have := hdep b.2 (List.of_mem_zip hb).2
    omega
  · obtain ⟨ep, he'⟩ := PyProof.Rows.sortedAll_at s.heap its out.toArray
    have r2 := vals_each eo
    have hlen : (((xs.zip ds).mergeSort fun b c => D.leS b.2 c.2).map Prod.fst).length ≤ sizeLine := by
      rw [List.length_map, List.length_mergeSort, lz]
      exact hz
    exact ⟨.ref _, upd H (s.heap.objs.size + 1) (.lst (((xs.zip ds).mergeSort fun b c => D.leS b.2 c.2).map Prod.fst)), I.laid (t' := s.toks) (fun _ _ => PyProof.Rows.sortedAll_old) (Nat.le_succ _) ⟨hlen, out, ep, r2, he'⟩, rfl, q _ (I.hok.fresh (Nat.le_succ _))⟩
end
end D2

namespace D2
open PySem PySem.Spec PyProof.Rows L2
section
variable {K : PySem.W.Frag} {wk : Bool}
theorem repA_mem {as : List Addr} {B : Addr → Prop} {H : Hp} : ∀ {bs : List (V × D)}, (∀ b ∈ bs, Rep K as B H b.2 b.1) → RepA K as B H (bs.map Prod.snd) (bs.map Prod.fst)
  | [], _ => rfl
  | b :: bs, h => ⟨b.1, bs.map Prod.fst, rfl, h b List.mem_cons_self, repA_mem fun c hc => h c (List.mem_cons_of_mem _ hc)⟩
theorem repA_zip {as : List Addr} {B : Addr → Prop} {H : Hp} : ∀ {ds : List D} {xs : List V}, RepA K as B H ds xs → ∀ b ∈ xs.zip ds, Rep K as B H b.2 b.1
  | [], xs, h, b, hb => by
    have e : xs = [] := h
    subst e
    cases hb
  | d :: ds, xs, h, b, hb => by
    obtain ⟨v, vs, e, h1, h2⟩ := h
    subst e
    rw [List.zip_cons_cons] at hb
    rcases List.mem_cons.mp hb with e | hb
    · rw [e]; exact h1
    · exact repA_zip h2 b hb
theorem ok_sortG : CallOk K wk (on1 D.sortG) (rSortG K) := by
  refine ok_on1 fun as Bs Bw H d z v Q h1 h2 hr e q => ?_
  cases d <;> try (cases e; done)
  rename_i ds
  unfold D.sortG at e
  simp only [] at e
  split at e
  · rename_i hok
    cases e
    obtain ⟨a, xs, e1, nb, a1, a2⟩ := hr
    subst e1
    have hok' := hok
    unfold D.sortOk at hok'
    simp only [Bool.and_eq_true] at hok'
    refine ⟨a, xs, ds, rfl, SqL.of a1, a2.length.symm, (okqA_dp ds xs 50 a2 hok'.1.1.1).1, hok, fun p hp => ?_⟩
    refine q _ _ (Evo.new hp) ⟨p, _, rfl, newB h1 h2 hp, upd_same, ?_⟩
    have hm := List.map_mergeSort (l := xs.zip ds) (r := fun b c => D.leS b.2 c.2) (s := D.leS) (f := Prod.snd) (fun a _ b _ => rfl)
    rw [zip_snd a2.length.symm] at hm
    rw [← hm]
    refine RepA.new hp (repA_mem fun b hb => ?_)
    exact repA_zip a2 b ((List.mergeSort_perm _ _).mem_iff.mp hb)
  · cases e
/-! ### sorted of a tuple of such -/
end
/-! ### len(set(x)), x a list of ints -/
theorem dedup_nodup : ∀ (l : List Int) (acc : List Int), acc.Nodup → (l.foldl PyProof.Rows.step_dedup acc).Nodup ∧ ∀ k, k ∈ l.foldl PyProof.Rows.step_dedup acc ↔ k ∈ acc ∨ k ∈ l
  | [], acc, h => ⟨h, fun k => by simp⟩
  | x :: l, acc, h => by
    rw [List.foldl_cons]
    unfold PyProof.Rows.step_dedup
    by_cases c : (acc.any (· == x)) = true
    · rw [if_pos c]
      obtain ⟨a1, a2⟩ := dedup_nodup l acc h
      refine ⟨a1, fun k => ?_⟩
      have hx : x ∈ acc := by
        obtain ⟨y, hy, e⟩ := List.any_eq_true.mp c
        rw [eq_of_beq e] at hy
        exact hy
      have a3 := a2 k
      unfold PyProof.Rows.step_dedup at a3
      rw [a3, List.mem_cons]
      constructor
      · rintro (z | z)
        · exact .inl z
        · exact .inr (.inr z)
      · rintro (z | z | z)
        · exact .inl z
        · rw [z]; exact .inl hx
        · exact .inr z
    · rw [if_neg c]
      have hx : x ∉ acc := fun hx => c (List.any_eq_true.mpr ⟨x, hx, by simp⟩)
      obtain ⟨a1, a2⟩ := dedup_nodup l (acc ++ [x]) (by
        rw [List.nodup_append]
        refine ⟨h, by simp, fun a ha b hb e => ?_⟩
        rw [List.mem_singleton.mp hb] at e
        exact hx (e ▸ ha))
      refine ⟨a1, fun k => ?_⟩
      have a3 := a2 k
      unfold PyProof.Rows.step_dedup at a3
      rw [a3, List.mem_append, List.mem_singleton, List.mem_cons]
      constructor
      · rintro ((z | z) | z)
        · exact .inl z
        · exact .inr (.inl z)
        · exact .inr (.inr z)
      · rintro (z | z | z)
        · exact .inl (.inl z)
        · exact .inl (.inr z)
        · exact .inr z
theorem range_getD (ns : List Int) : (List.range ns.length).map (fun i => ns.getD i 0) = ns := by
  apply List.ext_getElem
  · simp
  · intro i h1 h2
    rw [List.getElem_map, List.getElem_range, List.getD_eq_getElem?_getD, List.getElem?_eq_getElem h2]
    rfl
theorem firstMet_len (ns : List Int) : (PyProof.Rows.firstMet (fun i => ns.getD i 0) ns.length).length = (sortS ns).length := by
  unfold PyProof.Rows.firstMet
  rw [range_getD]
  obtain ⟨a1, a2⟩ := dedup_nodup ns [] List.nodup_nil
  have s1 : (sortS ns).Nodup := List.Pairwise.imp (fun h => by omega) (sortS_sorted (l := ns))
  have p : (ns.foldl PyProof.Rows.step_dedup []).Perm (sortS ns) := by
    refine (List.perm_ext_iff_of_nodup a1 s1).mpr fun k => ?_
    rw [a2 k, mem_sortS]
    simp
  exact p.length_eq
def tLenSet (K : PySem.W.Frag) (ta : TE) : TE := fun σz Hz Qz => ta σz Hz fun xz H1z => ∃ (l : Addr) (ns : List Int), xz = .ref l ∧ SqL K H1z l (ns.map V.int) ∧ ns.length ≤ 4000 ∧ Qz (.int ((sortS ns).length : Nat)) H1z
theorem pe_lenSet {X : Cx} {a : Expr} {ta : TE} {p p2 q pos : Pos} (hgz : Gl X "len") (hmz : X.mg "len" = none) (hg2z : Gl X "set") (hm2z : X.mg "set" = none) (haz : PE X a ta) (hcz : X.calm = true := by rfl)
    (naz : starEach [a] X.env = (false, eval a X.env) :: starEach [] X.env := by rfl) : PE X (.Call (.Name "len" p) [.Call (.Name "set" p2) [a] [] q] [] pos) (tLenSet X.K ta) := by
  refine ⟨fun pinsz sz σz Hz Qz Iz hz => ?_⟩
  refine Call_ (ld_blt Iz hgz hmz boot_len ?_)
  refine PyProof.Rows.callWith_builtin1 (PyProof.Rows.args_cons ?_ rfl) rfl rfl
  refine Call_ (ld_blt Iz hg2z hm2z PyProof.Rows.boot_set ?_)
  refine PyProof.Rows.callWith_type1 (PyProof.Rows.args_cons (thn (haz.run pinsz sz σz Hz _ Iz hz) fun vz s1z ⟨xz, H1z, I1z, r1z, q1z⟩ => PyProof.Rows.args_nil ?_) naz) naz rfl
  obtain ⟨l, ns, rfl, hq, hl, q1z⟩ := q1z
  cases r1z
  obtain ⟨itsz, rz, plz, hzz⟩ := I1z.list hq
  have hlenz : itsz.toArray.size = ns.length := by rw [List.size_toArray, ← rz.length, List.length_map]
  refine call_set_list (I1z.ok.hd hcz) plz.isList (by simpa using RZ.intsAre_vals rz) (by rw [hlenz]; unfold scanBound; omega) fun h' tkz hSz hkz => ?_
  refine PyProof.Rows.args_nil ?_
  rw [hlenz] at hSz
  obtain ⟨oz, esz, epz, tz, hoz, hexz, hdz, _, _, _, hfz, hnz⟩ := hSz
  rw [firstMet_len] at hnz
  have hslz := sortS_len (l := ns)
  have I2z : Inv X pinsz σz H1z { s1z with heap := h', toks := tkz } := I1z.kept fun b oz e => hkz b oz (Heap.lt_size e) e
  exact call_len_set hoz hexz hdz hfz (by rw [hnz] <;> omega) ⟨.int (sortS ns).length, H1z, I2z.tok _, ⟨_, by rw [hnz]⟩, q1z⟩
def D.lenSetI : D → Option D := D.intsL fun ns => if ns.length ≤ 4000 then some (.int ((sortS ns).length : Int)) else none
section
variable {X : Cx} {W : WX2} {wk : Bool} {pos : Pos}
theorem e2_lenSet {e : Expr} {m : ME} {p p2 q : Pos} (hc : X.calm = true) (hg : Gl X "len") (hm : X.mg "len" = none) (hg2 : Gl X "set") (hm2 : X.mg "set" = none) (he : PE2 X W wk e m)
    (n1 : starEach [e] X.env = (false, eval e X.env) :: starEach [] X.env := by rfl) :
    PE2 X W wk (.Call (.Name "len" p) [.Call (.Name "set" p2) [e] [] q] [] pos) (mUn D.lenSetI m) := by
  obtain ⟨t, a1, a2⟩ := he
  refine ⟨_, pe_lenSet hg hm hg2 hm2 a1 hc n1, fun B H0 as ks ow sg S σ H Q r h => ?_⟩
  refine a2 _ _ _ _ _ _ _ _ _ _ r (Den.bind h fun d S1 v H1 e0 e1 s1 q1 h1 => ?_)
  clear e0
  cases es : D.lenSetI d with
  | none => simp only [es] at h1; exact False.elim h1
  | some z =>
    simp only [es] at h1
    obtain ⟨a, ns, ev, g, e2⟩ := intsL_rep q1 es
    subst ev
    split at e2
    · rename_i h64
      cases e2
      exact ⟨a, ns, rfl, SqL.of g, h64, h1 _ H1 Evo.refl s1 rfl⟩
    · cases e2
/-! ### a new list: x + y -/
def oAdd (wk : Bool) (ma mb : ME) : MO := fun sg S => (ma sg S).bind fun x => (mb sg x.2).bind fun y => match x.1, y.1 with
  | .lst xs, .lst ys => if (decide (xs.length + ys.length ≤ 16777216) && (!wk || (D.flatA xs && D.flatA ys))) = true then .ok (.lst (xs ++ ys), y.2) else .bad
  | _, _ => .bad
theorem repA_str {K : PySem.W.Frag} {as : List Addr} {B0 B : Addr → Prop} {H : Hp} {ds : List D} {xs : List V} (h : RepA K as (if wk then B0 else B) H ds xs) (hf : (!wk || D.flatA ds) = true) : RepA K as B H ds xs := by
  cases wk with
  | false => exact h
  | true => exact RepA.ofFlat _ _ (by simpa using hf) h
theorem f2_add {a b : Expr} {ma mb : ME} (ha : PE2 X W wk a ma) (hb : PE2 X W wk b mb) : PF2 X W (.BinOp a .Add b pos) (oAdd wk ma mb) := by
  obtain ⟨t, h1, h2⟩ := ha
  obtain ⟨u, g1, g2⟩ := hb
  refine ⟨_, pe_op op_cat h1 g1, fun B H0 as ks ow sg S σ H Q r h => ?_⟩
  refine h2 _ _ _ _ _ _ _ _ _ _ r (DenO.bind h fun x S1 v H1 c1 e1 s1 q1 h1 => ?_)
  refine g2 _ _ _ _ _ _ _ _ _ _ (r.step e1 s1) (DenO.bind h1 fun y S2 w H2 c2 e2 s2 q2 h2 => ?_)
  clear c1 c2
  cases x <;> try exact False.elim h2
  rename_i xs
  cases y <;> try exact False.elim h2
  rename_i ys
  have r1 := r.step e1 s1
  have q1' := Rep.imp (B' := if wk then (· ∈ as) else Bd B ow) e2 (asWk r) (fun _ z => z) _ v q1
  obtain ⟨p, vs, ep, np, k1, k2⟩ := q1'
  obtain ⟨p', vs', ep', np', k1', k2'⟩ := q2
  by_cases hc : (decide (xs.length + ys.length ≤ 16777216) && (!wk || (D.flatA xs && D.flatA ys))) = true
  · simp only [if_pos hc] at h2
    simp only [Bool.and_eq_true, decide_eq_true_eq] at hc
    obtain ⟨hc1, hc2⟩ := hc
    have f1 : (!wk || D.flatA xs) = true := by
      cases wk with
      | false => rfl
      | true => simp only [Bool.not_true, Bool.false_or, Bool.and_eq_true] at hc2 ⊢; exact hc2.1
    have f2 : (!wk || D.flatA ys) = true := by
      cases wk with
      | false => rfl
      | true => simp only [Bool.not_true, Bool.false_or, Bool.and_eq_true] at hc2 ⊢; exact hc2.2
    have m1 := repA_str k2 f1
    have m2 := repA_str k2' f2
    rw [m1.length, m2.length] at hc1
    exact ⟨p, p', vs, vs', ep, ep', k1, k1', lineN hc1, fun l hl => h2 l _ hl (Evo.new hl) (boxNew hl s2) ⟨_, upd_same, boxNewA hl (m1.append m2)⟩⟩
  · simp only [if_neg hc] at h2
    exact False.elim h2
/-! ### isinstance(x, str) -/
def D.isStr : D → Option D
  | .str _ => some (.bl true)
  | .int _ => some (.bl false)
  | .tup _ => some (.bl false)
  | .non => some (.bl false)
  | .bl _ => some (.bl false)
  | _ => none
theorem rep_tyX {K : PySem.W.Frag} {as : List Addr} {B : Addr → Prop} {H : Hp} {ds : List D} {v : V} (h : Rep K as B H (.tup ds) v) : TyX K H v (.type "tuple") := by
  obtain ⟨a, xs, e, h1, h2⟩ := h
  subst e
  rcases h1 with (h1 | ⟨o, h1⟩) | h1
  · exact .base (.tup h1)
  · exact .fTuple h1
  · obtain ⟨o, its, n, h3, h4, _⟩ := h1
    exact .kTuple h3 h4
theorem kit_str {K : PySem.W.Frag} {a : String} {r : Bool} (h : kitB a "str" = some r) : PySem.W.kitOne K (.type a) (.type "str") = some r := kit_ty h
theorem e2_isStr {e : Expr} {m : ME} {p p2 : Pos} (hg : Gl X "isinstance") (hm : X.mg "isinstance" = none) (hg2 : Gl X "str") (hm2 : X.mg "str" = none) (he : PE2 X W wk e m)
    (v1 : bootBuiltins "isinstance" = some (.builtin "isinstance") := by decide +kernel) (v2 : bootBuiltins "str" = some (.type "str") := by decide +kernel)
    (n1 : starEach [e, .Name "str" p2] X.env = (false, eval e X.env) :: starEach [.Name "str" p2] X.env := by rfl) (n2 : starEach [.Name "str" p2] X.env = (false, eval (.Name "str" p2) X.env) :: starEach [] X.env := by rfl)
    (pl2 : (backTo pos (starEach [.Name "str" p2] X.env)).any (·.1) = false := by rfl) :
    PE2 X W wk (.Call (.Name "isinstance" p) [e, .Name "str" p2] [] pos) (mUn D.isStr m) := by
  obtain ⟨t, a1, a2⟩ := he
  refine ⟨_, pe_callB call_isi hg hm v1 (pa_cons a1 (pa_cons (pe_bltn (v := .ty "str") hg2 hm2 v2 rfl) pa_nil n2) n1) (by decide) (by decide) n1 pl2, fun B H0 as ks ow sg S σ H Q r h => ?_⟩
  refine a2 _ _ _ _ _ _ _ _ _ _ r (Den.bind h fun d S1 v H1 e0 e1 s1 q1 h1 => ?_)
  clear e0
  have fin : ∀ (b : Bool) (ty : String), kitB ty "str" = some b → TyX X.K H1 v (.type ty) → (Q (.bl b) H1) → rIsi X.K [v, .ty "str"] H1 Q := fun b ty hk ht hq => ⟨v, .ty "str", .type ty, .type "str", b, rfl, .ty "str", ht, kit_str hk, hq⟩
  cases d <;> try exact False.elim h1
  · have e : v = .non := q1
    subst e
    exact fin false "NoneType" (by decide +kernel) (.base .non) (h1 _ H1 Evo.refl s1 rfl)
  · rename_i b
    have e : v = .bl b := q1
    subst e
    exact fin false "bool" (by decide +kernel) (.base (.bl b)) (h1 _ H1 Evo.refl s1 rfl)
  · rename_i i
    have e : v = .int i := q1
    subst e
    exact fin false "int" (by decide +kernel) (.base (.int i)) (h1 _ H1 Evo.refl s1 rfl)
  · rename_i x
    have e : v = .str x := q1
    subst e
    exact fin true "str" (by decide +kernel) (.base (.str x)) (h1 _ H1 Evo.refl s1 rfl)
  · exact fin false "tuple" (by decide +kernel) (rep_tyX q1) (h1 _ H1 Evo.refl s1 rfl)
end
end D2

namespace D2
open PySem PySem.Spec PyProof.Rows L2
/-! ### try: .. with several clauses, each with a name or without -/
abbrev Cl3 := Value × Option Nat × (Addr → Value → Option Addr → TS)
def endsAt (D : Ends) : Option Nat → Ends
  | none => D
  | some i => { nx := fun σ' H' => D.nx (σ'.set i none) H', rt := D.rt, bk := fun σ' H' => D.bk (σ'.set i none) H', ct := fun σ' H' => D.ct (σ'.set i none) H' }
def slotAt (a : Addr) (σ : L2.St) : Option Nat → L2.St
  | none => σ
  | some i => σ.set i (some (.ref a))
def wEach (K : PySem.W.Frag) (Wout : L2.WX) (D : Ends) : List Cl3 → L2.WX
  | [] => Wout
  | (c, oi, ts) :: r => fun cls d σ H => ∃ b, PySem.W.exmOne K cls c = some b ∧ (b = true → ∀ a, H a = none → ts a cls d (endsAt D oi) (slotAt a σ oi) H) ∧ (b = false → wEach K Wout D r cls d σ H)
inductive HdsN (X : Cx) : List ExceptHandler → List Cl3 → Prop
  | nil : HdsN X [] []
  | as {x n : Str} {i : Nat} {c : Value} {ts : Addr → Value → Option Addr → TS} {b₀ : Stmt} {suite : List Stmt} {np pos' : Pos} {hds : List ExceptHandler} {l : List Cl3} (hN : X.N.Nodup) (hi : X.N[i]? = some n) (hln : X.env.kindOf n = some .local) (hc : Names X x c)
      (hsu : ∀ (a : Addr) (oe : Obj) (cls : Value) (d : Option Addr) (pn : List (Addr × Obj)), L2.Zc cls d oe → (∃ vs, oe.data = .fields vs) → PSs (X.suite a ((a, oe) :: pn)) (b₀ :: suite) (ts a cls d)) (r : HdsN X hds l) :
      HdsN X (.ExceptHandler (some (.Name x np)) (some n) (b₀ :: suite) pos' :: hds) ((c, some i, ts) :: l)
  | only {x : Str} {c : Value} {ts : Addr → Value → Option Addr → TS} {b₀ : Stmt} {suite : List Stmt} {np pos' : Pos} {hds : List ExceptHandler} {l : List Cl3} (hc : Names X x c)
      (hsu : ∀ (a : Addr) (oe : Obj) (cls : Value) (d : Option Addr) (pn : List (Addr × Obj)), L2.Zc cls d oe → (∃ vs, oe.data = .fields vs) → PSs (X.suite a ((a, oe) :: pn)) (b₀ :: suite) (ts a cls d)) (r : HdsN X hds l) :
      HdsN X (.ExceptHandler (some (.Name x np)) none (b₀ :: suite) pos' :: hds) ((c, none, ts) :: l)
section
variable {X : Cx} {body : List Stmt} {h₀ : ExceptHandler} {hds : List ExceptHandler} {l : List Cl3} {pos : Pos} {tb : L2.WX → TS} {Wout : L2.WX}
theorem ps_try_each (hs : X.stack = X.env :: X.outer) (hf : X.env.frame = some X.env.locals) (tk : L2.Takes X Wout)
    (hb : ∀ (W : L2.WX) (pn : List (Addr × Obj)) (xe : Value → Shared → Prop), L2.Takes (X.tr pn xe) W → PassesOwn (model X.prog X.w) X.A X.env xe → PSs (X.tr pn xe) body (tb W))
    (hh : HdsN X (h₀ :: hds) l) : PS X (.Try body (h₀ :: hds) [] [] pos) (fun D σ H => tb (wEach X.K Wout D l) D σ H) := by
  refine ⟨fun pinsz sz σ H D I h => ?_⟩
  have okz := I.ok
  have hfrz : X.A.frames = some (X.env :: X.outer) := by rw [okz.frames, hs]
  refine wpAny_Try_except ?_
  refine wpAny_mono ((hb (wEach X.K Wout D l) (X.pn ++ pinsz) (fun e s₁ => wpAny (model X.prog X.w) X.A (noteFrame e X.env) (fun _ s₂ => wpAny (model X.prog X.w) X.A (setFlight e none) (fun _ s₃ =>
    wpAny (model X.prog X.w) X.A (handleBy e X.env (h₀ :: hds)) (SP X pinsz D) X.xe s₃) X.xe s₂) X.xe s₁) (fun u s'z xx => ?_) PassesOwn.looking).run [] sz σ H D (I.toTry _) h) (fun f s1 hspz => ?_) (fun e s1 he => he)
  · obtain ⟨a, B, sI, pins', σ'z, H'z, cls, d, rfl, J'z, nbz, upz, skyz, naz, osz, agz, wz⟩ := xx
    have Jz : Inv X pinsz σ'z H'z sI := J'z.ofTry okz
    have sky' : Sky B (X.env :: X.outer) a (Zc cls d) X.env.locals s'z.heap := by rw [← hs]; exact skyz
    show wpAny (model X.prog X.w) X.A (noteFrame (.ref a) X.env) _ _ _
    refine Sky.land Zc.steady hfrz hf sky' fun h3z fl3z up3z => ?_
    have J3z : Inv X pinsz σ'z H'z { s'z with heap := h3z } := Jz.landed nbz fl3z.1 (upz.trans up3z) osz agz
    obtain ⟨oe3z, vs3z, he3z, hz3z, hd3z⟩ := fl3z.there
    have notFrz : ∀ {h : Heap} {o : Obj} {vs : Array Value}, h.FunFrames B (X.env :: X.outer) → h.get? a = some o → o.data = .fields vs → a ∉ frs (X.env :: X.outer) := fun {h o vs} ffz e dd hmz => by
      obtain ⟨_, o', e', hnfz⟩ := ffz.mem hmz
      rw [e] at e'; cases e'
      exact hnfz _ dd
    have nfrz := notFrz fl3z.2.2.1 he3z hd3z
    have nLz : a ≠ X.env.locals := fun z => nfrz (List.mem_filterMap.mpr ⟨X.env, List.mem_cons_self, by rw [hf, z]⟩)
    have nFz : a ∉ X.fs := fun hmz => by
      obtain ⟨e, he, q⟩ := List.mem_filterMap.mp hmz
      exact nfrz (List.mem_filterMap.mpr ⟨e, List.mem_cons_of_mem _ he, q⟩)
    have S3z := J3z.suite he3z hd3z naz nLz nFz
    have LTz : PySem.W.Looks (model X.prog X.w) h3z (typeOf (.ref a)) cls := fun A Q E sz k q => wpAny_typeOf_ref (k _ _ he3z) (by rw [hz3z.1]; exact q)
    have test : ∀ {x : Str} {c : Value} {np : Pos} {Q : Value → Shared → Prop} {E : Value → Shared → Prop}, Names X x c → Q c { s'z with heap := h3z } → wpAny (model X.prog X.w) (X.A.mark (some (.ref a))) (eval (.Name x np) X.env) Q E { s'z with heap := h3z } := fun {x c np Q E} hc q => by
      obtain ⟨hg, hdbg, hmz | ⟨hmz, hv, hnn⟩⟩ := hc
      · exact ld_glob (X := X.suite a ((a, oe3z) :: (X.pn ++ pinsz))) S3z hg hmz q hdbg
      · exact ld_blt (X := X.suite a ((a, oe3z) :: (X.pn ++ pinsz))) S3z hg hmz hv q hnn hdbg
    have goz : ∀ {hds' : List ExceptHandler} {l' : List Cl3}, HdsN X hds' l' → wEach X.K Wout D l' cls d σ'z H'z →
        wpAny (model X.prog X.w) X.A (handleBy (.ref a) X.env hds') (SP X pinsz D) X.xe { s'z with heap := h3z } := by
      intro hds' l' hk
      induction hk with
      | nil =>
        intro wz
        refine wpAny_handleBy_nil ?_
        obtain ⟨k1z, k2z, k3z, oe, vs, T, oT, ts', he, hz, hd, h1, hr⟩ := id fl3z
        unfold PySem.passOn
        refine wpAny_bind (wpAny_field he hd h1 ?_)
        rw [if_neg (show ¬ ((Value.ref T == Value.none) = true) from by simp)]
        have finz : wpAny (model X.prog X.w) X.A (setFlight (.ref a) X.env.frame) (fun _ s4 => wpAny (model X.prog X.w) X.A (throw (.ref a) : Sem Flow) (SP X pinsz D) X.xe s4) X.xe { s'z with heap := h3z } := by
          rw [hf]
          refine HandSPX.setFlight_upZ fl3z fun h4z hh4 up4z => wpAny_throw (tk _ _ ?_)
          exact ⟨a, B, sI, pinsz, σ'z, H'z, cls, d, rfl, Jz, nbz, (upz.trans up3z).trans up4z, .inr (.inr (by rw [hs]; exact hh4)), naz, osz, agz, wz⟩
        first
          | exact wpAny_bind (wpAny_pure (wpAny_bind finz))
          | exact wpAny_bind finz
      | @as x n i c ts b₀ suite np pos' hds2 l2 hN hi hln hc hsu r ih =>
        intro wz
        obtain ⟨b, hb1z, hyesz, hnoz⟩ := wz
        refine wpAny_handleBy_cons (codeAny_handlers_test ?_) (by intro q; cases q)
        have LMz := PySem.W.exm_one (M := model X.prog X.w) (J3z.kIn) LTz hb1z
        refine test hc (LMz.here ?_)
        have hloc : Loc X.env.scope n := .inl hln
        cases b with
        | true =>
          refine codeAny_handlers_suite_as ?_
          refine HandSPX.lands_againZ fl3z fun h4z fl4z up4z => ?_
          have J4z : Inv X pinsz σ'z H'z { s'z with heap := h4z } := Jz.landed nbz fl4z.1 ((upz.trans up3z).trans up4z) osz agz
          obtain ⟨oe4z, vs4z, he4z, hz4z, hd4z⟩ := fl4z.there
          have S4z := J4z.suite he4z hd4z naz nLz nFz
          refine store_ok (X := X.suite a ((a, oe4z) :: (X.pn ++ pinsz))) (v := .ref a) S4z hN hi hloc rfl (fun s5z S5z => ?_) (.inr hln)
          refine wpAny_mono ((hsu a oe4z cls d (X.pn ++ pinsz) hz4z ⟨_, hd4z⟩).run [] s5z _ H'z _ S5z (hyesz rfl a naz)) (fun f s6z hspz => ?_) (fun _ _ z => False.elim z)
          have end_z : ∀ {σ6z : L2.St} {H6z : Hp} {Q : Shared → Prop}, Inv (X.suite a ((a, oe4z) :: (X.pn ++ pinsz))) [] σ6z H6z s6z → (∀ s7z, Inv X pinsz (σ6z.set i none) H6z s7z → Q s7z) →
              wpAny (model X.prog X.w) X.A (do bindName X.env n .none; unbindBehindTheSuite X.env n pos') (fun _ s7z => Q s7z) X.xe s6z := fun {σ6z H6z Q} S6z hq => gone_ok (S6z.unsuite okz) hN hi hln hq
          cases f with
          | next =>
            obtain ⟨σ6z, H6z, S6z, q6z⟩ := hspz
            exact end_z S6z fun s7z J7z => ⟨_, _, J7z, q6z⟩
          | brk =>
            obtain ⟨σ6z, H6z, S6z, q6z⟩ := hspz
            exact end_z S6z fun s7z J7z => ⟨_, _, J7z, q6z⟩
          | cont =>
            obtain ⟨σ6z, H6z, S6z, q6z⟩ := hspz
            exact end_z S6z fun s7z J7z => ⟨_, _, J7z, q6z⟩
          | ret u =>
            obtain ⟨v6z, σ6z, H6z, S6z, r6z, q6z⟩ := hspz
            exact end_z S6z fun s7z J7z => ⟨_, _, _, J7z, r6z, q6z⟩
        | false =>
          show wpAny _ X.A (handleBy (.ref a) X.env hds2) _ _ _
          exact ih (hnoz rfl)
      | @only x c ts b₀ suite np pos' hds2 l2 hc hsu r ih =>
        intro wz
        obtain ⟨b, hb1z, hyesz, hnoz⟩ := wz
        refine wpAny_handleBy_cons (codeAny_handlers_test ?_) (by intro q; cases q)
        have LMz := PySem.W.exm_one (M := model X.prog X.w) (J3z.kIn) LTz hb1z
        refine test hc (LMz.here ?_)
        cases b with
        | true =>
          refine codeAny_handlers_suite ?_
          refine HandSPX.lands_againZ fl3z fun h4z fl4z up4z => ?_
          have J4z : Inv X pinsz σ'z H'z { s'z with heap := h4z } := Jz.landed nbz fl4z.1 ((upz.trans up3z).trans up4z) osz agz
          obtain ⟨oe4z, vs4z, he4z, hz4z, hd4z⟩ := fl4z.there
          have S4z := J4z.suite he4z hd4z naz nLz nFz
          refine wpAny_mono ((hsu a oe4z cls d (X.pn ++ pinsz) hz4z ⟨_, hd4z⟩).run [] _ _ H'z _ S4z (hyesz rfl a naz)) (fun f s6z hspz => ?_) (fun _ _ z => False.elim z)
          cases f with
          | next =>
            obtain ⟨σ6z, H6z, S6z, q6z⟩ := hspz
            exact ⟨_, _, S6z.unsuite okz, q6z⟩
          | brk =>
            obtain ⟨σ6z, H6z, S6z, q6z⟩ := hspz
            exact ⟨_, _, S6z.unsuite okz, q6z⟩
          | cont =>
            obtain ⟨σ6z, H6z, S6z, q6z⟩ := hspz
            exact ⟨_, _, S6z.unsuite okz, q6z⟩
          | ret u =>
            obtain ⟨v6z, σ6z, H6z, S6z, r6z, q6z⟩ := hspz
            exact ⟨_, _, _, S6z.unsuite okz, r6z, q6z⟩
        | false =>
          show wpAny _ X.A (handleBy (.ref a) X.env hds2) _ _ _
          exact ih (hnoz rfl)
    exact goz hh wz
  · cases f with
    | next =>
      obtain ⟨σ'z, H'z, J'z, q⟩ := hspz
      exact wpAny_execs_nil ⟨σ'z, H'z, J'z.ofTry okz, q⟩
    | brk =>
      obtain ⟨σ'z, H'z, J'z, q⟩ := hspz
      exact ⟨σ'z, H'z, J'z.ofTry okz, q⟩
    | cont =>
      obtain ⟨σ'z, H'z, J'z, q⟩ := hspz
      exact ⟨σ'z, H'z, J'z.ofTry okz, q⟩
    | ret u =>
      obtain ⟨v, σ'z, H'z, J'z, r, q⟩ := hspz
      exact ⟨v, σ'z, H'z, J'z.ofTry okz, r, q⟩
end
/-! ### what a suite computes, by parts -/
def Xh (K : PySem.W.Frag) (mg : Str → Option Value) (i : Nat) (x : Str) (a : Addr) (cls : Value) (d : Option Addr) (e : Exn) (B : Addr → Prop) (as : List Addr) (ow : List (Option Addr)) (sg : List Sl) (σ : L2.St) (H : Hp) : Prop :=
  sg[i]? = some .no ∧ σ[i]? = some (some (.ref a)) ∧ XRep mg K as (Bd B ow) H e cls d ∧ e.cls = x
theorem XRep.evo {mg : Str → Option Value} {K : PySem.W.Frag} {as : List Addr} {W B : Addr → Prop} {H H' : Hp} {e : Exn} {c : Value} {dx : Option Addr} (ev : Evo W H H') (hW : ∀ a, W a → B a) (x : XRep mg K as B H e c dx) : XRep mg K as B H' e c dx := by
  obtain ⟨C, a, h1, h2, h3, h4⟩ := x
  exact ⟨C, a, h1, h2, h3, Rep.imp ev hW (fun _ z => z) _ _ h4⟩
theorem Xh.step {K : PySem.W.Frag} {mg : Str → Option Value} {i : Nat} {x : Str} {a : Addr} {cls : Value} {d : Option Addr} {e : Exn} {B : Addr → Prop} {as : List Addr} {ow : List (Option Addr)} {sg : List Sl} {σ : L2.St} {H H' : Hp} (h : Xh K mg i x a cls d e B as ow sg σ H) (ev : Evo (· ∈ as) H H') (hb : ∀ b, b ∈ as → Bd B ow b) : Xh K mg i x a cls d e B as ow sg σ H' :=
  ⟨h.1, h.2.1, h.2.2.1.evo ev hb, h.2.2.2⟩
def PEu (X : Cx) (W : WX2) (i : Nat) (x : Str) (a : Addr) (cls : Value) (d : Option Addr) (wk : Bool) (ex : Expr) (me : Exn → ME) : Prop :=
  ∃ t : TE, PE X ex t ∧ ∀ (e : Exn) B H0 as ks ow sg S σ H (Q : VK), Rl X.K B H0 as ks ow sg S σ H → Xh X.K X.mg i x a cls d e B as ow sg σ H → Den (ctOf X W B H0 as ks) ow ((ctOf X W B H0 as ks).rp ow wk) (me e sg S) H Q → t σ H Q
section
variable {X : Cx} {W : WX2} {i : Nat} {x n : Str} {a C : Addr} {oe : Obj} {cls : Value} {d : Option Addr} {pn : List (Addr × Obj)} {wk : Bool} {np pos pos2 : Pos}
theorem eu_of {ex : Expr} {m : ME} (h : PE2 X W wk ex m) : PEu X W i x a cls d wk ex (fun _ => m) := by
  obtain ⟨t, a1, a2⟩ := h
  exact ⟨t, a1, fun e B H0 as ks ow sg S σ H Q r _ h => a2 _ _ _ _ _ _ _ _ _ _ r h⟩
def mxF (f : Str) : Exn → ME := fun e _ S => match fld e f with
  | some z => .ok (z, S)
  | none => .bad
theorem eu_fld {f : Str} (T : ExF X.K C) (hm : X.mg x = some (.ref C)) (noN : PySem.W.findIn X.K (.ref C) f = some none) (hz : L2.Zc cls d oe) (hf : ∃ vs, oe.data = .fields vs)
    (hN : X.N[i]? = some n := by rfl) (hv : Vis X.env.scope n := by first | exact Or.inl rfl | exact Or.inr (Or.inl rfl) | exact Or.inr (Or.inr rfl)) (hd : (n == ("__debug__" : Str)) = false := by decide)
    (hcd : (n == ("__classdict__" : Str)) = false := by decide) (hb : attributeBase (.Name n np) f X.env (eval (.Name n np) X.env) = eval (.Name n np) X.env := by rfl) :
    PEu (X.suite a ((a, oe) :: pn)) W i x a cls d false (.Attribute (.Name n np) f pos) (mxF f) := by
  refine ⟨_, pe_fld T noN hz hf (pe_var (i := i) hN hv hd hcd) hb, fun e B H0 as ks ow sg S σ H Q r k h => ?_⟩
  obtain ⟨h1, h2, h3, h4⟩ := k
  unfold mxF at h
  cases e1 : fld e f with
  | none => rw [e1] at h; exact False.elim h
  | some z =>
    rw [e1] at h
    obtain ⟨g1, dd, fs, v, g2, g3, g4, g5⟩ := fld_at (mg := X.mg) (K := X.K) hm h3 h4 e1
    exact ⟨.ref a, h2, rfl, g1, dd, fs, v, g2, g3, g4, h v H Evo.refl r.sto g5⟩
def mxBin (f : D → D → Option D) (ma mb : Exn → ME) : Exn → ME := fun e => mBin f (ma e) (mb e)
theorem binu_den {r2 : R2} {f : D → D → Option D} {ta tb : TE} {ma mb : Exn → ME} (hop : BinOk X.K wk f r2)
    (ha : ∀ (e : Exn) B H0 as ks ow sg S σ H (Q : VK), Rl X.K B H0 as ks ow sg S σ H → Xh X.K X.mg i x a cls d e B as ow sg σ H → Den (ctOf X W B H0 as ks) ow ((ctOf X W B H0 as ks).rp ow wk) (ma e sg S) H Q → ta σ H Q)
    (hb : ∀ (e : Exn) B H0 as ks ow sg S σ H (Q : VK), Rl X.K B H0 as ks ow sg S σ H → Xh X.K X.mg i x a cls d e B as ow sg σ H → Den (ctOf X W B H0 as ks) ow ((ctOf X W B H0 as ks).rp ow wk) (mb e sg S) H Q → tb σ H Q)
    {e : Exn} {B : Addr → Prop} {H0 : Hp} {as : List Addr} {ks : List (D × V)} {ow : List (Option Addr)} {sg : List Sl} {S : List O} {σ : L2.St} {H : Hp} {Q : VK} (r : Rl X.K B H0 as ks ow sg S σ H) (k : Xh X.K X.mg i x a cls d e B as ow sg σ H) (h : Den (ctOf X W B H0 as ks) ow ((ctOf X W B H0 as ks).rp ow wk) (mxBin f ma mb e sg S) H Q) : tOp r2 ta tb σ H Q := by
  refine ha _ _ _ _ _ _ _ _ _ _ _ r k (Den.bind h fun x S1 v H1 _ e1 s1 q1 h1 => ?_)
  have r1 := r.step e1 s1
  refine hb _ _ _ _ _ _ _ _ _ _ _ r1 (k.step e1 r.asBd) (Den.bind h1 fun y S2 w H2 _ e2 s2 q2 h2 => ?_)
  have r2 := r1.step e2 s2
  have q1' := Rep.imp (B' := if wk then (· ∈ as) else Bd B ow) e2 (asWk r) (fun _ z => z) x v q1
  cases e : f x y with
  | none =>
    simp only [e] at h2
    exact False.elim h2
  | some z =>
    simp only [e] at h2
    refine hop as (Bd B ow) (· ∈ as) H2 x y z v w Q r.asBd r2.bdDom q1' q2 e fun u H' e3 q3 => ?_
    exact h2 u H' e3.any (r2.stoNew e3) q3
theorem eu_bin {op : Operator} {r2 : R2} {f : D → D → Option D} {ea eb : Expr} {ma mb : Exn → ME} (ho : OpR X (binaryOp op) r2) (hop : BinOk X.K wk f r2) (ha : PEu X W i x a cls d wk ea ma) (hb : PEu X W i x a cls d wk eb mb) : PEu X W i x a cls d wk (.BinOp ea op eb pos) (mxBin f ma mb) := by
  obtain ⟨ta, a1, a2⟩ := ha
  obtain ⟨tb, b1, b2⟩ := hb
  exact ⟨_, pe_op ho a1 b1, fun e B H0 as ks ow sg S σ H Q r k h => binu_den hop a2 b2 r k h⟩
theorem eu_cmp {op : CmpOp} {r2 : R2} {f : D → D → Option D} {ea eb : Expr} {ma mb : Exn → ME} (ho : OpR X (compareOp op) r2) (hop : BinOk X.K wk f r2) (ha : PEu X W i x a cls d wk ea ma) (hb : PEu X W i x a cls d wk eb mb) (hm : behindInMarks op eb = false) : PEu X W i x a cls d wk (.Compare ea [op] [eb] pos) (mxBin f ma mb) := by
  obtain ⟨ta, a1, a2⟩ := ha
  obtain ⟨tb, b1, b2⟩ := hb
  exact ⟨_, pe_cmpR ho a1 b1 hm, fun e B H0 as ks ow sg S σ H Q r k h => binu_den hop a2 b2 r k h⟩
/-- the judgement of a suite -/
def PSv (X : Cx) (W : WX2) (i : Nat) (x : Str) (a : Addr) (cls : Value) (d : Option Addr) (st : List Stmt) (ms : Exn → MS) : Prop :=
  ∃ t, PSs X st t ∧ ∀ (e : Exn) B H0 as ks ow sg S σ H (Dd : Ends), Rl X.K B H0 as ks ow sg S σ H → Xh X.K X.mg i x a cls d e B as ow sg σ H → DenS (ctOf X W B H0 as ks) (ms e sg S) Dd → t Dd σ H
def msRet (me : Exn → ME) : Exn → MS := fun e => mRet (me e)
theorem sv_ret {ex : Expr} {me : Exn → ME} (h : PEu X W i x a cls d false ex me) : PSv X W i x a cls d [.Return (some ex) pos] (msRet me) := by
  obtain ⟨t, a1, a2⟩ := h
  refine ⟨_, pss_one (ps_ret a1), fun e B H0 as ks ow sg S σ H Dd r k h => ?_⟩
  refine a2 _ _ _ _ _ _ _ _ _ _ _ r k ?_
  unfold msRet mRet at h
  cases e1 : me e sg S with
  | ok z =>
    obtain ⟨z, S1⟩ := z
    rw [e1] at h
    exact fun v H1 ev st q => h v H1 (r.evo.trans ev) (st.weak bdB) (Rep.imp (W := fun _ => False) Evo.refl (fun _ z => z.elim) bdB _ _ q)
  | ex e2 sg2 S2 => rw [e1] at h; exact h
  | bad => rw [e1] at h; exact False.elim h
theorem psu_of {st : List Stmt} {ms : Exn → MS} (h : PSv (X.suite a ((a, oe) :: pn)) W i x a cls d st ms) : PSu X W i x a oe cls d pn st ms := by
  obtain ⟨t, a1, a2⟩ := h
  exact ⟨t, a1, fun e B H0 as ks ow sg S σ H Dd r h1 h2 h3 h4 h => a2 e B H0 as ks ow sg S σ H Dd r ⟨h1, h2, h3, h4⟩ h⟩
end
end D2

namespace D2
open PySem PySem.Spec PyProof.Rows L2
abbrev Hd := Str × Option Nat × (Exn → MS)
def hdOf : List Hd → Str → Option (Option Nat × (Exn → MS))
  | [], _ => none
  | h :: r, c => if c = h.1 then some h.2 else hdOf r c
theorem hdOf_mem : ∀ {l : List Hd} {c : Str} {z : Option Nat × (Exn → MS)}, hdOf l c = some z → (c, z) ∈ l
  | h :: r, c, z, e => by
    unfold hdOf at e
    by_cases k : c = h.1
    · rw [if_pos k] at e
      cases e
      rw [k]
      exact List.mem_cons_self
    · rw [if_neg k] at e
      exact List.mem_cons_of_mem _ (hdOf_mem e)
def mHd (z : Option (Option Nat × (Exn → MS))) (e : Exn) : MS := fun sg S => match z with
  | some (some i, ms) => match sg[i]? with
    | some .no => (ms e sg S).done i
    | _ => .bad
  | some (none, ms) => ms e sg S
  | none => .bad
def mTryN (hs : List Hd) (mb : MS) : MS := fun sg S => match mb sg S with
  | .ex e sg1 S1 => mHd (hdOf hs e.cls) e sg1 S1
  | r => r
/-- a suite without a name -/
def PSu0 (X : Cx) (W : WX2) (x : Str) (a : Addr) (oe : Obj) (cls : Value) (d : Option Addr) (pn : List (Addr × Obj)) (st : List Stmt) (ms : Exn → MS) : Prop :=
  ∃ t, PSs (X.suite a ((a, oe) :: pn)) st t ∧ ∀ (e : Exn) B H0 as ks ow sg S σ H (Dd : Ends), Rl X.K B H0 as ks ow sg S σ H → XRep X.mg X.K as (Bd B ow) H e cls d → e.cls = x →
    DenS (ctOf X W B H0 as ks) (ms e sg S) Dd → t Dd σ H
theorem su0_of {X : Cx} {W : WX2} {x : Str} {a : Addr} {oe : Obj} {cls : Value} {d : Option Addr} {pn : List (Addr × Obj)} {st : List Stmt} {m : MS} (h : PSs2 (X.suite a ((a, oe) :: pn)) W st m) : PSu0 X W x a oe cls d pn st (fun _ => m) := by
  obtain ⟨t, a1, a2⟩ := h
  exact ⟨t, a1, fun e B H0 as ks ow sg S σ H Dd r _ _ h => a2 B H0 as ks ow sg S σ H Dd r h⟩
theorem ps2_of {X : Cx} {W : WX2} {st : Stmt} {m : MS} (h : PS2 X W st m) : PSs2 X W [st] m := by
  obtain ⟨t, a1, a2⟩ := h
  exact ⟨t, pss_one a1, a2⟩
inductive Hds2 (X : Cx) (W : WX2) : List ExceptHandler → List Hd → Prop
  | nil : Hds2 X W [] []
  | dead {x : Str} {c : Value} {b₀ : Stmt} {suite : List Stmt} {np pos' : Pos} (hc : Names X x c) : Hds2 X W [.ExceptHandler (some (.Name x np)) none (b₀ :: suite) pos'] []
  | as {x n : Str} {i : Nat} {C : Addr} {ms : Exn → MS} {b₀ : Stmt} {suite : List Stmt} {np pos' : Pos} {hds : List ExceptHandler} {l : List Hd} (hN : X.N.Nodup) (hi : X.N[i]? = some n) (hln : X.env.kindOf n = some .local) (hc : Names X x (.ref C)) (hm : X.mg x = some (.ref C)) (te : PySem.W.exmOne X.K (.ref C) (.ref C) = some true)
      (hl : ∀ p ∈ l, ∃ C', X.mg p.1 = some (.ref C') ∧ PySem.W.exmOne X.K (.ref C') (.ref C) = some false)
      (hsu : ∀ (a : Addr) (oe : Obj) (cls : Value) (d : Option Addr) (pn : List (Addr × Obj)), L2.Zc cls d oe → (∃ vs, oe.data = .fields vs) → PSu X W i x a oe cls d pn (b₀ :: suite) ms) (r : Hds2 X W hds l) :
      Hds2 X W (.ExceptHandler (some (.Name x np)) (some n) (b₀ :: suite) pos' :: hds) ((x, some i, ms) :: l)
  | only {x : Str} {C : Addr} {ms : Exn → MS} {b₀ : Stmt} {suite : List Stmt} {np pos' : Pos} {hds : List ExceptHandler} {l : List Hd} (hc : Names X x (.ref C)) (hm : X.mg x = some (.ref C)) (te : PySem.W.exmOne X.K (.ref C) (.ref C) = some true)
      (hl : ∀ p ∈ l, ∃ C', X.mg p.1 = some (.ref C') ∧ PySem.W.exmOne X.K (.ref C') (.ref C) = some false)
      (hsu : ∀ (a : Addr) (oe : Obj) (cls : Value) (d : Option Addr) (pn : List (Addr × Obj)), L2.Zc cls d oe → (∃ vs, oe.data = .fields vs) → PSu0 X W x a oe cls d pn (b₀ :: suite) ms) (r : Hds2 X W hds l) :
      Hds2 X W (.ExceptHandler (some (.Name x np)) none (b₀ :: suite) pos' :: hds) ((x, none, ms) :: l)
section
variable {X : Cx} {W : WX2}
theorem xrep_cls {mg : Str → Option Value} {K : PySem.W.Frag} {as : List Addr} {B : Addr → Prop} {H : Hp} {e : Exn} {cl : Value} {dx : Option Addr} {C : Addr} (h : XRep mg K as B H e cl dx) (hm : mg e.cls = some (.ref C)) : cl = .ref C := by
  obtain ⟨C', a', h1, h2, _⟩ := h
  rw [hm] at h1
  cases h1
  exact h2
theorem den_done {c : Ct} {i : Nat} {r : R (Fl × List Sl × List O)} {Dd : Ends} (hc : ∀ {ow sg S σ H} {v : Option V}, sg[i]? = some .no → c.Rl ow sg S σ H → c.Rl ow sg S (σ.set i v) H) (h : DenS c (r.done i) Dd) : DenS c r (endsAt Dd (some i)) := by
  cases r with
  | ok z =>
    obtain ⟨fl, sg2, S2⟩ := z
    unfold R.done at h
    simp only [] at h
    cases c3 : sg2[i]? with
    | none => rw [c3] at h; exact False.elim h
    | some s2 =>
      cases s2 with
      | val => rw [c3] at h; exact False.elim h
      | own => rw [c3] at h; exact False.elim h
      | no =>
        rw [c3] at h
        cases fl with
        | nx => exact fun ow' σ' H' r' => h ow' _ H' (hc c3 r')
        | bk => exact fun ow' σ' H' r' => h ow' _ H' (hc c3 r')
        | ct => exact fun ow' σ' H' r' => h ow' _ H' (hc c3 r')
        | rt d => exact h
  | ex e3 sg3 S3 => exact h
  | bad => exact h
theorem hds_go {hds : List ExceptHandler} {l : List Hd} (h : Hds2 X W hds l) : ∃ l3, HdsN X hds l3 ∧ ∀ (B : Addr → Prop) (H0 : Hp) (as : List Addr) (ks : List (D2.D × V)) (Dd : Ends) (e : Exn) (cl : Value) (dx : Option Addr) (ow : List (Option Addr)) (sg : List Sl) (S : List O) (σ : L2.St) (H : Hp),
    Rl X.K B H0 as ks ow sg S σ H → XRep X.mg X.K as (Bd B ow) H e cl dx → DenS (ctOf X W B H0 as ks) (mHd (hdOf l e.cls) e sg S) Dd → wEach X.K W Dd l3 cl dx σ H := by
  induction h with
  | nil => exact ⟨[], .nil, fun B H0 as ks Dd e cl dx ow sg S σ H r x h => False.elim h⟩
  | @dead x c b₀ suite np pos' hc => exact ⟨[(c, none, fun _ _ _ _ _ _ => False)], .only hc (fun a oe cls d pn _ _ => ⟨fun _ _ _ _ _ _ h => False.elim h⟩) .nil, fun B H0 as ks Dd e cl dx ow sg S σ H r x h => False.elim h⟩
  | @as x n i C ms b₀ suite np pos' hds l hN hi hln hc hm te hl hsu r ih =>
    obtain ⟨l3, k1, k2⟩ := ih
    let ts : Addr → Value → Option Addr → TS := fun a cls d D σ H => ∃ (e : Exn) (B : Addr → Prop) (H0 : Hp) (as : List Addr) (ks : List (D2.D × V)) (ow : List (Option Addr)) (sg : List Sl) (S : List O), Rl X.K B H0 as ks ow sg S σ H ∧ sg[i]? = some .no ∧ σ[i]? = some (some (.ref a)) ∧ XRep X.mg X.K as (Bd B ow) H e cls d ∧ e.cls = x ∧ DenS (ctOf X W B H0 as ks) (ms e sg S) D
    refine ⟨(.ref C, some i, ts) :: l3, .as hN hi hln hc (fun a oe cls d pn hz hf2 => ?_) k1, fun B H0 as ks Dd e cl dx ow sg S σ H rr x1 h => ?_⟩
    · obtain ⟨t, p, sim⟩ := hsu a oe cls d pn hz hf2
      exact ⟨fun pins s σ H D I h => by
        obtain ⟨e, B, H0, as, ks, ow, sg, S, r, h1, h2, h3, h4, hd⟩ := h
        exact p.run pins s σ H D I (sim e B H0 as ks ow sg S σ H D r h1 h2 h3 h4 hd)⟩
    · unfold hdOf at h
      by_cases c1 : e.cls = x
      · rw [if_pos c1] at h
        have ecl := xrep_cls x1 (c1 ▸ hm)
        refine ⟨true, by rw [ecl]; exact te, fun _ a ha => ?_, fun z => nomatch z⟩
        unfold mHd at h
        simp only [] at h
        cases c2 : sg[i]? with
        | none => rw [c2] at h; exact False.elim h
        | some s =>
          cases s with
          | val => rw [c2] at h; exact False.elim h
          | own => rw [c2] at h; exact False.elim h
          | no =>
            rw [c2] at h
            simp only [] at h
            refine ⟨e, B, H0, as, ks, ow, sg, S, rl_slot rr c2, c2, ?_, x1, c1, den_done (fun c3 r' => rl_slot r' c3) h⟩
            obtain ⟨w, v, _, h2, _⟩ := rr.sl i _ c2
            show (σ.set i _)[i]? = _
            rw [List.getElem?_set, if_pos rfl, if_pos (List.getElem?_eq_some_iff.mp h2).1]
      · rw [if_neg c1] at h
        cases c2 : hdOf l e.cls with
        | none => rw [c2] at h; exact False.elim h
        | some z =>
          obtain ⟨C', m1, m2⟩ := hl _ (hdOf_mem c2)
          have ecl := xrep_cls x1 m1
          refine ⟨false, by rw [ecl]; exact m2, fun z => (nomatch z), fun _ => k2 B H0 as ks Dd e cl dx ow sg S σ H rr x1 h⟩
  | @only x C ms b₀ suite np pos' hds l hc hm te hl hsu r ih =>
    obtain ⟨l3, k1, k2⟩ := ih
    let ts : Addr → Value → Option Addr → TS := fun a cls d D σ H => ∃ (e : Exn) (B : Addr → Prop) (H0 : Hp) (as : List Addr) (ks : List (D2.D × V)) (ow : List (Option Addr)) (sg : List Sl) (S : List O), Rl X.K B H0 as ks ow sg S σ H ∧ XRep X.mg X.K as (Bd B ow) H e cls d ∧ e.cls = x ∧ DenS (ctOf X W B H0 as ks) (ms e sg S) D
    refine ⟨(.ref C, none, ts) :: l3, .only hc (fun a oe cls d pn hz hf2 => ?_) k1, fun B H0 as ks Dd e cl dx ow sg S σ H rr x1 h => ?_⟩
    · obtain ⟨t, p, sim⟩ := hsu a oe cls d pn hz hf2
      exact ⟨fun pins s σ H D I h => by
        obtain ⟨e, B, H0, as, ks, ow, sg, S, r, h3, h4, hd⟩ := h
        exact p.run pins s σ H D I (sim e B H0 as ks ow sg S σ H D r h3 h4 hd)⟩
    · unfold hdOf at h
      by_cases c1 : e.cls = x
      · rw [if_pos c1] at h
        have ecl := xrep_cls x1 (c1 ▸ hm)
        exact ⟨true, by rw [ecl]; exact te, fun _ a ha => ⟨e, B, H0, as, ks, ow, sg, S, rr, x1, c1, h⟩, fun z => nomatch z⟩
      · rw [if_neg c1] at h
        cases c2 : hdOf l e.cls with
        | none => rw [c2] at h; exact False.elim h
        | some z =>
          obtain ⟨C', m1, m2⟩ := hl _ (hdOf_mem c2)
          have ecl := xrep_cls x1 m1
          refine ⟨false, by rw [ecl]; exact m2, fun z => (nomatch z), fun _ => k2 B H0 as ks Dd e cl dx ow sg S σ H rr x1 h⟩
theorem s2_tryN {body : List Stmt} {h₀ : ExceptHandler} {hds : List ExceptHandler} {l : List Hd} {pos : Pos} {mb : MS}
    (hs : X.stack = X.env :: X.outer) (hf : X.env.frame = some X.env.locals) (tk : L2.Takes X W)
    (hb : ∀ (W' : WX2) (pn : List (Addr × Obj)) (xe : Value → Shared → Prop), L2.Takes (X.tr pn xe) W' → PassesOwn (model X.prog X.w) X.A X.env xe → PSs2 (X.tr pn xe) W' body mb)
    (hh : Hds2 X W (h₀ :: hds) l) : PS2 X W (.Try body (h₀ :: hds) [] [] pos) (mTryN l mb) := by
  obtain ⟨l3, k1, k2⟩ := hds_go hh
  let tb : L2.WX → TS := fun W' D σ H => ∃ (B : Addr → Prop) (H0 : Hp) (as : List Addr) (ks : List (D2.D × V)) (ow : List (Option Addr)) (sg : List Sl) (S : List O), Rl X.K B H0 as ks ow sg S σ H ∧ DenS (ctOf X W' B H0 as ks) (mb sg S) D
  refine ⟨_, ps_try_each (tb := tb) hs hf tk (fun W' pn xe tk' pw => ?_) k1, fun B H0 as ks ow sg S σ H Dd r h => ?_⟩
  · obtain ⟨t, p, sim⟩ := hb W' pn xe tk' pw
    exact ⟨fun pins s σ H D I h => by
      obtain ⟨B, H0, as, ks, ow, sg, S, r, hd⟩ := h
      exact p.run pins s σ H D I (sim B H0 as ks ow sg S σ H D r hd)⟩
  · refine ⟨B, H0, as, ks, ow, sg, S, r, ?_⟩
    unfold mTryN at h
    cases e1 : mb sg S with
    | ok z =>
      rw [e1] at h
      obtain ⟨fl, sg2, S2⟩ := z
      cases fl <;> exact h
    | bad =>
      rw [e1] at h
      exact h
    | ex e sg1 S1 =>
      rw [e1] at h
      simp only [] at h
      intro cl dx ow1 σ1 H1 r1 x1
      exact k2 B H0 as ks Dd e cl dx ow1 sg1 S1 σ1 H1 r1 x1 h
end
end D2
namespace D2
open PySem PySem.Spec PyProof.Rows L2
theorem exm_other {K : PySem.W.Frag} {S T : Addr} (h1 : PySem.W.subIn K (.ref S) (.type "BaseException") = some true) (h2 : PySem.W.isClsIn K S = true) (h3 : PySem.W.typeIn K (.ref S) = some (.type "type")) (h4 : PySem.W.subIn K (.ref T) (.ref S) = some false) :
    PySem.W.exmOne K (.ref T) (.ref S) = some false := by
  have e1 : (PySem.W.subIn K (.ref S) (.type "BaseException") == some true) = true := by rw [h1]; rfl
  have h2' : (PySem.W.clsIn K S).isSome = true := h2
  have e2 : ((PySem.W.clsIn K S).isSome && PySem.W.typeIn K (.ref S) == some (.type "type")) = true := by rw [h2', h3]; rfl
  unfold PySem.W.exmOne
  rw [if_pos e1]
  show (if ((PySem.W.clsIn K S).isSome && PySem.W.typeIn K (.ref S) == some (.type "type")) = true then PySem.W.subIn K (.ref T) (.ref S) else none) = some false
  rw [if_pos e2]
  exact h4
end D2

namespace D2
open PySem PySem.Spec PyProof.Rows L2
/-! ### helpers -/
theorem perm_lift {α β : Type} {f : α → β} : ∀ {M N : List β}, M.Perm N → ∀ {L : List α}, M = L.map f → ∃ L1 : List α, L1.Perm L ∧ N = L1.map f := by
  intro M N h
  induction h with
  | nil => exact fun e => ⟨[], by rw [(List.map_eq_nil_iff.mp e.symm)], rfl⟩
  | cons x _ ih =>
    intro L e
    obtain ⟨a, L', e1, e2, e3⟩ := List.map_eq_cons_iff.mp e.symm
    obtain ⟨L1, p1, q1⟩ := ih e3.symm
    exact ⟨a :: L1, by rw [e1]; exact p1.cons a, by rw [List.map_cons, e2, q1]⟩
  | swap x y l =>
    intro L e
    obtain ⟨a, L', e1, e2, e3⟩ := List.map_eq_cons_iff.mp e.symm
    obtain ⟨b, L2, f1, f2, f3⟩ := List.map_eq_cons_iff.mp e3
    exact ⟨b :: a :: L2, by rw [e1, f1]; exact List.Perm.swap _ _ _, by rw [List.map_cons, List.map_cons, e2, f2, f3]⟩
  | trans _ _ ih1 ih2 =>
    intro L e
    obtain ⟨L1, p1, q1⟩ := ih1 e
    obtain ⟨L2, p2, q2⟩ := ih2 q1
    exact ⟨L2, p2.trans p1, q2⟩
theorem each_refl : ∀ L : List (Addr × List Int), PySem.W.EachIs (fun (v : Value) (q : Addr × List Int) => v = .ref q.1) (L.map fun q => Value.ref q.1) L
  | [] => .nil
  | q :: L => .cons rfl (each_refl L)
theorem each_eq : ∀ {out : List Value} {L : List (Addr × List Int)}, PySem.W.EachIs (fun (v : Value) (q : Addr × List Int) => v = .ref q.1) out L → out = L.map fun q => Value.ref q.1
  | _, _, .nil => rfl
  | _, _, .cons e t => by rw [e, each_eq t, List.map_cons]
theorem ints_readsAll {h : Heap} : ∀ {vs : List Value} {ns : List Int}, IntsAre vs ns → ReadsAll h vs (ns.map .int) []
  | _, _, .nil => .nil
  | _, _, .cons n t r => by
    have := ReadsAll.cons (Reads.int (h := h) n t) (ints_readsAll r)
    exact this
theorem each_rd {h : Heap} {n : Addr} : ∀ {L : List (Addr × List Int)}, (∀ q ∈ L, TS.TupInts h (.ref q.1) q.2) → PySem.W.EachIs (fun (v : Value) (q : Addr × List Int) => ∃ as, Reads h v (PyData.tuple (q.2.map .int)) as ∧ n ∉ as) (L.map fun q => Value.ref q.1) L
  | [], _ => .nil
  | q :: L, hq => by
    refine .cons ?_ (each_rd fun r hr => hq r (List.mem_cons_of_mem _ hr))
    obtain ⟨a, xs, e, ⟨o, ho, hc, m, hd⟩, hi⟩ := hq q List.mem_cons_self
    cases e
    exact ⟨[], .tuple ho hc hd (ints_readsAll hi), by simp⟩
theorem le_tt : (PySem.W.dataLe false fun q : Addr × List Int => PyData.tuple (q.2.map .int)) = fun p q => decide (p.2 ≤ q.2) := by
  funext p q
  have h1 := congrFun (congrFun (PySem.W.dataLe_rows (fun q : Addr × List Int => q.2)) p) q
  rw [← h1]
  rfl
theorem sorted_le (L : List (Addr × List Int)) : (L.mergeSort (PySem.W.dataLe false fun q : Addr × List Int => PyData.tuple (q.2.map .int))).Pairwise fun q r => q.2 ≤ r.2 := by
  rw [le_tt]
  have := List.pairwise_mergeSort (le := fun p q : Addr × List Int => decide (p.2 ≤ q.2)) (fun a b c h1 h2 => by
    rw [decide_eq_true_eq] at h1 h2 ⊢
    exact List.le_trans h1 h2) (fun a b => by
    rw [Bool.or_eq_true, decide_eq_true_eq, decide_eq_true_eq]
    exact List.le_total _ _) L
  exact this.imp fun h => of_decide_eq_true h
/-! ### set(x), x a tuple of tuples of ints -/
section
variable {Pg : Program} {u : World} {Ar : Around} {Ex : Value → Shared → Prop} {sh : Shared}
abbrev set0 (u : World) : Obj := { cls := .type "set", dict := none, data := .set #[] 0 (.fresh 0 0 (!u.params.followText "set-order")) }
theorem no_obj {hp : Heap} {b : Addr} (hb : hp.objs.size ≤ b) : hp.get? b = none := by
  cases q : hp.get? b with
  | none => rfl
  | some o => exact absurd (Nat.lt_of_lt_of_le (Heap.lt_size q) hb) (Nat.lt_irrefl _)
theorem set_of_tt {al : Addr} {its : Array Value} (kk : List (Addr × List Int)) {Qq : Value → Shared → Prop} (un : Ar.handled = none) (li : sh.heap.IsTuple al its) (hit : its.toList = kk.map fun p => Value.ref p.1) (hk : ∀ p ∈ kk, IsT Pg u sh.heap p.2 p.1) (few : kk.length < 64) (rm : Ar.units + 3 < cLine)
    (go : ∀ (hp : Heap) (tk : Nat) L es ep t, SetTR Pg u hp sh.heap.objs.size L es ep t → Got kk kk.length L → (∀ b o, sh.heap.get? b = some o → hp.get? b = some o) → Qq (.ref sh.heap.objs.size) { sh with heap := hp, toks := tk }) :
    wpAny (model Pg u) Ar (call (.type "set") [.ref al]) Qq Ex sh := by
  have sz : its.size = kk.length := by
    have z := congrArg List.length hit
    rw [Array.length_toList, List.length_map] at z
    exact z
  have vals : ∀ (i : Nat) (v : Value), its[i]? = some v → ∃ p, kk[i]? = some p ∧ v = .ref p.1 := fun i v hv => by
    have z : its.toList[i]? = some v := by rw [Array.getElem?_toList]; exact hv
    rw [hit, List.getElem?_map] at z
    cases zq : kk[i]? with
    | none => rw [zq] at z; cases z
    | some p =>
      rw [zq] at z
      exact ⟨p, rfl, (Option.some.inj z).symm⟩
  obtain ⟨cc, rest, mro0⟩ := F.called_set.mro
  have k1 := F.called_set.made; have k2 := F.called_set.sub; have k3 := F.called_set.notType; have k4 := F.called_set.canCreate; have k5 := F.typeCall_set_1 (.ref al)
  refine wpAny_call (codeAny_of_tree (?_ : wpAny _ _ (callAny (.type "set") _) _ _ _))
  refine wpAny_pure ⟨Code.quiet_builtin _ (by decide +kernel), codeAny_builtin F.entry_type_call (?_)⟩
  rw [Around.under_plain (weight_type_call_type "set" [Value.ref al] []) rfl]
  repeat (any_goals (first | assumption | wp_step; done | wp_step))
  refine codeAny_mono (code_set_led1 (.ref al) (E := Ex) (Q₁ := fun ob s1 => ob = .ref sh.heap.objs.size ∧ s1 = { sh with heap := sh.heap.push (set0 u) }) ⟨rfl, rfl⟩) fun r0 s1 hr0 => ?_
  match r0, hr0 with
  | .error e0, hr0 => exact hr0
  | .ok (.ret ob), hr0 =>
    obtain ⟨rfl, rfl⟩ := hr0
    have at0 : (sh.heap.push (set0 u)).get? sh.heap.objs.size = some (set0 u) := Heap.get?_push_size _ rfl
    have ty0 : Shared.TypeIs { sh with heap := sh.heap.push (set0 u) } (.ref sh.heap.objs.size) "set" := ⟨_, at0, rfl⟩
    have k6 := F.called_set.init.lookup; have k7 := F.called_set.init.bind (.ref sh.heap.objs.size)
    repeat (any_goals (first | assumption | wp_step; done | wp_step))
    refine codeAny_mono (codeAny_call_builtin (R := wants (fun r2 s2 => r2 = .none ∧ ∃ hp tk L es ep t, s2 = { sh with heap := hp, toks := tk } ∧ SetTR Pg u hp sh.heap.objs.size L es ep t ∧ Got kk kk.length L ∧ (∀ b o, sh.heap.get? b = some o → hp.get? b = some o)) Ex)
      F.called_set.init.plain F.entry_set_init (check_set_init_1 ty0 ?inn)) fun r2 s2 hr2 => ?outt
    case outt =>
      match r2, hr2 with
      | .error e2, hr2 => exact hr2
      | .ok (.ret v2), hr2 =>
        obtain ⟨rfl, hp, tk, L, es, ep, t, rfl, y1, y2, y3⟩ := hr2
        repeat (any_goals (first | assumption | wp_step; done | wp_step))
        exact go _ _ _ _ _ _ y1 y2 y3
    case inn =>
      obtain ⟨⟨oc, od, ot, os⟩, g0, c0, nn, d0⟩ := li
      simp only at c0 d0
      subst c0 d0
      have g1 : (sh.heap.push (set0 u)).get? al = some { cls := .type "tuple", dict := od, data := .seq its nn, slots := os } := Heap.get?_push_of_some _ g0
      have li1 : (sh.heap.push (set0 u)).IsTuple al its := ⟨_, g1, rfl, nn, rfl⟩
      have q1 := F.sub_tuple_set; have q2 := F.sub_tuple_frozenset; have q3 : (Value.type "tuple" == Value.type "dict") = false := by decide
      unfold Builtin.«set.__init__» noKeywords Builtin.Frozenset.updateFrom
      generalize eP : pyIter = PP
      wp_walk
      subst eP
      refine wpAny_pyIter_tuple li1 (wpAny_bind (wpAny_runValue ?_))
      have below : al < sh.heap.objs.size := Heap.lt_size g0
      have un3 : Ar.in1.in1.in1.handled = none := by simp only [un, Around.in1]
      have sz1 : (sh.heap.push (set0 u)).objs.size = sh.heap.objs.size + 1 := Heap.size_push ..
      have far : al ≠ (sh.heap.push (set0 u)).objs.size := by rw [sz1]; exact Nat.ne_of_lt (Nat.lt_succ_of_lt below)
      have out0 : sh.heap.objs.size ∉ [(sh.heap.push (set0 u)).objs.size, al] := by
        rw [sz1]
        simp only [List.mem_cons, List.not_mem_nil, or_false, not_or]
        exact And.intro (Nat.ne_of_lt (Nat.lt_succ_self _)) (Nat.ne_of_gt below)
      refine set_update_tups ((Walks.tuple un3 _ al far its).toS) sh.heap.objs.size out0 kk sz few vals sh.heap hk (no_obj (Nat.le_refl _)) (fun b hb => no_obj (by rw [List.mem_singleton.mp hb, sz1]; exact Nat.le_succ _)) rm (its.size - 0) 0 _ (by omega) (Nat.zero_le _) ⟨⟨_, Heap.get?_push_size _ rfl, rfl, rfl⟩, (li1.push _)⟩
        (fun b o e => Heap.get?_push_of_some _ (Heap.get?_push_of_some _ e)) ⟨[], #[], 0, _, setTR_fresh (Heap.get?_push_of_some _ at0), Got.zero kk⟩ fun s9 L es ep t mv sr gt kp => ?_
      obtain ⟨hp9, gn9, dr9, tk9, os9⟩ := s9
      obtain rfl : gn9 = sh.gens := mv.gens
      obtain rfl : dr9 = sh.drawn := mv.drawn
      obtain rfl : os9 = sh.os := mv.os
      refine wpAny_pure (?_ : wpAny _ _ (ret Value.none) _ _ _)
      rw [sz] at gt
      exact wpAny_pure ⟨rfl, hp9, tk9, L, es, ep, t, rfl, sr, gt, kp⟩
/-- sorted(s), s a set of tuples of ints, none of them empty: by the order of data -/
theorem sorted_tt {a : Addr} {L : List (Addr × List Int)} {es : Array (Int × Value)} {ep : Nat} {t : SetTable} {Qq : Value → Shared → Prop} (R : SetTR Pg u sh.heap a L es ep t) (un : Ar.handled = none) (ne : ∀ p ∈ L, p.2 ≠ []) (rm : Ar.units + 10 < cLine)
    (go : ∀ s' p (out : Array Value) (c : Nat) (L' : List (Addr × List Int)), (∀ b o, sh.heap.get? b = some o → s'.heap.get? b = some o) → s'.gens = sh.gens → s'.os = sh.os → sh.heap.objs.size ≤ p →
      s'.heap.get? p = some (seqObj "list" out c) → out.toList = L'.map (fun q => Value.ref q.1) → L'.Perm L → L'.Pairwise (fun q r => q.2 ≤ r.2) → Qq (.ref p) s') :
    wpAny (model Pg u) Ar (call (.builtin "sorted") [.ref a]) Qq Ex sh := by
  obtain ⟨ob, at0, ex0, dt0⟩ := R.ob
  have ez := R.size
  have few := R.few
  refine Calls.call_function_entry kind_sorted plain_sorted entry_sorted (args_sorted1 _) ?_
  unfold Builtin.«sorted»
  refine wpAny_bind (m := checkCount "sorted" 1 1 _) (wpAny_pure ?_)
  refine wpAny_bind (collect_set (A := Ar.in1) un ⟨ob, at0, ex0.1, dt0⟩ R.fits (by unfold scanBound; omega) R.tab.ris R.led fun s1 vs kp1 zz g1 o1 pm => ?_)
  have er : es.toList.map (·.2) = L.map fun q => Value.ref q.1 := by
    rw [R.rows]
    unfold rowsOf
    rw [List.map_map] <;> rfl
  rw [er] at pm
  obtain ⟨L1, pL1, eL1⟩ : ∃ L1 : List (Addr × List Int), L1.Perm L ∧ vs = L1.map fun q => Value.ref q.1 := by
    exact perm_lift (f := fun q : Addr × List Int => Value.ref q.1) pm.symm rfl
  have vl : vs.length < 64 := by rw [pm.length_eq, List.length_map]; exact few
  refine wpAny_bind (wpAny_newList ?_ (by rw [sizeLine_eq]; omega))
  have atL : (s1.heap.push (seqObj "list" vs.toArray 0)).get? s1.heap.objs.size = some (seqObj "list" vs.toArray 0) := Heap.get?_push_size _ rfl
  have tk : ∀ q ∈ L, TS.TupInts (s1.heap.push (seqObj "list" vs.toArray 0)) (.ref q.1) q.2 := fun q hq => tupInts_of (P := Pg) (w := u) (isT_keep (R.tup q hq) fun b o e => Heap.get?_push_of_some _ (kp1 b o e))
  have inL : ∀ q ∈ L1, q ∈ L := fun q hq => pL1.mem_iff.mp hq
  have ea : PySem.W.EachIs (fun (v : Value) (q : Addr × List Int) => v = .ref q.1) vs L1 := by
    rw [eL1]
    exact each_refl L1
  have rd : PySem.W.EachIs (fun (v : Value) (q : Addr × List Int) => ∃ as, Reads (s1.heap.push (seqObj "list" vs.toArray 0)) v (PyData.tuple (q.2.map .int)) as ∧ s1.heap.objs.size ∉ as) vs L1 := by
    have z := each_rd (n := s1.heap.objs.size) (fun q hq => tk q (inL q hq))
    rw [← eL1] at z
    exact z
  refine wpAny_bind (wpAny_holding (PySem.W.list_sort_data (s := { s1 with heap := s1.heap.push (seqObj "list" vs.toArray 0) }) (enc := fun q : Addr × List Int => PyData.tuple (q.2.map .int)) atL ea rd ?_ ?_ (by rw [pL1.length_eq, sizeLine_eq]; omega) (fun q hq => ?_) fun out ho eo => ?_))
  · exact PySem.W.AllAlike.of fun b b' => by simp only [PySem.W.alike]; exact PySem.W.alike_ints _ _
  · refine .inl fun d hd => ?_
    obtain ⟨q, hq, rfl⟩ := List.mem_map.mp hd
    cases e : q.2 with
    | nil => exact absurd e (ne q (inL q hq))
    | cons x xs => exact ⟨_, _, rfl⟩
  · show Ar.in1.units + 1 + (PyData.tuple (q.2.map .int)).depth < cLine
    rw [PyData.depth, PySem.W.depth_ints]
    show Ar.units + 1 + 1 + _ < cLine
    omega
  obtain ⟨c, hc⟩ := sortedHeap_at (vs := vs) (out := out.toArray) atL
  have eout : out = (L1.mergeSort (PySem.W.dataLe false fun q : Addr × List Int => PyData.tuple (q.2.map .int))).map fun q => Value.ref q.1 := each_eq eo
  refine wpAny_pure ⟨_, rfl, go _ s1.heap.objs.size out.toArray c _ (fun b o e => ?_) g1 o1 zz hc (by simpa using eout) ((List.mergeSort_perm _ _).trans pL1) ?_⟩
  · have q := kp1 b o e
    have hlt := Heap.lt_size q
    show (sortedHeap (s1.heap.push (seqObj "list" vs.toArray 0)) s1.heap.objs.size vs out.toArray).get? b = some o
    rw [sortedHeap_old (Nat.ne_of_lt hlt) (by rw [size_push']; exact Nat.lt_succ_of_lt hlt)]
    exact Heap.get?_push_of_some _ q
  · exact sorted_le L1
end
end D2

namespace D2
open PySem PySem.Spec PyProof.Rows L2
/-! ### sorted(set(x)): x a list or a tuple of tuples of ints -/
def rSetTT (K : PySem.W.Frag) (P : Program) (w : World) : List V → Hp → VK → Prop := fun xs H Q => ∃ (l : Addr) (kk : List (Addr × List Int)), xs = [V.ref l] ∧ SqT K H l (kk.map fun p => V.ref p.1) ∧ (∀ p ∈ kk, SqT K H p.1 (p.2.map V.int)) ∧ kk.length < 64 ∧
  ∀ a L, H a = none → (∀ p ∈ L, p ∈ kk) → (∀ p ∈ kk, p.2 ∈ L.map (·.2)) → Q (.ref a) (upd H a (SetTO P w a L))
theorem cr_setTT {X : Cx} (calm : X.calm = true) (hu : X.A.units + 64 < cLine) : CallR X (.type "set") (rSetTT X.K X.prog X.w) := by
  intro pz sz τ Hz xs us Qz J r h
  obtain ⟨l, kk, rfl, hl, hk, hf, q⟩ := h
  rw [Vals.ref1 r]
  obtain ⟨its, rv, pl, hz⟩ := J.tuple hl
  refine set_of_tt (Pg := X.prog) (u := X.w) kk (J.ok.hd calm) pl (by simpa using refs_of_vals rv) (fun p hp => J.isT (hk p hp)) hf (by omega) fun h' tk L es ep t R g k => ?_
  refine ⟨.ref sz.heap.objs.size, upd Hz sz.heap.objs.size (SetTO X.prog X.w sz.heap.objs.size L), J.laid (t' := tk) k (Nat.le_refl _) (setTO_new R.t0), rfl, q _ L (J.hok.fresh (Nat.le_refl _)) (fun p hp => List.mem_of_mem_take (g.sub p hp)) fun p hp => ?_⟩
  exact g.all p (by rw [List.take_length]; exact hp)
def rSetLT (K : PySem.W.Frag) (P : Program) (w : World) : List V → Hp → VK → Prop := fun xs H Q => rSetOfT K P w xs H Q ∨ rSetTT K P w xs H Q
theorem cr_setLT {X : Cx} (calm : X.calm = true) (hu : X.A.units + 64 < cLine) : CallR X (.type "set") (rSetLT X.K X.prog X.w) := CallR.or (cr_setOfT calm hu) (cr_setTT calm hu)
def rSortTT (K : PySem.W.Frag) (P : Program) (w : World) : List V → Hp → VK → Prop := fun vs H Q => ∃ (a : Addr) (L : List (Addr × List Int)), vs = [V.ref a] ∧ H a = some (SetTO P w a L) ∧ (∀ p ∈ L, SqT K H p.1 (p.2.map V.int)) ∧ (∀ p ∈ L, p.2 ≠ []) ∧
  ∀ (L' : List (Addr × List Int)) (p : Addr), L'.Perm L → (L'.map (·.2)).Nodup → L'.Pairwise (fun q r => q.2 ≤ r.2) → H p = none → Q (.ref p) (upd H p (.lst (L'.map fun q => V.ref q.1)))
theorem cr_sortTT {X : Cx} (calm : X.calm = true) (hu : X.A.units + 64 < cLine) : CallR X (.builtin "sorted") (rSortTT X.K X.prog X.w) := by
  intro pz sz τ Hz vs us Qz J r h
  obtain ⟨a, L, rfl, ha, hk, hn, q⟩ := h
  have R0 : SetT0 X.prog X.w sz.heap a L := (J.hok a _ ha).1
  obtain ⟨es, ep, t, R⟩ := R0.full fun p hp => J.isT (hk p hp)
  rw [Vals.ref1 r]
  refine sorted_tt R (J.ok.hd calm) hn (by omega) fun s' p out c L' k g o hp hg hout pm pw => ?_
  have few : L'.length < 64 := by rw [pm.length_eq]; exact R.few
  have len : (L'.map fun q => V.ref q.1).length ≤ sizeLine := by rw [List.length_map, sizeLine_eq]; omega
  have fr : Hz p = none := J.hok.fresh hp
  have hv : Vals (L'.map fun q => V.ref q.1) out.toList := by rw [hout]; exact vals_of_refs L'
  have J2 : Inv X pz τ (upd Hz p (.lst (L'.map fun q => V.ref q.1))) { sz with heap := s'.heap, gens := s'.gens, drawn := s'.drawn, toks := s'.toks } :=
    J.call (ch := []) (Un.laid k hp fr) (J.hok.laid k hp ⟨len, out.toList, c, hv, hg⟩) (by rw [g]; exact J.bare) (fun _ z => nomatch z)
  have e : s' = { sz with heap := s'.heap, gens := s'.gens, drawn := s'.drawn, toks := s'.toks } := by
    cases s'; cases sz; cases o
    rfl
  rw [e]
  exact ⟨.ref p, _, J2, rfl, q L' p pm ((pm.map (·.2)).nodup_iff.mpr R.nd) pw fr⟩
/-- those that differ, ascending -/
def dd : List (List Int) → List (List Int)
  | [] => []
  | x :: xs => if x ∈ xs then dd xs else x :: dd xs
theorem mem_dd {x : List Int} : ∀ {l : List (List Int)}, x ∈ dd l ↔ x ∈ l
  | [] => by simp [dd]
  | y :: l => by
    unfold dd
    split
    · rename_i h
      rw [mem_dd (l := l), List.mem_cons]
      exact ⟨.inr, fun z => z.elim (fun e => e ▸ h) id⟩
    · rw [List.mem_cons, mem_dd (l := l), List.mem_cons]
theorem nodup_dd : ∀ l : List (List Int), (dd l).Nodup
  | [] => List.nodup_nil
  | y :: l => by
    unfold dd
    split
    · exact nodup_dd l
    · rename_i h
      exact List.nodup_cons.mpr ⟨fun z => h (mem_dd.mp z), nodup_dd l⟩
theorem dd_len : ∀ l : List (List Int), (dd l).length ≤ l.length
  | [] => Nat.le_refl _
  | y :: l => by
    unfold dd
    have := dd_len l
    split
    · rw [List.length_cons]; omega
    · rw [List.length_cons, List.length_cons]; omega
def sortL (l : List (List Int)) : List (List Int) := (dd l).mergeSort fun a b => decide (a ≤ b)
theorem sortL_perm (l : List (List Int)) : (sortL l).Perm (dd l) := List.mergeSort_perm _ _
theorem mem_sortL {x : List Int} {l : List (List Int)} : x ∈ sortL l ↔ x ∈ l := (sortL_perm l).mem_iff.trans mem_dd
theorem sortL_len (l : List (List Int)) : (sortL l).length ≤ l.length := by rw [(sortL_perm l).length_eq]; exact dd_len l
theorem sortL_nodup (l : List (List Int)) : (sortL l).Nodup := (sortL_perm l).nodup_iff.mpr (nodup_dd l)
theorem sortL_sorted (l : List (List Int)) : (sortL l).Pairwise (· ≤ ·) := by
  have := List.pairwise_mergeSort (le := fun p q : List Int => decide (p ≤ q)) (fun a b c h1 h2 => by
    rw [decide_eq_true_eq] at h1 h2 ⊢
    exact List.le_trans h1 h2) (fun a b => by
    rw [Bool.or_eq_true, decide_eq_true_eq, decide_eq_true_eq]
    exact List.le_total _ _) (dd l)
  exact this.imp fun h => of_decide_eq_true h
theorem sorted_only {l m : List (List Int)} (h1 : l.Pairwise (· ≤ ·)) (h2 : m.Pairwise (· ≤ ·)) (n1 : l.Nodup) (n2 : m.Nodup) (h : ∀ x, x ∈ l ↔ x ∈ m) : l = m :=
  List.Perm.eq_of_pairwise (fun a b _ _ x y => List.le_antisymm x y) h1 h2 ((List.perm_ext_iff_of_nodup n1 n2).mpr h)
/-- the same members: the same -/
theorem sortL_ext {l m : List (List Int)} (h : ∀ x, x ∈ l ↔ x ∈ m) : sortL l = sortL m :=
  sorted_only (sortL_sorted l) (sortL_sorted m) (sortL_nodup l) (sortL_nodup m) fun x => by rw [mem_sortL, mem_sortL]; exact h x
def okL (l : List (List Int)) : Bool := decide (l.length < 64) && l.all fun ns => decide (ns ≠ [])
def D.ssetL : D → Option D
  | .lst ds => match tupsOf ds with
    | some l => if okL l = true then some (.lst ((sortL l).map tupI)) else none
    | none => none
  | .tup ds => match tupsOf ds with
    | some l => if okL l = true then some (.lst ((sortL l).map tupI)) else none
    | none => none
  | _ => none
section
variable {X : Cx} {W : WX2} {wk : Bool} {pos : Pos}
theorem e2_ssetL {e : Expr} {m : ME} {p p2 q : Pos} (hc : X.calm = true) (hu : X.A.units + 64 < cLine) (hg : Gl X "sorted") (hm : X.mg "sorted" = none) (hg2 : Gl X "set") (hm2 : X.mg "set" = none) (he : PE2 X W wk e m)
    (v1 : bootBuiltins "sorted" = some (.builtin "sorted") := by decide +kernel) (v2 : bootBuiltins "set" = some (.type "set") := by decide +kernel)
    (n1 : starEach [e] X.env = (false, eval e X.env) :: starEach [] X.env := by rfl) (n2 : starEach [.Call (.Name "set" p2) [e] [] q] X.env = (false, eval (.Call (.Name "set" p2) [e] [] q) X.env) :: starEach [] X.env := by rfl)
    (pl1 : (backTo q (starEach [] X.env)).any (·.1) = false := by rfl) (pl2 : (backTo pos (starEach [] X.env)).any (·.1) = false := by rfl) :
    PE2 X W wk (.Call (.Name "sorted" p) [.Call (.Name "set" p2) [e] [] q] [] pos) (mUn D.ssetL m) := by
  obtain ⟨t, a1, a2⟩ := he
  refine ⟨_, pe_callB (cr_sortTT hc hu) hg hm v1 (pa_cons (pe_callTy (cr_setLT hc hu) hg2 hm2 v2 (pa_cons a1 pa_nil n1) (by decide) (by decide) n1 pl1) pa_nil n2) (by decide) (by decide) n2 pl2, fun B H0 as ks ow sg S σ H Q r h => ?_⟩
  refine a2 _ _ _ _ _ _ _ _ _ _ r (Den.bind h fun d S1 v H1 e0 e1 s1 q1 h1 => ?_)
  clear e0
  have r1 := r.step e1 s1
  -- from the members on
  have rest : ∀ (l : List (List Int)) (kk : List (Addr × List Int)), okL l = true → kk.map (·.2) = l → (∀ p ∈ kk, SqT X.K H1 p.1 (p.2.map V.int)) → (∀ (v : V) (H' : Hp), Evo (· ∈ as) H1 H' → Sto X.K as (Bd B ow) H' S1 → (ctOf X W B H0 as ks).rp ow wk H' (.lst ((sortL l).map tupI)) v → Q v H') →
      kk.length < 64 ∧ ∀ b L, H1 b = none → (∀ p ∈ L, p ∈ kk) → (∀ p ∈ kk, p.2 ∈ L.map (·.2)) → rSortTT X.K X.prog X.w [V.ref b] (upd H1 b (SetTO X.prog X.w b L)) Q := by
    intro l kk hok k2 k3 fin
    unfold okL at hok
    simp only [Bool.and_eq_true, decide_eq_true_eq, List.all_eq_true] at hok
    refine ⟨by rw [← k2, List.length_map] at hok; exact hok.1, fun b L hb l1 l2 => ?_⟩
    have k3' : ∀ p ∈ L, SqT X.K (upd H1 b (SetTO X.prog X.w b L)) p.1 (p.2.map V.int) := fun p hp => (Evo.new (W := fun _ => False) hb).sqT (k3 p (l1 p hp))
    refine ⟨b, L, rfl, upd_same, k3', fun p hp => hok.2 p.2 (by rw [← k2]; exact List.mem_map.mpr ⟨p, l1 p hp, rfl⟩), fun L' c pm nd pw hcn => ?_⟩
    have hcb : c ≠ b := fun z => by subst z; rw [upd_same] at hcn; cases hcn
    have hc1 : H1 c = none := by rw [upd_ne hcb] at hcn; exact hcn
    have eL : L'.map (·.2) = sortL l := by
      refine sorted_only ?_ (sortL_sorted l) nd (sortL_nodup l) fun x => ?_
      · rw [List.pairwise_map]
        exact pw
      · rw [mem_sortL, ← k2, List.mem_map, List.mem_map]
        constructor
        · rintro ⟨p, hp, e⟩
          exact ⟨p, l1 p (pm.mem_iff.mp hp), e⟩
        · rintro ⟨p, hp, e⟩
          obtain ⟨p', hp', e'⟩ := List.mem_map.mp (l2 p hp)
          exact ⟨p', pm.mem_iff.mpr hp', e'.trans e⟩
    have ev3 : Evo (fun _ => False) H1 (upd (upd H1 b (SetTO X.prog X.w b L)) c (.lst (L'.map fun q => V.ref q.1))) := (Evo.new hb).trans (Evo.new hcn)
    refine fin _ _ ev3.any (r1.stoNew ev3) ⟨c, _, rfl, newB r.asBd r1.bdDom hc1, upd_same, ?_⟩
    rw [← eL]
    exact RepA.new hcn (rep_tups fun p hp => k3' p (pm.mem_iff.mp hp))
  cases es : D.ssetL d with
  | none => simp only [es] at h1; exact False.elim h1
  | some z =>
    simp only [es] at h1
    cases d <;> try (cases es; done)
    · rename_i ds
      simp only [D.ssetL] at es
      split at es
      · rename_i l hl
        split at es
        · rename_i hok
          cases es
          obtain ⟨a, xs, ev, g1, g2⟩ := q1
          subst ev
          obtain ⟨kk, k1, k2, k3⟩ := tups_rep g2 hl
          subst k1
          obtain ⟨f1, f2⟩ := rest l kk hok k2 k3 h1
          exact .inr ⟨a, kk, rfl, g1, k3, f1, f2⟩
        · cases es
      · cases es
    · rename_i ds
      simp only [D.ssetL] at es
      split at es
      · rename_i l hl
        split at es
        · rename_i hok
          cases es
          obtain ⟨a, xs, ev, nb, g1, g2⟩ := q1
          subst ev
          obtain ⟨kk, k1, k2, k3⟩ := tups_rep g2 hl
          subst k1
          obtain ⟨f1, f2⟩ := rest l kk hok k2 k3 h1
          exact .inl ⟨a, kk, rfl, SqL.of g1, k3, f1, f2⟩
        · cases es
      · cases es
end
theorem ssetL_lst {l : List (List Int)} (h : okL l = true) : D.ssetL (.lst (l.map tupI)) = some (.lst ((sortL l).map tupI)) := by
  simp only [D.ssetL, tupsOf_map, h, if_true]
theorem ssetL_tup {l : List (List Int)} (h : okL l = true) : D.ssetL (.tup (l.map tupI)) = some (.lst ((sortL l).map tupI)) := by
  simp only [D.ssetL, tupsOf_map, h, if_true]
/-! ### a test that is (a if c else b) -/
section
variable {X : Cx} {W : WX2} {c a b : Expr} {mt ma mb : MT} {pos : Pos}
def tIfT (t ta tb : TT) : TT := fun σ H Q => t σ H fun k H1 => if k = true then ta σ H1 Q else tb σ H1 Q
theorem pt_if {t ta tb : TT} (hc : PT X c t) (ha : PT X a ta) (hb : PT X b tb) : PT X (.IfExp c a b pos) (tIfT t ta tb) := by
  refine ⟨fun pz sz τ Hz Q J h => ?_⟩
  refine isTrue_IfExp (thn (hc.run pz sz τ Hz _ J h) fun k s1 ⟨H1, I1, q1⟩ => ?_)
  cases k with
  | true => exact ha.run pz s1 τ H1 Q I1 q1
  | false => exact hb.run pz s1 τ H1 Q I1 q1
def mIfT (mt ma mb : MT) : MT := fun sg S => (mt sg S).bind fun x => if x.1 = true then ma sg x.2 else mb sg x.2
theorem t2_if (hc : PT2 X W c mt) (ha : PT2 X W a ma) (hb : PT2 X W b mb) : PT2 X W (.IfExp c a b pos) (mIfT mt ma mb) := by
  obtain ⟨t, h1, h2⟩ := hc
  obtain ⟨u, f1, f2⟩ := ha
  obtain ⟨w, g1, g2⟩ := hb
  refine ⟨_, pt_if h1 f1 g1, fun B H0 as ks ow sg S σ H Q r h => ?_⟩
  refine h2 _ _ _ _ _ _ _ _ _ _ r (Den.bind h fun d S1 v H1 e0 e1 s1 q1 h1 => ?_)
  have q : v = d := q1
  subst q
  cases v with
  | true => exact f2 _ _ _ _ _ _ _ _ _ _ (r.step e1 s1) h1
  | false => exact g2 _ _ _ _ _ _ _ _ _ _ (r.step e1 s1) h1
end
/-- a comprehension's scope within a def's -/
def relabS (oS sc : Scope) : Scope := { sc with names := sc.names.map fun (n, k) => if (k == .free && oS.kind == .function && oS.names.lookup n == some .cell) then (n, .cell) else (n, k) }
/-! ### tuple(range(n)) -/
def D.tupRg : D → Option D
  | .int n => if decide (0 ≤ n ∧ n ≤ 16777216) = true then some (.tup (rngD 0 n.toNat)) else none
  | _ => none
section
variable {X : Cx} {W : WX2} {wk : Bool} {pos : Pos}
theorem e2_tupRg {e : Expr} {m : ME} {p p2 q : Pos} (hc : X.calm = true) (hg : Gl X "tuple") (hm : X.mg "tuple" = none) (hg2 : Gl X "range") (hm2 : X.mg "range" = none) (he : PE2 X W wk e m)
    (n1 : starEach [e] X.env = (false, eval e X.env) :: starEach [] X.env := by rfl) (n2 : starEach [.Call (.Name "range" p2) [e] [] q] X.env = (false, eval (.Call (.Name "range" p2) [e] [] q) X.env) :: starEach [] X.env := by rfl) :
    PE2 X W wk (.Call (.Name "tuple" p) [.Call (.Name "range" p2) [e] [] q] [] pos) (mUn D.tupRg m) := by
  obtain ⟨t, a1, a2⟩ := he
  refine ⟨_, pe_tupRg hc hg hm (prg_1 hg2 hm2 a1 n1) n2, fun B H0 as ks ow sg S σ H Q r h => ?_⟩
  refine a2 _ _ _ _ _ _ _ _ _ _ r (Den.bind h fun x S1 v H1 c1 e1 s1 q1 h1 => ?_)
  clear c1
  cases x <;> try exact False.elim h1
  rename_i n
  by_cases hl : 0 ≤ n ∧ n ≤ 16777216
  · simp only [D.tupRg, decide_eq_true hl, if_true] at h1
    refine ⟨n, q1, RgOk.of_le (Int.le_refl _) hl.2 (by decide) hl.1, fun p hp => h1 _ _ (Evo.new hp) ((r.step e1 s1).stoNew (Evo.new hp)) (repNewT hp ?_)⟩
    unfold rgV rngD
    rw [Int.sub_zero]
    exact repA_map fun k _ => rfl
  · simp only [D.tupRg, decide_eq_false hl] at h1
    exact False.elim h1
end
end D2

namespace D2
open PySem PySem.Spec PyProof.Rows L2
/-! ### min(x), max(x): x a list or a tuple of data that can be ordered -/
def D.minF (x : D) (ds : List D) : D := ds.foldl (fun a y => if y.ltb a = true then y else a) x
def D.maxF (x : D) (ds : List D) : D := ds.foldl (fun a y => if a.ltb y = true then y else a) x
def D.bestOk (ds : List D) : Bool := D.okqA ds 50 && (ds.all fun x => ds.all fun y => x.alk y) && ds.all D.noN
def D.minG : D → Option D
  | .lst (d :: ds) => if D.bestOk (d :: ds) = true then some (D.minF d ds) else none
  | .tup (d :: ds) => if D.bestOk (d :: ds) = true then some (D.minF d ds) else none
  | _ => none
def D.maxG : D → Option D
  | .lst (d :: ds) => if D.bestOk (d :: ds) = true then some (D.maxF d ds) else none
  | .tup (d :: ds) => if D.bestOk (d :: ds) = true then some (D.maxF d ds) else none
  | _ => none
theorem minF_pd : ∀ (ds : List D) (x : D), (D.minF x ds).pd = PySem.W.minD x.pd (D.pdA ds)
  | [], x => rfl
  | y :: ds, x => by
    have ih := minF_pd ds (if y.ltb x = true then y else x)
    unfold D.minF PySem.W.minD at ih ⊢
    rw [List.foldl_cons, D.pdA, List.foldl_cons, ih]
    unfold D.ltb
    congr 1
    split <;> rfl
theorem maxF_pd : ∀ (ds : List D) (x : D), (D.maxF x ds).pd = PySem.W.maxD x.pd (D.pdA ds)
  | [], x => rfl
  | y :: ds, x => by
    have ih := maxF_pd ds (if x.ltb y = true then y else x)
    unfold D.maxF PySem.W.maxD at ih ⊢
    rw [List.foldl_cons, D.pdA, List.foldl_cons, ih]
    unfold D.ltb
    congr 1
    split <;> rfl
theorem minF_mem : ∀ (ds : List D) (x : D), D.minF x ds ∈ x :: ds
  | [], x => List.mem_cons_self
  | y :: ds, x => by
    have ih := minF_mem ds (if y.ltb x = true then y else x)
    unfold D.minF at ih ⊢
    rw [List.foldl_cons]
    rcases List.mem_cons.mp ih with e | e
    · rw [e]
      split
      · exact List.mem_cons_of_mem _ List.mem_cons_self
      · exact List.mem_cons_self
    · exact List.mem_cons_of_mem _ (List.mem_cons_of_mem _ e)
theorem maxF_mem : ∀ (ds : List D) (x : D), D.maxF x ds ∈ x :: ds
  | [], x => List.mem_cons_self
  | y :: ds, x => by
    have ih := maxF_mem ds (if x.ltb y = true then y else x)
    unfold D.maxF at ih ⊢
    rw [List.foldl_cons]
    rcases List.mem_cons.mp ih with e | e
    · rw [e]
      split
      · exact List.mem_cons_of_mem _ List.mem_cons_self
      · exact List.mem_cons_self
    · exact List.mem_cons_of_mem _ (List.mem_cons_of_mem _ e)
def rBest (K : PySem.W.Frag) (g : D → List D → D) : List V → Hp → VK → Prop := fun vs H Q => ∃ (a : Addr) (xs : List V) (d : D) (ds : List D), vs = [V.ref a] ∧ (SqL K H a xs ∨ SqT K H a xs) ∧ xs.length = ds.length + 1 ∧ DpAll K H xs (D.pdA (d :: ds)) ∧ D.bestOk (d :: ds) = true ∧
  ∀ (i : Nat) (v : V), xs[i]? = some v → (d :: ds)[i]? = some (g d ds) → Q v H
theorem best_alike {ds : List D} (h : D.bestOk ds = true) : PySem.W.AlikeAll (D.pdA ds) := by
  unfold D.bestOk at h
  simp only [Bool.and_eq_true, List.all_eq_true] at h
  obtain ⟨⟨h1, h2⟩, h3⟩ := h
  have hm : ∀ y ∈ D.pdA ds, ∃ d ∈ ds, y = d.pd := fun y hy => by
    rw [pdA_map] at hy
    obtain ⟨d, hd, rfl⟩ := List.mem_map.mp hy
    exact ⟨d, hd, rfl⟩
  refine ⟨fun x hx y hy => ?_, fun x hx => ?_⟩
  · obtain ⟨d, hd, rfl⟩ := hm x hx
    obtain ⟨e, he, rfl⟩ := hm y hy
    exact h2 d hd e he
  · obtain ⟨d, hd, rfl⟩ := hm x hx
    exact pd_non (okqA_mem h1 hd) (h3 d hd)
mutual
theorem okq_plain : ∀ (d : D) (n : Nat), d.okq n = true → d.pd.plain = true
  | .non, _, _ => rfl
  | .bl _, _, _ => rfl
  | .int _, _, _ => rfl
  | .str _, _, _ => rfl
  | .tup ds, 0, h => by simp [D.okq] at h
  | .tup ds, n + 1, h => by
    have := okqA_plain ds n h
    simp only [D.pd, PyData.plain]
    exact this
  | .lst ds, 0, h => by simp [D.okq] at h
  | .lst ds, n + 1, h => by
    have := okqA_plain ds n h
    simp only [D.pd, PyData.plain]
    exact this
  | .dic _ _, _, h => by simp [D.okq] at h
  | .rng _ _, _, h => by simp [D.okq] at h
  | .xd _ _, _, h => by simp [D.okq] at h
  | .ref _, _, h => by simp [D.okq] at h
theorem okqA_plain : ∀ (ds : List D) (n : Nat), D.okqA ds n = true → PyData.plainAll (D.pdA ds) = true
  | [], _, _ => rfl
  | d :: ds, n, h => by
    rw [D.okqA, Bool.and_eq_true] at h
    simp only [D.pdA, PyData.plainAll, Bool.and_eq_true]
    exact ⟨okq_plain d n h.1, okqA_plain ds n h.2⟩
end
theorem readsAll_keeps {h h' : Heap} (k : ∀ b o, h.get? b = some o → h'.get? b = some o) : ∀ {vs : List Value} {xs : List PyData} {as : List Addr}, ReadsAll h vs xs as → ReadsAll h' vs xs as
  | _, _, _, .nil => .nil
  | _, _, _, .cons r t => .cons (PySem.W.reads_keeps k r) (readsAll_keeps k t)
theorem vals_at {xs : List V} {us : List Value} (r : Vals xs us) : ∀ {i : Nat} {u : Value}, us[i]? = some u → ∃ v, xs[i]? = some v ∧ RelV v u := by
  induction r with
  | nil => intro i u h; cases h
  | cons r t ih =>
    rename_i x y xs us
    intro i u h
    cases i with
    | zero => cases h; exact ⟨x, rfl, r⟩
    | succ i =>
      rw [List.getElem?_cons_succ] at h
      obtain ⟨v, h1, h2⟩ := ih h
      exact ⟨v, by rw [List.getElem?_cons_succ]; exact h1, h2⟩
section
variable {X : Cx} {pins : List (Addr × Obj)} {σ : L2.St} {H : Hp} {s : Shared}
/-- the one at i is the least one -/
theorem best_at {d : D} {ds : List D} {its : List Value} {as bs : List Addr} {h : Heap} {i : Nat} {u : Value} {b : D} (hok : D.okqA (d :: ds) 50 = true) (hb : b ∈ d :: ds) (r : ReadsAll h its (D.pdA (d :: ds)) as) (hi : its[i]? = some u) (r2 : Reads h u b.pd bs) : (d :: ds)[i]? = some b := by
  obtain ⟨cs, r3, hlt, _, _⟩ := PySem.W.readsAll_at r i u hi
  have e0 : (D.pdA (d :: ds)).length = (d :: ds).length := by rw [pdA_map, List.length_map]
  rw [e0] at hlt
  have e1 : (D.pdA (d :: ds)).getD i .none = ((d :: ds)[i]).pd := by
    rw [pdA_map, List.getD_eq_getElem?_getD, List.getElem?_map, List.getElem?_eq_getElem hlt]
    rfl
  rw [e1] at r3
  have o1 := okqA_mem hok (List.getElem_mem hlt)
  have o2 := okqA_mem hok hb
  have e2 := PySem.SeqAt.plain_unique _ _ u cs bs (okq_plain _ 50 o1) r3 r2
  rw [List.getElem?_eq_getElem hlt, pd_inj _ _ 50 50 o1 o2 e2]
theorem cr_minG (hc : X.calm = true) (hu : X.A.units + 64 < cLine) : CallR X (.builtin "min") (rBest X.K D.minF) := by
  intro pins s σ H vs us Q I r h
  obtain ⟨a, xs, d, ds, rfl, hs, hl, hdp, hok, q⟩ := h
  rw [Vals.ref1 r]
  have hk : D.okqA (d :: ds) 50 = true := by
    unfold D.bestOk at hok
    simp only [Bool.and_eq_true] at hok
    exact hok.1.1
  have dep := depth_okqA (d :: ds) 50 hk
  have ep : D.pdA (d :: ds) = d.pd :: D.pdA ds := rfl
  have al := best_alike hok
  have mem := minF_mem ds d
  have go : ∀ {its : List Value} {as : List Addr}, Vals xs its → ReadsAll s.heap its (D.pdA (d :: ds)) as → ∀ (i : Nat) (u : Value) (h' : Heap) (tk : Nat) (bs : List Addr), its[i]? = some u → Reads h' u (PySem.W.minD d.pd (D.pdA ds)) bs → (∀ b o, s.heap.get? b = some o → h'.get? b = some o) →
      ∃ v H', Inv X pins σ H' { s with heap := h', toks := tk } ∧ RelV v u ∧ Q v H' := fun {its as} rv rd i u h' tk bs hi rr kp => by
    have rd' := readsAll_keeps kp rd
    rw [← minF_pd] at rr
    have hb := best_at hk mem rd' hi rr
    obtain ⟨v, hv, ru⟩ := vals_at rv hi
    exact ⟨v, H, I.kept (t' := tk) kp, ru, q i v hv hb⟩
  rcases hs with hs | hs
  · obtain ⟨its, rv, hli, hz⟩ := I.list hs
    obtain ⟨as, rd⟩ := Dp.readsAll I _ _ _ hdp rv
    refine PySem.W.min_list_data (I.ok.hd hc) (vs := its.toArray) hli.isList (x := d.pd) (xs := D.pdA ds) (show ReadsAll s.heap its.toArray.toList (d.pd :: D.pdA ds) as from rd) (by rw [← ep]; exact al) (by rw [← ep]; omega) fun i u h' tk bs hi rr kp => ?_
    exact go rv rd i u h' tk bs (by simpa using hi) rr kp
  · obtain ⟨its, rv, p, hz⟩ := I.tuple hs
    obtain ⟨as, rd⟩ := Dp.readsAll I _ _ _ hdp rv
    refine PySem.W.min_tuple_data (I.ok.hd hc) (vs := its.toArray) p (x := d.pd) (xs := D.pdA ds) (show ReadsAll s.heap its.toArray.toList (d.pd :: D.pdA ds) as from rd) (by rw [← ep]; exact al) (by rw [← ep]; omega) fun i u h' tk bs hi rr kp => ?_
    exact go rv rd i u h' tk bs (by simpa using hi) rr kp
theorem cr_maxG (hc : X.calm = true) (hu : X.A.units + 64 < cLine) : CallR X (.builtin "max") (rBest X.K D.maxF) := by
  intro pins s σ H vs us Q I r h
  obtain ⟨a, xs, d, ds, rfl, hs, hl, hdp, hok, q⟩ := h
  rw [Vals.ref1 r]
  have hk : D.okqA (d :: ds) 50 = true := by
    unfold D.bestOk at hok
    simp only [Bool.and_eq_true] at hok
    exact hok.1.1
  have dep := depth_okqA (d :: ds) 50 hk
  have ep : D.pdA (d :: ds) = d.pd :: D.pdA ds := rfl
  have al := best_alike hok
  have mem := maxF_mem ds d
  have go : ∀ {its : List Value} {as : List Addr}, Vals xs its → ReadsAll s.heap its (D.pdA (d :: ds)) as → ∀ (i : Nat) (u : Value) (h' : Heap) (tk : Nat) (bs : List Addr), its[i]? = some u → Reads h' u (PySem.W.maxD d.pd (D.pdA ds)) bs → (∀ b o, s.heap.get? b = some o → h'.get? b = some o) →
      ∃ v H', Inv X pins σ H' { s with heap := h', toks := tk } ∧ RelV v u ∧ Q v H' := fun {its as} rv rd i u h' tk bs hi rr kp => by
    have rd' := readsAll_keeps kp rd
    rw [← maxF_pd] at rr
    have hb := best_at hk mem rd' hi rr
    obtain ⟨v, hv, ru⟩ := vals_at rv hi
    exact ⟨v, H, I.kept (t' := tk) kp, ru, q i v hv hb⟩
  rcases hs with hs | hs
  · obtain ⟨its, rv, hli, hz⟩ := I.list hs
    obtain ⟨as, rd⟩ := Dp.readsAll I _ _ _ hdp rv
    refine PySem.W.max_list_data (I.ok.hd hc) (vs := its.toArray) hli.isList (x := d.pd) (xs := D.pdA ds) (show ReadsAll s.heap its.toArray.toList (d.pd :: D.pdA ds) as from rd) (by rw [← ep]; exact al) (by rw [← ep]; omega) fun i u h' tk bs hi rr kp => ?_
    exact go rv rd i u h' tk bs (by simpa using hi) rr kp
  · obtain ⟨its, rv, p, hz⟩ := I.tuple hs
    obtain ⟨as, rd⟩ := Dp.readsAll I _ _ _ hdp rv
    refine PySem.W.max_tuple_data (I.ok.hd hc) (vs := its.toArray) p (x := d.pd) (xs := D.pdA ds) (show ReadsAll s.heap its.toArray.toList (d.pd :: D.pdA ds) as from rd) (by rw [← ep]; exact al) (by rw [← ep]; omega) fun i u h' tk bs hi rr kp => ?_
    exact go rv rd i u h' tk bs (by simpa using hi) rr kp
end
section
variable {K : PySem.W.Frag} {wk : Bool}
theorem best_len {d : D} {ds : List D} {as : List Addr} {B : Addr → Prop} {H : Hp} {xs : List V} (h : RepA K as B H (d :: ds) xs) : xs.length = ds.length + 1 := by rw [← h.length]; rfl
theorem best_go {d b : D} {ds : List D} {as : List Addr} {B : Addr → Prop} {H : Hp} {xs : List V} {Q : VK} (h : RepA K as B H (d :: ds) xs) (q : ∀ u H', Evo (fun _ => False) H H' → Rep K as B H' b u → Q u H') : ∀ (i : Nat) (v : V), xs[i]? = some v → (d :: ds)[i]? = some b → Q v H := fun i v hv hd => by
  obtain ⟨w, w1, w2⟩ := h.get hd
  rw [hv] at w1
  cases w1
  exact q v H Evo.refl w2
theorem ok_minG : CallOk K wk (on1 D.minG) (rBest K D.minF) := by
  refine ok_on1 fun as Bs Bw H d z v Q h1 h2 hr e q => ?_
  cases d <;> try (cases e; done)
  all_goals
    rename_i ds
    cases ds with
    | nil => cases e
    | cons d ds =>
      unfold D.minG at e
      simp only [] at e
      split at e
      · rename_i hok
        cases e
        have hk : D.okqA (d :: ds) 50 = true := by
          unfold D.bestOk at hok
          simp only [Bool.and_eq_true] at hok
          exact hok.1.1
        first
        | (obtain ⟨a, xs, e1, a1, a2⟩ := hr
           subst e1
           exact ⟨a, xs, d, ds, rfl, .inr a1, best_len a2, (okqA_dp _ xs 50 a2 hk).1, hok, best_go a2 q⟩)
        | (obtain ⟨a, xs, e1, nb, a1, a2⟩ := hr
           subst e1
           exact ⟨a, xs, d, ds, rfl, .inl (SqL.of a1), best_len a2, (okqA_dp _ xs 50 a2 hk).1, hok, best_go a2 q⟩)
      · cases e
theorem ok_maxG : CallOk K wk (on1 D.maxG) (rBest K D.maxF) := by
  refine ok_on1 fun as Bs Bw H d z v Q h1 h2 hr e q => ?_
  cases d <;> try (cases e; done)
  all_goals
    rename_i ds
    cases ds with
    | nil => cases e
    | cons d ds =>
      unfold D.maxG at e
      simp only [] at e
      split at e
      · rename_i hok
        cases e
        have hk : D.okqA (d :: ds) 50 = true := by
          unfold D.bestOk at hok
          simp only [Bool.and_eq_true] at hok
          exact hok.1.1
        first
        | (obtain ⟨a, xs, e1, a1, a2⟩ := hr
           subst e1
           exact ⟨a, xs, d, ds, rfl, .inr a1, best_len a2, (okqA_dp _ xs 50 a2 hk).1, hok, best_go a2 q⟩)
        | (obtain ⟨a, xs, e1, nb, a1, a2⟩ := hr
           subst e1
           exact ⟨a, xs, d, ds, rfl, .inl (SqL.of a1), best_len a2, (okqA_dp _ xs 50 a2 hk).1, hok, best_go a2 q⟩)
      · cases e
end
end D2

namespace D2
open PySem PySem.Spec PyProof.Rows L2
/-! ### min(x, default=d), max(x, default=d): x a list or a tuple of data that can be ordered -/
def rBestD (K : PySem.W.Frag) (g : D → List D → D) : List V → List V → Hp → VK → Prop := fun vs zs H Q => ∃ (a : Addr) (xs : List V) (ds : List D) (z : V), vs = [V.ref a] ∧ zs = [z] ∧ (SqL K H a xs ∨ SqT K H a xs) ∧ xs.length = ds.length ∧ DpAll K H xs (D.pdA ds) ∧ D.bestOk ds = true ∧
  (ds = [] → Q z H) ∧ ∀ (d : D) (es : List D) (i : Nat) (v : V), ds = d :: es → xs[i]? = some v → ds[i]? = some (g d es) → Q v H
def D.seqOf : D → Option (List D)
  | .lst ds => some ds
  | .tup ds => some ds
  | _ => none
def D.bestD (g : D → List D → D) (x z : D) : Option D := match x.seqOf with
  | some [] => some z
  | some (d :: es) => if D.bestOk (d :: es) = true then some (g d es) else none
  | none => none
section
variable {X : Cx} {W : WX2} {wk : Bool} {pos : Pos}
theorem cr_minD2 (hc : X.calm = true) (hu : X.A.units + 64 < cLine) : CallRK X (.builtin "min") [Str.ofString "default"] (rBestD X.K D.minF) := by
  intro pins s σ H xs0 zs us ws Q I r1 r2 h
  obtain ⟨a, xs, ds, z, e1, e2, hs, hl, hdp, hok, q0, q1⟩ := h
  subst e1 e2
  rw [Vals.ref1 r1]
  have hk : D.okqA ds 50 = true := by
    unfold D.bestOk at hok
    simp only [Bool.and_eq_true] at hok
    exact hok.1.1
  have dep := depth_okqA ds 50 hk
  have al := best_alike hok
  cases r2 with
  | cons rz rr =>
    cases rr
    rename_i w
    have go : ∀ {its : List Value} {as : List Addr}, Vals xs its → ReadsAll s.heap its (D.pdA ds) as → ∀ (y : PyData) (ys : List PyData) (i : Nat) (u : Value) (h' : Heap) (tk : Nat) (bs : List Addr), D.pdA ds = y :: ys → its[i]? = some u → Reads h' u (PySem.W.minD y ys) bs → (∀ b o, s.heap.get? b = some o → h'.get? b = some o) →
        ∃ v H', Inv X pins σ H' { s with heap := h', toks := tk } ∧ RelV v u ∧ Q v H' := fun {its as} rv rd y ys i u h' tk bs ey hi rr kp => by
      cases ds with
      | nil => cases ey
      | cons d es =>
        have ep : d.pd :: D.pdA es = y :: ys := ey
        cases ep
        have rd' := readsAll_keeps kp rd
        rw [← minF_pd] at rr
        have hb := best_at hk (minF_mem es d) rd' hi rr
        obtain ⟨v, hv, ru⟩ := vals_at rv hi
        exact ⟨v, H, I.kept (t' := tk) kp, ru, q1 d es i v rfl hv hb⟩
    have nil0 : D.pdA ds = [] → ds = [] := fun e => by
      cases ds with
      | nil => rfl
      | cons d es => cases e
    rcases hs with hs | hs
    · obtain ⟨its, rv, hli, hz⟩ := I.list hs
      obtain ⟨as, rd⟩ := Dp.readsAll I _ _ _ hdp rv
      refine PySem.W.min_list_default (I.ok.hd hc) (vs := its.toArray) hli.isList (xs := D.pdA ds) (show ReadsAll s.heap its.toArray.toList (D.pdA ds) as from rd) al (by omega) (fun e h' tk kp => ?_) fun y ys i u h' tk bs ey hi rr kp => ?_
      · exact ⟨z, H, I.kept (t' := tk) kp, rz, q0 (nil0 e)⟩
      · exact go rv rd y ys i u h' tk bs ey (by simpa using hi) rr kp
    · obtain ⟨its, rv, p, hz⟩ := I.tuple hs
      obtain ⟨as, rd⟩ := Dp.readsAll I _ _ _ hdp rv
      refine PySem.W.min_tuple_default (I.ok.hd hc) (vs := its.toArray) p (xs := D.pdA ds) (show ReadsAll s.heap its.toArray.toList (D.pdA ds) as from rd) al (by omega) (fun e h' tk kp => ?_) fun y ys i u h' tk bs ey hi rr kp => ?_
      · exact ⟨z, H, I.kept (t' := tk) kp, rz, q0 (nil0 e)⟩
      · exact go rv rd y ys i u h' tk bs ey (by simpa using hi) rr kp
theorem cr_maxD2 (hc : X.calm = true) (hu : X.A.units + 64 < cLine) : CallRK X (.builtin "max") [Str.ofString "default"] (rBestD X.K D.maxF) := by
  intro pins s σ H xs0 zs us ws Q I r1 r2 h
  obtain ⟨a, xs, ds, z, e1, e2, hs, hl, hdp, hok, q0, q1⟩ := h
  subst e1 e2
  rw [Vals.ref1 r1]
  have hk : D.okqA ds 50 = true := by
    unfold D.bestOk at hok
    simp only [Bool.and_eq_true] at hok
    exact hok.1.1
  have dep := depth_okqA ds 50 hk
  have al := best_alike hok
  cases r2 with
  | cons rz rr =>
    cases rr
    rename_i w
    have go : ∀ {its : List Value} {as : List Addr}, Vals xs its → ReadsAll s.heap its (D.pdA ds) as → ∀ (y : PyData) (ys : List PyData) (i : Nat) (u : Value) (h' : Heap) (tk : Nat) (bs : List Addr), D.pdA ds = y :: ys → its[i]? = some u → Reads h' u (PySem.W.maxD y ys) bs → (∀ b o, s.heap.get? b = some o → h'.get? b = some o) →
        ∃ v H', Inv X pins σ H' { s with heap := h', toks := tk } ∧ RelV v u ∧ Q v H' := fun {its as} rv rd y ys i u h' tk bs ey hi rr kp => by
      cases ds with
      | nil => cases ey
      | cons d es =>
        have ep : d.pd :: D.pdA es = y :: ys := ey
        cases ep
        have rd' := readsAll_keeps kp rd
        rw [← maxF_pd] at rr
        have hb := best_at hk (maxF_mem es d) rd' hi rr
        obtain ⟨v, hv, ru⟩ := vals_at rv hi
        exact ⟨v, H, I.kept (t' := tk) kp, ru, q1 d es i v rfl hv hb⟩
    have nil0 : D.pdA ds = [] → ds = [] := fun e => by
      cases ds with
      | nil => rfl
      | cons d es => cases e
    rcases hs with hs | hs
    · obtain ⟨its, rv, hli, hz⟩ := I.list hs
      obtain ⟨as, rd⟩ := Dp.readsAll I _ _ _ hdp rv
      refine PySem.W.max_list_default (I.ok.hd hc) (vs := its.toArray) hli.isList (xs := D.pdA ds) (show ReadsAll s.heap its.toArray.toList (D.pdA ds) as from rd) al (by omega) (fun e h' tk kp => ?_) fun y ys i u h' tk bs ey hi rr kp => ?_
      · exact ⟨z, H, I.kept (t' := tk) kp, rz, q0 (nil0 e)⟩
      · exact go rv rd y ys i u h' tk bs ey (by simpa using hi) rr kp
    · obtain ⟨its, rv, p, hz⟩ := I.tuple hs
      obtain ⟨as, rd⟩ := Dp.readsAll I _ _ _ hdp rv
      refine PySem.W.max_tuple_default (I.ok.hd hc) (vs := its.toArray) p (xs := D.pdA ds) (show ReadsAll s.heap its.toArray.toList (D.pdA ds) as from rd) al (by omega) (fun e h' tk kp => ?_) fun y ys i u h' tk bs ey hi rr kp => ?_
      · exact ⟨z, H, I.kept (t' := tk) kp, rz, q0 (nil0 e)⟩
      · exact go rv rd y ys i u h' tk bs ey (by simpa using hi) rr kp
theorem best_go0 {d b : D} {ds : List D} {as : List Addr} {B : Addr → Prop} {H : Hp} {xs : List V} {Q : VK} (h : RepA X.K as B H (d :: ds) xs) (q : ∀ u, Rep X.K as B H b u → Q u H) : ∀ (i : Nat) (v : V), xs[i]? = some v → (d :: ds)[i]? = some b → Q v H := fun i v hv hd => by
  obtain ⟨w, w1, w2⟩ := h.get hd
  rw [hv] at w1
  cases w1
  exact q v w2
theorem bestD_has {g : D → List D → D} {x y zz : D} {v w : V} {as : List Addr} {B : Addr → Prop} {H : Hp} {Q : VK} (e : D.bestD g x y = some zz) (hx : Rep X.K as B H x v) (hy : Rep X.K as B H y w) (q : ∀ u, Rep X.K as B H zz u → Q u H) : rBestD X.K g [v] [w] H Q := by
  have main : ∀ (a : Addr) (xs : List V) (ds : List D), v = V.ref a → (SqL X.K H a xs ∨ SqT X.K H a xs) → RepA X.K as B H ds xs → x.seqOf = some ds → rBestD X.K g [v] [w] H Q := by
    intro a xs ds ev hs hr hx
    unfold D.bestD at e
    rw [hx] at e
    cases ds with
    | nil =>
      cases e
      exact ⟨a, xs, [], w, by rw [ev], rfl, hs, by rw [← hr.length], (okqA_dp [] xs 50 hr rfl).1, rfl, fun _ => q w hy, fun d es i v h => by cases h⟩
    | cons d es =>
      simp only [] at e
      split at e
      · rename_i hok
        cases e
        have hk : D.okqA (d :: es) 50 = true := by
          unfold D.bestOk at hok
          simp only [Bool.and_eq_true] at hok
          exact hok.1.1
        refine ⟨a, xs, d :: es, w, by rw [ev], rfl, hs, by rw [← hr.length], (okqA_dp _ xs 50 hr hk).1, hok, (fun h => by cases h), fun d' es' i u h => ?_⟩
        cases h
        exact best_go0 hr q i u
      · cases e
  cases x <;> try (unfold D.bestD D.seqOf at e; cases e; done)
  · rename_i ds
    obtain ⟨a, xs, e1, a1, a2⟩ := hx
    exact main a xs ds e1 (.inr a1) a2 rfl
  · rename_i ds
    obtain ⟨a, xs, e1, nb, a1, a2⟩ := hx
    exact main a xs ds e1 (.inl (SqL.of a1)) a2 rfl
theorem e2_minD2 {a c : Expr} {ma mc : ME} {p kpos : Pos} (calm : X.calm = true) (hu : X.A.units + 64 < cLine) (hg : Gl X "min") (hm : X.mg "min" = none) (ha : PE2 X W wk a ma) (hc : PE2 X W wk c mc)
    (v1 : bootBuiltins "min" = some (.builtin "min") := by decide +kernel) (n1 : starEach [a] X.env = (false, eval a X.env) :: starEach [] X.env := by rfl)
    (he : backTo pos (starEach [a] X.env) = (false, eval a X.env) :: backTo pos (starEach [] X.env) := by rfl) (hpl : (backTo pos (starEach [a] X.env)).any (·.1) = false := by rfl)
    (hall : (backToKw pos (keywordEach [⟨some (Str.ofString "default"), c, kpos⟩] X.env)).all (·.1.isSome) = true := by rfl) (hnone : (backToKw pos (keywordEach [⟨some (Str.ofString "default"), c, kpos⟩] X.env)).any (·.1.isNone) = false := by rfl)
    (hks : (backToKw pos (keywordEach [⟨some (Str.ofString "default"), c, kpos⟩] X.env)).filterMap (·.1) = [Str.ofString "default"] := by rfl) :
    PE2 X W wk (.Call (.Name "min" p) [a] [⟨some (Str.ofString "default"), c, kpos⟩] pos) (mBin (D.bestD D.minF) ma mc) := by
  obtain ⟨ta, a1, a2⟩ := ha
  obtain ⟨tc, c1, c2⟩ := hc
  refine ⟨_, pe_callBK (cr_minD2 calm hu) hg hm v1 (pa_cons a1 pa_nil n1) (pk_cons c1 pk_nil) (by decide) (by decide) he hpl hall hnone hks, fun B H0 as ks ow sg S σ H Q r h => ?_⟩
  refine a2 _ _ _ _ _ _ _ _ _ _ r (Den.bind h fun x S1 v H1 k1 e1 s1 q1 h1 => ?_)
  clear k1
  have r1 := r.step e1 s1
  refine c2 _ _ _ _ _ _ _ _ _ _ r1 (Den.bind h1 fun y S2 w H2 k2 e2 s2 q2 h2 => ?_)
  clear k2
  have r2 := r1.step e2 s2
  have q1' := Rep.imp (B' := if wk then (· ∈ as) else Bd B ow) e2 (asWk r) (fun _ z => z) x v q1
  cases e : D.bestD D.minF x y with
  | none => simp only [e] at h2; exact False.elim h2
  | some z =>
    simp only [e] at h2
    exact bestD_has e q1' q2 fun u rp => h2 u H2 Evo.refl s2 rp
theorem e2_maxD2 {a c : Expr} {ma mc : ME} {p kpos : Pos} (calm : X.calm = true) (hu : X.A.units + 64 < cLine) (hg : Gl X "max") (hm : X.mg "max" = none) (ha : PE2 X W wk a ma) (hc : PE2 X W wk c mc)
    (v1 : bootBuiltins "max" = some (.builtin "max") := by decide +kernel) (n1 : starEach [a] X.env = (false, eval a X.env) :: starEach [] X.env := by rfl)
    (he : backTo pos (starEach [a] X.env) = (false, eval a X.env) :: backTo pos (starEach [] X.env) := by rfl) (hpl : (backTo pos (starEach [a] X.env)).any (·.1) = false := by rfl)
    (hall : (backToKw pos (keywordEach [⟨some (Str.ofString "default"), c, kpos⟩] X.env)).all (·.1.isSome) = true := by rfl) (hnone : (backToKw pos (keywordEach [⟨some (Str.ofString "default"), c, kpos⟩] X.env)).any (·.1.isNone) = false := by rfl)
    (hks : (backToKw pos (keywordEach [⟨some (Str.ofString "default"), c, kpos⟩] X.env)).filterMap (·.1) = [Str.ofString "default"] := by rfl) :
    PE2 X W wk (.Call (.Name "max" p) [a] [⟨some (Str.ofString "default"), c, kpos⟩] pos) (mBin (D.bestD D.maxF) ma mc) := by
  obtain ⟨ta, a1, a2⟩ := ha
  obtain ⟨tc, c1, c2⟩ := hc
  refine ⟨_, pe_callBK (cr_maxD2 calm hu) hg hm v1 (pa_cons a1 pa_nil n1) (pk_cons c1 pk_nil) (by decide) (by decide) he hpl hall hnone hks, fun B H0 as ks ow sg S σ H Q r h => ?_⟩
  refine a2 _ _ _ _ _ _ _ _ _ _ r (Den.bind h fun x S1 v H1 k1 e1 s1 q1 h1 => ?_)
  clear k1
  have r1 := r.step e1 s1
  refine c2 _ _ _ _ _ _ _ _ _ _ r1 (Den.bind h1 fun y S2 w H2 k2 e2 s2 q2 h2 => ?_)
  clear k2
  have r2 := r1.step e2 s2
  have q1' := Rep.imp (B' := if wk then (· ∈ as) else Bd B ow) e2 (asWk r) (fun _ z => z) x v q1
  cases e : D.bestD D.maxF x y with
  | none => simp only [e] at h2; exact False.elim h2
  | some z =>
    simp only [e] at h2
    exact bestD_has e q1' q2 fun u rp => h2 u H2 Evo.refl s2 rp
end
end D2

namespace D2
open PySem PySem.Spec PyProof.Rows L2
/-! ### x.append(e.code) in the suite of an except clause -/
section
variable {X : Cx} {W : WX2} {i : Nat} {x n : Str} {a C : Addr} {oe : Obj} {cls : Value} {d : Option Addr} {pn : List (Addr × Obj)} {wk : Bool} {np pos pos2 : Pos}
/-- arguments that may name the exception -/
def PAu (X : Cx) (W : WX2) (i : Nat) (x : Str) (a : Addr) (cls : Value) (d : Option Addr) (wk : Bool) (es : List Expr) (ms : Exn → MA) : Prop :=
  ∃ t : TA, PA X es t ∧ ∀ (e : Exn) B H0 as ks ow sg S σ H (Q : List V → Hp → Prop), Rl X.K B H0 as ks ow sg S σ H → Xh X.K X.mg i x a cls d e B as ow sg σ H → Den (ctOf X W B H0 as ks) ow ((ctOf X W B H0 as ks).rpa ow wk) (ms e sg S) H Q → t σ H Q
def mxOne (me : Exn → ME) : Exn → MA := fun e => mCons (me e) mNil
theorem au_one {ex : Expr} {me : Exn → ME} (h : PEu X W i x a cls d wk ex me) (hs : starEach [ex] X.env = (false, eval ex X.env) :: starEach [] X.env := by rfl) : PAu X W i x a cls d wk [ex] (mxOne me) := by
  obtain ⟨t, a1, a2⟩ := h
  refine ⟨_, pa_cons a1 pa_nil hs, fun e B H0 as ks ow sg S σ H Q r k h => ?_⟩
  refine a2 _ _ _ _ _ _ _ _ _ _ _ r k (Den.bind h fun y S1 v H1 _ e1 s1 q1 h1 => ?_)
  exact h1 [v] H1 Evo.refl s1 ⟨v, [], rfl, q1, rfl⟩
def mxOwnE (j : Nat) (c : O → Bool) (f : O → List D → Option (O × D)) (ms : Exn → MA) : Exn → MS := fun e => mOwnE j c f (ms e)
theorem own_at {T : String} {c : O → Bool} {f : O → List D → Option (O × D)} {r2 : V → List V → Hp → VK → Prop} {j : Nat} {ms : MA} {t : TA} (hop : OwnOk X.K T c f r2)
    {B : Addr → Prop} {H0 : Hp} {as : List Addr} {ks : List (D × V)} {ow : List (Option Addr)} {sg : List Sl} {S : List O} {σ : L2.St} {H : Hp} {Dd : Ends} {k : D × List Sl × List O → R (Fl × List Sl × List O)}
    (args : ∀ (Q : List V → Hp → Prop), Den (ctOf X W B H0 as ks) ow ((ctOf X W B H0 as ks).rpa ow false) (ms sg S) H Q → t σ H Q) (r : Rl X.K B H0 as ks ow sg S σ H)
    (h : DenS (ctOf X W B H0 as ks) ((mOwn j c f ms sg S).bind k) Dd) (Q : VK)
    (hQ : ∀ u z sg' S' H', Rl X.K B H0 as ks ow sg' S' σ H' → Rep X.K as (Bd B ow) H' z u → DenS (ctOf X W B H0 as ks) (k (z, sg', S')) Dd → Q u H') :
    tVar j σ H fun x H1 => tyV X.K T x H1 ∧ t σ H1 fun xs H2 => r2 x xs H2 Q := by
  cases own : sg[j]? with
  | none => simp only [mOwn, own] at h; exact h.elim
  | some sl =>
    cases sl with
    | no => simp only [mOwn, own] at h; exact h.elim
    | val dd => simp only [mOwn, own] at h; exact h.elim
    | own ob =>
      obtain ⟨w, y, at1, at2, b, eb, ea, rep⟩ := r.sl j _ own
      subst eb
      subst ea
      have inA := List.mem_of_getElem? at1
      cases fit : c ob with
      | false => simp only [mOwn, own, fit] at h; exact h.elim
      | true =>
        simp only [mOwn, own, fit, if_true] at h
        obtain ⟨ty, go⟩ := hop as (Bd B ow) H ob b rep (.inr inA) fit
        refine ⟨_, at2, ty, args _ ?_⟩
        generalize ms sg S = out at h ⊢
        cases out with
        | bad => exact h
        | ex => exact h
        | ok pr =>
          obtain ⟨ds, S1⟩ := pr
          intro vs H2 ev st rp
          have later := r.step ev st
          have rep2 : ORep X.K as (Bd B ow) H2 ob b := ORep.imp ev r.asBd (fun _ z => z) ob b (r.ownAs inA) rep
          cases new : f ob ds with
          | none => simp only [R.bind, new] at h; exact h.elim
          | some pr2 =>
            obtain ⟨ob2, z⟩ := pr2
            simp only [R.bind, new] at h
            exact go H2 ds vs ob2 z Q rep2 rp new fun u ho k1 k2 => hQ u z _ S1 _ (later.putOwn own at1 k1) k2 h
theorem sv_own {y meth : Str} {px apos cpos : Pos} {ex : Expr} {es : List Expr} {T id : String} {c : O → Bool} {f : O → List D → Option (O × D)} {r2 : V → List V → Hp → VK → Prop} {ms : Exn → MA}
    (j : Nat) (pa : PlainAttrs T) (slot : Slot T meth id) (hty : typeOf (.builtin id) = pure (.type "method_descriptor")) (hm : MtR X id r2) (hop : OwnOk X.K T c f r2) (ha : PAu X W i x a cls d false (ex :: es) ms)
    (hN : X.N[j]? = some y := by rfl) (hv : Vis X.env.scope y := by first | exact Or.inl rfl | exact Or.inr (Or.inl rfl) | exact Or.inr (Or.inr rfl)) (hd : (y == ("__debug__" : Str)) = false := by decide) (hcd : (y == ("__classdict__" : Str)) = false := by decide)
    (hbase : attributeBase (.Name y px) meth X.env (eval (.Name y px) X.env) = eval (.Name y px) X.env := by rfl)
    (hfew : ((backTo cpos (starEach (ex :: es) X.env)).all (fun x => !x.1) && (backToKw cpos (keywordEach [] X.env)).all (fun x => x.1.isSome)
      && decide ((ex :: es).length + ([] : List Keyword).length + (if ([] : List Keyword).isEmpty then 0 else 1) < 30)) = true := by rfl)
    (hline : (apos.endLine == cpos.line) = true := by rfl) (hs : starEach (ex :: es) X.env = (false, eval ex X.env) :: starEach es X.env := by rfl) (hplain : (backTo cpos (starEach es X.env)).any (·.1) = false := by rfl)
    (hsw : swapsWith (.Call (.Attribute (.Name y px) meth apos) (ex :: es) [] cpos) none pos.line X.env = pure false := by rfl) :
    PSv X W i x a cls d [.Expr (.Call (.Attribute (.Name y px) meth apos) (ex :: es) [] cpos) pos] (mxOwnE j c f ms) := by
  obtain ⟨t, a1, a2⟩ := ha
  refine ⟨_, pss_one (ps_expr (pe_bm pa slot hty hm (pe_var hN hv hd hcd) a1 hbase hfew hline hs hplain) hsw), fun e B H0 as ks ow sg S σ H Dd r k h => ?_⟩
  exact own_at hop (fun Q q => a2 e _ _ _ _ _ _ _ _ _ _ r k q) r h _ fun u z sg' S' H' r' q' h' => h' _ _ _ r'
end
end D2

namespace D2
open PySem PySem.Spec PyProof.Rows L2
/-! ### for x, y in zip(a, b): two tuples, or two lists -/
def zipD : List D → List D → List D
  | d :: ds, e :: es => .tup [d, e] :: zipD ds es
  | _, _ => []
theorem zipD_get : ∀ {ds es : List D} {i : Nat} {z : D}, (zipD ds es)[i]? = some z → ∃ x y, ds[i]? = some x ∧ es[i]? = some y ∧ z = .tup [x, y]
  | [], _, i, z, h => by simp [zipD] at h
  | _ :: _, [], i, z, h => by simp [zipD] at h
  | d :: ds, e :: es, 0, z, h => by
    simp only [zipD, List.getElem?_cons_zero, Option.some.injEq] at h
    exact ⟨d, e, rfl, rfl, h.symm⟩
  | d :: ds, e :: es, i + 1, z, h => by
    simp only [zipD, List.getElem?_cons_succ] at h
    obtain ⟨x, y, h1, h2, h3⟩ := zipD_get h
    exact ⟨x, y, by simpa using h1, by simpa using h2, h3⟩
theorem zipD_end : ∀ {ds es : List D} {i : Nat}, (zipD ds es).length ≤ i → ds.length ≤ i ∨ es.length ≤ i
  | [], _, i, _ => .inl (Nat.zero_le _)
  | _ :: _, [], i, _ => .inr (Nat.zero_le _)
  | d :: ds, e :: es, 0, h => by simp [zipD] at h
  | d :: ds, e :: es, i + 1, h => by
    simp only [zipD, List.length_cons] at h ⊢
    rcases zipD_end (ds := ds) (es := es) (i := i) (by omega) with z | z
    · exact .inl (by omega)
    · exact .inr (by omega)
def twoZ : List D → Option (List D)
  | [.tup ds, .tup es] => some (zipD ds es)
  | [.lst ds, .lst es] => some (zipD ds es)
  | _ => none
def mIz (ms : MA) : MA := fun sg S => (ms sg S).bind fun x => match twoZ x.1 with
  | some ds => .ok (ds, x.2)
  | none => .bad
section
variable {X : Cx} {W : WX2} {wk : Bool} {pos : Pos}
theorem i2_zip {e e2 : Expr} {ms : MA} {p tpos : Pos} {elts : List Expr} {kk : Nat} (hg : Gl X "zip") (hm : X.mg "zip" = none) (ha : PA2 X W wk [e, e2] ms) (hs : starEach [e, e2] X.env = (false, eval e X.env) :: starEach [e2] X.env := by rfl) (hpl : (backTo pos (starEach [e2] X.env)).any (·.1) = false := by rfl) :
    PI2 X W wk (.Tuple elts kk tpos) (.Call (.Name "zip" p) [e, e2] [] pos) (mIz ms) := by
  obtain ⟨t, a1, a2⟩ := ha
  refine ⟨_, RZ.pi_zipA hg hm a1 hs hpl, fun B H0 as ks ow sg S σ H R r h => ?_⟩
  refine a2 _ _ _ _ _ _ _ _ _ _ r (Den.bind h fun d S1 v H1 e0 e1 s1 q1 h1 => ?_)
  clear e0
  cases ej : twoZ d with
  | none => simp only [ej] at h1; exact False.elim h1
  | some zs =>
    simp only [ej] at h1
    unfold twoZ at ej
    split at ej
    · rename_i ds es
      cases ej
      obtain ⟨x, xs, ev, k1, x2, xs2, ev2, k2, k3⟩ := q1
      obtain rfl : xs2 = [] := k3
      subst ev2
      subst ev
      obtain ⟨a, ys, ex, g1, g2⟩ := id k1
      obtain ⟨b, ws, ex2, l1, l2⟩ := id k2
      subst ex ex2
      refine ⟨a, b, ys, ws, rfl, .inr ⟨g1, l1, h1 _ H1 Evo.refl s1 ⟨[(.tup ds, .ref a), (.tup es, .ref b)], fun q hq => ?_, fun B2 H2 kp i => ?_⟩⟩⟩
      · simp only [List.mem_cons, List.not_mem_nil, or_false] at hq
        rcases hq with rfl | rfl
        · exact k1
        · exact k2
      · obtain ⟨a', us, ea, m1, m2⟩ := kp (.tup ds, .ref a) List.mem_cons_self
        obtain ⟨b', vs, eb, n1, n2⟩ := kp (.tup es, .ref b) (List.mem_cons_of_mem _ List.mem_cons_self)
        cases ea
        cases eb
        refine ⟨fun hi => ⟨us, vs, m1, n1, by rw [← m2.length, ← n2.length]; exact zipD_end hi⟩, fun z hz => ?_⟩
        obtain ⟨y1, y2, z1, z2, ez⟩ := zipD_get hz
        obtain ⟨w1, o1, o2⟩ := m2.get z1
        obtain ⟨w2, p1, p2⟩ := n2.get z2
        refine ⟨⟨us, vs, w1, w2, m1, n1, o1, p1⟩, fun x H3 ⟨T, u1, u2, ey, hT, e3, hx, hy⟩ => ?_⟩
        have f1 := hx us m1
        have f2 := hy vs n1
        rw [o1] at f1
        rw [p1] at f2
        cases f1
        cases f2
        subst ey e3 ez
        exact ⟨Evo.new hT, repNewT hT (RepA.cons o2 (RepA.one p2))⟩
    · rename_i ds es
      cases ej
      obtain ⟨x, xs, ev, k1, x2, xs2, ev2, k2, k3⟩ := q1
      obtain rfl : xs2 = [] := k3
      subst ev2
      subst ev
      obtain ⟨a, ys, ex, na, g1, g2⟩ := id k1
      obtain ⟨b, ws, ex2, nb, l1, l2⟩ := id k2
      subst ex ex2
      refine ⟨a, b, ys, ws, rfl, .inl ⟨SqL.of g1, SqL.of l1, h1 _ H1 Evo.refl s1 ⟨[(.lst ds, .ref a), (.lst es, .ref b)], fun q hq => ?_, fun B2 H2 kp i => ?_⟩⟩⟩
      · simp only [List.mem_cons, List.not_mem_nil, or_false] at hq
        rcases hq with rfl | rfl
        · exact k1
        · exact k2
      · obtain ⟨a', us, ea, na', m1, m2⟩ := kp (.lst ds, .ref a) List.mem_cons_self
        obtain ⟨b', vs, eb, nb', n1, n2⟩ := kp (.lst es, .ref b) (List.mem_cons_of_mem _ List.mem_cons_self)
        cases ea
        cases eb
        refine ⟨fun hi => ⟨us, vs, SqL.of m1, SqL.of n1, by rw [← m2.length, ← n2.length]; exact zipD_end hi⟩, fun z hz => ?_⟩
        obtain ⟨y1, y2, z1, z2, ez⟩ := zipD_get hz
        obtain ⟨w1, o1, o2⟩ := m2.get z1
        obtain ⟨w2, p1, p2⟩ := n2.get z2
        refine ⟨⟨us, vs, w1, w2, SqL.of m1, SqL.of n1, o1, p1⟩, fun x H3 ⟨T, u1, u2, ey, hT, e3, hx, hy⟩ => ?_⟩
        have f1 := hx us (SqL.of m1)
        have f2 := hy vs (SqL.of n1)
        rw [o1] at f1
        rw [p1] at f2
        cases f1
        cases f2
        subst ey e3 ez
        exact ⟨Evo.new hT, repNewT hT (RepA.cons o2 (RepA.one p2))⟩
    · cases ej
end
end D2

namespace D2
open PySem PySem.Spec PyProof.Rows L2
/-! ### len(set(x)), x a tuple of ints -/
theorem keys_len {l : List Int} {ns : List Int} (h1 : l.Nodup) (h2 : ∀ k, decide (k ∈ ns) = true ↔ k ∈ l) : l.length = (sortS ns).length := by
  have s1 : (sortS ns).Nodup := List.Pairwise.imp (fun h => by omega) (sortS_sorted (l := ns))
  have p : l.Perm (sortS ns) := (List.perm_ext_iff_of_nodup h1 s1).mpr fun k => by rw [mem_sortS, ← h2 k, decide_eq_true_eq]
  exact p.length_eq
def tLenTup (K : PySem.W.Frag) (ta : TE) : TE := fun σz Hz Qz => ta σz Hz fun xz H1z => ∃ (l : Addr) (ns : List Int), xz = .ref l ∧ SqT K H1z l (ns.map V.int) ∧ ns.length ≤ 4000 ∧ Qz (.int ((sortS ns).length : Nat)) H1z
theorem pe_lenTup {X : Cx} {a : Expr} {ta : TE} {p p2 q pos : Pos} (gl : Gl X "len") (ml : X.mg "len" = none) (gs : Gl X "set") (ms : X.mg "set" = none) (ha : PE X a ta) (calm : X.calm = true := by rfl)
    (one : starEach [a] X.env = (false, eval a X.env) :: starEach [] X.env := by rfl) : PE X (.Call (.Name "len" p) [.Call (.Name "set" p2) [a] [] q] [] pos) (tLenTup X.K ta) := by
  refine ⟨fun pinsz sz σz Hz Qz Iz hz => ?_⟩
  refine Call_ (ld_blt Iz gl ml boot_len ?_)
  refine PyProof.Rows.callWith_builtin1 (PyProof.Rows.args_cons ?_ rfl) rfl rfl
  refine Call_ (ld_blt Iz gs ms PyProof.Rows.boot_set ?_)
  refine PyProof.Rows.callWith_type1 (PyProof.Rows.args_cons (thn (ha.run pinsz sz σz Hz _ Iz hz) fun vz s1z ⟨xz, H1z, I1z, r1z, q1z⟩ => PyProof.Rows.args_nil ?_) one) one rfl
  obtain ⟨l, ns, rfl, hq, hl, q1z⟩ := q1z
  cases r1z
  obtain ⟨itsz, rz, plz, hzz⟩ := I1z.tuple hq
  refine call_set_tupI ns (I1z.ok.hd calm) plz (by simpa using RZ.intsAre_vals rz) (by unfold scanBound; omega) fun h' tkz cz hSz hcz hkz => ?_
  refine PyProof.Rows.args_nil ?_
  obtain ⟨oz, esz, epz, tz, hoz, hexz, hdz, _, hnd, hmem, _, hfz, hnz, _, _⟩ := hSz
  have hsz : esz.size = (sortS ns).length := by
    have e := keys_len hnd hmem
    rw [List.length_map, Array.length_toList] at e
    exact e
  have hslz := sortS_len (l := ns)
  have I2z : Inv X pinsz σz H1z { s1z with heap := h', toks := tkz } := I1z.kept fun b oz e => hkz b oz e
  exact call_len_set hoz hexz hdz hfz (by omega) ⟨.int (sortS ns).length, H1z, I2z.tok _, ⟨_, by rw [hsz]⟩, q1z⟩
def D.lenSetT : D → Option D
  | .tup ds => match D.ints ds with
    | some ns => if ns.length ≤ 4000 then some (.int ((sortS ns).length : Int)) else none
    | none => none
  | _ => none
section
variable {X : Cx} {W : WX2} {wk : Bool} {pos : Pos}
theorem e2_lenSetT {e : Expr} {m : ME} {p p2 q : Pos} (hc : X.calm = true) (hg : Gl X "len") (hm : X.mg "len" = none) (hg2 : Gl X "set") (hm2 : X.mg "set" = none) (he : PE2 X W wk e m)
    (n1 : starEach [e] X.env = (false, eval e X.env) :: starEach [] X.env := by rfl) :
    PE2 X W wk (.Call (.Name "len" p) [.Call (.Name "set" p2) [e] [] q] [] pos) (mUn D.lenSetT m) := by
  obtain ⟨t, a1, a2⟩ := he
  refine ⟨_, pe_lenTup hg hm hg2 hm2 a1 hc n1, fun B H0 as ks ow sg S σ H Q r h => ?_⟩
  refine a2 _ _ _ _ _ _ _ _ _ _ r (Den.bind h fun d S1 v H1 e0 e1 s1 q1 h1 => ?_)
  clear e0
  cases d <;> try (exact False.elim h1)
  rename_i ds
  obtain ⟨a, xs, ev, g1, g2⟩ := q1
  subst ev
  cases en : D.ints ds with
  | none => simp only [D.lenSetT, en] at h1; exact False.elim h1
  | some ns =>
    simp only [D.lenSetT, en] at h1
    by_cases h64 : ns.length ≤ 4000
    · simp only [h64, if_true] at h1
      rw [ints_rep g2 en] at g1
      exact ⟨a, ns, rfl, g1, h64, h1 _ H1 Evo.refl s1 rfl⟩
    · simp only [h64, if_false] at h1
      exact False.elim h1
end
end D2

namespace D2
open PySem PySem.Spec PyProof.Rows L2
/-! ### sorted(x), x a tuple of ints -/
section
variable {Pg : Program} {u : World} {Ar : Around} {Ex : Value → Shared → Prop} {sh : Shared}
theorem ints_each {vs : List Value} {ns : List Int} (h : IntsAre vs ns) : PySem.W.EachIs (fun (v : Value) (n : Int) => ∃ t, v = .int n t) vs ns := by
  induction h with
  | nil => exact .nil
  | cons n t _ ih => exact .cons ⟨t, rfl⟩ ih
theorem each_ints {vs : List Value} {ns : List Int} (h : PySem.W.EachIs (fun (v : Value) (n : Int) => ∃ t, v = .int n t) vs ns) : IntsAre vs ns := by
  induction h with
  | nil => exact .nil
  | cons e _ ih =>
    obtain ⟨t, rfl⟩ := e
    exact .cons _ t ih
theorem each_read {h : Heap} {n : Addr} {vs : List Value} {ns : List Int} (x : PySem.W.EachIs (fun (v : Value) (n : Int) => ∃ t, v = .int n t) vs ns) : PySem.W.EachIs (fun (v : Value) (i : Int) => ∃ as, Reads h v (PyData.int i) as ∧ n ∉ as) vs ns :=
  x.mono fun v i ⟨t, e⟩ => by subst e; exact ⟨[], .int _ _, List.not_mem_nil⟩
theorem le_int (p q : Int) : PySem.W.dataLe false (fun i : Int => PyData.int i) p q = decide (p ≤ q) := by
  show (!PySem.W.dataLt (.int q) (.int p)) = _
  rw [PySem.W.dataLt_int, Bool.eq_iff_iff]
  simp
theorem sorted_tupI {a : Addr} {its : Array Value} {ns : List Int} {Qq : Value → Shared → Prop} (li : sh.heap.IsTuple a its) (hi : IntsAre its.toList ns) (few : ns.length ≤ 16777216) (rm : Ar.units + 10 < cLine)
    (go : ∀ (h1 h' : Heap) (out : List Value) (c : Nat) (ms : List Int), (∀ b o, sh.heap.get? b = some o → h1.get? b = some o) → (∀ b o, sh.heap.get? b = some o → h'.get? b = some o) → h'.get? h1.objs.size = some (seqObj "list" out.toArray c) → IntsAre out ms → ms.Perm ns → ms.Pairwise (· ≤ ·) → Qq (.ref h1.objs.size) { sh with heap := h' }) :
    wpAny (model Pg u) Ar (call (.builtin "sorted") [.ref a]) Qq Ex sh := by
  obtain ⟨ob, at0, cl0, nn, dt0⟩ := li
  have hsz : its.size = ns.length := by
    have q := IntsAre.length hi
    rwa [Array.length_toList] at q
  refine Calls.call_function_entry kind_sorted plain_sorted entry_sorted (args_sorted1 _) ?_
  unfold Builtin.«sorted»
  refine wpAny_bind (m := checkCount "sorted" 1 1 _) (wpAny_pure ?_)
  refine wpAny_bind (wpAny_collect_seq (A := Ar.in1) a (.inr rfl) at0 cl0 dt0 (fun h1 kp1 => ?_) (by rw [hsz, sizeLine_eq]; omega))
  refine wpAny_bind (wpAny_newList ?_ (by rw [Array.length_toList, hsz, sizeLine_eq]; omega))
  have atL : (h1.push (seqObj "list" its.toList.toArray 0)).get? h1.objs.size = some (seqObj "list" its.toList.toArray 0) := Heap.get?_push_size _ rfl
  have ea := ints_each hi
  refine wpAny_bind (wpAny_holding (PySem.W.list_sort_data (s := { sh with heap := h1.push (seqObj "list" its.toList.toArray 0) }) (enc := fun i : Int => PyData.int i) atL ea (each_read ea) ?_ ?_ (by rw [sizeLine_eq]; omega) (fun q hq => ?_) fun out ho eo => ?_))
  · exact PySem.W.AllAlike.of fun b b' => by simp only [PySem.W.alike]
  · refine .inr fun d hd => ?_
    obtain ⟨q, hq, rfl⟩ := List.mem_map.mp hd
    simp
  · show Ar.in1.units + 1 + (PyData.int q).depth < cLine
    have : Ar.in1.units = Ar.units + 1 := rfl
    simp only [PyData.depth]
    omega
  obtain ⟨c, hc⟩ := sortedHeap_at (vs := its.toList) (out := out.toArray) atL
  refine wpAny_pure ⟨_, rfl, go h1 _ out c _ kp1 (fun b o e => ?_) hc (each_ints eo) (List.mergeSort_perm _ _) ?_⟩
  · have q := kp1 b o e
    have hlt := Heap.lt_size q
    show (sortedHeap (h1.push (seqObj "list" its.toList.toArray 0)) h1.objs.size its.toList out.toArray).get? b = some o
    rw [sortedHeap_old (Nat.ne_of_lt hlt) (by rw [size_push']; exact Nat.lt_succ_of_lt hlt)]
    exact Heap.get?_push_of_some _ q
  · rw [show (PySem.W.dataLe false fun i : Int => PyData.int i) = fun p q => decide (p ≤ q) from funext fun p => funext fun q => le_int p q]
    have := List.pairwise_mergeSort (le := fun p q : Int => decide (p ≤ q)) (fun a b c h1 h2 => by
      rw [decide_eq_true_eq] at h1 h2 ⊢
      omega) (fun a b => by
      rw [Bool.or_eq_true, decide_eq_true_eq, decide_eq_true_eq]
      omega) ns
    exact this.imp fun h => of_decide_eq_true h
end
section
variable {X : Cx} {K : PySem.W.Frag} {wk : Bool}
def rSortTu (K : PySem.W.Frag) : List V → Hp → VK → Prop := fun vs H Q => ∃ (a : Addr) (ns : List Int), vs = [V.ref a] ∧ SqT K H a (ns.map V.int) ∧ ns.length ≤ 16777216 ∧
  ∀ (ms : List Int) (p : Addr), ms.Perm ns → ms.Pairwise (· ≤ ·) → H p = none → Q (.ref p) (upd H p (.lst (ms.map V.int)))
theorem vals_of_i : ∀ {us : List Value} {ns : List Int}, IntsAre us ns → Vals (ns.map V.int) us
  | _, _, .nil => .nil
  | _, _, .cons n t h => .cons ⟨t, rfl⟩ (vals_of_i h)
theorem cr_sortTu (hu : X.A.units + 64 < cLine) : CallR X (.builtin "sorted") (rSortTu X.K) := by
  intro pins s σ H vs us Q I r h
  obtain ⟨a, ns, rfl, hs, few, q⟩ := h
  rw [Vals.ref1 r]
  obtain ⟨its, rv, pl, _⟩ := I.tuple hs
  refine sorted_tupI (its := its.toArray) pl (by simpa using RZ.intsAre_vals rv) few (by omega) fun h1 h' out c ms kp1 kp2 at1 ia pm pw => ?_
  have hp : s.heap.get? h1.objs.size = none := by
    cases e : s.heap.get? h1.objs.size with
    | none => rfl
    | some o => exact absurd (Heap.lt_size (kp1 _ _ e)) (Nat.lt_irrefl _)
  have hn : H h1.objs.size = none := (I.hok.kept kp1).fresh (Nat.le_refl _)
  have hl : (ms.map V.int).length ≤ sizeLine := by rw [List.length_map, pm.length_eq, sizeLine_eq]; omega
  exact ⟨.ref _, upd H h1.objs.size (.lst (ms.map V.int)), I.laidN (t' := s.toks) kp2 hp hn ⟨hl, out, c, vals_of_i ia, at1⟩, rfl, q ms _ pm pw hn⟩
def D.sortT : D → Option D
  | .tup ds => match D.ints ds with
    | some ns => if ns.length ≤ 16777216 then some (.lst ((sortI ns).map D.int)) else none
    | none => none
  | _ => none
theorem ok_sortT : CallOk K wk (on1 D.sortT) (rSortTu K) := by
  refine ok_on1 fun as Bs Bw H d z v Q h1 h2 hr e q => ?_
  cases d <;> try (cases e; done)
  rename_i ds
  obtain ⟨a, xs, ev, g1, g2⟩ := hr
  subst ev
  cases en : D.ints ds with
  | none => simp only [D.sortT, en] at e; cases e
  | some ns =>
    simp only [D.sortT, en] at e
    split at e
    · rename_i few
      cases e
      rw [ints_rep g2 en] at g1
      refine ⟨a, ns, rfl, g1, few, fun ms p pm pw hp => ?_⟩
      have em : ms = sortI ns := sorted_one (pm.trans (sortI_perm ns).symm) pw (sortI_sorted ns)
      rw [em]
      exact q _ _ (Evo.new hp) ⟨p, _, rfl, newB h1 h2 hp, upd_same, rep_ints _⟩
    · cases e
end
end D2

namespace D2
open PySem PySem.Spec PyProof.Rows L2

/-! ### reading what a def computes: r is an answer with P, or an exception with E -/
abbrev EP' := Exn → List Sl → List O → Prop
@[irreducible] def Wp {α : Type} (r : R α) (P : α → Prop) (E : EP') : Prop := match r with
  | .ok a => P a
  | .ex e sg S => E e sg S
  | .bad => False
def noE : EP' := fun _ _ _ => False
theorem wp_ok {α : Type} {a : α} {P : α → Prop} {E : EP'} : Wp (.ok a) P E = P a := by unfold Wp; rfl
theorem wp_ex {α : Type} {e : Exn} {sg : List Sl} {S : List O} {P : α → Prop} {E : EP'} : Wp (.ex e sg S) P E = E e sg S := by unfold Wp; rfl
theorem wp_bad {α : Type} {P : α → Prop} {E : EP'} : Wp .bad P E = False := by unfold Wp; rfl
theorem wp_okI {α : Type} {a : α} {P : α → Prop} {E : EP'} (h : P a) : Wp (.ok a) P E := by rw [wp_ok]; exact h
theorem wp_okE {α : Type} {a : α} {P : α → Prop} {E : EP'} (h : Wp (.ok a) P E) : P a := by rw [wp_ok] at h; exact h
theorem wp_exE {α : Type} {e : Exn} {sg : List Sl} {S : List O} {P : α → Prop} {E : EP'} (h : Wp (.ex e sg S) P E) : E e sg S := by rw [wp_ex] at h; exact h
theorem wp_badE {α : Type} {P : α → Prop} {E : EP'} (h : Wp .bad P E) : False := by rw [wp_bad] at h; exact h
theorem Wp.mono {α : Type} {r : R α} {P P' : α → Prop} {E E' : EP'} (h : Wp r P E) (hP : ∀ a, P a → P' a) (hE : ∀ e sg S, E e sg S → E' e sg S) : Wp r P' E' := by
  cases r with
  | ok a => rw [wp_ok] at h ⊢; exact hP a h
  | ex e sg S => rw [wp_ex] at h ⊢; exact hE e sg S h
  | bad => rw [wp_bad] at h ⊢; exact h
theorem Wp.imp {α : Type} {r : R α} {P P' : α → Prop} {E : EP'} (h : Wp r P E) (hP : ∀ a, P a → P' a) : Wp r P' E := h.mono hP fun _ _ _ z => z
theorem Wp.no {α : Type} {r : R α} {P P' : α → Prop} {E : EP'} (h : Wp r P noE) (hP : ∀ a, P a → P' a) : Wp r P' E := h.mono hP fun _ _ _ z => z.elim
theorem Wp.ok {α : Type} {r : R α} {P : α → Prop} (h : Wp r P noE) : ∃ a, r = .ok a ∧ P a := by
  cases r with
  | ok a => rw [wp_ok] at h; exact ⟨a, rfl, h⟩
  | ex e sg S => rw [wp_ex] at h; exact False.elim h
  | bad => rw [wp_bad] at h; exact False.elim h
theorem wp_eq {α : Type} {r : R α} {a : α} {P : α → Prop} {E : EP'} (h : r = .ok a) : Wp r P E = P a := by rw [h, wp_ok]
theorem wp_bind {α β : Type} {r : R α} {f : α → R β} {P : β → Prop} {E : EP'} : Wp (r.bind f) P E = Wp r (fun x => Wp (f x) P E) E := by
  cases r with
  | ok a => rw [wp_ok]; rfl
  | ex e sg S => rw [wp_ex, show (R.ex e sg S : R α).bind f = .ex e sg S from rfl, wp_ex]
  | bad => rw [wp_bad, show (R.bad : R α).bind f = .bad from rfl, wp_bad]
/-- an option that must be there -/
def kO (o : Option D) (S : List O) (P : D × List O → Prop) : Prop := match o with
  | some z => P (z, S)
  | none => False
theorem kO_some {z : D} {S : List O} {P : D × List O → Prop} : kO (some z) S P = P (z, S) := by with_unfolding_all rfl
theorem wp_of {o : Option D} {S : List O} {P : D × List O → Prop} {E : EP'} : Wp (R.of (o.map fun z => (z, S))) P E = kO o S P := by
  cases o <;> (with_unfolding_all rfl)
theorem kO_eq {o : Option D} {z : D} {S : List O} {P : D × List O → Prop} (h : o = some z) : kO o S P = P (z, S) := by rw [h]; rfl
section
variable {P : D × List O → Prop} {Pb : Bool × List O → Prop} {Ps : Fl × List Sl × List O → Prop} {Pa : List D × List O → Prop} {Po : O × List O → Prop} {E : EP'} {sg : List Sl} {S : List O} {m ma mb mc : ME} {ms : MA} {mt mu : MT} {f g : D → D → Option D} {h : D → Option D}

/-! expressions -/
def kVar (s : Option Sl) (S : List O) (P : D × List O → Prop) : Prop := match s with
  | some (.val d) => P (d, S)
  | _ => False
def kVarW (s : Option Sl) (S : List O) (P : D × List O → Prop) : Prop := match s with
  | some (.val d) => P (d, S)
  | some (.own (.lst ds)) => P (.lst ds, S)
  | some (.own (.dic ks ds)) => P (.dic ks ds, S)
  | _ => False
theorem w_C {d : D} : Wp (mC d sg S) P E = P (d, S) := by with_unfolding_all rfl
theorem w_Var {i : Nat} : Wp (mVar i sg S) P E = kVar sg[i]? S P := by
  unfold mVar kVar
  cases sg[i]? with
  | none => with_unfolding_all rfl
  | some s => cases s <;> (with_unfolding_all rfl)
theorem w_VarW {i : Nat} : Wp (mVarW i sg S) P E = kVarW sg[i]? S P := by
  unfold mVarW kVarW
  cases sg[i]? with
  | none => with_unfolding_all rfl
  | some s =>
    cases s with
    | no => with_unfolding_all rfl
    | val d => with_unfolding_all rfl
    | own o => cases o <;> (with_unfolding_all rfl)
theorem kVar_val {d : D} : kVar (some (.val d)) S P = P (d, S) := by with_unfolding_all rfl
theorem kVarW_val {d : D} : kVarW (some (.val d)) S P = P (d, S) := by with_unfolding_all rfl
theorem kVarW_lst {ds : List D} : kVarW (some (.own (.lst ds))) S P = P (.lst ds, S) := by with_unfolding_all rfl
theorem kVarW_dic {ks : List Key} {ds : List D} : kVarW (some (.own (.dic ks ds))) S P = P (.dic ks ds, S) := by with_unfolding_all rfl
def kFlat (P : D × List O → Prop) : D × List O → Prop := fun x => x.1.flat = true ∧ P x
theorem w_Flat : Wp (mFlat m sg S) P E = Wp (m sg S) (kFlat P) E := by
  unfold mFlat
  rw [wp_bind]
  congr 1
  funext x
  by_cases hx : x.1.flat = true
  · simp [hx, kFlat, wp_ok]
  · simp [hx, kFlat, Wp]
theorem kFlat_eq {x : D × List O} : kFlat P x = (x.1.flat = true ∧ P x) := by with_unfolding_all rfl
def kBin2 (f : D → D → Option D) (x : D) (P : D × List O → Prop) : D × List O → Prop := fun y => kO (f x y.1) y.2 P
def kBin (f : D → D → Option D) (mb : ME) (sg : List Sl) (P : D × List O → Prop) (E : EP') : D × List O → Prop := fun x => Wp (mb sg x.2) (kBin2 f x.1 P) E
theorem w_Bin : Wp (mBin f ma mb sg S) P E = Wp (ma sg S) (kBin f mb sg P E) E := by
  unfold mBin kBin kBin2
  simp only [wp_bind, wp_of]
theorem kBin_eq {x : D} : kBin f mb sg P E (x, S) = Wp (mb sg S) (kBin2 f x P) E := by with_unfolding_all rfl
theorem kBin2_eq {x y : D} : kBin2 f x P (y, S) = kO (f x y) S P := by with_unfolding_all rfl
def kUn (h : D → Option D) (P : D × List O → Prop) : D × List O → Prop := fun x => kO (h x.1) x.2 P
theorem w_Un : Wp (mUn h m sg S) P E = Wp (m sg S) (kUn h P) E := by
  unfold mUn kUn
  simp only [wp_bind, wp_of]
theorem kUn_eq {x : D} : kUn h P (x, S) = kO (h x) S P := by with_unfolding_all rfl
def kTup (P : D × List O → Prop) : List D × List O → Prop := fun x => x.1.length ≤ 16777216 ∧ P (.tup x.1, x.2)
theorem w_Tup : Wp (mTup ms sg S) P E = Wp (ms sg S) (kTup P) E := by
  unfold mTup
  rw [wp_bind]
  congr 1
  funext x
  by_cases hx : x.1.length ≤ 16777216
  · simp [hx, kTup, wp_ok]
  · simp [hx, kTup, Wp]
theorem kTup_eq {ds : List D} : kTup P (ds, S) = (ds.length ≤ 16777216 ∧ P (.tup ds, S)) := by with_unfolding_all rfl
def kLst (P : D × List O → Prop) : List D × List O → Prop := fun x => x.1.length ≤ 16777216 ∧ P (.lst x.1, x.2)
theorem w_Lst : Wp (mLst ms sg S) P E = Wp (ms sg S) (kLst P) E := by
  unfold mLst
  rw [wp_bind]
  congr 1
  funext x
  by_cases hx : x.1.length ≤ 16777216
  · simp [hx, kLst, wp_ok]
  · simp [hx, kLst, Wp]
theorem kLst_eq {ds : List D} : kLst P (ds, S) = (ds.length ≤ 16777216 ∧ P (.lst ds, S)) := by with_unfolding_all rfl
theorem w_Nil : Wp (mNil sg S) Pa E = Pa ([], S) := by with_unfolding_all rfl
def kCons2 (x : D) (P : List D × List O → Prop) : List D × List O → Prop := fun y => P (x :: y.1, y.2)
def kCons (ms : MA) (sg : List Sl) (P : List D × List O → Prop) (E : EP') : D × List O → Prop := fun x => Wp (ms sg x.2) (kCons2 x.1 P) E
theorem w_Cons : Wp (mCons m ms sg S) Pa E = Wp (m sg S) (kCons ms sg Pa E) E := by
  unfold mCons kCons kCons2
  simp only [wp_bind, wp_ok]
theorem kCons_eq {x : D} : kCons ms sg Pa E (x, S) = Wp (ms sg S) (kCons2 x Pa) E := by with_unfolding_all rfl
theorem kCons2_eq {x : D} {ys : List D} : kCons2 x Pa (ys, S) = Pa (x :: ys, S) := by with_unfolding_all rfl
def kAnd (mb : ME) (sg : List Sl) (P : D × List O → Prop) (E : EP') : D × List O → Prop := fun x => match x.1 with
  | .bl b => if b = true then Wp (mb sg x.2) P E else P (.bl false, x.2)
  | _ => False
theorem w_And : Wp (mAnd ma mb sg S) P E = Wp (ma sg S) (kAnd mb sg P E) E := by
  unfold mAnd
  rw [wp_bind]
  congr 1
  funext x
  obtain ⟨d, T⟩ := x
  cases d <;> try (with_unfolding_all rfl)
  rename_i b
  cases b <;> (with_unfolding_all rfl)
theorem kAnd_eq {b : Bool} : kAnd mb sg P E (.bl b, S) = if b = true then Wp (mb sg S) P E else P (.bl false, S) := by with_unfolding_all rfl
def kOr (mb : ME) (sg : List Sl) (P : D × List O → Prop) (E : EP') : D × List O → Prop := fun x => match x.1 with
  | .bl b => if b = true then P (.bl true, x.2) else Wp (mb sg x.2) P E
  | _ => False
theorem w_Or : Wp (mOr ma mb sg S) P E = Wp (ma sg S) (kOr mb sg P E) E := by
  unfold mOr
  rw [wp_bind]
  congr 1
  funext x
  obtain ⟨d, T⟩ := x
  cases d <;> try (with_unfolding_all rfl)
  rename_i b
  cases b <;> (with_unfolding_all rfl)
theorem kOr_eq {b : Bool} : kOr mb sg P E (.bl b, S) = if b = true then P (.bl true, S) else Wp (mb sg S) P E := by with_unfolding_all rfl
/-! tests -/
def kTst (P : Bool × List O → Prop) : D × List O → Prop := fun x => match x.1 with
  | .bl b => P (b, x.2)
  | _ => False
theorem w_Tst : Wp (mTst m sg S) Pb E = Wp (m sg S) (kTst Pb) E := by
  unfold mTst
  rw [wp_bind]
  congr 1
  funext x
  obtain ⟨d, T⟩ := x
  cases d <;> (with_unfolding_all rfl)
theorem kTst_eq {b : Bool} : kTst Pb (.bl b, S) = Pb (b, S) := by with_unfolding_all rfl
def kTru (P : Bool × List O → Prop) : D × List O → Prop := fun x => match x.1.truth with
  | some b => P (b, x.2)
  | none => False
theorem w_Tru : Wp (mTru m sg S) Pb E = Wp (m sg S) (kTru Pb) E := by
  unfold mTru
  rw [wp_bind]
  congr 1
  funext x
  obtain ⟨d, T⟩ := x
  unfold kTru
  cases d.truth <;> (with_unfolding_all rfl)
theorem kTru_bl {b : Bool} : kTru Pb (.bl b, S) = Pb (b, S) := by with_unfolding_all rfl
theorem kTru_int {i : Int} : kTru Pb (.int i, S) = Pb (i != 0, S) := by with_unfolding_all rfl
theorem kTru_tup {ds : List D} : kTru Pb (.tup ds, S) = Pb (!ds.isEmpty, S) := by with_unfolding_all rfl
theorem kTru_lst {ds : List D} : kTru Pb (.lst ds, S) = Pb (!ds.isEmpty, S) := by with_unfolding_all rfl
theorem kTru_non : kTru Pb (.non, S) = Pb (false, S) := by with_unfolding_all rfl
theorem kTru_str {x : Str} (hx : x.length ≤ 16777216) : kTru Pb (.str x, S) = Pb ((x.length : Int) != 0, S) := by
  simp [kTru, D.truth, hx]
def kNotT (P : Bool × List O → Prop) : Bool × List O → Prop := fun x => P (!x.1, x.2)
theorem w_NotT : Wp (mNotT mt sg S) Pb E = Wp (mt sg S) (kNotT Pb) E := by
  unfold mNotT
  rw [wp_bind]
  with_unfolding_all rfl
theorem kNotT_eq {b : Bool} : kNotT Pb (b, S) = Pb (!b, S) := by with_unfolding_all rfl
def kAndT (mu : MT) (sg : List Sl) (P : Bool × List O → Prop) (E : EP') : Bool × List O → Prop := fun x => if x.1 = true then Wp (mu sg x.2) P E else P (false, x.2)
theorem w_AndT : Wp (mAndT mt mu sg S) Pb E = Wp (mt sg S) (kAndT mu sg Pb E) E := by
  unfold mAndT
  rw [wp_bind]
  congr 1
  funext x
  obtain ⟨b, T⟩ := x
  cases b <;> (with_unfolding_all rfl)
theorem kAndT_eq {b : Bool} : kAndT mu sg Pb E (b, S) = if b = true then Wp (mu sg S) Pb E else Pb (false, S) := by with_unfolding_all rfl
def kOrT (mu : MT) (sg : List Sl) (P : Bool × List O → Prop) (E : EP') : Bool × List O → Prop := fun x => if x.1 = true then P (true, x.2) else Wp (mu sg x.2) P E
theorem w_OrT : Wp (mOrT mt mu sg S) Pb E = Wp (mt sg S) (kOrT mu sg Pb E) E := by
  unfold mOrT
  rw [wp_bind]
  congr 1
  funext x
  obtain ⟨b, T⟩ := x
  cases b <;> (with_unfolding_all rfl)
theorem kOrT_eq {b : Bool} : kOrT mu sg Pb E (b, S) = if b = true then Pb (true, S) else Wp (mu sg S) Pb E := by with_unfolding_all rfl
def isNon : D → Bool
  | .non => true
  | _ => false
def kIsN (neg : Bool) (P : D × List O → Prop) : D × List O → Prop := fun x => P (.bl (if isNon x.1 = true then !neg else neg), x.2)
theorem w_IsN {neg : Bool} : Wp (mIsN neg m sg S) P E = Wp (m sg S) (kIsN neg P) E := by
  unfold mIsN
  rw [wp_bind]
  congr 1
  funext x
  obtain ⟨d, T⟩ := x
  cases d <;> (with_unfolding_all rfl)
theorem kIsN_eq {neg : Bool} {d : D} : kIsN neg P (d, S) = P (.bl (if isNon d = true then !neg else neg), S) := by with_unfolding_all rfl
def kIf (ma mb : ME) (sg : List Sl) (P : D × List O → Prop) (E : EP') : Bool × List O → Prop := fun x => if x.1 = true then Wp (ma sg x.2) P E else Wp (mb sg x.2) P E
theorem w_If : Wp (mIf mt ma mb sg S) P E = Wp (mt sg S) (kIf ma mb sg P E) E := by
  unfold mIf
  rw [wp_bind]
  congr 1
  funext x
  obtain ⟨b, T⟩ := x
  cases b <;> (with_unfolding_all rfl)
theorem kIf_eq {b : Bool} : kIf ma mb sg P E (b, S) = if b = true then Wp (ma sg S) P E else Wp (mb sg S) P E := by with_unfolding_all rfl
def kCh3 (o : Option D) (g : D → D → Option D) (y : D) (mc : ME) (sg : List Sl) (S : List O) (P : D × List O → Prop) (E : EP') : Prop := match o with
  | some (.bl b) => if b = true then Wp (mc sg S) (kBin2 g y P) E else P (.bl false, S)
  | _ => False
def kCh2 (f g : D → D → Option D) (x : D) (mc : ME) (sg : List Sl) (P : D × List O → Prop) (E : EP') : D × List O → Prop := fun y => kCh3 (f x y.1) g y.1 mc sg y.2 P E
def kCh1 (f g : D → D → Option D) (mb mc : ME) (sg : List Sl) (P : D × List O → Prop) (E : EP') : D × List O → Prop := fun x => Wp (mb sg x.2) (kCh2 f g x.1 mc sg P E) E
theorem w_Chain : Wp (mChain f g ma mb mc sg S) P E = Wp (ma sg S) (kCh1 f g mb mc sg P E) E := by
  unfold mChain kCh1
  rw [wp_bind]
  congr 1
  funext x
  rw [wp_bind]
  congr 1
  funext y
  unfold kCh2 kCh3
  cases e : f x.1 y.1 with
  | none => with_unfolding_all rfl
  | some d =>
    cases d <;> try (with_unfolding_all rfl)
    rename_i b
    cases b
    · with_unfolding_all rfl
    · simp only [if_true, wp_bind, wp_of]
      with_unfolding_all rfl
theorem kCh1_eq {x : D} : kCh1 f g mb mc sg P E (x, S) = Wp (mb sg S) (kCh2 f g x mc sg P E) E := by with_unfolding_all rfl
theorem kCh2_eq {x y : D} : kCh2 f g x mc sg P E (y, S) = kCh3 (f x y) g y mc sg S P E := by with_unfolding_all rfl
theorem kCh3_eq {b : Bool} {y : D} : kCh3 (some (.bl b)) g y mc sg S P E = if b = true then Wp (mc sg S) (kBin2 g y P) E else P (.bl false, S) := by with_unfolding_all rfl
/-! calls -/
def kBi (fl : List D → Option D) (P : D × List O → Prop) : List D × List O → Prop := fun x => kO (fl x.1) x.2 P
theorem w_Bi {fl : List D → Option D} : Wp (mBi fl ms sg S) P E = Wp (ms sg S) (kBi fl P) E := by
  unfold mBi kBi
  simp only [wp_bind, wp_of]
theorem kBi_eq {fl : List D → Option D} {ds : List D} : kBi fl P (ds, S) = kO (fl ds) S P := by with_unfolding_all rfl
theorem on1_eq {gg : D → Option D} {x : D} : on1 gg [x] = gg x := by with_unfolding_all rfl
theorem on2_eq {gg : D → D → Option D} {x y : D} : on2 gg [x, y] = gg x y := by with_unfolding_all rfl
def kMeth2 (fm : D → List D → Option D) (x : D) (P : D × List O → Prop) : List D × List O → Prop := fun y => kO (fm x y.1) y.2 P
def kMeth (c : D → Bool) (fm : D → List D → Option D) (ms : MA) (sg : List Sl) (P : D × List O → Prop) (E : EP') : D × List O → Prop := fun x => c x.1 = true ∧ Wp (ms sg x.2) (kMeth2 fm x.1 P) E
theorem w_Meth {c : D → Bool} {fm : D → List D → Option D} : Wp (mMeth c fm m ms sg S) P E = Wp (m sg S) (kMeth c fm ms sg P E) E := by
  unfold mMeth
  rw [wp_bind]
  congr 1
  funext x
  by_cases hx : c x.1 = true
  · simp only [hx, kMeth, if_true, true_and, wp_bind, wp_of]
    with_unfolding_all rfl
  · simp [hx, kMeth, Wp]
theorem kMeth_eq {c : D → Bool} {fm : D → List D → Option D} {x : D} : kMeth c fm ms sg P E (x, S) = (c x = true ∧ Wp (ms sg S) (kMeth2 fm x P) E) := by with_unfolding_all rfl
theorem kMeth2_eq {fm : D → List D → Option D} {x : D} {ys : List D} : kMeth2 fm x P (ys, S) = kO (fm x ys) S P := by with_unfolding_all rfl
def kIx2 (x : D) (P : D × List O → Prop) : D × List O → Prop := fun y => kO (ixS y.2 x y.1) y.2 P
def kIx (mb : ME) (sg : List Sl) (P : D × List O → Prop) (E : EP') : D × List O → Prop := fun x => Wp (mb sg x.2) (kIx2 x.1 P) E
theorem w_Ix : Wp (mIx ma mb sg S) P E = Wp (ma sg S) (kIx mb sg P E) E := by
  unfold mIx kIx kIx2
  simp only [wp_bind, wp_of]
theorem kIx_eq {x : D} : kIx mb sg P E (x, S) = Wp (mb sg S) (kIx2 x P) E := by with_unfolding_all rfl
theorem kIx2_eq {x y : D} : kIx2 x P (y, S) = kO (ixS S x y) S P := by with_unfolding_all rfl
def kGet3 (ks : List Key) (ds : List D) (k : D) (P : D × List O → Prop) : D × List O → Prop := fun x => kO (dGet2 (.dic ks ds) k x.1) x.2 P
def kGet2 (ks : List Key) (ds : List D) (mx : ME) (sg : List Sl) (P : D × List O → Prop) (E : EP') : D × List O → Prop := fun k => Wp (mx sg k.2) (kGet3 ks ds k.1 P) E
def kGet1 (mk mx : ME) (sg : List Sl) (P : D × List O → Prop) (E : EP') : D × List O → Prop := fun d => match d.1 with
  | .dic ks ds => Wp (mk sg d.2) (kGet2 ks ds mx sg P E) E
  | _ => False
theorem w_Get2 : Wp (mGet2 ma mb mc sg S) P E = Wp (ma sg S) (kGet1 mb mc sg P E) E := by
  unfold mGet2
  rw [wp_bind]
  congr 1
  funext x
  obtain ⟨d, T⟩ := x
  cases d <;> try (with_unfolding_all rfl)
  unfold kGet1 kGet2 kGet3
  simp only [wp_bind, wp_of]
theorem kGet1_eq {ks : List Key} {ds : List D} : kGet1 mb mc sg P E (.dic ks ds, S) = Wp (mb sg S) (kGet2 ks ds mc sg P E) E := by with_unfolding_all rfl
theorem kGet2_eq {ks : List Key} {ds : List D} {k : D} : kGet2 ks ds mc sg P E (k, S) = Wp (mc sg S) (kGet3 ks ds k P) E := by with_unfolding_all rfl
theorem kGet3_eq {ks : List Key} {ds : List D} {k x : D} : kGet3 ks ds k P (x, S) = kO (dGet2 (.dic ks ds) k x) S P := by with_unfolding_all rfl
def kPart (P : Option Int × List O → Prop) : D × List O → Prop := fun x => match x.1 with
  | .int i => P (some i, x.2)
  | _ => False
theorem w_NoP {Pp : Option Int × List O → Prop} : Wp (mNoP sg S) Pp E = Pp (none, S) := by with_unfolding_all rfl
theorem w_Part {Pp : Option Int × List O → Prop} : Wp (mPart m sg S) Pp E = Wp (m sg S) (kPart Pp) E := by
  unfold mPart
  rw [wp_bind]
  congr 1
  funext x
  obtain ⟨d, T⟩ := x
  cases d <;> (with_unfolding_all rfl)
theorem kPart_eq {Pp : Option Int × List O → Prop} {i : Int} : kPart Pp (.int i, S) = Pp (some i, S) := by with_unfolding_all rfl
def kSl3 (x : D) (lo : Option Int) (P : D × List O → Prop) : Option Int × List O → Prop := fun u => kO (D.slo lo u.1 x) u.2 P
def kSl2 (x : D) (mh : MOp) (sg : List Sl) (P : D × List O → Prop) (E : EP') : Option Int × List O → Prop := fun l => Wp (mh sg l.2) (kSl3 x l.1 P) E
def kSl1 (ml mh : MOp) (sg : List Sl) (P : D × List O → Prop) (E : EP') : D × List O → Prop := fun x => Wp (ml sg x.2) (kSl2 x.1 mh sg P E) E
theorem w_Sl {ml mh : MOp} : Wp (mSl m ml mh sg S) P E = Wp (m sg S) (kSl1 ml mh sg P E) E := by
  unfold mSl kSl1 kSl2 kSl3
  simp only [wp_bind, wp_of]
theorem kSl1_eq {ml mh : MOp} {x : D} : kSl1 ml mh sg P E (x, S) = Wp (ml sg S) (kSl2 x mh sg P E) E := by with_unfolding_all rfl
theorem kSl2_eq {mh : MOp} {x : D} {l : Option Int} : kSl2 x mh sg P E (l, S) = Wp (mh sg S) (kSl3 x l P) E := by with_unfolding_all rfl
theorem kSl3_eq {x : D} {l u : Option Int} : kSl3 x l P (u, S) = kO (D.slo l u x) S P := by with_unfolding_all rfl
def kCall (F : FD) (P : D × List O → Prop) : List D × List O → Prop := fun x => Wp (F x.1 x.2) P noE
theorem w_Call {F : FD} : Wp (mCall F ms sg S) P E = Wp (ms sg S) (kCall F P) E := by
  unfold mCall kCall
  rw [wp_bind]
  congr 1
  funext x
  cases F x.1 x.2 <;> (with_unfolding_all rfl)
theorem kCall_eq {F : FD} {ds : List D} : kCall F P (ds, S) = Wp (F ds S) P noE := by with_unfolding_all rfl
def kCallP (F : FD) (P : D × List O → Prop) : List D × List O → Prop := fun x => D.norefA x.1 = true ∧ Wp (F x.1 []) (fun y => y.2 = [] ∧ P (y.1, x.2)) noE
theorem w_CallP {F : FD} : Wp (mCallP F ms sg S) P E = Wp (ms sg S) (kCallP F P) E := by
  unfold mCallP
  rw [wp_bind]
  congr 1
  funext x
  by_cases hx : D.norefA x.1 = true
  · simp only [hx, kCallP, if_true, true_and]
    cases F x.1 [] with
    | ok y =>
      obtain ⟨d, T⟩ := y
      cases T <;> simp [Wp]
    | ex => with_unfolding_all rfl
    | bad => with_unfolding_all rfl
  · simp [hx, kCallP, Wp]
theorem kCallP_eq {F : FD} {ds : List D} : kCallP F P (ds, S) = (D.norefA ds = true ∧ Wp (F ds []) (fun y => y.2 = [] ∧ P (y.1, S)) noE) := by with_unfolding_all rfl
/-! new lists -/
variable {mo : MO}
def kOfO (P : D × List O → Prop) : O × List O → Prop := fun x => P (x.1.toD, x.2)
theorem w_OfO : Wp (mOfO mo sg S) P E = Wp (mo sg S) (kOfO P) E := by
  unfold mOfO
  rw [wp_bind]
  with_unfolding_all rfl
theorem kOfO_eq {o : O} : kOfO P (o, S) = P (o.toD, S) := by with_unfolding_all rfl
theorem toD_lst {ds : List D} : (O.lst ds).toD = .lst ds := by with_unfolding_all rfl
theorem toD_dic {ks : List Key} {ds : List D} : (O.dic ks ds).toD = .dic ks ds := by with_unfolding_all rfl
def kLstO (P : O × List O → Prop) : List D × List O → Prop := fun x => x.1.length ≤ 16777216 ∧ P (.lst x.1, x.2)
theorem w_LstO : Wp (oLst ms sg S) Po E = Wp (ms sg S) (kLstO Po) E := by
  unfold oLst
  rw [wp_bind]
  congr 1
  funext x
  by_cases hx : x.1.length ≤ 16777216
  · simp [hx, kLstO, wp_ok]
  · simp [hx, kLstO, Wp]
theorem kLstO_eq {ds : List D} : kLstO Po (ds, S) = (ds.length ≤ 16777216 ∧ Po (.lst ds, S)) := by with_unfolding_all rfl
theorem w_DicO : Wp (oDic sg S) Po E = Po (.dic [] [], S) := by with_unfolding_all rfl
def kRep2 (x : D) (P : O × List O → Prop) : D × List O → Prop := fun y => match x, y.1 with
  | .lst xs, .int k => decide (-4611686018427387904 ≤ k ∧ k < 4611686018427387904 ∧ xs.length * k.toNat ≤ 16777216) = true ∧ P (.lst (List.replicate k.toNat xs).flatten, y.2)
  | _, _ => False
def kRep (mb : ME) (sg : List Sl) (P : O × List O → Prop) (E : EP') : D × List O → Prop := fun x => Wp (mb sg x.2) (kRep2 x.1 P) E
theorem w_Rep : Wp (oRep ma mb sg S) Po E = Wp (ma sg S) (kRep mb sg Po E) E := by
  unfold oRep kRep
  rw [wp_bind]
  congr 1
  funext x
  rw [wp_bind]
  congr 1
  funext y
  obtain ⟨d, T⟩ := x
  obtain ⟨d', T'⟩ := y
  cases d <;> try (with_unfolding_all rfl)
  cases d' <;> try (with_unfolding_all rfl)
  unfold kRep2
  simp only []
  split
  · rename_i hd
    simp only [hd, wp_ok, true_and]
  · rename_i hd
    simp [hd, Wp]
theorem kRep_eq {x : D} : kRep mb sg Po E (x, S) = Wp (mb sg S) (kRep2 x Po) E := by with_unfolding_all rfl
theorem kRep2_eq {xs : List D} {k : Int} : kRep2 (.lst xs) Po (.int k, S) = (decide (-4611686018427387904 ≤ k ∧ k < 4611686018427387904 ∧ xs.length * k.toNat ≤ 16777216) = true ∧ Po (.lst (List.replicate k.toNat xs).flatten, S)) := by with_unfolding_all rfl
theorem w_Pn {Pp : List (D × D) × List O → Prop} : Wp (mPn sg S) Pp E = Pp ([], S) := by with_unfolding_all rfl
def kPc3 (k v : D) (P : List (D × D) × List O → Prop) : List (D × D) × List O → Prop := fun p => P ((k, v) :: p.1, p.2)
def kPc2 (k : D) (mp : MP) (sg : List Sl) (P : List (D × D) × List O → Prop) (E : EP') : D × List O → Prop := fun v => Wp (mp sg v.2) (kPc3 k v.1 P) E
def kPc1 (mv : ME) (mp : MP) (sg : List Sl) (P : List (D × D) × List O → Prop) (E : EP') : D × List O → Prop := fun k => Wp (mv sg k.2) (kPc2 k.1 mp sg P E) E
theorem w_Pc {mp : MP} {Pp : List (D × D) × List O → Prop} : Wp (mPc ma mb mp sg S) Pp E = Wp (ma sg S) (kPc1 mb mp sg Pp E) E := by
  unfold mPc kPc1 kPc2 kPc3
  simp only [wp_bind, wp_ok]
theorem kPc1_eq {mp : MP} {Pp : List (D × D) × List O → Prop} {k : D} : kPc1 mb mp sg Pp E (k, S) = Wp (mb sg S) (kPc2 k mp sg Pp E) E := by with_unfolding_all rfl
theorem kPc2_eq {mp : MP} {Pp : List (D × D) × List O → Prop} {k v : D} : kPc2 k mp sg Pp E (v, S) = Wp (mp sg S) (kPc3 k v Pp) E := by with_unfolding_all rfl
theorem kPc3_eq {Pp : List (D × D) × List O → Prop} {k v : D} {ps : List (D × D)} : kPc3 k v Pp (ps, S) = Pp ((k, v) :: ps, S) := by with_unfolding_all rfl
def kDisp2 (o : Option (List (Key × D))) (S : List O) (P : O × List O → Prop) : Prop := match o with
  | some ps => ps.length ≤ 15 ∧ P (.dic (dicMerge ps [] []).1 (dicMerge ps [] []).2, S)
  | none => False
def kDisp (P : O × List O → Prop) : List (D × D) × List O → Prop := fun x => kDisp2 (keyed x.1) x.2 P
theorem w_Disp {mp : MP} : Wp (oDisp mp sg S) Po E = Wp (mp sg S) (kDisp Po) E := by
  unfold oDisp
  rw [wp_bind]
  congr 1
  funext x
  unfold kDisp kDisp2
  cases keyed x.1 with
  | none => with_unfolding_all rfl
  | some ps =>
    by_cases hx : ps.length ≤ 15
    · simp [hx, wp_ok]
    · simp [hx, Wp]
theorem kDisp_eq {ps : List (D × D)} : kDisp Po (ps, S) = kDisp2 (keyed ps) S Po := by with_unfolding_all rfl
theorem kDisp2_eq {ps : List (Key × D)} : kDisp2 (some ps) S Po = (ps.length ≤ 15 ∧ Po (.dic (dicMerge ps [] []).1 (dicMerge ps [] []).2, S)) := by with_unfolding_all rfl
theorem keyed_nil : keyed [] = some [] := by with_unfolding_all rfl
theorem keyed_S {x : Str} {d : D} {r : List (D × D)} : keyed ((.str x, d) :: r) = (keyed r).map fun q => (.inr x, d) :: q := by
  simp only [keyed, D.key?]
  cases keyed r <;> (with_unfolding_all rfl)
theorem keyed_I {x : Int} {d : D} {r : List (D × D)} : keyed ((.int x, d) :: r) = (keyed r).map fun q => (.inl x, d) :: q := by
  simp only [keyed, D.key?]
  cases keyed r <;> (with_unfolding_all rfl)
def kLc2 (P : O × List O → Prop) : List D × List O → Prop := fun y => P (.lst y.1, y.2)
def kLc (wk : Bool) (g : D → List Sl → Option (List Sl)) (mt : MT) (me : ME) (vs : List Nat) (sg : List Sl) (P : O × List O → Prop) (E : EP') : List D × List O → Prop := fun x =>
  x.1.length ≤ 16777216 ∧ (!wk || D.flatA x.1) = true ∧ (vs.all fun v => !isOwn sg[v]?) = true ∧ Wp (lcR g mt me (wipeS sg vs) x.1 x.2) (kLc2 P) E
theorem w_Lc {wk : Bool} {mi : MA} {gg : D → List Sl → Option (List Sl)} {vs : List Nat} : Wp (oLc wk mi gg mt m vs sg S) Po E = Wp (mi sg S) (kLc wk gg mt m vs sg Po E) E := by
  unfold oLc
  rw [wp_bind]
  congr 1
  funext x
  unfold kLc
  by_cases hx : (decide (x.1.length ≤ 16777216) && (!wk || D.flatA x.1) && vs.all fun v => !isOwn sg[v]?) = true
  · rw [if_pos hx, wp_bind]
    simp only [Bool.and_eq_true, decide_eq_true_eq] at hx
    simp only [hx, true_and]
    with_unfolding_all rfl
  · rw [if_neg hx]
    simp only [Bool.and_eq_true, decide_eq_true_eq] at hx
    apply propext
    constructor
    · intro z; exact (wp_badE z).elim
    · intro ⟨z1, z2, z3, _⟩; exact absurd ⟨⟨z1, z2⟩, z3⟩ hx
theorem kLc_eq {wk : Bool} {gg : D → List Sl → Option (List Sl)} {vs : List Nat} {ds : List D} : kLc wk gg mt m vs sg Po E (ds, S) =
  (ds.length ≤ 16777216 ∧ (!wk || D.flatA ds) = true ∧ (vs.all fun v => !isOwn sg[v]?) = true ∧ Wp (lcR gg mt m (wipeS sg vs) ds S) (kLc2 Po) E) := by with_unfolding_all rfl
theorem kLc2_eq {ds : List D} : kLc2 Po (ds, S) = Po (.lst ds, S) := by with_unfolding_all rfl
/-! what is walked -/
def kIl (P : List D × List O → Prop) : D × List O → Prop := fun x => match x.1 with
  | .lst ds => P (ds, x.2)
  | _ => False
theorem w_Il : Wp (mIl m sg S) Pa E = Wp (m sg S) (kIl Pa) E := by
  unfold mIl
  rw [wp_bind]
  congr 1
  funext x
  obtain ⟨d, T⟩ := x
  cases d <;> (with_unfolding_all rfl)
theorem kIl_eq {ds : List D} : kIl Pa (.lst ds, S) = Pa (ds, S) := by with_unfolding_all rfl
def kIt (P : List D × List O → Prop) : D × List O → Prop := fun x => match x.1 with
  | .tup ds => P (ds, x.2)
  | _ => False
theorem w_It : Wp (mIt m sg S) Pa E = Wp (m sg S) (kIt Pa) E := by
  unfold mIt
  rw [wp_bind]
  congr 1
  funext x
  obtain ⟨d, T⟩ := x
  cases d <;> (with_unfolding_all rfl)
theorem kIt_eq {ds : List D} : kIt Pa (.tup ds, S) = Pa (ds, S) := by with_unfolding_all rfl
def kIr1 (P : List D × List O → Prop) : List D × List O → Prop := fun x => match one1 x.1 with
  | some j => lim62 j = true ∧ P (rngD 0 j.toNat, x.2)
  | none => False
theorem w_Ir1 : Wp (mIr1 ms sg S) Pa E = Wp (ms sg S) (kIr1 Pa) E := by
  unfold mIr1
  rw [wp_bind]
  congr 1
  funext x
  unfold kIr1
  cases one1 x.1 with
  | none => with_unfolding_all rfl
  | some j =>
    by_cases hx : lim62 j = true
    · simp [hx, wp_ok]
    · simp [hx, Wp]
theorem kIr1_eq {j : Int} : kIr1 Pa ([.int j], S) = (lim62 j = true ∧ Pa (rngD 0 j.toNat, S)) := by with_unfolding_all rfl
def kIr2 (P : List D × List O → Prop) : List D × List O → Prop := fun x => match two2 x.1 with
  | some (i, j) => (lim62 i && lim62 j) = true ∧ P (rngD i (j - i).toNat, x.2)
  | none => False
theorem w_Ir2 : Wp (mIr2 ms sg S) Pa E = Wp (ms sg S) (kIr2 Pa) E := by
  unfold mIr2
  rw [wp_bind]
  congr 1
  funext x
  unfold kIr2
  cases two2 x.1 with
  | none => with_unfolding_all rfl
  | some p =>
    obtain ⟨i, j⟩ := p
    by_cases hx : (lim62 i && lim62 j) = true
    · simp [hx, wp_ok]
    · simp [hx, Wp]
theorem kIr2_eq {i j : Int} : kIr2 Pa ([.int i, .int j], S) = ((lim62 i && lim62 j) = true ∧ Pa (rngD i (j - i).toNat, S)) := by with_unfolding_all rfl
def kIe (P : List D × List O → Prop) : List D × List O → Prop := fun x => match oneL x.1 with
  | some ds => P (enumD 0 ds, x.2)
  | none => False
theorem w_Ie : Wp (mIe ms sg S) Pa E = Wp (ms sg S) (kIe Pa) E := by
  unfold mIe
  rw [wp_bind]
  congr 1
  funext x
  unfold kIe
  cases oneL x.1 <;> (with_unfolding_all rfl)
theorem kIe_eq {ds : List D} : kIe Pa ([.lst ds], S) = Pa (enumD 0 ds, S) := by with_unfolding_all rfl
def kIeT (P : List D × List O → Prop) : List D × List O → Prop := fun x => match oneT x.1 with
  | some ds => P (enumD 0 ds, x.2)
  | none => False
theorem w_IeT : Wp (mIeT ms sg S) Pa E = Wp (ms sg S) (kIeT Pa) E := by
  unfold mIeT
  rw [wp_bind]
  congr 1
  funext x
  unfold kIeT
  cases oneT x.1 <;> (with_unfolding_all rfl)
theorem kIeT_eq {ds : List D} : kIeT Pa ([.tup ds], S) = Pa (enumD 0 ds, S) := by with_unfolding_all rfl
theorem w_Yes : Wp (mYes sg S) Pb E = Pb (true, S) := by with_unfolding_all rfl
/-! statements -/
variable {m1 m2 : MS}
def kSeq (m2 : MS) (P : Fl × List Sl × List O → Prop) (E : EP') : Fl × List Sl × List O → Prop := fun x => match x.1 with
  | .nx => Wp (m2 x.2.1 x.2.2) P E
  | f => P (f, x.2)
theorem w_Seq : Wp (mSeq m1 m2 sg S) Ps E = Wp (m1 sg S) (kSeq m2 Ps E) E := by
  unfold mSeq
  rw [wp_bind]
  congr 1
  funext x
  obtain ⟨fl, T⟩ := x
  cases fl <;> (with_unfolding_all rfl)
theorem kSeq_nx : kSeq m2 Ps E (.nx, sg, S) = Wp (m2 sg S) Ps E := by with_unfolding_all rfl
theorem kSeq_bk : kSeq m2 Ps E (.bk, sg, S) = Ps (.bk, sg, S) := by with_unfolding_all rfl
theorem kSeq_ct : kSeq m2 Ps E (.ct, sg, S) = Ps (.ct, sg, S) := by with_unfolding_all rfl
theorem kSeq_rt {d : D} : kSeq m2 Ps E (.rt d, sg, S) = Ps (.rt d, sg, S) := by with_unfolding_all rfl
theorem w_Nx : Wp (mNx sg S) Ps E = Ps (.nx, sg, S) := by with_unfolding_all rfl
theorem w_Bk : Wp (mBk sg S) Ps E = Ps (.bk, sg, S) := by with_unfolding_all rfl
theorem w_Ct : Wp (mCt sg S) Ps E = Ps (.ct, sg, S) := by with_unfolding_all rfl
theorem w_RetN : Wp (mRetN sg S) Ps E = Ps (.rt .non, sg, S) := by with_unfolding_all rfl
def kRet (sg : List Sl) (P : Fl × List Sl × List O → Prop) : D × List O → Prop := fun x => P (.rt x.1, sg, x.2)
theorem w_Ret : Wp (mRet m sg S) Ps E = Wp (m sg S) (kRet sg Ps) E := by
  unfold mRet
  rw [wp_bind]
  with_unfolding_all rfl
theorem kRet_eq {d : D} : kRet sg Ps (d, S) = Ps (.rt d, sg, S) := by with_unfolding_all rfl
def kDrop (sg : List Sl) (P : Fl × List Sl × List O → Prop) : D × List O → Prop := fun x => P (.nx, sg, x.2)
theorem w_Drop : Wp (mDrop m sg S) Ps E = Wp (m sg S) (kDrop sg Ps) E := by
  unfold mDrop
  rw [wp_bind]
  with_unfolding_all rfl
theorem kDrop_eq {d : D} : kDrop sg Ps (d, S) = Ps (.nx, sg, S) := by with_unfolding_all rfl
def kIfS (m1 m2 : MS) (sg : List Sl) (P : Fl × List Sl × List O → Prop) (E : EP') : Bool × List O → Prop := fun x => if x.1 = true then Wp (m1 sg x.2) P E else Wp (m2 sg x.2) P E
theorem w_IfS : Wp (mIfS mt m1 m2 sg S) Ps E = Wp (mt sg S) (kIfS m1 m2 sg Ps E) E := by
  unfold mIfS
  rw [wp_bind]
  congr 1
  funext x
  obtain ⟨b, T⟩ := x
  cases b <;> (with_unfolding_all rfl)
theorem kIfS_eq {b : Bool} : kIfS m1 m2 sg Ps E (b, S) = if b = true then Wp (m1 sg S) Ps E else Wp (m2 sg S) Ps E := by with_unfolding_all rfl
theorem w_Frz {i : Nat} : Wp (mFrz i m1 sg S) Ps E = Wp (m1 (frz i sg) S) Ps E := by with_unfolding_all rfl
def kSet (i : Nat) (sg : List Sl) (P : Fl × List Sl × List O → Prop) : D × List O → Prop := fun x => P (.nx, sg.set i (.val x.1), x.2)
theorem w_Set {i : Nat} : Wp (mSet i m sg S) Ps E = Wp (m sg S) (kSet i sg Ps) E := by
  unfold mSet
  rw [wp_bind]
  with_unfolding_all rfl
theorem kSet_eq {i : Nat} {d : D} : kSet i sg Ps (d, S) = Ps (.nx, sg.set i (.val d), S) := by with_unfolding_all rfl
def kSetO (i : Nat) (sg : List Sl) (P : Fl × List Sl × List O → Prop) : O × List O → Prop := fun x => i < sg.length ∧ P (.nx, sg.set i (.own x.1), x.2)
theorem w_SetO {i : Nat} : Wp (mSetO i mo sg S) Ps E = Wp (mo sg S) (kSetO i sg Ps) E := by
  unfold mSetO
  rw [wp_bind]
  congr 1
  funext x
  unfold kSetO
  by_cases hx : i < sg.length
  · simp [hx, wp_ok]
  · simp [hx, Wp]
theorem kSetO_eq {i : Nat} {o : O} : kSetO i sg Ps (o, S) = (i < sg.length ∧ Ps (.nx, sg.set i (.own o), S)) := by with_unfolding_all rfl
def kAft (i : Nat) (P : Fl × List Sl × List O → Prop) : Fl × List Sl × List O → Prop := fun x => P (x.1, frz i x.2.1, x.2.2)
theorem w_Aft {i : Nat} : Wp (mAft i m1 sg S) Ps E = Wp (m1 sg S) (kAft i Ps) E := by
  unfold mAft
  rw [wp_bind]
  with_unfolding_all rfl
theorem kAft_eq {i : Nat} {fl : Fl} : kAft i Ps (fl, sg, S) = Ps (fl, frz i sg, S) := by with_unfolding_all rfl
def kAsg2 (o : Option (List Sl)) (S : List O) (P : Fl × List Sl × List O → Prop) : Prop := match o with
  | some sg1 => P (.nx, sg1, S)
  | none => False
def kAsg (gg : D → List Sl → Option (List Sl)) (sg : List Sl) (P : Fl × List Sl × List O → Prop) : D × List O → Prop := fun x => kAsg2 (gg x.1 sg) x.2 P
theorem w_Asg {gg : D → List Sl → Option (List Sl)} : Wp (mAsg m gg sg S) Ps E = Wp (m sg S) (kAsg gg sg Ps) E := by
  unfold mAsg
  rw [wp_bind]
  congr 1
  funext x
  unfold kAsg kAsg2
  cases gg x.1 sg <;> (with_unfolding_all rfl)
theorem kAsg_eq {gg : D → List Sl → Option (List Sl)} {d : D} : kAsg gg sg Ps (d, S) = kAsg2 (gg d sg) S Ps := by with_unfolding_all rfl
theorem kAsg2_eq {sg1 : List Sl} : kAsg2 (some sg1) S Ps = Ps (.nx, sg1, S) := by with_unfolding_all rfl
def kFor (gg : D → List Sl → Option (List Sl)) (body : MS) (sg : List Sl) (P : Fl × List Sl × List O → Prop) (E : EP') : List D × List O → Prop := fun x => Wp (loopM gg body x.1 sg x.2) P E
theorem w_For {mi : MA} {gg : D → List Sl → Option (List Sl)} : Wp (mFor mi gg m1 sg S) Ps E = Wp (mi sg S) (kFor gg m1 sg Ps E) E := by
  unfold mFor kFor
  rw [wp_bind]
theorem kFor_eq {gg : D → List Sl → Option (List Sl)} {ds : List D} : kFor gg m1 sg Ps E (ds, S) = Wp (loopM gg m1 ds sg S) Ps E := by with_unfolding_all rfl
theorem w_While {n : Nat} : Wp (mWhile n mt m1 sg S) Ps E = Wp (whileM mt m1 n sg S) Ps E := by with_unfolding_all rfl
/-! a change of an object -/
def kPutO (i : Nat) (o : O) (sg : List Sl) (d : D) (P : Fl × List Sl × List O → Prop) : D × List O → Prop := fun k => match o.put k.1 d with
  | some o' => P (.nx, sg.set i (.own o'), k.2)
  | none => False
def kPutR2 (o : Option O) (n : Nat) (sg : List Sl) (d k : D) (S : List O) (P : Fl × List Sl × List O → Prop) : Prop := match o with
  | some o => match o.put k d with
    | some o' => P (.nx, sg, S.set n o')
    | none => False
  | none => False
def kPutR (n : Nat) (sg : List Sl) (d : D) (P : Fl × List Sl × List O → Prop) : D × List O → Prop := fun k => kPutR2 k.2[n]? n sg d k.1 k.2 P
def kPut2 (s : Option Sl) (i : Nat) (mk : ME) (sg : List Sl) (d : D) (S : List O) (P : Fl × List Sl × List O → Prop) (E : EP') : Prop := match s with
  | some (.own o) => Wp (mk sg S) (kPutO i o sg d P) E
  | some (.val (.ref n)) => Wp (mk sg S) (kPutR n sg d P) E
  | _ => False
def kPut (i : Nat) (mk : ME) (sg : List Sl) (P : Fl × List Sl × List O → Prop) (E : EP') : D × List O → Prop := fun x => kPut2 sg[i]? i mk sg x.1 x.2 P E
theorem w_Put {i : Nat} : Wp (mPut i ma mb sg S) Ps E = Wp (ma sg S) (kPut i mb sg Ps E) E := by
  unfold mPut
  rw [wp_bind]
  congr 1
  funext x
  unfold kPut kPut2
  cases sg[i]? with
  | none => with_unfolding_all rfl
  | some s =>
    cases s with
    | no => with_unfolding_all rfl
    | own o =>
      simp only [wp_bind]
      congr 1
      funext y
      unfold kPutO
      cases o.put y.1 x.1 <;> (with_unfolding_all rfl)
    | val d =>
      cases d <;> try (with_unfolding_all rfl)
      rename_i n
      simp only [wp_bind]
      congr 1
      funext y
      unfold kPutR kPutR2
      cases y.2[n]? with
      | none => with_unfolding_all rfl
      | some o =>
        simp only []
        cases o.put y.1 x.1 <;> (with_unfolding_all rfl)
theorem kPut_eq {i : Nat} {d : D} : kPut i mb sg Ps E (d, S) = kPut2 sg[i]? i mb sg d S Ps E := by with_unfolding_all rfl
theorem kPut2_own {i : Nat} {o : O} {d : D} : kPut2 (some (.own o)) i mb sg d S Ps E = Wp (mb sg S) (kPutO i o sg d Ps) E := by with_unfolding_all rfl
theorem kPut2_ref {i n : Nat} {d : D} : kPut2 (some (.val (.ref n))) i mb sg d S Ps E = Wp (mb sg S) (kPutR n sg d Ps) E := by with_unfolding_all rfl
theorem kPutO_eq {i : Nat} {o o' : O} {d k : D} (e : o.put k d = some o') : kPutO i o sg d Ps (k, S) = Ps (.nx, sg.set i (.own o'), S) := by
  simp [kPutO, e]
theorem kPutR_eq {n : Nat} {d k : D} : kPutR n sg d Ps (k, S) = kPutR2 S[n]? n sg d k S Ps := by with_unfolding_all rfl
theorem kPutR2_eq {n : Nat} {o o' : O} {d k : D} (e : o.put k d = some o') : kPutR2 (some o) n sg d k S Ps = Ps (.nx, sg, S.set n o') := by
  simp [kPutR2, e]
def kOwn2 (i : Nat) (fo : O → List D → Option (O × D)) (o : O) (sg : List Sl) (P : D × List Sl × List O → Prop) : List D × List O → Prop := fun x => match fo o x.1 with
  | some (o', z) => P (z, sg.set i (.own o'), x.2)
  | none => False
def kOwn (s : Option Sl) (i : Nat) (c : O → Bool) (fo : O → List D → Option (O × D)) (ms : MA) (sg : List Sl) (S : List O) (P : D × List Sl × List O → Prop) (E : EP') : Prop := match s with
  | some (.own o) => c o = true ∧ Wp (ms sg S) (kOwn2 i fo o sg P) E
  | _ => False
theorem w_Own {i : Nat} {c : O → Bool} {fo : O → List D → Option (O × D)} {Pw : D × List Sl × List O → Prop} : Wp (mOwn i c fo ms sg S) Pw E = kOwn sg[i]? i c fo ms sg S Pw E := by
  unfold mOwn kOwn
  cases sg[i]? with
  | none => with_unfolding_all rfl
  | some s =>
    cases s with
    | no => with_unfolding_all rfl
    | val d => with_unfolding_all rfl
    | own o =>
      by_cases hx : c o = true
      · simp only [hx, if_true, true_and, wp_bind]
        congr 1
        funext x
        unfold kOwn2
        cases fo o x.1 <;> (with_unfolding_all rfl)
      · simp [hx, Wp]
def kOwnE (P : Fl × List Sl × List O → Prop) : D × List Sl × List O → Prop := fun x => P (.nx, x.2)
def kOwnS (j : Nat) (P : Fl × List Sl × List O → Prop) : D × List Sl × List O → Prop := fun x => P (.nx, x.2.1.set j (.val x.1), x.2.2)
theorem w_OwnE {i : Nat} {c : O → Bool} {fo : O → List D → Option (O × D)} : Wp (mOwnE i c fo ms sg S) Ps E = kOwn sg[i]? i c fo ms sg S (kOwnE Ps) E := by
  unfold mOwnE
  rw [wp_bind, ← w_Own]
  with_unfolding_all rfl
theorem w_OwnS {i j : Nat} {c : O → Bool} {fo : O → List D → Option (O × D)} : Wp (mOwnS i j c fo ms sg S) Ps E = kOwn sg[i]? i c fo ms sg S (kOwnS j Ps) E := by
  unfold mOwnS
  rw [wp_bind, ← w_Own]
  with_unfolding_all rfl
theorem kOwn_eq {i : Nat} {c : O → Bool} {fo : O → List D → Option (O × D)} {o : O} {Pw : D × List Sl × List O → Prop} : kOwn (some (.own o)) i c fo ms sg S Pw E = (c o = true ∧ Wp (ms sg S) (kOwn2 i fo o sg Pw) E) := by with_unfolding_all rfl
theorem kOwn2_eq {i : Nat} {fo : O → List D → Option (O × D)} {o o' : O} {ds : List D} {z : D} {Pw : D × List Sl × List O → Prop} (e : fo o ds = some (o', z)) : kOwn2 i fo o sg Pw (ds, S) = Pw (z, sg.set i (.own o'), S) := by
  simp [kOwn2, e]
theorem kOwnE_eq {d : D} : kOwnE Ps (d, sg, S) = Ps (.nx, sg, S) := by with_unfolding_all rfl
theorem kOwnS_eq {j : Nat} {d : D} : kOwnS j Ps (d, sg, S) = Ps (.nx, sg.set j (.val d), S) := by with_unfolding_all rfl
/-! defs -/
def kFn (P : D × List O → Prop) : Fl × List Sl × List O → Prop := fun x => match x.1 with
  | .nx => P (.non, x.2.2)
  | .rt d => P (d, x.2.2)
  | _ => False
theorem w_Fn {N : List Str} {ds : List D} : Wp (fnF N m1 ds S) P E = Wp (m1 (startS N ds) S) (kFn P) E := by
  unfold fnF
  cases m1 (startS N ds) S with
  | ok x =>
    obtain ⟨fl, sg', S'⟩ := x
    cases fl <;> (with_unfolding_all rfl)
  | ex => with_unfolding_all rfl
  | bad => with_unfolding_all rfl
theorem kFn_nx : kFn P (.nx, sg, S) = P (.non, S) := by with_unfolding_all rfl
theorem kFn_rt {d : D} : kFn P (.rt d, sg, S) = P (d, S) := by with_unfolding_all rfl
/-! ### loops -/
def kLoop (J : List Sl → List O → Prop) (P : Fl × List Sl × List O → Prop) : Fl × List Sl × List O → Prop := fun x => match x.1 with
  | .nx => J x.2.1 x.2.2
  | .ct => J x.2.1 x.2.2
  | .bk => P (.nx, x.2)
  | .rt v => P (.rt v, x.2)
variable {J : List Sl → List O → Prop}
theorem kLoop_nx : kLoop J Ps (.nx, sg, S) = J sg S := by with_unfolding_all rfl
theorem kLoop_ct : kLoop J Ps (.ct, sg, S) = J sg S := by with_unfolding_all rfl
theorem kLoop_bk : kLoop J Ps (.bk, sg, S) = Ps (.nx, sg, S) := by with_unfolding_all rfl
theorem kLoop_rt {d : D} : kLoop J Ps (.rt d, sg, S) = Ps (.rt d, sg, S) := by with_unfolding_all rfl
theorem loopAux {gg : D → List Sl → Option (List Sl)} {body : MS} {P : Fl × List Sl × List O → Prop} {E : EP'} (Inv : Nat → List Sl → List O → Prop) : ∀ {ds : List D} {k : Nat} {sg : List Sl} {S : List O}, Inv k sg S →
    (∀ i d sg S, ds[i]? = some d → Inv (k + i) sg S → ∃ sg1, gg d sg = some sg1 ∧ Wp (body sg1 S) (kLoop (Inv (k + i + 1)) P) E) →
    (∀ sg S, Inv (k + ds.length) sg S → P (.nx, sg, S)) → Wp (loopM gg body ds sg S) P E
  | [], k, sg, S, h0, _, h2 => wp_okI (h2 sg S h0)
  | d :: ds, k, sg, S, h0, h1, h2 => by
    obtain ⟨sg1, e, q⟩ := h1 0 d sg S rfl h0
    unfold loopM
    simp only [e]
    rw [wp_bind]
    refine q.imp fun x hx => ?_
    obtain ⟨fl, sg2, S2⟩ := x
    have go : Inv (k + 1) sg2 S2 → Wp (loopM gg body ds sg2 S2) P E := fun hi => by
      refine loopAux Inv (k := k + 1) hi (fun i d sg S hd hk => ?_) (fun sg S hk => h2 sg S ?_)
      · have := h1 (i + 1) d sg S (by simpa using hd) (by rw [show k + (i + 1) = k + 1 + i by omega]; exact hk)
        rw [show k + (i + 1) + 1 = k + 1 + i + 1 by omega] at this
        exact this
      · rw [List.length_cons, show k + (ds.length + 1) = k + 1 + ds.length by omega]; exact hk
    cases fl with
    | nx => exact go hx
    | ct => exact go hx
    | bk => exact wp_okI hx
    | rt v => exact wp_okI hx
theorem Wp.loop {gg : D → List Sl → Option (List Sl)} {body : MS} {P : Fl × List Sl × List O → Prop} {E : EP'} (Inv : Nat → List Sl → List O → Prop) {ds : List D} {sg : List Sl} {S : List O} (h0 : Inv 0 sg S)
    (h1 : ∀ i d sg S, ds[i]? = some d → Inv i sg S → ∃ sg1, gg d sg = some sg1 ∧ Wp (body sg1 S) (kLoop (Inv (i + 1)) P) E)
    (h2 : ∀ sg S, Inv ds.length sg S → P (.nx, sg, S)) : Wp (loopM gg body ds sg S) P E :=
  loopAux Inv (k := 0) h0 (fun i d sg S hd hk => by rw [Nat.zero_add] at hk ⊢; exact h1 i d sg S hd hk) (fun sg S hk => h2 sg S (by rw [Nat.zero_add] at hk; exact hk))
theorem gNm_ok {i : Nat} {d : D} {sg : List Sl} (h : isOwn sg[i]? = false) : gNm i d sg = some (sg.set i (.val d)) := by
  unfold gNm
  rw [if_neg (by rw [h]; decide)]
def kWh (J : List Sl → List O → Prop) (P : Fl × List Sl × List O → Prop) : Fl × List Sl × List O → Prop := kLoop J P
/-- while: at most n turns are left -/
theorem Wp.wh {mt : MT} {body : MS} {P : Fl × List Sl × List O → Prop} {E : EP'} (Inv : Nat → List Sl → List O → Prop)
    (h1 : ∀ n sg S, Inv n sg S → Wp (mt sg S) (fun t => if t.1 = true then 0 < n ∧ Wp (body sg t.2) (kLoop (fun sg S => ∃ m, m < n ∧ Inv m sg S) P) E else P (.nx, sg, t.2)) E) : ∀ {N n : Nat} {sg : List Sl} {S : List O}, Inv n sg S → n < N → Wp (whileM mt body N sg S) P E
  | 0, n, sg, S, _, hn => absurd hn (by omega)
  | N + 1, n, sg, S, h0, hn => by
    unfold whileM
    rw [wp_bind]
    refine (h1 n sg S h0).imp fun t ht => ?_
    split
    · rename_i ct
      rw [if_pos ct] at ht
      rw [wp_bind]
      refine ht.2.imp fun x hx => ?_
      obtain ⟨fl, sg2, S2⟩ := x
      cases fl with
      | nx => obtain ⟨m, hm, hi⟩ := hx; exact Wp.wh Inv h1 hi (by omega)
      | ct => obtain ⟨m, hm, hi⟩ := hx; exact Wp.wh Inv h1 hi (by omega)
      | bk => exact wp_okI hx
      | rt v => exact wp_okI hx
    · rename_i ct
      rw [if_neg ct] at ht
      exact wp_okI ht
theorem lcAux {gg : D → List Sl → Option (List Sl)} {mt : MT} {me : ME} {P : List D × List O → Prop} {sg : List Sl} {E : EP'} (Inv : Nat → List D → List O → Prop) : ∀ {ds : List D} {k : Nat} {acc : List D} {S : List O}, Inv k acc S →
    (∀ i d acc S, ds[i]? = some d → Inv (k + i) acc S → ∃ sg1, gg d sg = some sg1 ∧ Wp (mt sg1 S) (fun t => if t.1 = true then Wp (me sg1 t.2) (fun x => Inv (k + i + 1) (acc ++ [x.1]) x.2) noE else Inv (k + i + 1) acc t.2) noE) →
    (∀ acc' S, Inv (k + ds.length) acc' S → P (acc', S)) → Wp (lcR gg mt me sg ds S) (fun y => P (acc ++ y.1, y.2)) E
  | [], k, acc, S, h0, _, h2 => by
    refine wp_okI ?_
    rw [List.append_nil]
    exact h2 acc S h0
  | d :: ds, k, acc, S, h0, h1, h2 => by
    obtain ⟨sg1, e, q⟩ := h1 0 d acc S rfl h0
    unfold lcR
    simp only [e]
    have step : ∀ {acc' : List D} {S' : List O}, Inv (k + 1) acc' S' → Wp (lcR gg mt me sg ds S') (fun y => P (acc' ++ y.1, y.2)) E := fun hi => by
      refine lcAux Inv (k := k + 1) hi (fun i d acc S hd hk => ?_) (fun acc' S hk => h2 acc' S ?_)
      · have := h1 (i + 1) d acc S (by simpa using hd) (by rw [show k + (i + 1) = k + 1 + i by omega]; exact hk)
        rw [show k + (i + 1) + 1 = k + 1 + i + 1 by omega] at this
        exact this
      · rw [List.length_cons, show k + (ds.length + 1) = k + 1 + ds.length by omega]; exact hk
    cases et : mt sg1 S with
    | ex => rw [et] at q; exact (wp_exE q).elim
    | bad => rw [et] at q; exact (wp_badE q).elim
    | ok t =>
      obtain ⟨b, S1⟩ := t
      rw [et] at q
      cases b with
      | false =>
        have q0 := wp_okE q
        have q' : Inv (k + 0 + 1) acc S1 := by simpa using q0
        exact step q'
      | true =>
        have q0 := wp_okE q
        have q' : Wp (me sg1 S1) (fun x => Inv (k + 0 + 1) (acc ++ [x.1]) x.2) noE := by simpa using q0
        simp only []
        cases ee : me sg1 S1 with
        | ex => rw [ee] at q'; exact (wp_exE q').elim
        | bad => rw [ee] at q'; exact (wp_badE q').elim
        | ok x =>
          obtain ⟨v, S2⟩ := x
          rw [ee] at q'
          simp only []
          rw [wp_bind]
          have q3 := wp_okE q'
          have q2 : Inv (k + 1) (acc ++ [v]) S2 := q3
          have r := step q2
          refine r.imp fun y hy => ?_
          refine wp_okI ?_
          rw [List.append_assoc] at hy
          exact hy
theorem Wp.lc {gg : D → List Sl → Option (List Sl)} {mt : MT} {me : ME} {P : List D × List O → Prop} {sg : List Sl} {E : EP'} (Inv : Nat → List D → List O → Prop) {ds : List D} {S : List O} (h0 : Inv 0 [] S)
    (h1 : ∀ i d acc S, ds[i]? = some d → Inv i acc S → ∃ sg1, gg d sg = some sg1 ∧ Wp (mt sg1 S) (fun t => if t.1 = true then Wp (me sg1 t.2) (fun x => Inv (i + 1) (acc ++ [x.1]) x.2) noE else Inv (i + 1) acc t.2) noE)
    (h2 : ∀ acc S, Inv ds.length acc S → P (acc, S)) : Wp (lcR gg mt me sg ds S) P E :=
  lcAux Inv (k := 0) (acc := []) h0 (fun i d acc S hd hk => by rw [Nat.zero_add] at hk ⊢; exact h1 i d acc S hd hk) (fun acc S hk => h2 acc S (by rw [Nat.zero_add] at hk; exact hk))
/-- a comprehension that changes nothing: as a list -/
theorem lc_pure {gg : D → List Sl → Option (List Sl)} {mt : MT} {me : ME} {sg : List Sl} {S : List O} {α : Type} {en : α → D} {p : α → Bool} {f : α → D} : ∀ {xs : List α},
    (∀ x, x ∈ xs → ∃ sg1, gg (en x) sg = some sg1 ∧ mt sg1 S = .ok (p x, S) ∧ (p x = true → me sg1 S = .ok (f x, S))) → lcR gg mt me sg (xs.map en) S = .ok ((xs.filter p).map f, S)
  | [], _ => rfl
  | x :: xs, h => by
    obtain ⟨sg1, e1, e2, e3⟩ := h x List.mem_cons_self
    have ih := lc_pure (xs := xs) fun y hy => h y (List.mem_cons_of_mem _ hy)
    rw [List.map_cons, lcR]
    simp only [e1, e2]
    cases hp : p x with
    | true =>
      simp only [e3 hp, ih, List.filter_cons, hp, if_true, List.map_cons]
      rfl
    | false =>
      simp only [ih, List.filter_cons, hp]
      rfl
end
end D2

namespace D2
open PySem PySem.Spec PyProof.Rows L2

/-! ### values of operators -/
section
variable {P : D × List O → Prop} {S : List O}
theorem o_addI {i j : Int} : kO (D.add (.int i) (.int j)) S P = P (.int (i + j), S) := by with_unfolding_all rfl
theorem ok_ite {c : Prop} [Decidable c] {d : D} : kO (if c then some d else none) S P = (c ∧ P (d, S)) := by
  by_cases h : c
  · simp [h, kO]
  · simp [h, kO]
theorem o_addS {x y : Str} : kO (D.add (.str x) (.str y)) S P = (x.length + y.length ≤ 16777216 ∧ P (.str (x ++ y), S)) := ok_ite
theorem o_addT {x y : List D} : kO (D.add (.tup x) (.tup y)) S P = (x.length + y.length ≤ 16777216 ∧ P (.tup (x ++ y), S)) := ok_ite
theorem o_addL {x y : List D} : kO (D.add (.lst x) (.lst y)) S P = (x.length + y.length ≤ 16777216 ∧ P (.lst (x ++ y), S)) := ok_ite
theorem o_sub {i j : Int} : kO (D.sub (.int i) (.int j)) S P = P (.int (i - j), S) := by with_unfolding_all rfl
theorem o_iop {C : Int → Int → Bool} {g : Int → Int → Int} {i j : Int} : kO (D.iop C g (.int i) (.int j)) S P = (C i j = true ∧ P (.int (g i j), S)) := ok_ite
theorem o_fdiv {i j : Int} : kO (D.fdiv (.int i) (.int j)) S P = ((0 < j ∧ j < 1073741824) ∧ P (.int (i / j), S)) := by
  rw [o_iop, decide_eq_true_eq]
theorem o_mod {i j : Int} : kO (D.mod (.int i) (.int j)) S P = (0 < j ∧ P (.int (i % j), S)) := by
  rw [o_iop, decide_eq_true_eq]
theorem o_pow {i j : Int} : kO (D.powI (.int i) (.int j)) S P = ((0 ≤ j ∧ j ≤ 1000000 ∧ -18446744073709551616 < i ∧ i < 18446744073709551616) ∧ P (.int (i ^ j.toNat), S)) := by
  rw [o_iop, decide_eq_true_eq, show (i.natAbs < 18446744073709551616) = (-18446744073709551616 < i ∧ i < 18446744073709551616) from propext (by omega)]
theorem o_shl {i j : Int} : kO (D.shl (.int i) (.int j)) S P = ((0 ≤ j ∧ j ≤ 1000000 ∧ -18446744073709551616 < i ∧ i < 18446744073709551616) ∧ P (.int (i * 2 ^ j.toNat), S)) := by
  rw [o_iop, decide_eq_true_eq, show (i.natAbs < 18446744073709551616) = (-18446744073709551616 < i ∧ i < 18446744073709551616) from propext (by omega)]
theorem o_shr {i j : Int} : kO (D.shr (.int i) (.int j)) S P = (0 ≤ j ∧ P (.int (i / 2 ^ j.toNat), S)) := by
  rw [o_iop, decide_eq_true_eq]
theorem o_and {i j : Int} : kO (D.and (.int i) (.int j)) S P = P (.int (Builtin.bitAnd i j), S) := by with_unfolding_all rfl
theorem o_or {i j : Int} : kO (D.or (.int i) (.int j)) S P = P (.int (Builtin.bitOr i j), S) := by with_unfolding_all rfl
theorem o_mul {i j : Int} : kO (D.mul (.int i) (.int j)) S P = (((-18446744073709551616 < i ∧ i < 18446744073709551616) ∨ (-18446744073709551616 < j ∧ j < 18446744073709551616)) ∧ P (.int (i * j), S)) := by
  unfold D.mul
  rw [ok_ite, decide_eq_true_eq]
theorem o_lt {i j : Int} : kO (D.lt (.int i) (.int j)) S P = P (.bl (decide (i < j)), S) := by with_unfolding_all rfl
theorem o_le {i j : Int} : kO (D.le (.int i) (.int j)) S P = P (.bl (decide (i ≤ j)), S) := by with_unfolding_all rfl
theorem o_gt {i j : Int} : kO (D.gt (.int i) (.int j)) S P = P (.bl (decide (j < i)), S) := by with_unfolding_all rfl
theorem o_ge {i j : Int} : kO (D.ge (.int i) (.int j)) S P = P (.bl (decide (j ≤ i)), S) := by with_unfolding_all rfl
theorem lt_eq {i j : Int} : D.lt (.int i) (.int j) = some (.bl (decide (i < j))) := by with_unfolding_all rfl
theorem le_eq {i j : Int} : D.le (.int i) (.int j) = some (.bl (decide (i ≤ j))) := by with_unfolding_all rfl
theorem gt_eq {i j : Int} : D.gt (.int i) (.int j) = some (.bl (decide (j < i))) := by with_unfolding_all rfl
theorem ge_eq {i j : Int} : D.ge (.int i) (.int j) = some (.bl (decide (j ≤ i))) := by with_unfolding_all rfl
theorem o_neg {i : Int} : kO (D.neg (.int i)) S P = P (.int (-i), S) := by with_unfolding_all rfl
theorem o_nob {b : Bool} : kO (D.nob (.bl b)) S P = P (.bl (!b), S) := by with_unfolding_all rfl
theorem eqv_int {i j : Int} : D.eqv (.int i) (.int j) = decide (i = j) := by
  simp only [D.eqv, D.pd, PyData.eqv]
  try rfl
theorem eqv_str {i j : Str} : D.eqv (.str i) (.str j) = decide (i = j) := by
  simp only [D.eqv, D.pd, PyData.eqv]
  try rfl
theorem eqv_bl {i j : Bool} : D.eqv (.bl i) (.bl j) = decide (i = j) := by
  simp only [D.eqv, D.pd, PyData.eqv]
  try rfl
theorem o_eqG {x y : D} : kO (D.eqo x y) S P = (x.okq 50 = true ∧ y.okq 50 = true ∧ P (.bl (D.eqv x y), S)) := by
  unfold D.eqo
  by_cases h : x.okq 50 = true
  · rw [if_pos h, ok_ite]
    simp [h]
  · simp [h, kO]
theorem o_neG {x y : D} : kO (D.neo x y) S P = (x.okq 50 = true ∧ y.okq 50 = true ∧ P (.bl (!D.eqv x y), S)) := by
  unfold D.neo
  by_cases h : x.okq 50 = true
  · rw [if_pos h, ok_ite]
    simp [h]
  · simp [h, kO]
theorem o_eqI {i j : Int} : kO (D.eqo (.int i) (.int j)) S P = P (.bl (decide (i = j)), S) := by
  rw [o_eqG, eqv_int]
  simp [D.okq]
theorem o_eqS {i j : Str} : kO (D.eqo (.str i) (.str j)) S P = P (.bl (decide (i = j)), S) := by
  rw [o_eqG, eqv_str]
  simp [D.okq]
theorem o_neI {i j : Int} : kO (D.neo (.int i) (.int j)) S P = P (.bl (!decide (i = j)), S) := by
  rw [o_neG, eqv_int]
  simp [D.okq]
theorem o_neS {i j : Str} : kO (D.neo (.str i) (.str j)) S P = P (.bl (!decide (i = j)), S) := by
  rw [o_neG, eqv_str]
  simp [D.okq]
theorem eqo_int {i j : Int} : D.eqo (.int i) (.int j) = some (.bl (decide (i = j))) := by
  simp [D.eqo, D.okq, eqv_int]
/-! parts -/
theorem ixS_tup {ds : List D} {i : Int} : ixS S (.tup ds) (.int i) = atI ds i := by with_unfolding_all rfl
theorem ixS_lst {ds : List D} {i : Int} : ixS S (.lst ds) (.int i) = atI ds i := by with_unfolding_all rfl
theorem ixS_dic {ks : List Key} {ds : List D} {y : D} : ixS S (.dic ks ds) y = D.ixo (.dic ks ds) y := by with_unfolding_all rfl
theorem ixS_ref0 {o : O} {y : D} : ixS (o :: S) (.ref 0) y = D.ixo o.toD y := by with_unfolding_all rfl
theorem ixS_ref1 {o p : O} {y : D} : ixS (o :: p :: S) (.ref 1) y = D.ixo p.toD y := by with_unfolding_all rfl
theorem ixo_tup {ds : List D} {i : Int} : D.ixo (.tup ds) (.int i) = atI ds i := by with_unfolding_all rfl
theorem ixo_lst {ds : List D} {i : Int} : D.ixo (.lst ds) (.int i) = atI ds i := by with_unfolding_all rfl
theorem ixo_dicI {ks : List Key} {ds : List D} {i : Int} : D.ixo (.dic ks ds) (.int i) = dicGet ks ds (.inl i) := by with_unfolding_all rfl
theorem ixo_dicS {ks : List Key} {ds : List D} {x : Str} : D.ixo (.dic ks ds) (.str x) = dicGet ks ds (.inr x) := by with_unfolding_all rfl
variable {α : Type} {x0 x1 x2 x3 x4 x5 x6 x7 x8 x9 : α} {xs : List α}
theorem atI_0 : atI (x0 :: xs) 0 = some x0 := atI_nat (j := 0) rfl
theorem atI_1 : atI (x0 :: x1 :: xs) 1 = some x1 := atI_nat (j := 1) rfl
theorem atI_2 : atI (x0 :: x1 :: x2 :: xs) 2 = some x2 := atI_nat (j := 2) rfl
theorem atI_3 : atI (x0 :: x1 :: x2 :: x3 :: xs) 3 = some x3 := atI_nat (j := 3) rfl
theorem atI_4 : atI (x0 :: x1 :: x2 :: x3 :: x4 :: xs) 4 = some x4 := atI_nat (j := 4) rfl
theorem atI_5 : atI (x0 :: x1 :: x2 :: x3 :: x4 :: x5 :: xs) 5 = some x5 := atI_nat (j := 5) rfl
theorem atI_6 : atI (x0 :: x1 :: x2 :: x3 :: x4 :: x5 :: x6 :: xs) 6 = some x6 := atI_nat (j := 6) rfl
theorem atI_7 : atI (x0 :: x1 :: x2 :: x3 :: x4 :: x5 :: x6 :: x7 :: xs) 7 = some x7 := atI_nat (j := 7) rfl
theorem atI_8 : atI (x0 :: x1 :: x2 :: x3 :: x4 :: x5 :: x6 :: x7 :: x8 :: xs) 8 = some x8 := atI_nat (j := 8) rfl
/-! places written -/
section
variable {Ps : Fl × List Sl × List O → Prop} {sg : List Sl} {d y0 y1 y2 y3 : D} {ys : List D} {n : Nat} {i : Nat}
theorem put_at {ds : List D} {j : Nat} {d : D} (h : j < ds.length) : O.put (.lst ds) (.int (j : Int)) d = some (.lst (ds.set j d)) := by
  unfold O.put
  have e : ixN ds.length (j : Int) = some j := by
    unfold ixN
    rw [if_pos (by omega), if_pos (by omega)]
    simp
  simp [e]
theorem pr_0 : kPutR2 (some (.lst (y0 :: ys))) n sg d (.int 0) S Ps = Ps (.nx, sg, S.set n (.lst (d :: ys))) := kPutR2_eq (put_at (j := 0) (by simp))
theorem pr_1 : kPutR2 (some (.lst (y0 :: y1 :: ys))) n sg d (.int 1) S Ps = Ps (.nx, sg, S.set n (.lst (y0 :: d :: ys))) := kPutR2_eq (put_at (j := 1) (by simp))
theorem pr_2 : kPutR2 (some (.lst (y0 :: y1 :: y2 :: ys))) n sg d (.int 2) S Ps = Ps (.nx, sg, S.set n (.lst (y0 :: y1 :: d :: ys))) := kPutR2_eq (put_at (j := 2) (by simp))
theorem pr_3 : kPutR2 (some (.lst (y0 :: y1 :: y2 :: y3 :: ys))) n sg d (.int 3) S Ps = Ps (.nx, sg, S.set n (.lst (y0 :: y1 :: y2 :: d :: ys))) := kPutR2_eq (put_at (j := 3) (by simp))
/-- a dict that a name owns -/
theorem po_dicI {ks : List Key} {ds : List D} {k : Int} : kPutO i (.dic ks ds) sg d Ps (.int k, S) = (ks.length < 16777216 ∧ Ps (.nx, sg.set i (.own (.dic (dicPut ks ds (.inl k) d).1 (dicPut ks ds (.inl k) d).2)), S)) := by
  unfold kPutO O.put
  simp only [D.key?]
  by_cases h : ks.length < 16777216
  · simp [h]
  · simp [h]
theorem po_dicS {ks : List Key} {ds : List D} {k : Str} : kPutO i (.dic ks ds) sg d Ps (.str k, S) = (ks.length < 16777216 ∧ Ps (.nx, sg.set i (.own (.dic (dicPut ks ds (.inr k) d).1 (dicPut ks ds (.inr k) d).2)), S)) := by
  unfold kPutO O.put
  simp only [D.key?]
  by_cases h : ks.length < 16777216
  · simp [h]
  · simp [h]
theorem po_lst {ds : List D} {j : Nat} (h : j < ds.length) : kPutO i (.lst ds) sg d Ps (.int (j : Int), S) = Ps (.nx, sg.set i (.own (.lst (ds.set j d))), S) := kPutO_eq (put_at h)
/-- a list that a name owns -/
theorem app_eq {ds : List D} {Pw : D × List Sl × List O → Prop} : kOwn2 i O.append (.lst ds) sg Pw ([d], S) = (ds.length < 16777216 ∧ Pw (.non, sg.set i (.own (.lst (ds ++ [d]))), S)) := by
  unfold kOwn2 O.append
  by_cases h : ds.length < 16777216
  · simp [h]
  · simp [h]
theorem ext_eq {ds es : List D} {Pw : D × List Sl × List O → Prop} : kOwn2 i O.extend (.lst ds) sg Pw ([.lst es], S) = (ds.length + es.length ≤ 16777216 ∧ Pw (.non, sg.set i (.own (.lst (ds ++ es))), S)) := by
  unfold kOwn2 O.extend
  by_cases h : ds.length + es.length ≤ 16777216
  · simp [h]
  · simp [h]
theorem isL_eq {ds : List D} : O.isL (.lst ds) = true := rfl
theorem isD_eq {ks : List Key} {ds : List D} : O.isD (.dic ks ds) = true := rfl
theorem DisL_eq {ds : List D} : D.isL (.lst ds) = true := rfl
end
/-! built-ins -/
theorem o_lenL {ds : List D} : kO (D.len (.lst ds)) S P = P (.int (ds.length : Int), S) := by with_unfolding_all rfl
theorem o_lenT {ds : List D} : kO (D.len (.tup ds)) S P = P (.int (ds.length : Int), S) := by with_unfolding_all rfl
theorem o_lenD {ks : List Key} {ds : List D} : kO (D.len (.dic ks ds)) S P = P (.int (ks.length : Int), S) := by with_unfolding_all rfl
theorem o_lenS {x : Str} : kO (D.len (.str x)) S P = (x.length ≤ 16777216 ∧ P (.int (x.length : Int), S)) := ok_ite
theorem o_toI {i : Int} : kO (D.toInt (.int i)) S P = P (.int i, S) := by with_unfolding_all rfl
theorem o_abs {i : Int} : kO (D.abs (.int i)) S P = P (.int (if i < 0 then -i else i), S) := by with_unfolding_all rfl
theorem o_strI {i : Int} : kO (D.toStrI (.int i)) S P = (i.natAbs.log2 < 1920 ∧ P (.str (Str.ofString (toString i)), S)) := ok_ite
theorem o_max2 {i j : Int} : kO (D.max2 (.int i) (.int j)) S P = P (.int (if j > i then j else i), S) := by with_unfolding_all rfl
theorem o_min2 {i j : Int} : kO (D.min2 (.int i) (.int j)) S P = P (.int (if j < i then j else i), S) := by with_unfolding_all rfl
theorem o_toT {ds : List D} : kO (D.toTup (.lst ds)) S P = P (.tup ds, S) := by with_unfolding_all rfl
theorem o_toTT {ds : List D} : kO (D.toTup (.tup ds)) S P = P (.tup ds, S) := by with_unfolding_all rfl
theorem o_toL {ds : List D} : kO (D.toLst (.lst ds)) S P = P (.lst ds, S) := by with_unfolding_all rfl
theorem o_toLT {ds : List D} : kO (D.toLst (.tup ds)) S P = P (.lst ds, S) := by with_unfolding_all rfl
theorem o_intsL {f : List Int → Option D} {ds : List D} {ns : List Int} (h : D.ints ds = some ns) : kO (D.intsL f (.lst ds)) S P = kO (f ns) S P := by
  simp only [D.intsL, h]
theorem o_sloT {lo hi : Option Int} {ds : List D} : kO (D.slo lo hi (.tup ds)) S P = P (.tup (D2.cutD ds lo hi), S) := by with_unfolding_all rfl
theorem o_sloL {lo hi : Option Int} {ds : List D} : kO (D.slo lo hi (.lst ds)) S P = P (.lst (D2.cutD ds lo hi), S) := by with_unfolding_all rfl
theorem o_sloS {lo hi : Option Int} {x : Str} : kO (D.slo lo hi (.str x)) S P = (x.length ≤ 16777216 ∧ P (.str (L2.cutS x lo hi), S)) := ok_ite
/-! targets -/
theorem g_Nm {i : Nat} {d : D} {sg : List Sl} : gNm i d sg = if isOwn sg[i]? = true then none else some (sg.set i (.val d)) := rfl
theorem g_Tu {n : Nat} {gs : List D → List Sl → Option (List Sl)} {ds : List D} {sg : List Sl} : gTu n gs (.tup ds) sg = if ds.length = n then gs ds sg else none := rfl
theorem g_Cons {g : D → List Sl → Option (List Sl)} {gs : List D → List Sl → Option (List Sl)} {d : D} {ds : List D} {sg : List Sl} : gsCons g gs (d :: ds) sg = (g d sg).bind fun sg1 => gs ds sg1 := rfl
theorem g_Nil {sg : List Sl} : gsNil [] sg = some sg := rfl
theorem own_val {d : D} : isOwn (some (.val d)) = false := rfl
theorem own_no : isOwn (some .no) = false := rfl
theorem frz_own {i : Nat} {sg : List Sl} {o : O} (h : sg[i]? = some (.own o)) : frz i sg = sg.set i (.val o.toD) := by
  simp [frz, h]
/-! dicts of unlike keys -/
theorem merge_app : ∀ (ps : List (Key × D)) (ks : List Key) (ds : List D), ks.length = ds.length → (ks ++ ps.map (·.1)).Nodup → dicMerge ps ks ds = (ks ++ ps.map (·.1), ds ++ ps.map (·.2))
  | [], ks, ds, _, _ => by simp [dicMerge]
  | (k, d) :: ps, ks, ds, hl, h => by
    have hk : (ks.any fun j => decide (j = k)) = false := by
      rw [List.any_eq_false]
      intro j hj e
      have e' : j = k := of_decide_eq_true e
      subst e'
      rw [List.nodup_append] at h
      exact h.2.2 j hj j (by simp) rfl
    have ep : dicPut ks ds k d = (ks ++ [k], ds ++ [d]) := by
      unfold dicPut
      rw [hk]
      rfl
    rw [dicMerge, ep]
    rw [merge_app ps (ks ++ [k]) (ds ++ [d]) (by simp [hl]) (by simpa using h)]
    simp
theorem merge_new {ps : List (Key × D)} (h : (ps.map (·.1)).Nodup) : dicMerge ps [] [] = (ps.map (·.1), ps.map (·.2)) := by
  have := merge_app ps [] [] rfl (by simpa using h)
  simpa using this
theorem dGet_cons {k j : Key} {ks : List Key} {d : D} {ds : List D} : dicGet (k :: ks) (d :: ds) j = if k = j then some d else dicGet ks ds j := rfl
theorem dGet_nil {j : Key} {ds : List D} : dicGet [] ds j = none := rfl
theorem dGet2_S {ks : List Key} {ds : List D} {x : Str} {z : D} : dGet2 (.dic ks ds) (.str x) z = some ((dicGet ks ds (.inr x)).getD z) := rfl
theorem dGet2_I {ks : List Key} {ds : List D} {x : Int} {z : D} : dGet2 (.dic ks ds) (.int x) z = some ((dicGet ks ds (.inl x)).getD z) := rfl
theorem idxD_str (f : Str) : ∀ l : List Str, idxD (.str f) (l.map D.str) = idxS f l
  | [] => rfl
  | y :: ys => by
    rw [List.map_cons, idxD, idxS, eqv_str, idxD_str f ys]
    by_cases h : y = f
    · simp [h]
    · simp [h]
theorem flat_strs : ∀ l : List Str, (l.map D.str).all flatD = true
  | [] => rfl
  | y :: ys => by
    rw [List.map_cons, List.all_cons, flat_strs ys]
    rfl
theorem index_str {f : Str} {l : List Str} {k : Nat} (h : idxS f l = some k) : D.index (.lst (l.map D.str)) [.str f] = some (.int (k : Int)) := by
  unfold D.index
  simp only [flat_strs, idxD_str, h]
  rfl
theorem cut_lo {ds : List D} {k : Nat} (h : k ≤ ds.length) : D2.cutD ds none (some (k : Int)) = ds.take k := by
  unfold D2.cutD HT.sIx
  simp only []
  rw [if_neg (by omega)]
  rw [Int.toNat_natCast, Nat.min_eq_left h]
  simp
theorem cut_hi {ds : List D} {k : Nat} (h : k ≤ ds.length) : D2.cutD ds (some (k : Int)) none = ds.drop k := by
  unfold D2.cutD HT.sIx
  simp only []
  rw [if_neg (by omega)]
  rw [Int.toNat_natCast, Nat.min_eq_left h]
  rw [List.take_of_length_le (by rw [List.length_drop]; exact Nat.le_refl _)]
theorem okqA_ints (n : Nat) : ∀ ns : List Int, D.okqA (ns.map D.int) n = true
  | [] => rfl
  | x :: ns => by
    rw [List.map_cons, D.okqA, okqA_ints n ns]
    cases n <;> rfl
theorem okqA_bls (n : Nat) : ∀ ns : List Bool, D.okqA (ns.map D.bl) n = true
  | [] => rfl
  | x :: ns => by
    rw [List.map_cons, D.okqA, okqA_bls n ns]
    cases n <;> rfl
/-! equal data -/
mutual
theorem eqv_refl : ∀ (d : D), D.eqv d d = true
  | .non => by simp [D.eqv, D.pd, PyData.eqv]
  | .bl b => by simp [D.eqv, D.pd, PyData.eqv]
  | .int b => by simp [D.eqv, D.pd, PyData.eqv]
  | .str b => by simp [D.eqv, D.pd, PyData.eqv]
  | .tup ds => by
    have := eqvA_refl ds
    simp only [D.eqv, D.pd, PyData.eqv]
    exact this
  | .lst ds => by
    have := eqvA_refl ds
    simp only [D.eqv, D.pd, PyData.eqv]
    exact this
  | .dic _ _ => by simp [D.eqv, D.pd, PyData.eqv]
  | .rng _ _ => by simp [D.eqv, D.pd, PyData.eqv]
  | .xd _ _ => by simp [D.eqv, D.pd, PyData.eqv]
  | .ref _ => by simp [D.eqv, D.pd, PyData.eqv]
theorem eqvA_refl : ∀ (ds : List D), PyData.eqvAll (D.pdA ds) (D.pdA ds) = true
  | [] => by simp [D.pdA, PyData.eqvAll]
  | d :: ds => by
    have h1 := eqv_refl d
    have h2 := eqvA_refl ds
    simp only [D.pdA, PyData.eqvAll, Bool.and_eq_true]
    exact ⟨h1, h2⟩
end
theorem o_eqR {x : D} : kO (D.eqo x x) S P = (x.okq 50 = true ∧ P (.bl true, S)) := by
  rw [o_eqG, eqv_refl]
  simp
theorem o_neR {x : D} : kO (D.neo x x) S P = (x.okq 50 = true ∧ P (.bl false, S)) := by
  rw [o_neG, eqv_refl]
  simp
end
end D2

namespace D2
open PySem PySem.Spec PyProof.Rows L2
section
variable {P : D × List O → Prop} {Ps : Fl × List Sl × List O → Prop} {Pa : List D × List O → Prop} {Po : O × List O → Prop} {E : EP'} {sg : List Sl} {S : List O} {m : ME} {ms : MA}
def kIr3 (P : List D × List O → Prop) : List D × List O → Prop := fun x => match thr3 x.1 with
  | some (i, j, c) => rgOk i j c = true ∧ P (rngC i c (Builtin.Range.rangeSize i j c).toNat, x.2)
  | none => False
theorem w_Ir3 : Wp (mIr3 ms sg S) Pa E = Wp (ms sg S) (kIr3 Pa) E := by
  unfold mIr3
  rw [wp_bind]
  congr 1
  funext x
  unfold kIr3
  cases h : thr3 x.1 with
  | none => with_unfolding_all rfl
  | some p =>
    obtain ⟨i, j, c⟩ := p
    by_cases hx : rgOk i j c = true
    · simp [hx, wp_ok]
    · simp [hx, Wp]
theorem kIr3_eq {i j c : Int} : kIr3 Pa ([.int i, .int j, .int c], S) = (rgOk i j c = true ∧ Pa (rngC i c (Builtin.Range.rangeSize i j c).toNat, S)) := by with_unfolding_all rfl
def kLrg (P : O × List O → Prop) : D × List O → Prop := fun x => match x.1 with
  | .int n => (0 ≤ n ∧ n ≤ 16777216) ∧ P (.lst (rngD 0 n.toNat), x.2)
  | _ => False
theorem w_Lrg : Wp (oLrg m sg S) Po E = Wp (m sg S) (kLrg Po) E := by
  unfold oLrg
  rw [wp_bind]
  congr 1
  funext x
  obtain ⟨d, T⟩ := x
  unfold kLrg
  cases d <;> try (with_unfolding_all rfl)
  rename_i n
  by_cases hx : 0 ≤ n ∧ n ≤ 16777216
  · simp [hx, wp_ok]
  · simp [hx, Wp]
theorem kLrg_eq {n : Int} : kLrg Po (.int n, S) = ((0 ≤ n ∧ n ≤ 16777216) ∧ Po (.lst (rngD 0 n.toNat), S)) := by with_unfolding_all rfl
def kApp1 (i j : Nat) (xs ys : List D) (sg : List Sl) (P : Fl × List Sl × List O → Prop) : D × List O → Prop := fun z => match z.1 with
  | .int k => match popAt ys k with
    | some (ys', d) => xs.length < 16777216 ∧ P (.nx, (sg.set j (.own (.lst ys'))).set i (.own (.lst (xs ++ [d]))), z.2)
    | none => False
  | _ => False
def kApp0 (s t : Option Sl) (i j : Nat) (m : ME) (sg : List Sl) (S : List O) (P : Fl × List Sl × List O → Prop) (E : EP') : Prop := match s, t with
  | some (.own (.lst xs)), some (.own (.lst ys)) => Wp (m sg S) (kApp1 i j xs ys sg P) E
  | _, _ => False
theorem w_AppPop {i j : Nat} : Wp (mAppPop i j m sg S) Ps E = kApp0 sg[i]? sg[j]? i j m sg S Ps E := by
  unfold mAppPop kApp0
  generalize sg[i]? = s
  generalize sg[j]? = t
  rcases s with _ | s
  · with_unfolding_all rfl
  rcases s with _ | _ | s
  · with_unfolding_all rfl
  · with_unfolding_all rfl
  rcases t with _ | t
  · cases s <;> (with_unfolding_all rfl)
  rcases t with _ | _ | t
  · cases s <;> (with_unfolding_all rfl)
  · cases s <;> (with_unfolding_all rfl)
  rcases s with xs | ⟨xk, xs⟩
  · rcases t with ys | ⟨yk, ys⟩
    · simp only []
      rw [wp_bind]
      congr 1
      funext z
      obtain ⟨d, T⟩ := z
      unfold kApp1
      cases d <;> try (with_unfolding_all rfl)
      rename_i k
      simp only []
      cases popAt ys k with
      | none => with_unfolding_all rfl
      | some p =>
        obtain ⟨ys', d⟩ := p
        by_cases hx : xs.length < 16777216
        · simp [hx, wp_ok]
        · simp [hx, Wp]
    · with_unfolding_all rfl
  · cases t <;> (with_unfolding_all rfl)
theorem kApp0_eq {i j : Nat} {xs ys : List D} : kApp0 (some (.own (.lst xs))) (some (.own (.lst ys))) i j m sg S Ps E = Wp (m sg S) (kApp1 i j xs ys sg Ps) E := by with_unfolding_all rfl
theorem kApp1_eq {i j : Nat} {xs ys ys' : List D} {k : Int} {d : D} (h : popAt ys k = some (ys', d)) : kApp1 i j xs ys sg Ps (.int k, S) = (xs.length < 16777216 ∧ Ps (.nx, (sg.set j (.own (.lst ys'))).set i (.own (.lst (xs ++ [d]))), S)) := by
  simp [kApp1, h]
theorem o_sset {l : List (List Int)} : kO (D.sset (.lst (l.map tupI))) S P = (okU l = true ∧ P (.lst ((sortU l).map tupI), S)) := by
  simp only [D.sset, tupsOf_map]
  exact ok_ite
theorem o_ssetI {ns : List Int} : kO (D.ssetI (.lst (ns.map D.int))) S P = (ns.length < 64 ∧ P (.lst ((sortS ns).map D.int), S)) := by
  unfold D.ssetI
  rw [o_intsL (D2.ints_map ns)]
  exact ok_ite
theorem o_toIb {b : Bool} : kO (D.toInt (.bl b)) S P = P (.int (if b then 1 else 0), S) := by with_unfolding_all rfl
theorem fl_int {i : Int} : ((D.int i).flat = true) = True := eq_true rfl
theorem fl_bl {i : Bool} : ((D.bl i).flat = true) = True := eq_true rfl
theorem fl_str {i : Str} : ((D.str i).flat = true) = True := eq_true rfl
theorem fl_non : (D.non.flat = true) = True := eq_true rfl
theorem isNon_non : isNon .non = true := by with_unfolding_all rfl
theorem isNon_int {i : Int} : isNon (.int i) = false := by with_unfolding_all rfl
theorem isNon_tup {ds : List D} : isNon (.tup ds) = false := by with_unfolding_all rfl
theorem any_ints (i : Int) : ∀ ns : List Int, ((ns.map D.int).any fun y => D.eqv y (.int i)) = decide (i ∈ ns)
  | [] => by simp
  | n :: ns => by
    rw [List.map_cons, List.any_cons, any_ints i ns, eqv_int]
    by_cases h : n = i
    · simp [h]
    · simp [h, Ne.symm h]
theorem o_inI {i : Int} {ns : List Int} : kO (D.ino (.int i) (.tup (ns.map D.int))) S P = P (.bl (decide (i ∈ ns)), S) := by
  have h1 : D.okq (.int i) 50 = true := rfl
  simp only [D.ino, D.inB, h1, if_true, okqA_ints, any_ints]
  rfl
theorem o_ninI {i : Int} {ns : List Int} : kO (D.nino (.int i) (.tup (ns.map D.int))) S P = P (.bl (!decide (i ∈ ns)), S) := by
  have h1 : D.okq (.int i) 50 = true := rfl
  simp only [D.nino, D.inB, h1, if_true, okqA_ints, any_ints]
  rfl
theorem o_ninE {i : Int} : kO (D.nino (.int i) (.tup [])) S P = P (.bl true, S) := by
  have := o_ninI (i := i) (ns := []) (S := S) (P := P)
  simpa using this
end
end D2

namespace D2
open PySem PySem.Spec PyProof.Rows L2
section
variable {P : D × List O → Prop} {Ps : Fl × List Sl × List O → Prop} {Pa : List D × List O → Prop} {Po : O × List O → Prop} {E : EP'} {sg : List Sl} {S : List O} {m : ME} {ms : MA}
theorem w_Never : Wp (mNever sg S) Ps E = False := by with_unfolding_all rfl
def kIrv (P : List D × List O → Prop) : D × List O → Prop := fun x => match x.1 with
  | .rng lo hi => (lim62 lo && lim62 hi) = true ∧ P (rngD lo (hi - lo).toNat, x.2)
  | _ => False
theorem w_Irv : Wp (mIrv m sg S) Pa E = Wp (m sg S) (kIrv Pa) E := by
  unfold mIrv
  rw [wp_bind]
  congr 1
  funext x
  obtain ⟨d, T⟩ := x
  unfold kIrv
  cases d <;> try (with_unfolding_all rfl)
  rename_i lo hi
  by_cases hx : (lim62 lo && lim62 hi) = true
  · simp only [hx, if_true, wp_ok, true_and]
  · have : (lim62 lo && lim62 hi) = false := by simpa using hx
    simp [this, Wp]
theorem kIrv_eq {lo hi : Int} : kIrv Pa (.rng lo hi, S) = ((lim62 lo && lim62 hi) = true ∧ Pa (rngD lo (hi - lo).toNat, S)) := by with_unfolding_all rfl
def kStar2 (ds : List D) (P : List D × List O → Prop) : List D × List O → Prop := fun y => P (ds ++ y.1, y.2)
def kStar (ms : MA) (sg : List Sl) (P : List D × List O → Prop) (E : EP') : D × List O → Prop := fun x => match unroll x.1 with
  | some ds => Wp (ms sg x.2) (kStar2 ds P) E
  | none => False
theorem w_Star : Wp (mStar m ms sg S) Pa E = Wp (m sg S) (kStar ms sg Pa E) E := by
  unfold mStar
  rw [wp_bind]
  congr 1
  funext x
  unfold kStar
  cases unroll x.1 with
  | none => with_unfolding_all rfl
  | some ds =>
    simp only [wp_bind, wp_ok]
    rfl
theorem kStar_tup {ds : List D} : kStar ms sg Pa E (.tup ds, S) = Wp (ms sg S) (kStar2 ds Pa) E := by with_unfolding_all rfl
theorem kStar_lst {ds : List D} : kStar ms sg Pa E (.lst ds, S) = Wp (ms sg S) (kStar2 ds Pa) E := by with_unfolding_all rfl
theorem kStar2_eq {ds ys : List D} : kStar2 ds Pa (ys, S) = Pa (ds ++ ys, S) := by with_unfolding_all rfl
theorem o_mkRng {j : Int} : kO (D.mkRng (.int j)) S P = (lim62 j = true ∧ P (.rng 0 j, S)) := ok_ite
theorem isNon_bl {b : Bool} : isNon (.bl b) = false := by with_unfolding_all rfl
theorem o_eqB {a b : Bool} : kO (D.eqo (.bl a) (.bl b)) S P = P (.bl (decide (a = b)), S) := by
  rw [o_eqG, eqv_bl]
  simp [D.okq]
end
end D2

namespace D2
open PySem PySem.Spec PyProof.Rows L2
section
variable {P : D × List O → Prop} {Ps : Fl × List Sl × List O → Prop} {Pa : List D × List O → Prop} {E : EP'} {sg : List Sl} {S : List O} {m : ME} {ms : MA}
def kCallX (F : FD) (sg : List Sl) (P : D × List O → Prop) (E : EP') : List D × List O → Prop := fun x => Wp (F x.1 x.2) P (fun e _ S' => E e sg S')
theorem w_CallX {F : FD} : Wp (mCallX F ms sg S) P E = Wp (ms sg S) (kCallX F sg P E) E := by
  unfold mCallX
  rw [wp_bind]
  congr 1
  funext x
  unfold kCallX
  cases F x.1 x.2 with
  | ok a => simp only [wp_ok]
  | ex e s2 S2 => simp only [wp_ex]
  | bad => simp only [wp_bad]
theorem kCallX_eq {F : FD} {ds : List D} : kCallX F sg P E (ds, S) = Wp (F ds S) P (fun e _ S' => E e sg S') := by with_unfolding_all rfl
def kRaise (c : Str) (ns : List Str) (sg : List Sl) (E : EP') : List D × List O → Prop := fun x => x.1.length = ns.length ∧ E ⟨c, ns, x.1.reverse⟩ sg x.2
theorem w_Raise {c : Str} {ns : List Str} : Wp (mRaise c ns ms sg S) Ps E = Wp (ms sg S) (kRaise c ns sg E) E := by
  unfold mRaise
  rw [wp_bind]
  congr 1
  funext x
  unfold kRaise
  by_cases h : x.1.length = ns.length
  · simp only [h, if_true, wp_ex, true_and]
  · simp only [h, if_false, wp_bad, false_and]
theorem kRaise_eq {c : Str} {ns : List Str} {ds : List D} : kRaise c ns sg E (ds, S) = (ds.length = ns.length ∧ E ⟨c, ns, ds.reverse⟩ sg S) := by with_unfolding_all rfl
def kDone (i : Nat) (Ps : Fl × List Sl × List O → Prop) : Fl × List Sl × List O → Prop := fun x => x.2.1[i]? = some .no ∧ Ps x
theorem w_Done {i : Nat} {r : R (Fl × List Sl × List O)} : Wp (r.done i) Ps E = Wp r (kDone i Ps) E := by
  cases r with
  | ok a =>
    obtain ⟨fl, sg, S⟩ := a
    unfold R.done
    rw [wp_ok]
    unfold kDone
    simp only []
    cases h : sg[i]? with
    | none => simp [wp_bad]
    | some s => cases s <;> simp [wp_bad, wp_ok]
  | ex e s2 S2 => simp only [R.done, wp_ex]
  | bad => simp only [R.done, wp_bad]
theorem kDone_eq {i : Nat} {fl : Fl} : kDone i Ps (fl, sg, S) = (sg[i]? = some .no ∧ Ps (fl, sg, S)) := by with_unfolding_all rfl
def kTry (i : Nat) (c : Str) (mh : Exn → MS) (Ps : Fl × List Sl × List O → Prop) (E : EP') : EP' := fun e sg S => e.cls = c ∧ sg[i]? = some .no ∧ Wp (mh e sg S) (kDone i Ps) E
theorem w_Try {i : Nat} {c : Str} {mb : MS} {mh : Exn → MS} : Wp (mTry i c mb mh sg S) Ps E = Wp (mb sg S) Ps (kTry i c mh Ps E) := by
  unfold mTry
  cases mb sg S with
  | ok a => simp only [wp_ok]
  | bad => simp only [wp_bad]
  | ex e sg1 S1 =>
    simp only [wp_ex]
    unfold kTry
    by_cases h : e.cls = c
    · rw [if_pos h]
      cases h2 : sg1[i]? with
      | none => simp [wp_bad]
      | some s =>
        cases s with
        | no => simp only [w_Done, h, true_and]
        | val d => simp [wp_bad]
        | own o => simp [wp_bad]
    · rw [if_neg h]
      simp [wp_bad, h]
theorem kTry_eq {i : Nat} {c : Str} {mh : Exn → MS} {e : Exn} : kTry i c mh Ps E e sg S = (e.cls = c ∧ sg[i]? = some .no ∧ Wp (mh e sg S) (kDone i Ps) E) := by with_unfolding_all rfl
def kFld (o : Option D) (sg : List Sl) (S : List O) (Ps : Fl × List Sl × List O → Prop) : Prop := match o with
  | some z => Ps (.rt z, sg, S)
  | none => False
theorem w_msRetF {f : Str} {e : Exn} : Wp (msRetF f e sg S) Ps E = kFld (fld e f) sg S Ps := by
  unfold msRetF kFld
  cases fld e f with
  | none => simp only [wp_bad]
  | some z => simp only [wp_ok]
theorem kFld_some {z : D} : kFld (some z) sg S Ps = Ps (.rt z, sg, S) := by with_unfolding_all rfl
theorem w_msRetC {z : D} {e : Exn} : Wp (msRetC z e sg S) Ps E = Ps (.rt z, sg, S) := by with_unfolding_all rfl
def kFld2 (o p : Option D) (sg : List Sl) (S : List O) (Ps : Fl × List Sl × List O → Prop) : Prop := match o, p with
  | some z, some y => Ps (.rt (.tup [z, y]), sg, S)
  | _, _ => False
theorem w_msRetP {f g : Str} {e : Exn} : Wp (msRetP f g e sg S) Ps E = kFld2 (fld e f) (fld e g) sg S Ps := by
  unfold msRetP kFld2
  cases fld e f with
  | none => simp only [wp_bad]
  | some z =>
    cases fld e g with
    | none => simp only [wp_bad]
    | some y => simp only [wp_ok]
theorem kFld2_some {z y : D} : kFld2 (some z) (some y) sg S Ps = Ps (.rt (.tup [z, y]), sg, S) := by with_unfolding_all rfl
variable {Po : O × List O → Prop}
def kToL (P : O × List O → Prop) : D × List O → Prop := fun x => match x.1 with
  | .tup ds => P (.lst ds, x.2)
  | .lst ds => P (.lst ds, x.2)
  | _ => False
theorem w_ToL : Wp (oToL m sg S) Po E = Wp (m sg S) (kToL Po) E := by
  unfold oToL
  rw [wp_bind]
  congr 1
  funext x
  obtain ⟨d, T⟩ := x
  unfold kToL
  cases d <;> simp only [wp_ok, wp_bad]
theorem kToL_tup {ds : List D} : kToL Po (.tup ds, S) = Po (.lst ds, S) := by with_unfolding_all rfl
theorem kToL_lst {ds : List D} : kToL Po (.lst ds, S) = Po (.lst ds, S) := by with_unfolding_all rfl
/-- the exceptions of a def, told: as an answer to a call in a try -/
theorem Wp.both {α : Type} {r : R α} {P P' : α → Prop} {E E' : EP'} (h : Wp r P E) (hP : ∀ a, P a → P' a) (hE : ∀ e sg S, E e sg S → E' e sg S) : Wp r P' E' := h.mono hP hE
end
end D2

namespace D2
open PySem PySem.Spec PyProof.Rows L2
section
variable {P : D × List O → Prop} {Ps : Fl × List Sl × List O → Prop} {Pa : List D × List O → Prop} {Po : O × List O → Prop} {E : EP'} {sg : List Sl} {S : List O} {m ma mb mc md : ME} {ms : MA}
/-! values -/
theorem o_mulI {i j : Int} : kO (D.mulT (.int i) (.int j)) S P = (((-18446744073709551616 < i ∧ i < 18446744073709551616) ∨ (-18446744073709551616 < j ∧ j < 18446744073709551616)) ∧ P (.int (i * j), S)) := o_mul
theorem o_mulTup {xs : List D} {k : Int} : kO (D.mulT (.tup xs) (.int k)) S P = (decide (-4611686018427387904 ≤ k ∧ k < 4611686018427387904 ∧ xs.length * k.toNat ≤ 16777216) = true ∧ P (.tup (List.replicate k.toNat xs).flatten, S)) := ok_ite
theorem o_mulLst {xs : List D} {k : Int} : kO (D.mulT (.lst xs) (.int k)) S P = (decide (-4611686018427387904 ≤ k ∧ k < 4611686018427387904 ∧ xs.length * k.toNat ≤ 16777216) = true ∧ P (.lst (List.replicate k.toNat xs).flatten, S)) := ok_ite
theorem o_revT {xs : List D} : kO (D.revT (.tup xs)) S P = P (.tup xs.reverse, S) := by with_unfolding_all rfl
theorem o_isStrS {x : Str} : kO (D.isStr (.str x)) S P = P (.bl true, S) := by with_unfolding_all rfl
theorem o_isStrT {xs : List D} : kO (D.isStr (.tup xs)) S P = P (.bl false, S) := by with_unfolding_all rfl
theorem o_isStrN : kO (D.isStr .non) S P = P (.bl false, S) := by with_unfolding_all rfl
theorem o_ltG {x y : D} : kO (D.ltG x y) S P = (x.cmpOk y = true ∧ P (.bl (x.ltb y), S)) := ok_ite
theorem o_sortG {ds : List D} : kO (D.sortG (.lst ds)) S P = (D.sortOk ds = true ∧ P (.lst (ds.mergeSort D.leS), S)) := ok_ite
/-! chains of three -/
def kD5 (h : D → D → Option D) (z : D) (P : D × List O → Prop) : D × List O → Prop := fun w => kO (h z w.1) w.2 P
def kD4 (o : Option D) (h : D → D → Option D) (z : D) (md : ME) (sg : List Sl) (S : List O) (P : D × List O → Prop) (E : EP') : Prop := match o with
  | some (.bl b) => if b = true then Wp (md sg S) (kBin2 h z P) E else P (.bl false, S)
  | _ => False
def kD3 (g h : D → D → Option D) (y : D) (md : ME) (sg : List Sl) (P : D × List O → Prop) (E : EP') : D × List O → Prop := fun z => kD4 (g y z.1) h z.1 md sg z.2 P E
def kD2 (o : Option D) (g h : D → D → Option D) (y : D) (mc md : ME) (sg : List Sl) (S : List O) (P : D × List O → Prop) (E : EP') : Prop := match o with
  | some (.bl b) => if b = true then Wp (mc sg S) (kD3 g h y md sg P E) E else P (.bl false, S)
  | _ => False
def kD1 (f g h : D → D → Option D) (x : D) (mc md : ME) (sg : List Sl) (P : D × List O → Prop) (E : EP') : D × List O → Prop := fun y => kD2 (f x y.1) g h y.1 mc md sg y.2 P E
def kD0 (f g h : D → D → Option D) (mb mc md : ME) (sg : List Sl) (P : D × List O → Prop) (E : EP') : D × List O → Prop := fun x => Wp (mb sg x.2) (kD1 f g h x.1 mc md sg P E) E
theorem w_Chain3 {f g h : D → D → Option D} : Wp (mChain3 f g h ma mb mc md sg S) P E = Wp (ma sg S) (kD0 f g h mb mc md sg P E) E := by
  unfold mChain3 kD0
  rw [wp_bind]
  congr 1
  funext x
  rw [wp_bind]
  congr 1
  funext y
  unfold kD1 kD2
  cases e : f x.1 y.1 with
  | none => with_unfolding_all rfl
  | some d =>
    cases d <;> try (with_unfolding_all rfl)
    rename_i b
    cases b
    · with_unfolding_all rfl
    · simp only [if_true]
      unfold mChT
      rw [wp_bind]
      congr 1
      funext z
      unfold kD3 kD4
      cases e2 : g y.1 z.1 with
      | none => with_unfolding_all rfl
      | some d2 =>
        cases d2 <;> try (with_unfolding_all rfl)
        rename_i b2
        cases b2
        · with_unfolding_all rfl
        · simp only [if_true, wp_bind, wp_of]
          with_unfolding_all rfl
theorem kD0_eq {f g h : D → D → Option D} {x : D} : kD0 f g h mb mc md sg P E (x, S) = Wp (mb sg S) (kD1 f g h x mc md sg P E) E := by with_unfolding_all rfl
theorem kD1_eq {f g h : D → D → Option D} {x y : D} : kD1 f g h x mc md sg P E (y, S) = kD2 (f x y) g h y mc md sg S P E := by with_unfolding_all rfl
theorem kD2_eq {g h : D → D → Option D} {b : Bool} {y : D} : kD2 (some (.bl b)) g h y mc md sg S P E = if b = true then Wp (mc sg S) (kD3 g h y md sg P E) E else P (.bl false, S) := by with_unfolding_all rfl
theorem kD3_eq {g h : D → D → Option D} {y z : D} : kD3 g h y md sg P E (z, S) = kD4 (g y z) h z md sg S P E := by with_unfolding_all rfl
theorem kD4_eq {h : D → D → Option D} {b : Bool} {z : D} : kD4 (some (.bl b)) h z md sg S P E = if b = true then Wp (md sg S) (kBin2 h z P) E else P (.bl false, S) := by with_unfolding_all rfl
/-! a new list x + y -/
def kAdd2 (wk : Bool) (x : D) (P : O × List O → Prop) : D × List O → Prop := fun y => match x, y.1 with
  | .lst xs, .lst ys => (decide (xs.length + ys.length ≤ 16777216) && (!wk || (D.flatA xs && D.flatA ys))) = true ∧ P (.lst (xs ++ ys), y.2)
  | _, _ => False
def kAdd (wk : Bool) (mb : ME) (sg : List Sl) (P : O × List O → Prop) (E : EP') : D × List O → Prop := fun x => Wp (mb sg x.2) (kAdd2 wk x.1 P) E
theorem w_Add {wk : Bool} : Wp (oAdd wk ma mb sg S) Po E = Wp (ma sg S) (kAdd wk mb sg Po E) E := by
  unfold oAdd kAdd
  rw [wp_bind]
  congr 1
  funext x
  rw [wp_bind]
  congr 1
  funext y
  obtain ⟨x, T⟩ := x
  obtain ⟨y, T2⟩ := y
  cases x <;> try (with_unfolding_all rfl)
  cases y <;> try (with_unfolding_all rfl)
  rename_i xs ys
  unfold kAdd2
  simp only []
  by_cases h : (decide (xs.length + ys.length ≤ 16777216) && (!wk || (D.flatA xs && D.flatA ys))) = true
  · rw [if_pos h, wp_ok]
    simp only [h, true_and]
  · rw [if_neg h, wp_bad]
    simp [h]
theorem kAdd_eq {wk : Bool} {x : D} : kAdd wk mb sg Po E (x, S) = Wp (mb sg S) (kAdd2 wk x Po) E := by with_unfolding_all rfl
theorem kAdd2_eq {wk : Bool} {xs ys : List D} : kAdd2 wk (.lst xs) Po (.lst ys, S) = ((decide (xs.length + ys.length ≤ 16777216) && (!wk || (D.flatA xs && D.flatA ys))) = true ∧ Po (.lst (xs ++ ys), S)) := by with_unfolding_all rfl
/-! several clauses -/
theorem w_msRet {me : Exn → ME} {e : Exn} : Wp (msRet me e sg S) Ps E = Wp (me e sg S) (kRet sg Ps) E := by
  unfold msRet
  rw [w_Ret]
def kFldE (o : Option D) (S : List O) (P : D × List O → Prop) : Prop := match o with
  | some z => P (z, S)
  | none => False
theorem w_xF {f : Str} {e : Exn} : Wp (mxF f e sg S) P E = kFldE (fld e f) S P := by
  unfold mxF kFldE
  cases fld e f with
  | none => simp only [wp_bad]
  | some z => simp only [wp_ok]
theorem kFldE_some {z : D} : kFldE (some z) S P = P (z, S) := by with_unfolding_all rfl
theorem w_xBin {f : D → D → Option D} {xa xb : Exn → ME} {e : Exn} : Wp (mxBin f xa xb e sg S) P E = Wp (mBin f (xa e) (xb e) sg S) P E := by with_unfolding_all rfl
def kHd (z : Option (Option Nat × (Exn → MS))) (e : Exn) (sg : List Sl) (S : List O) (Ps : Fl × List Sl × List O → Prop) (E : EP') : Prop := match z with
  | some (some i, ms) => sg[i]? = some .no ∧ Wp (ms e sg S) (kDone i Ps) E
  | some (none, ms) => Wp (ms e sg S) Ps E
  | none => False
def kTryN (hs : List Hd) (Ps : Fl × List Sl × List O → Prop) (E : EP') : EP' := fun e sg S => kHd (hdOf hs e.cls) e sg S Ps E
theorem w_Hd {z : Option (Option Nat × (Exn → MS))} {e : Exn} : Wp (mHd z e sg S) Ps E = kHd z e sg S Ps E := by
  unfold mHd kHd
  cases z with
  | none => simp only [wp_bad]
  | some z =>
    obtain ⟨oi, ms⟩ := z
    cases oi with
    | none => rfl
    | some i =>
      simp only []
      cases h2 : sg[i]? with
      | none => simp [wp_bad]
      | some s =>
        cases s with
        | no => simp only [w_Done, true_and]
        | val d => simp [wp_bad]
        | own o => simp [wp_bad]
theorem w_TryN {hs : List Hd} {mb : MS} : Wp (mTryN hs mb sg S) Ps E = Wp (mb sg S) Ps (kTryN hs Ps E) := by
  unfold mTryN
  cases mb sg S with
  | ok a => simp only [wp_ok]
  | bad => simp only [wp_bad]
  | ex e sg1 S1 =>
    simp only [wp_ex, w_Hd]
    rfl
theorem kTryN_eq {hs : List Hd} {e : Exn} : kTryN hs Ps E e sg S = kHd (hdOf hs e.cls) e sg S Ps E := by with_unfolding_all rfl
theorem kHd_some {i : Nat} {xs : Exn → MS} {e : Exn} : kHd (some (some i, xs)) e sg S Ps E = (sg[i]? = some .no ∧ Wp (xs e sg S) (kDone i Ps) E) := by with_unfolding_all rfl
theorem kHd_only {xs : Exn → MS} {e : Exn} : kHd (some (none, xs)) e sg S Ps E = Wp (xs e sg S) Ps E := by with_unfolding_all rfl
theorem hdOf_cons {h : Hd} {r : List Hd} {c : Str} : hdOf (h :: r) c = if c = h.1 then some h.2 else hdOf r c := by with_unfolding_all rfl
variable {Pb : Bool × List O → Prop} {mt mu mv : MT}
def kIfT (mu mv : MT) (sg : List Sl) (P : Bool × List O → Prop) (E : EP') : Bool × List O → Prop := fun x => if x.1 = true then Wp (mu sg x.2) P E else Wp (mv sg x.2) P E
theorem w_IfT : Wp (mIfT mt mu mv sg S) Pb E = Wp (mt sg S) (kIfT mu mv sg Pb E) E := by
  unfold mIfT
  rw [wp_bind]
  congr 1
  funext x
  obtain ⟨b, T⟩ := x
  cases b <;> (with_unfolding_all rfl)
theorem kIfT_eq {b : Bool} : kIfT mu mv sg Pb E (b, S) = if b = true then Wp (mu sg S) Pb E else Wp (mv sg S) Pb E := by with_unfolding_all rfl
theorem o_ssetL {l : List (List Int)} : kO (D.ssetL (.lst (l.map tupI))) S P = (okL l = true ∧ P (.lst ((sortL l).map tupI), S)) := by
  by_cases h : okL l = true
  · simp [ssetL_lst h, h, kO_some]
  · simp only [D.ssetL, tupsOf_map, h]
    simp [kO]
theorem o_ssetLt {l : List (List Int)} : kO (D.ssetL (.tup (l.map tupI))) S P = (okL l = true ∧ P (.lst ((sortL l).map tupI), S)) := by
  by_cases h : okL l = true
  · simp [ssetL_tup h, h, kO_some]
  · simp only [D.ssetL, tupsOf_map, h]
    simp [kO]
theorem o_lenSetI {ns : List Int} : kO (D.lenSetI (.lst (ns.map D.int))) S P = (ns.length ≤ 4000 ∧ P (.int ((sortS ns).length : Int), S)) := by
  unfold D.lenSetI
  rw [o_intsL (ints_map ns)]
  exact ok_ite
theorem o_tupRg {n : Int} : kO (D.tupRg (.int n)) S P = ((0 ≤ n ∧ n ≤ 16777216) ∧ P (.tup (rngD 0 n.toNat), S)) := by
  unfold D.tupRg
  rw [ok_ite, decide_eq_true_eq]
end
end D2

namespace D2
open PySem PySem.Spec PyProof.Rows L2
section
variable {P : D × List O → Prop} {Ps : Fl × List Sl × List O → Prop} {Pa : List D × List O → Prop} {Po : O × List O → Prop} {E : EP'} {sg : List Sl} {S : List O} {m ma mb mc md : ME} {ms : MA}
/-! zip -/
def kIz (P : List D × List O → Prop) : List D × List O → Prop := fun x => match twoZ x.1 with
  | some ds => P (ds, x.2)
  | none => False
theorem w_Iz : Wp (mIz ms sg S) Pa E = Wp (ms sg S) (kIz Pa) E := by
  unfold mIz
  rw [wp_bind]
  congr 1
  funext x
  unfold kIz
  cases twoZ x.1 <;> (with_unfolding_all rfl)
theorem kIz_tup {ds es : List D} : kIz Pa ([.tup ds, .tup es], S) = Pa (zipD ds es, S) := by with_unfolding_all rfl
theorem kIz_lst {ds es : List D} : kIz Pa ([.lst ds, .lst es], S) = Pa (zipD ds es, S) := by with_unfolding_all rfl
/-! the least and the greatest -/
theorem o_minGl {d : D} {ds : List D} : kO (D.minG (.lst (d :: ds))) S P = (D.bestOk (d :: ds) = true ∧ P (D.minF d ds, S)) := ok_ite
theorem o_minGt {d : D} {ds : List D} : kO (D.minG (.tup (d :: ds))) S P = (D.bestOk (d :: ds) = true ∧ P (D.minF d ds, S)) := ok_ite
theorem o_maxGl {d : D} {ds : List D} : kO (D.maxG (.lst (d :: ds))) S P = (D.bestOk (d :: ds) = true ∧ P (D.maxF d ds, S)) := ok_ite
theorem o_maxGt {d : D} {ds : List D} : kO (D.maxG (.tup (d :: ds))) S P = (D.bestOk (d :: ds) = true ∧ P (D.maxF d ds, S)) := ok_ite
theorem o_bestDl {g : D → List D → D} {d z : D} {ds : List D} : kO (D.bestD g (.lst (d :: ds)) z) S P = (D.bestOk (d :: ds) = true ∧ P (g d ds, S)) := ok_ite
theorem o_bestDt {g : D → List D → D} {d z : D} {ds : List D} : kO (D.bestD g (.tup (d :: ds)) z) S P = (D.bestOk (d :: ds) = true ∧ P (g d ds, S)) := ok_ite
theorem o_bestDln {g : D → List D → D} {z : D} : kO (D.bestD g (.lst []) z) S P = P (z, S) := by with_unfolding_all rfl
theorem o_bestDtn {g : D → List D → D} {z : D} : kO (D.bestD g (.tup []) z) S P = P (z, S) := by with_unfolding_all rfl
theorem o_lenSetT {ns : List Int} : kO (D.lenSetT (.tup (ns.map D.int))) S P = (ns.length ≤ 4000 ∧ P (.int ((sortS ns).length : Int), S)) := by
  unfold D.lenSetT
  simp only [ints_map]
  exact ok_ite
theorem o_sortT {ns : List Int} : kO (D.sortT (.tup (ns.map D.int))) S P = (ns.length ≤ 16777216 ∧ P (.lst ((sortI ns).map D.int), S)) := by
  unfold D.sortT
  simp only [ints_map]
  exact ok_ite
/-! suites that append -/
theorem w_xOwnE {j : Nat} {c : O → Bool} {f : O → List D → Option (O × D)} {mx : Exn → MA} {e : Exn} : Wp (mxOwnE j c f mx e sg S) Ps E = Wp (mOwnE j c f (mx e) sg S) Ps E := by with_unfolding_all rfl
theorem w_xOne {mx : Exn → ME} {e : Exn} : Wp (mxOne mx e sg S) Pa E = Wp (mCons (mx e) mNil sg S) Pa E := by with_unfolding_all rfl
end
/-! ### of ints -/
theorem okqA_i (n : Nat) (ns : List Int) : D.okqA (ns.map D.int) n = true := okqA_ints n ns
theorem alk_ints (i j : Int) : D.alk (.int i) (.int j) = true := by
  unfold D.alk
  simp only [D.pd, PySem.W.alike]
theorem best_ints (ns : List Int) : D.bestOk (ns.map D.int) = true := by
  unfold D.bestOk
  rw [okqA_ints, Bool.true_and, Bool.and_eq_true, List.all_eq_true, List.all_eq_true]
  refine ⟨fun x hx => ?_, fun x hx => ?_⟩
  · obtain ⟨i, _, rfl⟩ := List.mem_map.mp hx
    rw [List.all_eq_true]
    intro y hy
    obtain ⟨j, _, rfl⟩ := List.mem_map.mp hy
    exact alk_ints i j
  · obtain ⟨i, _, rfl⟩ := List.mem_map.mp hx
    rfl
theorem minF_ints (n : Int) (ns : List Int) : D.minF (.int n) (ns.map D.int) = .int (ns.foldl min n) := by
  refine pd_inj _ _ 50 50 (okqA_mem (ds := (n :: ns).map D.int) (okqA_ints 50 _) (minF_mem (ns.map D.int) (.int n))) rfl ?_
  rw [minF_pd]
  have e : D.pdA (ns.map D.int) = ns.map PyData.int := by
    rw [pdA_map, List.map_map]
    rfl
  rw [e]
  exact PySem.W.minD_ints n ns
theorem maxF_ints (n : Int) (ns : List Int) : D.maxF (.int n) (ns.map D.int) = .int (ns.foldl max n) := by
  refine pd_inj _ _ 50 50 (okqA_mem (ds := (n :: ns).map D.int) (okqA_ints 50 _) (maxF_mem (ns.map D.int) (.int n))) rfl ?_
  rw [maxF_pd]
  have e : D.pdA (ns.map D.int) = ns.map PyData.int := by
    rw [pdA_map, List.map_map]
    rfl
  rw [e]
  exact PySem.W.maxD_ints n ns
end D2

namespace Law
open PySem PySem.Spec PyProof.Rows L2 D2
local macro_rules | `(tactic| walk_at "ev") => `(tactic| simp (decide := true) only [kO_some, w_C, w_Var, w_VarW, kVar_val, kVarW_val, kVarW_lst, kVarW_dic, w_Flat, kFlat_eq, w_Bin, kBin_eq, kBin2_eq, w_Un, kUn_eq, w_Tup, kTup_eq, w_Lst, kLst_eq, w_Nil, w_Cons, kCons_eq, kCons2_eq, w_And, kAnd_eq, w_Or, kOr_eq, w_Tst, kTst_eq, w_Tru, kTru_bl, kTru_int, kTru_tup, kTru_lst, kTru_non, w_NotT, kNotT_eq, w_AndT, kAndT_eq, w_OrT, kOrT_eq, w_IsN, kIsN_eq, w_If, kIf_eq, w_Chain, kCh1_eq, kCh2_eq, kCh3_eq, w_Bi, kBi_eq, on1_eq, on2_eq, w_Meth, kMeth_eq, kMeth2_eq, w_Ix, kIx_eq, kIx2_eq, w_Get2, kGet1_eq, kGet2_eq, kGet3_eq, w_NoP, w_Part, kPart_eq, w_Sl, kSl1_eq, kSl2_eq, kSl3_eq, w_Call, kCall_eq, w_CallP, kCallP_eq, w_OfO, kOfO_eq, toD_lst, toD_dic, w_LstO, kLstO_eq, w_DicO, w_Rep, kRep_eq, kRep2_eq, w_Pn, w_Pc, kPc1_eq, kPc2_eq, kPc3_eq, w_Disp, kDisp_eq, kDisp2_eq, keyed_nil, keyed_S, keyed_I, w_Lc, kLc_eq, kLc2_eq, w_Il, kIl_eq, w_It, kIt_eq, w_Ir1, kIr1_eq, w_Ir2, kIr2_eq, w_Ie, kIe_eq, w_IeT, kIeT_eq, w_Yes, w_Seq, kSeq_nx, kSeq_bk, kSeq_ct, kSeq_rt, w_Nx, w_Bk, w_Ct, w_RetN, w_Ret, kRet_eq, w_Drop, kDrop_eq, w_IfS, kIfS_eq, w_Frz, w_Set, kSet_eq, w_SetO, kSetO_eq, w_Aft, kAft_eq, w_Asg, kAsg_eq, kAsg2_eq, w_For, kFor_eq, w_While, w_Put, kPut_eq, kPut2_own, kPut2_ref, kPutR_eq, w_Own, w_OwnE, w_OwnS, kOwn_eq, kOwnE_eq, kOwnS_eq, w_Fn, kFn_nx, kFn_rt, kLoop_nx, kLoop_ct, kLoop_bk, kLoop_rt, w_Ir3, kIr3_eq, w_Lrg, kLrg_eq, w_AppPop, kApp0_eq, w_Never, w_Irv, kIrv_eq, w_Star, kStar_tup, kStar_lst, kStar2_eq, w_CallX, kCallX_eq, w_Raise, kRaise_eq, w_Done, kDone_eq, w_Try, kTry_eq, w_msRetF, kFld_some, w_msRetC, w_msRetP, kFld2_some, w_ToL, kToL_tup, kToL_lst, w_Chain3, kD0_eq, kD1_eq, kD2_eq, kD3_eq, kD4_eq, w_Add, kAdd_eq, kAdd2_eq, w_msRet, w_xF, kFldE_some, w_xBin, w_Hd, w_TryN, kTryN_eq, kHd_some, kHd_only, w_IfT, kIfT_eq, w_Iz, kIz_tup, kIz_lst, w_xOwnE, w_xOne, o_addI, o_addS, o_addT, o_addL, o_sub, o_fdiv, o_mod, o_pow, o_shl, o_shr, o_and, o_or, o_mul, o_lt, o_le, o_gt, o_ge, lt_eq, le_eq, gt_eq, ge_eq, o_neg, o_nob, o_eqI, o_eqS, o_neI, o_neS, eqo_int, ixS_tup, ixS_lst, ixS_dic, ixS_ref0, ixS_ref1, ixo_tup, ixo_lst, ixo_dicI, ixo_dicS, atI_0, atI_1, atI_2, atI_3, atI_4, atI_5, atI_6, atI_7, atI_8, pr_0, pr_1, pr_2, pr_3, po_dicI, po_dicS, app_eq, ext_eq, isL_eq, isD_eq, DisL_eq, o_lenL, o_lenT, o_lenD, o_lenS, o_toI, o_abs, o_strI, o_max2, o_min2, o_toT, o_toTT, o_toL, o_toLT, o_sloT, o_sloL, o_sloS, g_Nm, g_Tu, g_Cons, g_Nil, own_val, own_no, merge_new, dGet_cons, dGet_nil, dGet2_S, dGet2_I, o_sset, o_ssetI, o_toIb, fl_int, fl_bl, fl_str, fl_non, isNon_non, isNon_int, isNon_tup, o_inI, o_ninI, o_ninE, o_mkRng, isNon_bl, o_eqB, o_mulI, o_mulTup, o_mulLst, o_revT, o_isStrS, o_isStrT, o_isStrN, o_ltG, o_sortG, o_ssetL, o_ssetLt, o_lenSetI, o_tupRg, o_minGl, o_minGt, o_maxGl, o_maxGt, o_bestDl, o_bestDt, o_bestDln, o_bestDtn, o_lenSetT, o_sortT, List.getElem?_cons_zero, List.getElem?_cons_succ, List.set_cons_zero, List.set_cons_succ, List.length_cons, List.length_nil, List.map_cons, List.map_nil, List.cons_append, List.nil_append, List.replicate_succ, List.replicate_zero, if_true, if_false, decide_eq_true_eq, decide_eq_false_iff_not, Bool.false_eq_true, and_true, true_and, Bool.not_true, Bool.not_false, reduceIte, Option.bind_some, Option.map_some, Option.getD_some, Option.getD_none, Sum.inr.injEq, Sum.inl.injEq, Nat.reduceAdd, Nat.reduceSub, Nat.reduceLeDiff, Nat.reduceLT, Nat.reduceEqDiff, reduceCtorEq, Int.reduceLT, Int.reduceLE, Int.reduceEq, Int.reduceAdd, Int.reduceSub, Int.reduceMul, Int.reduceNeg, Int.cast_ofNat_Int, Int.natCast_zero, Int.reduceToNat, Int.reducePow, or_true, true_or, String.reduceEq, decide_true, decide_false, Bool.not_eq_true', Bool.not_eq_false', List.all_cons, List.all_nil, Bool.and_true, Bool.true_and, Bool.true_or, Bool.or_true, wipeS, startS, hdOf_cons])
abbrev n__law_take : List Str := ["d", "many", "small", "digit"]
def m__law_take : MS :=
  (mSeq (mIfS (mAndT (mTst (mBin D.eqo (mIx (mVar 0) (mC (.int 2))) (mC (.int 0)))) (mTst (mBin D.lt (mIx (mVar 0) (mC (.int 1))) (mBi (on1 D.len) (mCons (mIx (mVar 0) (mC (.int 0))) mNil))))) (mSeq (mPut 0 (mBi (on1 D.abs) (mCons (mBi (on1 D.toInt) (mCons (mIx (mIx (mVar 0) (mC (.int 0))) (mIx (mVar 0) (mC (.int 1)))) mNil)) mNil)) (mC (.int 2)))
  (mSeq (mPut 0 (mBin D.add (mIx (mVar 0) (mC (.int 1))) (mC (.int 1))) (mC (.int 1)))
  (mIfS (mTst (mBin D.lt (mIx (mVar 0) (mC (.int 2))) (mBin D.powI (mC (.int 10)) (mC (.int 18))))) (mSeq (mSet 2 (mBi (on1 D.toInt) (mCons (mIx (mVar 0) (mC (.int 2))) mNil)))
  (mSeq (mPut 0 (mC (.int 0)) (mC (.int 2)))
  (mRet (mBin D.mod (mVar 2) (mVar 1))))) mNx))) mNx)
  (mSeq (mIfS (mTst (mBin D.gt (mIx (mVar 0) (mC (.int 2))) (mC (.int 0)))) (mSeq (mSet 3 (mBin D.mod (mBi (on1 D.toInt) (mCons (mIx (mVar 0) (mC (.int 2))) mNil)) (mVar 1)))
  (mSeq (mPut 0 (mBin D.fdiv (mBi (on1 D.toInt) (mCons (mIx (mVar 0) (mC (.int 2))) mNil)) (mVar 1)) (mC (.int 2)))
  (mRet (mVar 3)))) mNx)
  (mSeq (mPut 0 (mBin D.mod (mBi (on1 D.toInt) (mCons (mBin D.add (mBin D.mul (mIx (mVar 0) (mC (.int 3))) (mC (.int 48271))) (mC (.int 11))) mNil)) (mC (.int 2147483647))) (mC (.int 3)))
  (mRet (mBin D.mod (mBi (on1 D.toInt) (mCons (mBin D.fdiv (mIx (mVar 0) (mC (.int 3))) (mC (.int 3))) mNil)) (mVar 1))))))
def F__law_take : FD := fnF n__law_take m__law_take
def dOk (o : O) : Prop := ∃ (ns : List Int) (i big seed : Int), o = .lst [.lst (ns.map D.int), .int i, .int big, .int seed] ∧ ns.length ≤ 63 ∧ 0 ≤ i ∧ 0 ≤ big ∧ 0 ≤ seed
theorem dOk.mk {ns : List Int} {i big seed : Int} (h1 : ns.length ≤ 63) (h2 : 0 ≤ i) (h3 : 0 ≤ big) (h4 : 0 ≤ seed) : dOk (.lst [.lst (ns.map D.int), .int i, .int big, .int seed]) := ⟨ns, i, big, seed, rfl, h1, h2, h3, h4⟩
theorem pow1018 : (10 : Int) ^ (18 : Int).toNat = 1000000000000000000 := by decide +kernel
theorem atI_map {ns : List Int} {i : Int} (h0 : 0 ≤ i) (h : i < (ns.length : Int)) : ∃ x : Int, atI (ns.map D.int) i = some (.int x) := by
  obtain ⟨k, rfl⟩ : ∃ k : Nat, i = (k : Int) := ⟨i.toNat, by omega⟩
  have hk : k < ns.length := by omega
  exact ⟨ns[k], atI_nat (by rw [List.getElem?_map, List.getElem?_eq_getElem hk]; rfl)⟩
theorem take_ok {o : O} (h : dOk o) (many : Int) (h0 : 0 < many) (h1 : many < 1073741824) : Wp (F__law_take [.ref 0, .int many] [o]) (fun y => ∃ r o', y = (.int r, [o']) ∧ 0 ≤ r ∧ r < many ∧ dOk o') noE := by
  obtain ⟨ns, i, big, seed, rfl, hl, hi, hb, hs⟩ := h
  have m0 : ∀ x : Int, 0 ≤ x % many := fun x => Int.emod_nonneg _ (by omega)
  have m1 : ∀ x : Int, x % many < many := fun x => Int.emod_lt_of_pos _ h0
  have hd : 0 ≤ big / many := Int.ediv_nonneg hb (by omega)
  have fin : ∀ {r i big seed : Int}, 0 ≤ r → r < many → 0 ≤ i → 0 ≤ big → 0 ≤ seed → ∃ r' o', ((D.int r, [O.lst [.lst (ns.map D.int), .int i, .int big, .int seed]]) : D × List O) = (.int r', [o']) ∧ 0 ≤ r' ∧ r' < many ∧ dOk o' :=
    fun a b c d e => ⟨_, _, rfl, a, b, .mk hl c d e⟩
  unfold F__law_take m__law_take
  walk_at "ev"
  have hm : 0 < many ∧ many < 1073741824 := ⟨h0, h1⟩
  have hq : ∀ x : Int, 0 ≤ (x * 48271 + 11) % 2147483647 := fun _ => Int.emod_nonneg _ (by decide)
  have ab : ∀ x : Int, 0 ≤ (if x < 0 then -x else x) := fun x => by split <;> omega
  have dv : ∀ x : Int, 0 ≤ x → 0 ≤ x / many := fun x hx => Int.ediv_nonneg hx (by omega)
  simp only [h0, hm, true_and]
  by_cases c2 : i < (((ns.map D.int).length : Nat) : Int)
  · have c3 := c2
    rw [List.length_map] at c3
    obtain ⟨x, hx⟩ := atI_map hi c3
    simp only [kO_eq hx, if_pos c2]
    walk_at "ev"
    simp only [h0, hm, true_and]
    repeat' split
    all_goals refine fin (m0 _) (m1 _) ?_ ?_ ?_ <;> first | omega | exact dv _ (by omega) | exact hq _
  · simp only [if_neg c2]
    repeat' split
    all_goals refine fin (m0 _) (m1 _) ?_ ?_ ?_ <;> first | omega | exact dv _ (by omega) | exact hq _

theorem rng_at {lo : Int} {n i : Nat} {d : D} (h : (rngD lo n)[i]? = some d) : i < n ∧ d = .int (lo + i) := rngD_get h
theorem lim_small {j : Int} (h0 : -1000000 ≤ j) (h1 : j ≤ 1000000) : lim62 j = true := by
  unfold lim62
  rw [decide_eq_true_eq]
  omega
theorem wp_is {α : Type} {r : R α} {a : α} (h : Wp r (fun y => y = a) noE) : r = .ok a := by
  obtain ⟨b, e, h2⟩ := h.ok
  rw [e, h2]

/-! ### drawn lists -/
theorem draw_lc {α : Type} {en : α → D} {Q : Nat → α → Prop} {g : D → List Sl → Option (List Sl)} {me : ME} {sg : List Sl} {ds : List D} {o : O} {P : List D × List O → Prop} {E : EP'} (h : dOk o)
    (h1 : ∀ i d o, ds[i]? = some d → dOk o → ∃ sg1, g d sg = some sg1 ∧ Wp (me sg1 [o]) (fun y => ∃ a o', y = (en a, [o']) ∧ Q i a ∧ dOk o') noE)
    (h2 : ∀ (l : List α) o', l.length = ds.length → (∀ i a, l[i]? = some a → Q i a) → dOk o' → P (l.map en, [o'])) : Wp (lcR g mYes me sg ds [o]) P E := by
  refine Wp.lc (fun i acc S => ∃ (l : List α) (o' : O), acc = l.map en ∧ l.length = i ∧ (∀ i a, l[i]? = some a → Q i a) ∧ S = [o'] ∧ dOk o') ⟨[], o, rfl, rfl, fun i a e => by simp at e, rfl, h⟩ ?_ ?_
  · rintro i d acc S hd ⟨l, o1, rfl, hl, hq, rfl, ho⟩
    obtain ⟨sg1, e1, w1⟩ := h1 i d o1 hd ho
    refine ⟨sg1, e1, ?_⟩
    rw [w_Yes]
    simp only [if_true]
    refine w1.imp ?_
    rintro _ ⟨a, o2, rfl, qa, h2'⟩
    refine ⟨l ++ [a], o2, by simp, by simp [hl], fun j b e => ?_, rfl, h2'⟩
    rw [List.getElem?_append] at e
    split at e
    · exact hq j b e
    · rename_i hk
      cases hkk : j - l.length with
      | zero =>
        rw [hkk] at e
        cases e
        have : j = i := by omega
        subst this
        exact qa
      | succ n => rw [hkk] at e; cases e
  · rintro acc S ⟨l, o1, rfl, hl, hq, rfl, ho⟩
    exact h2 l o1 hl hq ho

end Law

namespace Law
open PySem PySem.Spec PyProof.Rows L2 D2
local macro_rules | `(tactic| walk_at "ev") => `(tactic| simp (decide := true) only [kO_some, w_C, w_Var, w_VarW, kVar_val, kVarW_val, kVarW_lst, kVarW_dic, w_Flat, kFlat_eq, w_Bin, kBin_eq, kBin2_eq, w_Un, kUn_eq, w_Tup, kTup_eq, w_Lst, kLst_eq, w_Nil, w_Cons, kCons_eq, kCons2_eq, w_And, kAnd_eq, w_Or, kOr_eq, w_Tst, kTst_eq, w_Tru, kTru_bl, kTru_int, kTru_tup, kTru_lst, kTru_non, w_NotT, kNotT_eq, w_AndT, kAndT_eq, w_OrT, kOrT_eq, w_IsN, kIsN_eq, w_If, kIf_eq, w_Chain, kCh1_eq, kCh2_eq, kCh3_eq, w_Bi, kBi_eq, on1_eq, on2_eq, w_Meth, kMeth_eq, kMeth2_eq, w_Ix, kIx_eq, kIx2_eq, w_Get2, kGet1_eq, kGet2_eq, kGet3_eq, w_NoP, w_Part, kPart_eq, w_Sl, kSl1_eq, kSl2_eq, kSl3_eq, w_Call, kCall_eq, w_CallP, kCallP_eq, w_OfO, kOfO_eq, toD_lst, toD_dic, w_LstO, kLstO_eq, w_DicO, w_Rep, kRep_eq, kRep2_eq, w_Pn, w_Pc, kPc1_eq, kPc2_eq, kPc3_eq, w_Disp, kDisp_eq, kDisp2_eq, keyed_nil, keyed_S, keyed_I, w_Lc, kLc_eq, kLc2_eq, w_Il, kIl_eq, w_It, kIt_eq, w_Ir1, kIr1_eq, w_Ir2, kIr2_eq, w_Ie, kIe_eq, w_IeT, kIeT_eq, w_Yes, w_Seq, kSeq_nx, kSeq_bk, kSeq_ct, kSeq_rt, w_Nx, w_Bk, w_Ct, w_RetN, w_Ret, kRet_eq, w_Drop, kDrop_eq, w_IfS, kIfS_eq, w_Frz, w_Set, kSet_eq, w_SetO, kSetO_eq, w_Aft, kAft_eq, w_Asg, kAsg_eq, kAsg2_eq, w_For, kFor_eq, w_While, w_Put, kPut_eq, kPut2_own, kPut2_ref, kPutR_eq, w_Own, w_OwnE, w_OwnS, kOwn_eq, kOwnE_eq, kOwnS_eq, w_Fn, kFn_nx, kFn_rt, kLoop_nx, kLoop_ct, kLoop_bk, kLoop_rt, w_Ir3, kIr3_eq, w_Lrg, kLrg_eq, w_AppPop, kApp0_eq, w_Never, w_Irv, kIrv_eq, w_Star, kStar_tup, kStar_lst, kStar2_eq, w_CallX, kCallX_eq, w_Raise, kRaise_eq, w_Done, kDone_eq, w_Try, kTry_eq, w_msRetF, kFld_some, w_msRetC, w_msRetP, kFld2_some, w_ToL, kToL_tup, kToL_lst, w_Chain3, kD0_eq, kD1_eq, kD2_eq, kD3_eq, kD4_eq, w_Add, kAdd_eq, kAdd2_eq, w_msRet, w_xF, kFldE_some, w_xBin, w_Hd, w_TryN, kTryN_eq, kHd_some, kHd_only, w_IfT, kIfT_eq, w_Iz, kIz_tup, kIz_lst, w_xOwnE, w_xOne, o_addI, o_addS, o_addT, o_addL, o_sub, o_fdiv, o_mod, o_pow, o_shl, o_shr, o_and, o_or, o_mul, o_lt, o_le, o_gt, o_ge, lt_eq, le_eq, gt_eq, ge_eq, o_neg, o_nob, o_eqI, o_eqS, o_neI, o_neS, eqo_int, ixS_tup, ixS_lst, ixS_dic, ixS_ref0, ixS_ref1, ixo_tup, ixo_lst, ixo_dicI, ixo_dicS, atI_0, atI_1, atI_2, atI_3, atI_4, atI_5, atI_6, atI_7, atI_8, pr_0, pr_1, pr_2, pr_3, po_dicI, po_dicS, app_eq, ext_eq, isL_eq, isD_eq, DisL_eq, o_lenL, o_lenT, o_lenD, o_lenS, o_toI, o_abs, o_strI, o_max2, o_min2, o_toT, o_toTT, o_toL, o_toLT, o_sloT, o_sloL, o_sloS, g_Nm, g_Tu, g_Cons, g_Nil, own_val, own_no, merge_new, dGet_cons, dGet_nil, dGet2_S, dGet2_I, o_sset, o_ssetI, o_toIb, fl_int, fl_bl, fl_str, fl_non, isNon_non, isNon_int, isNon_tup, o_inI, o_ninI, o_ninE, o_mkRng, isNon_bl, o_eqB, o_mulI, o_mulTup, o_mulLst, o_revT, o_isStrS, o_isStrT, o_isStrN, o_ltG, o_sortG, o_ssetL, o_ssetLt, o_lenSetI, o_tupRg, o_minGl, o_minGt, o_maxGl, o_maxGt, o_bestDl, o_bestDt, o_bestDln, o_bestDtn, o_lenSetT, o_sortT, List.getElem?_cons_zero, List.getElem?_cons_succ, List.set_cons_zero, List.set_cons_succ, List.length_cons, List.length_nil, List.map_cons, List.map_nil, List.cons_append, List.nil_append, List.replicate_succ, List.replicate_zero, if_true, if_false, decide_eq_true_eq, decide_eq_false_iff_not, Bool.false_eq_true, and_true, true_and, Bool.not_true, Bool.not_false, reduceIte, Option.bind_some, Option.map_some, Option.getD_some, Option.getD_none, Sum.inr.injEq, Sum.inl.injEq, Nat.reduceAdd, Nat.reduceSub, Nat.reduceLeDiff, Nat.reduceLT, Nat.reduceEqDiff, reduceCtorEq, Int.reduceLT, Int.reduceLE, Int.reduceEq, Int.reduceAdd, Int.reduceSub, Int.reduceMul, Int.reduceNeg, Int.cast_ofNat_Int, Int.natCast_zero, Int.reduceToNat, Int.reducePow, or_true, true_or, String.reduceEq, decide_true, decide_false, Bool.not_eq_true', Bool.not_eq_false', List.all_cons, List.all_nil, Bool.and_true, Bool.true_and, Bool.true_or, Bool.or_true, wipeS, startS, hdOf_cons])
def d_TAKE_LIMIT : D := (.int (12))
def d_LONGEST_ROLL : D := (.int (999))
abbrev n_is_roll : List Str := ["roll"]
def m_is_roll : MS :=
  (mRet (mChain D.le D.le (mC (.int 1)) (mVar 0) (mC d_LONGEST_ROLL)))
def F_is_roll : FD := fnF n_is_roll m_is_roll
abbrev n__check : List Str := ["takes", "roll", "take"]
def m__check : MS :=
  (mSeq (mIfS (mTst (mBin D.gt (mBi (on1 D.len) (mCons (mVar 0) mNil)) (mC d_TAKE_LIMIT))) (mRaise "StockError" ["code"] (mCons (mC (.str "many")) mNil)) mNx)
  (mSeq (mIfS (mNotT (mTru (mCall F_is_roll (mCons (mVar 1) mNil)))) (mRaise "StockError" ["code"] (mCons (mC (.str "roll")) mNil)) mNx)
  (mIfS (mNotT (mTru (mBi (on1 (D.blsL fun ns => some (.bl (ns.all id)))) (mCons (mOfO (oLc false (mIt (mVar 0)) (gNm 2) mYes (mChain D.le D.le (mC (.int 1)) (mVar 2) (mVar 1)) [2])) mNil)))) (mRaise "StockError" ["code"] (mCons (mC (.str "take")) mNil)) mNx)))
def F__check : FD := fnF n__check m__check
abbrev n_in_order : List Str := ["takes", "roll", "numbers", "number", "used", "take"]
def m_in_order_b1 : MS :=
  (mSeq (mIfS (mTst (mBin D.gt (mBin D.add (mVar 4) (mVar 5)) (mVar 1))) (mSeq (mSet 3 (mBin D.add (mVar 3) (mC (.int 1))))
  (mSet 4 (mC (.int 0)))) mNx)
  (mSeq (mSet 4 (mBin D.add (mVar 4) (mVar 5)))
  (mOwnE 2 O.isL O.append (mCons (mVar 3) mNil))))
def m_in_order : MS :=
  (mSeq (mDrop (mCallX F__check (mCons (mVar 0) (mCons (mVar 1) mNil))))
  (mSeq (mSetO 2 (oLst mNil))
  (mSeq (mSet 3 (mC (.int 0)))
  (mSeq (mSet 4 (mC (.int 0)))
  (mSeq (mFor (mIt (mVar 0)) (gNm 5) (m_in_order_b1))
  (mFrz 2 (mRet (mBi (on1 D.toTup) (mCons (mVar 2) mNil)))))))))
def F_in_order : FD := fnF n_in_order m_in_order
abbrev n__used_of : List Str := ["takes", "rolls", "number", "take", "other"]
def m__used_of : MS :=
  (mRet (mBi (on1 (D.intsL fun ns => some (.int ns.sum))) (mCons (mOfO (oLc false (mIz (mCons (mVar 0) (mCons (mVar 1) mNil))) (gTu 2 (gsCons (gNm 3) (gsCons (gNm 4) gsNil))) (mTst (mBin D.eqo (mVar 4) (mVar 2))) (mVar 3) [3, 4])) mNil)))
def F__used_of : FD := fnF n__used_of m__used_of
abbrev n__are_right : List Str := ["takes", "roll", "rolls", "number"]
def m__are_right : MS :=
  (mSeq (mIfS (mOrT (mTst (mBin D.neo (mBi (on1 D.len) (mCons (mVar 2) mNil)) (mBi (on1 D.len) (mCons (mVar 0) mNil)))) (mTst (mBin D.lt (mBin (D.bestD D.minF) (mVar 2) (mC (.int 0))) (mC (.int 0))))) (mRet (mC (.bl false))) mNx)
  (mRet (mBi (on1 (D.blsL fun ns => some (.bl (ns.all id)))) (mCons (mOfO (oLc false (mIt (mVar 2)) (gNm 3) mYes (mBin D.le (mCall F__used_of (mCons (mVar 0) (mCons (mVar 2) (mCons (mVar 3) mNil)))) (mVar 1)) [3])) mNil))))
def F__are_right : FD := fnF n__are_right m__are_right
abbrev n_takes_rolls : List Str := ["takes", "roll", "rolls"]
def m_takes_rolls : MS :=
  (mSeq (mDrop (mCallX F__check (mCons (mVar 0) (mCons (mVar 1) mNil))))
  (mRet (mCall F__are_right (mCons (mVar 0) (mCons (mVar 1) (mCons (mVar 2) mNil))))))
def F_takes_rolls : FD := fnF n_takes_rolls m_takes_rolls
abbrev n_short_ends : List Str := ["takes", "roll", "rolls", "number"]
def m_short_ends : MS :=
  (mSeq (mDrop (mCallX F__check (mCons (mVar 0) (mCons (mVar 1) mNil))))
  (mSeq (mIfS (mNotT (mTru (mCall F__are_right (mCons (mVar 0) (mCons (mVar 1) (mCons (mVar 2) mNil)))))) (mRaise "StockError" ["code"] (mCons (mC (.str "rolls")) mNil)) mNx)
  (mRet (mBi (on1 D.toTup) (mCons (mOfO (oLc false (mIr1 (mCons (mBin D.add (mBin (D.bestD D.maxF) (mVar 2) (mUn D.neg (mC (.int 1)))) (mC (.int 1))) mNil)) (gNm 3) mYes (mBin D.sub (mVar 1) (mCall F__used_of (mCons (mVar 0) (mCons (mVar 2) (mCons (mVar 3) mNil))))) [3])) mNil)))))
def F_short_ends : FD := fnF n_short_ends m_short_ends
abbrev n__law_fits : List Str := ["takes", "roll", "rolls", "number", "k"]
def m__law_fits_b1 : MS :=
  (mIfS (mTst (mBin D.gt (mBi (on1 (D.intsL fun ns => some (.int ns.sum))) (mCons (mOfO (oLc false (mIr1 (mCons (mBi (on1 D.len) (mCons (mVar 0) mNil)) mNil)) (gNm 4) (mTst (mBin D.eqo (mIx (mVar 2) (mVar 4)) (mVar 3))) (mIx (mVar 0) (mVar 4)) [4])) mNil)) (mVar 1))) (mRet (mC (.bl false))) mNx)
def m__law_fits : MS :=
  (mSeq (mIfS (mOrT (mTst (mBin D.neo (mBi (on1 D.len) (mCons (mVar 2) mNil)) (mBi (on1 D.len) (mCons (mVar 0) mNil)))) (mTst (mBin D.gt (mBi (on1 D.len) (mCons (mOfO (oLc false (mIt (mVar 2)) (gNm 3) (mTst (mBin D.lt (mVar 3) (mC (.int 0)))) (mVar 3) [3])) mNil)) (mC (.int 0))))) (mRet (mC (.bl false))) mNx)
  (mSeq (mFor (mIr1 (mCons (mIf (mTst (mBin D.gt (mBi (on1 D.len) (mCons (mVar 2) mNil)) (mC (.int 0)))) (mBin D.add (mBi (on1 D.maxG) (mCons (mVar 2) mNil)) (mC (.int 1))) (mC (.int 0))) mNil)) (gNm 3) (m__law_fits_b1))
  (mRet (mC (.bl true)))))
def F__law_fits : FD := fnF n__law_fits m__law_fits
abbrev n__law_used : List Str := ["rolls"]
def m__law_used : MS :=
  (mRet (mUn D.lenSetT (mVar 0)))
def F__law_used : FD := fnF n__law_used m__law_used
abbrev n__law_ordered : List Str := ["takes", "roll", "rolls", "left", "k"]
def m__law_ordered_b1 : MS :=
  (mIfS (mAndT (mTst (mBin D.gt (mVar 4) (mC (.int 0)))) (mTst (mBin D.le (mIx (mVar 0) (mVar 4)) (mVar 3)))) (mSeq (mSet 3 (mBin D.sub (mVar 3) (mIx (mVar 0) (mVar 4))))
  (mSet 2 (mBin D.add (mVar 2) (mTup (mCons (mIx (mVar 2) (mUn D.neg (mC (.int 1)))) mNil))))) (mSeq (mSet 3 (mBin D.sub (mVar 1) (mIx (mVar 0) (mVar 4))))
  (mSet 2 (mBin D.add (mVar 2) (mTup (mCons (mIf (mTst (mBin D.gt (mVar 4) (mC (.int 0)))) (mBin D.add (mIx (mVar 2) (mUn D.neg (mC (.int 1)))) (mC (.int 1))) (mC (.int 0))) mNil))))))
def m__law_ordered : MS :=
  (mSeq (mSet 2 (mTup mNil))
  (mSeq (mSet 3 (mC (.int 0)))
  (mSeq (mFor (mIr1 (mCons (mBi (on1 D.len) (mCons (mVar 0) mNil)) mNil)) (gNm 4) (m__law_ordered_b1))
  (mRet (mVar 2)))))
def F__law_ordered : FD := fnF n__law_ordered m__law_ordered
theorem cTAK : d_TAKE_LIMIT = D.int 12 := rfl
theorem cLRO : d_LONGEST_ROLL = D.int 999 := rfl
local macro_rules | `(tactic| walk_at "rv") => `(tactic| simp (decide := true) only [cTAK, cLRO, kO_some, w_C, w_Var, w_VarW, kVar_val, kVarW_val, kVarW_lst, kVarW_dic, w_Flat, kFlat_eq, w_Bin, kBin_eq, kBin2_eq, w_Un, kUn_eq, w_Tup, kTup_eq, w_Lst, kLst_eq, w_Nil, w_Cons, kCons_eq, kCons2_eq, w_And, kAnd_eq, w_Or, kOr_eq, w_Tst, kTst_eq, w_Tru, kTru_bl, kTru_int, kTru_tup, kTru_lst, kTru_non, w_NotT, kNotT_eq, w_AndT, kAndT_eq, w_OrT, kOrT_eq, w_IsN, kIsN_eq, w_If, kIf_eq, w_Chain, kCh1_eq, kCh2_eq, kCh3_eq, w_Bi, kBi_eq, on1_eq, on2_eq, w_Meth, kMeth_eq, kMeth2_eq, w_Ix, kIx_eq, kIx2_eq, w_Get2, kGet1_eq, kGet2_eq, kGet3_eq, w_NoP, w_Part, kPart_eq, w_Sl, kSl1_eq, kSl2_eq, kSl3_eq, w_Call, kCall_eq, w_CallP, kCallP_eq, w_OfO, kOfO_eq, toD_lst, toD_dic, w_LstO, kLstO_eq, w_DicO, w_Rep, kRep_eq, kRep2_eq, w_Pn, w_Pc, kPc1_eq, kPc2_eq, kPc3_eq, w_Disp, kDisp_eq, kDisp2_eq, keyed_nil, keyed_S, keyed_I, w_Lc, kLc_eq, kLc2_eq, w_Il, kIl_eq, w_It, kIt_eq, w_Ir1, kIr1_eq, w_Ir2, kIr2_eq, w_Ie, kIe_eq, w_IeT, kIeT_eq, w_Yes, w_Seq, kSeq_nx, kSeq_bk, kSeq_ct, kSeq_rt, w_Nx, w_Bk, w_Ct, w_RetN, w_Ret, kRet_eq, w_Drop, kDrop_eq, w_IfS, kIfS_eq, w_Frz, w_Set, kSet_eq, w_SetO, kSetO_eq, w_Aft, kAft_eq, w_Asg, kAsg_eq, kAsg2_eq, w_For, kFor_eq, w_While, w_Put, kPut_eq, kPut2_own, kPut2_ref, kPutR_eq, w_Own, w_OwnE, w_OwnS, kOwn_eq, kOwnE_eq, kOwnS_eq, w_Fn, kFn_nx, kFn_rt, kLoop_nx, kLoop_ct, kLoop_bk, kLoop_rt, w_Ir3, kIr3_eq, w_Lrg, kLrg_eq, w_AppPop, kApp0_eq, w_Never, w_Irv, kIrv_eq, w_Star, kStar_tup, kStar_lst, kStar2_eq, w_CallX, kCallX_eq, w_Raise, kRaise_eq, w_Done, kDone_eq, w_Try, kTry_eq, w_msRetF, kFld_some, w_msRetC, w_msRetP, kFld2_some, w_ToL, kToL_tup, kToL_lst, w_Chain3, kD0_eq, kD1_eq, kD2_eq, kD3_eq, kD4_eq, w_Add, kAdd_eq, kAdd2_eq, w_msRet, w_xF, kFldE_some, w_xBin, w_Hd, w_TryN, kTryN_eq, kHd_some, kHd_only, w_IfT, kIfT_eq, w_Iz, kIz_tup, kIz_lst, w_xOwnE, w_xOne, o_addI, o_addS, o_addT, o_addL, o_sub, o_fdiv, o_mod, o_pow, o_shl, o_shr, o_and, o_or, o_mul, o_lt, o_le, o_gt, o_ge, lt_eq, le_eq, gt_eq, ge_eq, o_neg, o_nob, o_eqI, o_eqS, o_neI, o_neS, eqo_int, ixS_tup, ixS_lst, ixS_dic, ixS_ref0, ixS_ref1, ixo_tup, ixo_lst, ixo_dicI, ixo_dicS, atI_0, atI_1, atI_2, atI_3, atI_4, atI_5, atI_6, atI_7, atI_8, pr_0, pr_1, pr_2, pr_3, po_dicI, po_dicS, app_eq, ext_eq, isL_eq, isD_eq, DisL_eq, o_lenL, o_lenT, o_lenD, o_lenS, o_toI, o_abs, o_strI, o_max2, o_min2, o_toT, o_toTT, o_toL, o_toLT, o_sloT, o_sloL, o_sloS, g_Nm, g_Tu, g_Cons, g_Nil, own_val, own_no, merge_new, dGet_cons, dGet_nil, dGet2_S, dGet2_I, o_sset, o_ssetI, o_toIb, fl_int, fl_bl, fl_str, fl_non, isNon_non, isNon_int, isNon_tup, o_inI, o_ninI, o_ninE, o_mkRng, isNon_bl, o_eqB, o_mulI, o_mulTup, o_mulLst, o_revT, o_isStrS, o_isStrT, o_isStrN, o_ltG, o_sortG, o_ssetL, o_ssetLt, o_lenSetI, o_tupRg, o_minGl, o_minGt, o_maxGl, o_maxGt, o_bestDl, o_bestDt, o_bestDln, o_bestDtn, o_lenSetT, o_sortT, List.getElem?_cons_zero, List.getElem?_cons_succ, List.set_cons_zero, List.set_cons_succ, List.length_cons, List.length_nil, List.map_cons, List.map_nil, List.cons_append, List.nil_append, List.replicate_succ, List.replicate_zero, if_true, if_false, decide_eq_true_eq, decide_eq_false_iff_not, Bool.false_eq_true, and_true, true_and, Bool.not_true, Bool.not_false, reduceIte, Option.bind_some, Option.map_some, Option.getD_some, Option.getD_none, Sum.inr.injEq, Sum.inl.injEq, Nat.reduceAdd, Nat.reduceSub, Nat.reduceLeDiff, Nat.reduceLT, Nat.reduceEqDiff, reduceCtorEq, Int.reduceLT, Int.reduceLE, Int.reduceEq, Int.reduceAdd, Int.reduceSub, Int.reduceMul, Int.reduceNeg, Int.cast_ofNat_Int, Int.natCast_zero, Int.reduceToNat, Int.reducePow, or_true, true_or, String.reduceEq, decide_true, decide_false, Bool.not_eq_true', Bool.not_eq_false', List.all_cons, List.all_nil, Bool.and_true, Bool.true_and, Bool.true_or, Bool.or_true, wipeS, startS, hdOf_cons])
def exT (x : Str) : Exn := ⟨"StockError", ["code"], [.str x]⟩
theorem lc_int {i : Nat} {me : ME} {sg : List Sl} {S : List O} {f : Int → D} {ns : List Int} (hi : isOwn sg[i]? = false) (h : ∀ n ∈ ns, me (sg.set i (.val (.int n))) S = .ok (f n, S)) :
    lcR (gNm i) mYes me sg (ns.map D.int) S = .ok (ns.map f, S) := by
  have := lc_pure (gg := gNm i) (mt := mYes) (me := me) (sg := sg) (S := S) (en := D.int) (p := fun _ => true) (f := f) (xs := ns) fun n hn => ⟨_, gNm_ok hi, rfl, fun _ => h n hn⟩
  rw [this, List.filter_eq_self.mpr fun _ _ => rfl]
theorem bls_of {α : Type} (f : α → Bool) : ∀ ns : List α, D.bls (ns.map fun n => .bl (f n)) = some (ns.map f)
  | [] => rfl
  | n :: ns => by simp only [List.map_cons, D.bls, bls_of f ns, Option.map_some]
theorem o_all {α : Type} {f : α → Bool} {ns : List α} {S : List O} {P : D × List O → Prop} : kO (D.blsL (fun ns => some (.bl (ns.all id))) (.lst (ns.map fun n => .bl (f n)))) S P = P (.bl (ns.all f), S) := by
  refine kO_eq ?_
  simp only [D.blsL, bls_of]
  rw [List.all_map]
  rfl
/-! ### what is wrong with takes -/
def takeE (ts : List Int) (roll : Int) : Str := if 12 < ts.length then "many" else if ¬ (1 ≤ roll ∧ roll ≤ 999) then "roll" else if (ts.all fun t => decide (1 ≤ t) && decide (t ≤ roll)) = false then "take" else ""
theorem check_w {ts : List Int} {roll : Int} {S : List O} {P : D × List O → Prop} {E : EP'} (hl : ts.length ≤ 1000)
    (hn : takeE ts roll ≠ "" → ∀ sg, E (exT (takeE ts roll)) sg S) (hy : takeE ts roll = "" → P (.non, S)) : Wp (F__check [.tup (ts.map D.int), .int roll] S) P E := by
  unfold F__check m__check
  unfold takeE at hn hy
  walk_at "rv"
  rw [List.length_map]
  by_cases g1 : 12 < ts.length
  · rw [if_pos g1] at hn
    rw [if_pos (by omega)]
    exact hn (by decide) _
  · rw [if_neg g1] at hn hy
    rw [if_neg (by omega)]
    unfold F_is_roll m_is_roll
    walk_at "rv"
    by_cases g2 : 1 ≤ roll
    · by_cases g3 : roll ≤ 999
      · rw [if_neg (by omega)] at hn hy
        simp only [g2, g3, if_true, decide_true, Bool.not_true, Bool.false_eq_true, if_false, not_true]
        try walk_at "rv"
        refine ⟨by rw [List.length_map]; omega, ?_⟩
        have e := lc_int (i := 2) (me := mChain D.le D.le (mC (.int 1)) (mVar 2) (mVar 1)) (sg := [.val (.tup (ts.map D.int)), .val (.int roll), .no]) (S := S) (f := fun n => .bl (decide (1 ≤ n) && decide (n ≤ roll))) (ns := ts) rfl fun n _ => wp_is (by
          walk_at "rv"
          by_cases g : 1 ≤ n <;> simp [g])
        rw [wp_eq e]
        walk_at "rv"
        rw [o_all]
        walk_at "rv"
        cases hB : (ts.all fun t => decide (1 ≤ t) && decide (t ≤ roll)) with
        | false =>
          rw [hB, if_pos rfl] at hn
          try walk_at "rv"
          exact hn (by decide) _
        | true =>
          rw [hB, if_neg (by simp)] at hy
          try walk_at "rv"
          exact hy rfl
      · rw [if_pos (by omega)] at hn
        simp only [g2, g3, if_true, not_false_iff]
        exact hn (by decide) _
    · rw [if_pos (by omega)] at hn
      simp only [g2, if_false]
      exact hn (by decide) _
/-! ### one after the other -/
/-- the number of the roll, what is used of it, and the numbers so far -/
def ordS (roll : Int) (s : Int × Int × List Int) (t : Int) : Int × Int × List Int :=
  if roll < s.2.1 + t then (s.1 + 1, t, s.2.2 ++ [s.1 + 1]) else (s.1, s.2.1 + t, s.2.2 ++ [s.1])
def ordF (roll : Int) (ts : List Int) : Int × Int × List Int := ts.foldl (ordS roll) (0, 0, [])
theorem ordF_take {roll : Int} {ts : List Int} {i : Nat} {t : Int} (h : ts[i]? = some t) : ordF roll (ts.take (i + 1)) = ordS roll (ordF roll (ts.take i)) t := by
  unfold ordF
  rw [List.take_add_one, h, List.foldl_append]
  rfl
theorem ordF_len (roll : Int) : ∀ (ts : List Int) (s : Int × Int × List Int), (ts.foldl (ordS roll) s).2.2.length = s.2.2.length + ts.length
  | [], s => rfl
  | t :: ts, s => by
    rw [List.foldl_cons, ordF_len roll ts]
    unfold ordS
    split <;> simp <;> omega
theorem order_w {ts : List Int} {roll : Int} {S : List O} {P : D × List O → Prop} {E : EP'} (hl : ts.length ≤ 1000)
    (hn : takeE ts roll ≠ "" → ∀ sg, E (exT (takeE ts roll)) sg S) (hy : takeE ts roll = "" → P (.tup ((ordF roll ts).2.2.map D.int), S)) : Wp (F_in_order [.tup (ts.map D.int), .int roll] S) P E := by
  unfold F_in_order m_in_order
  walk_at "rv"
  refine check_w hl (fun h sg => hn h _) fun h => ?_
  walk_at "rv"
  refine Wp.loop (fun i sg S' => ∃ x5 : Sl, sg = [.val (.tup (ts.map D.int)), .val (.int roll), .own (.lst ((ordF roll (ts.take i)).2.2.map D.int)), .val (.int (ordF roll (ts.take i)).1), .val (.int (ordF roll (ts.take i)).2.1), x5] ∧ S' = S ∧ isOwn (some x5) = false) ⟨.no, rfl, rfl, rfl⟩ ?_ ?_
  · rintro i d sg S' hd ⟨x5, rfl, rfl, h5⟩
    rw [List.getElem?_map] at hd
    cases hti : ts[i]? with
    | none => rw [hti] at hd; cases hd
    | some t =>
      rw [hti] at hd
      cases hd
      have hil := (List.getElem?_eq_some_iff.mp hti).1
      have hlen := ordF_len roll (ts.take i) (0, 0, [])
      rw [List.length_take] at hlen
      refine ⟨_, gNm_ok h5, ?_⟩
      unfold m_in_order_b1
      rw [ordF_take hti]
      have e : ordF roll (ts.take i) = (ts.take i).foldl (ordS roll) (0, 0, []) := rfl
      rw [← e] at hlen
      generalize ordF roll (ts.take i) = s at hlen ⊢
      obtain ⟨a, b, acc⟩ := s
      simp only [] at hlen ⊢
      unfold ordS
      walk_at "rv"
      by_cases g : roll < b + t
      · simp only [g, if_true]
        try walk_at "rv"
        refine ⟨by rw [List.length_map]; simp at hlen; omega, .val (.int t), ?_, rfl⟩
        rw [List.map_append, Int.zero_add]
        rfl
      · simp only [g, if_false]
        try walk_at "rv"
        refine ⟨by rw [List.length_map]; simp at hlen; omega, .val (.int t), ?_, rfl⟩
        rw [List.map_append]
        rfl
  · rintro sg S' ⟨x5, rfl, rfl, h5⟩
    rw [List.length_map, List.take_length]
    walk_at "rv"
    simp only [frz, List.getElem?_cons_succ, List.getElem?_cons_zero, List.set_cons_succ, List.set_cons_zero, toD_lst]
    walk_at "rv"
    exact hy h

theorem atI_last {xs : List D} {x : D} : atI (xs ++ [x]) (-1) = some x := by
  unfold atI
  have e : ixN (xs ++ [x]).length (-1) = some xs.length := by
    rw [List.length_append]
    unfold ixN
    simp
    exact ⟨by omega, by omega⟩
  rw [e]
  simp
theorem ordF_last {roll : Int} {ts : List Int} {i : Nat} (h0 : 0 < i) (h : i ≤ ts.length) : ∃ pre, (ordF roll (ts.take i)).2.2 = pre ++ [(ordF roll (ts.take i)).1] := by
  obtain ⟨k, rfl⟩ : ∃ k, i = k + 1 := ⟨i - 1, by omega⟩
  rw [ordF_take (List.getElem?_eq_getElem (show k < ts.length by omega))]
  unfold ordS
  split
  · exact ⟨_, rfl⟩
  · exact ⟨_, rfl⟩
theorem law_order_w {ts : List Int} {roll : Int} {S : List O} {P : D × List O → Prop} {E : EP'} (hl : ts.length ≤ 1000) (hr : ∀ t ∈ ts, 1 ≤ t ∧ t ≤ roll)
    (hy : P (.tup ((ordF roll ts).2.2.map D.int), S)) : Wp (F__law_ordered [.tup (ts.map D.int), .int roll] S) P E := by
  unfold F__law_ordered m__law_ordered
  walk_at "rv"
  rw [List.length_map]
  refine ⟨lim_small (by omega) (by omega), ?_⟩
  refine Wp.loop (fun i sg S' => ∃ (x3 : Int) (x4 : Sl), sg = [.val (.tup (ts.map D.int)), .val (.int roll), .val (.tup ((ordF roll (ts.take i)).2.2.map D.int)), .val (.int x3), x4] ∧ S' = S ∧ isOwn (some x4) = false ∧ (0 < i → x3 = roll - (ordF roll (ts.take i)).2.1)) ⟨0, .no, rfl, rfl, rfl, fun h => by omega⟩ ?_ ?_
  · rintro i d sg S' hd ⟨x3, x4, rfl, rfl, h4, h3⟩
    obtain ⟨hi, rfl⟩ := rng_at hd
    have hi' : i < ts.length := by omega
    have hti : ts[i]? = some ts[i] := List.getElem?_eq_getElem hi'
    refine ⟨_, gNm_ok h4, ?_⟩
    unfold m__law_ordered_b1
    have hlast := fun h0 => ordF_last (roll := roll) h0 (show i ≤ ts.length by omega)
    have hlen := ordF_len roll (ts.take i) (0, 0, [])
    rw [List.length_take] at hlen
    rw [ordF_take hti]
    have h0s : i = 0 → ordF roll (ts.take i) = (0, 0, []) := fun h => by subst h; rfl
    have e : ordF roll (ts.take i) = (ts.take i).foldl (ordS roll) (0, 0, []) := rfl
    rw [← e] at hlen
    generalize ordF roll (ts.take i) = s at hlen h3 hlast h0s ⊢
    have ht := hr ts[i] (List.getElem_mem hi')
    have at1 : atI (ts.map D.int) (0 + (i : Int)) = some (.int ts[i]) := by
      rw [Int.zero_add]
      exact atI_nat (by rw [List.getElem?_map, hti]; rfl)
    walk_at "rv"
    simp only [at1, kO_some]
    walk_at "rv"
    obtain ⟨num, used, acc⟩ := s
    simp only [] at hlen h3 hlast h0s ⊢
    by_cases gi : i = 0
    · have := h0s gi
      cases this
      subst gi
      have eS : ordS roll (0, 0, []) ts[0] = ((0 : Int), (0 : Int) + ts[0], ([] : List Int) ++ [0]) := if_neg (by show ¬ roll < 0 + ts[0]; omega)
      simp only [eS]
      rw [if_neg (by omega)]
      walk_at "rv"
      exact ⟨roll - ts[0], .val (.int 0), rfl, rfl, fun _ => by omega⟩
    · obtain ⟨pre, hp⟩ := hlast (by omega)
      have h3' := h3 (by omega)
      have at2 : atI (acc.map D.int) (-1) = some (.int num) := by
        rw [hp, List.map_append]
        exact atI_last
      have la : (acc.map D.int).length ≤ 2000 := by rw [List.length_map]; simp at hlen; omega
      rw [if_pos (by omega)]
      unfold ordS
      simp only []
      by_cases g : ts[i] ≤ x3
      · rw [if_pos g, if_neg (by omega)]
        simp only [at1, kO_some]
        walk_at "rv"
        simp only [at2, kO_some]
        walk_at "rv"
        refine ⟨by omega, x3 - ts[i], .val (.int (0 + (i : Int))), ?_, rfl, by omega⟩
        rw [List.map_append]
        rfl
      · rw [if_neg g, if_pos (by omega)]
        simp only [at1, kO_some]
        walk_at "rv"
        rw [if_pos (by omega)]
        simp only [at2, kO_some]
        walk_at "rv"
        refine ⟨by omega, roll - ts[i], .val (.int (0 + (i : Int))), ?_, rfl, by omega⟩
        rw [List.map_append]
        rfl
  · rintro sg S' ⟨x3, x4, rfl, rfl, h4, h3⟩
    rw [rngD_len, Int.toNat_natCast, List.take_length]
    walk_at "rv"
    exact hy

end Law

namespace Law
open PySem PySem.Spec PyProof.Rows L2 D2
local macro_rules | `(tactic| walk_at "ev") => `(tactic| simp (decide := true) only [kO_some, w_C, w_Var, w_VarW, kVar_val, kVarW_val, kVarW_lst, kVarW_dic, w_Flat, kFlat_eq, w_Bin, kBin_eq, kBin2_eq, w_Un, kUn_eq, w_Tup, kTup_eq, w_Lst, kLst_eq, w_Nil, w_Cons, kCons_eq, kCons2_eq, w_And, kAnd_eq, w_Or, kOr_eq, w_Tst, kTst_eq, w_Tru, kTru_bl, kTru_int, kTru_tup, kTru_lst, kTru_non, w_NotT, kNotT_eq, w_AndT, kAndT_eq, w_OrT, kOrT_eq, w_IsN, kIsN_eq, w_If, kIf_eq, w_Chain, kCh1_eq, kCh2_eq, kCh3_eq, w_Bi, kBi_eq, on1_eq, on2_eq, w_Meth, kMeth_eq, kMeth2_eq, w_Ix, kIx_eq, kIx2_eq, w_Get2, kGet1_eq, kGet2_eq, kGet3_eq, w_NoP, w_Part, kPart_eq, w_Sl, kSl1_eq, kSl2_eq, kSl3_eq, w_Call, kCall_eq, w_CallP, kCallP_eq, w_OfO, kOfO_eq, toD_lst, toD_dic, w_LstO, kLstO_eq, w_DicO, w_Rep, kRep_eq, kRep2_eq, w_Pn, w_Pc, kPc1_eq, kPc2_eq, kPc3_eq, w_Disp, kDisp_eq, kDisp2_eq, keyed_nil, keyed_S, keyed_I, w_Lc, kLc_eq, kLc2_eq, w_Il, kIl_eq, w_It, kIt_eq, w_Ir1, kIr1_eq, w_Ir2, kIr2_eq, w_Ie, kIe_eq, w_IeT, kIeT_eq, w_Yes, w_Seq, kSeq_nx, kSeq_bk, kSeq_ct, kSeq_rt, w_Nx, w_Bk, w_Ct, w_RetN, w_Ret, kRet_eq, w_Drop, kDrop_eq, w_IfS, kIfS_eq, w_Frz, w_Set, kSet_eq, w_SetO, kSetO_eq, w_Aft, kAft_eq, w_Asg, kAsg_eq, kAsg2_eq, w_For, kFor_eq, w_While, w_Put, kPut_eq, kPut2_own, kPut2_ref, kPutR_eq, w_Own, w_OwnE, w_OwnS, kOwn_eq, kOwnE_eq, kOwnS_eq, w_Fn, kFn_nx, kFn_rt, kLoop_nx, kLoop_ct, kLoop_bk, kLoop_rt, w_Ir3, kIr3_eq, w_Lrg, kLrg_eq, w_AppPop, kApp0_eq, w_Never, w_Irv, kIrv_eq, w_Star, kStar_tup, kStar_lst, kStar2_eq, w_CallX, kCallX_eq, w_Raise, kRaise_eq, w_Done, kDone_eq, w_Try, kTry_eq, w_msRetF, kFld_some, w_msRetC, w_msRetP, kFld2_some, w_ToL, kToL_tup, kToL_lst, w_Chain3, kD0_eq, kD1_eq, kD2_eq, kD3_eq, kD4_eq, w_Add, kAdd_eq, kAdd2_eq, w_msRet, w_xF, kFldE_some, w_xBin, w_Hd, w_TryN, kTryN_eq, kHd_some, kHd_only, w_IfT, kIfT_eq, w_Iz, kIz_tup, kIz_lst, w_xOwnE, w_xOne, o_addI, o_addS, o_addT, o_addL, o_sub, o_fdiv, o_mod, o_pow, o_shl, o_shr, o_and, o_or, o_mul, o_lt, o_le, o_gt, o_ge, lt_eq, le_eq, gt_eq, ge_eq, o_neg, o_nob, o_eqI, o_eqS, o_neI, o_neS, eqo_int, ixS_tup, ixS_lst, ixS_dic, ixS_ref0, ixS_ref1, ixo_tup, ixo_lst, ixo_dicI, ixo_dicS, atI_0, atI_1, atI_2, atI_3, atI_4, atI_5, atI_6, atI_7, atI_8, pr_0, pr_1, pr_2, pr_3, po_dicI, po_dicS, app_eq, ext_eq, isL_eq, isD_eq, DisL_eq, o_lenL, o_lenT, o_lenD, o_lenS, o_toI, o_abs, o_strI, o_max2, o_min2, o_toT, o_toTT, o_toL, o_toLT, o_sloT, o_sloL, o_sloS, g_Nm, g_Tu, g_Cons, g_Nil, own_val, own_no, merge_new, dGet_cons, dGet_nil, dGet2_S, dGet2_I, o_sset, o_ssetI, o_toIb, fl_int, fl_bl, fl_str, fl_non, isNon_non, isNon_int, isNon_tup, o_inI, o_ninI, o_ninE, o_mkRng, isNon_bl, o_eqB, o_mulI, o_mulTup, o_mulLst, o_revT, o_isStrS, o_isStrT, o_isStrN, o_ltG, o_sortG, o_ssetL, o_ssetLt, o_lenSetI, o_tupRg, o_minGl, o_minGt, o_maxGl, o_maxGt, o_bestDl, o_bestDt, o_bestDln, o_bestDtn, o_lenSetT, o_sortT, List.getElem?_cons_zero, List.getElem?_cons_succ, List.set_cons_zero, List.set_cons_succ, List.length_cons, List.length_nil, List.map_cons, List.map_nil, List.cons_append, List.nil_append, List.replicate_succ, List.replicate_zero, if_true, if_false, decide_eq_true_eq, decide_eq_false_iff_not, Bool.false_eq_true, and_true, true_and, Bool.not_true, Bool.not_false, reduceIte, Option.bind_some, Option.map_some, Option.getD_some, Option.getD_none, Sum.inr.injEq, Sum.inl.injEq, Nat.reduceAdd, Nat.reduceSub, Nat.reduceLeDiff, Nat.reduceLT, Nat.reduceEqDiff, reduceCtorEq, Int.reduceLT, Int.reduceLE, Int.reduceEq, Int.reduceAdd, Int.reduceSub, Int.reduceMul, Int.reduceNeg, Int.cast_ofNat_Int, Int.natCast_zero, Int.reduceToNat, Int.reducePow, or_true, true_or, String.reduceEq, decide_true, decide_false, Bool.not_eq_true', Bool.not_eq_false', List.all_cons, List.all_nil, Bool.and_true, Bool.true_and, Bool.true_or, Bool.or_true, wipeS, startS, hdOf_cons])

/-! ### what is on a roll: the takes of a set c (bits), put by f, on roll m -/
def ld (t : Nat → Int) (f : Nat → Nat) (c m : Nat) : Nat → Int
  | 0 => 0
  | n + 1 => ld t f c m n + if c.testBit n = true ∧ f n = m then t n else 0
theorem ld_nonneg {t : Nat → Int} {f : Nat → Nat} {c m : Nat} : ∀ {n : Nat}, (∀ p, p < n → 0 ≤ t p) → 0 ≤ ld t f c m n
  | 0, _ => Int.le_refl 0
  | n + 1, h => by
    have a := ld_nonneg (t := t) (f := f) (c := c) (m := m) (n := n) fun p hp => h p (by omega)
    have b := h n (by omega)
    unfold ld
    split <;> omega
theorem ld_zero {t : Nat → Int} {f : Nat → Nat} {c m : Nat} : ∀ {n : Nat}, (∀ p, p < n → c.testBit p = true → f p ≠ m) → ld t f c m n = 0
  | 0, _ => rfl
  | n + 1, h => by
    have a := ld_zero (t := t) (f := f) (c := c) (m := m) (n := n) fun p hp => h p (by omega)
    have b := h n (by omega)
    unfold ld
    rw [a, if_neg fun g => b g.1 g.2]
    rfl
theorem ld_congr {t : Nat → Int} {f f' : Nat → Nat} {c c' m : Nat} : ∀ {n : Nat}, (∀ p, p < n → ((c.testBit p = true ∧ f p = m) ↔ (c'.testBit p = true ∧ f' p = m))) → ld t f c m n = ld t f' c' m n
  | 0, _ => rfl
  | n + 1, h => by
    have a := ld_congr (t := t) (n := n) fun p hp => h p (by omega)
    have b := h n (by omega)
    unfold ld
    rw [a]
    by_cases g : c.testBit n = true ∧ f n = m
    · rw [if_pos g, if_pos (b.mp g)]
    · rw [if_neg g, if_neg fun k => g (b.mpr k)]
/-- one take more -/
theorem ld_more {t : Nat → Int} {f f' : Nat → Nat} {c c' p : Nat} (hp0 : c.testBit p = false) (hp : c'.testBit p = true) (hq : ∀ q, q ≠ p → c'.testBit q = c.testBit q ∧ f' q = f q) (m : Nat) :
    ∀ {n : Nat}, ld t f' c' m n = ld t f c m n + if p < n ∧ f' p = m then t p else 0
  | 0 => by simp [ld]
  | n + 1 => by
    have a := ld_more (t := t) hp0 hp hq m (n := n)
    unfold ld
    rw [a]
    by_cases e : n = p
    · subst e
      simp only [hp0, hp, true_and, Bool.false_eq_true, false_and, if_false, Nat.lt_irrefl, Nat.lt_succ_self]
      try omega
    · rw [(hq n e).1, (hq n e).2]
      have : (p < n + 1) ↔ (p < n) := ⟨fun h => by omega, fun h => by omega⟩
      simp only [this]
      omega
theorem bit_more {c p q : Nat} (h : q ≠ p) : (c ||| 1 <<< p).testBit q = c.testBit q := by
  rw [Nat.testBit_or, Nat.one_shiftLeft, Nat.testBit_two_pow, decide_eq_false (by omega), Bool.or_false]
theorem bit_more_p {c p : Nat} : (c ||| 1 <<< p).testBit p = true := by
  rw [Nat.testBit_or, Nat.one_shiftLeft, Nat.testBit_two_pow_self, Bool.or_true]
theorem bit_less {c p : Nat} (h : c.testBit p = true) : ∃ c', c' < c ∧ c'.testBit p = false ∧ c' ||| 1 <<< p = c ∧ ∀ q, q ≠ p → c'.testBit q = c.testBit q := by
  have e : c ^^^ 2 ^ p ||| 1 <<< p = c := by
    apply Nat.eq_of_testBit_eq
    intro q
    rw [Nat.testBit_or, Nat.testBit_xor, Nat.one_shiftLeft, Nat.testBit_two_pow]
    by_cases g : p = q
    · subst g
      rw [h]
      simp
    · simp [g]
  have f : (c ^^^ 2 ^ p).testBit p = false := by
    rw [Nat.testBit_xor, Nat.testBit_two_pow_self, h]
    rfl
  have l : c ^^^ 2 ^ p ≤ c := by
    have := @Nat.left_le_or (c ^^^ 2 ^ p) (1 <<< p)
    rw [e] at this
    exact this
  refine ⟨c ^^^ 2 ^ p, Nat.lt_of_le_of_ne l fun g => ?_, f, e, fun q hq => ?_⟩
  · rw [g, h] at f
    cases f
  · rw [Nat.testBit_xor, Nat.testBit_two_pow, decide_eq_false (by omega), Bool.xor_false]
/-! ### one more on the rolls filled in order -/
def endw : List Int → Nat → Int → Int → Option (Nat × Int)
  | [], _, _, _ => none
  | r :: rs, k, u, t => if u + t ≤ r then some (k, u + t) else endw rs (k + 1) 0 t
theorem endw_some {t : Int} {e : Nat × Int} : ∀ {rs : List Int} {k : Nat} {u : Int}, endw rs k u t = some e →
    k ≤ e.1 ∧ (∃ r, rs[e.1 - k]? = some r ∧ e.2 ≤ r) ∧ ((e.1 = k ∧ e.2 = u + t) ∨ (k < e.1 ∧ e.2 = t))
  | [], _, _, h => by cases h
  | r :: rs, k, u, h => by
    unfold endw at h
    split at h
    · rename_i g
      cases h
      exact ⟨Nat.le_refl _, ⟨r, by simp, g⟩, .inl ⟨rfl, rfl⟩⟩
    · obtain ⟨h1, ⟨r', h2, h3⟩, h4⟩ := endw_some h
      refine ⟨by omega, ⟨r', ?_, h3⟩, .inr ⟨by omega, ?_⟩⟩
      · have : e.1 - k = (e.1 - (k + 1)) + 1 := by omega
        rw [this]
        exact h2
      · rcases h4 with h4 | h4 <;> omega
def ple (e : Nat × Int) (m : Nat) (w : Int) : Prop := e.1 < m ∨ (e.1 = m ∧ e.2 ≤ w)
theorem endw_le {t w r : Int} {m : Nat} : ∀ {rs : List Int} {k : Nat} {u : Int}, k ≤ m → rs[m - k]? = some r → w ≤ r → (k = m → u + t ≤ w) → (k < m → t ≤ w) → ∃ e, endw rs k u t = some e ∧ ple e m w
  | [], _, _, _, h, _, _, _ => by cases h
  | r' :: rs, k, u, hk, h, hw, h1, h2 => by
    unfold endw
    split
    · refine ⟨_, rfl, ?_⟩
      by_cases g : k = m
      · exact .inr ⟨g, h1 g⟩
      · exact .inl (by show k < m; omega)
    · rename_i g
      by_cases e : k = m
      · subst e
        rw [Nat.sub_self] at h
        cases h
        exact absurd (h1 rfl) (by omega)
      · refine endw_le (by omega) ?_ hw (fun _ => by have := h2 (by omega); omega) fun _ => h2 (by omega)
        have : m - k = (m - (k + 1)) + 1 := by omega
        rw [this] at h
        exact h
/-! ### the table -/
def Val' (rooms : List Int) (t : Nat → Int) (n c : Nat) (f : Nat → Nat) : Prop :=
  (∀ p, p < n → c.testBit p = true → f p < rooms.length) ∧ ∀ (m : Nat) (r : Int), rooms[m]? = some r → ld t f c m n ≤ r
def Snd (rooms : List Int) (t : Nat → Int) (n c : Nat) (e : Nat × Int) : Prop :=
  ∃ f, Val' rooms t n c f ∧ (∀ p, p < n → c.testBit p = true → f p ≤ e.1) ∧ ld t f c e.1 n ≤ e.2
theorem snd_zero {rooms : List Int} {t : Nat → Int} {n : Nat} (h : ∀ r ∈ rooms, 0 ≤ r) : Snd rooms t n 0 (0, 0) := by
  have z : ∀ (f : Nat → Nat) m, ld t f 0 m n = 0 := fun f m => ld_zero fun p _ hb => by rw [Nat.zero_testBit] at hb; cases hb
  have nb : ∀ {Q : Prop} {p : Nat}, Nat.testBit 0 p = true → Q := fun hb => by rw [Nat.zero_testBit] at hb; cases hb
  refine ⟨fun _ => 0, ⟨fun p _ hb => nb hb, fun m r hr => ?_⟩, fun p _ hb => nb hb, ?_⟩
  · rw [z]
    exact h r (List.mem_of_getElem? hr)
  · rw [z]
    exact Int.le_refl 0
theorem snd_more {rooms : List Int} {t : Nat → Int} {n c p : Nat} {e e' : Nat × Int} (hp : p < n) (h0 : c.testBit p = false) (h : Snd rooms t n c e) (he : endw (rooms.drop e.1) e.1 e.2 (t p) = some e') : Snd rooms t n (c ||| 1 <<< p) e' := by
  obtain ⟨f, ⟨v1, v2⟩, hf, hu⟩ := h
  obtain ⟨h1, ⟨r, h2, h3⟩, h4⟩ := endw_some he
  rw [List.getElem?_drop] at h2
  have hx : e.1 + (e'.1 - e.1) = e'.1 := by omega
  rw [hx] at h2
  have hl := (List.getElem?_eq_some_iff.mp h2).1
  have more := fun m => ld_more (t := t) (f := f) (f' := fun q => if q = p then e'.1 else f q) (c := c) (c' := c ||| 1 <<< p) (p := p) h0 bit_more_p (fun q hq => ⟨bit_more hq, if_neg hq⟩) m (n := n)
  simp only [hp, true_and, if_true] at more
  have big : ld t f c e'.1 n + t p ≤ e'.2 := by
    rcases h4 with ⟨a, b⟩ | ⟨a, b⟩
    · rw [a, b]
      omega
    · rw [ld_zero fun q hq hb => by have := hf q hq hb; omega]
      omega
  refine ⟨fun q => if q = p then e'.1 else f q, ⟨fun q hq hb => ?_, fun m r' hr => ?_⟩, fun q hq hb => ?_, ?_⟩
  · simp only []
    split
    · exact hl
    · rename_i g
      rw [bit_more g] at hb
      exact v1 q hq hb
  · rw [more]
    split
    · rename_i g
      subst g
      rw [h2] at hr
      cases hr
      omega
    · have := v2 m r' hr
      omega
  · simp only []
    split
    · exact Nat.le_refl _
    · rename_i g
      rw [bit_more g] at hb
      have := hf q hq hb
      omega
  · rw [more, if_pos rfl]
    exact big
/-- what a table of which all sets below k are looked at tells -/
def Cmp (rooms : List Int) (t : Nat → Int) (n k : Nat) (E : Nat → Option (Nat × Int)) : Prop :=
  ∀ c, c < k → ∀ p, p < n → c.testBit p = false → ∀ e, E c = some e → ∀ e', endw (rooms.drop e.1) e.1 e.2 (t p) = some e' → ∃ x, E (c ||| 1 <<< p) = some x ∧ ple x e'.1 e'.2
theorem ple_trans {e e' : Nat × Int} {m : Nat} {w : Int} (h : ple e e'.1 e'.2) (h' : ple e' m w) : ple e m w := by
  unfold ple at *
  omega
theorem cmp_all {rooms : List Int} {t : Nat → Int} {n k : Nat} {E : Nat → Option (Nat × Int)} (h0 : E 0 = some (0, 0)) (h : Cmp rooms t n k E) (ht : ∀ p, p < n → 0 ≤ t p) {f : Nat → Nat} :
    ∀ (c : Nat), c ≤ k → (∀ p, c.testBit p = true → p < n) → Val' rooms t n c f → ∀ m, (∀ p, p < n → c.testBit p = true → f p ≤ m) → ∃ e, E c = some e ∧ ple e m (ld t f c m n) := by
  intro c
  induction c using Nat.strongRecOn with
  | _ c ih =>
    intro hc hb hv m
    have key : ∀ m, (∀ p, p < n → c.testBit p = true → f p ≤ m) → (∃ p, c.testBit p = true ∧ f p = m) → ∃ e, E c = some e ∧ ple e m (ld t f c m n) := by
      rintro m hm ⟨p, hp, hf⟩
      have hpn := hb p hp
      obtain ⟨c', l, b0, eo, bq⟩ := bit_less hp
      have up : ∀ q, c'.testBit q = true → c.testBit q = true := fun q hq => by
        by_cases g : q = p
        · subst g
          rw [b0] at hq
          cases hq
        · rw [← bq q g]
          exact hq
      have more := fun m => ld_more (t := t) (f := f) (f' := f) b0 hp (fun q hq => ⟨(bq q hq).symm, rfl⟩) m (n := n)
      have tp := ht p hpn
      have le := fun m => show ld t f c' m n ≤ ld t f c m n by rw [more]; split <;> omega
      obtain ⟨e, he, hle⟩ := ih c' l (by omega) (fun q hq => hb q (up q hq)) ⟨fun q hq hb' => hv.1 q hq (up q hb'), fun m r hr => Int.le_trans (le m) (hv.2 m r hr)⟩ m fun q hq hb' => hm q hq (up q hb')
      have hl := hv.1 p hpn hp
      rw [hf] at hl
      have hr : rooms[m]? = some rooms[m] := List.getElem?_eq_getElem hl
      have hw := hv.2 m _ hr
      have mm := more m
      rw [if_pos ⟨hpn, hf⟩] at mm
      have nn := ld_nonneg (f := f) (c := c') (m := m) ht
      unfold ple at hle
      obtain ⟨e', he', hle'⟩ := endw_le (t := t p) (w := ld t f c m n) (r := rooms[m]) (m := m) (rs := rooms.drop e.1) (k := e.1) (u := e.2) (by omega) (by rw [List.getElem?_drop, show e.1 + (m - e.1) = m by omega]; exact hr) hw (fun _ => by omega) fun _ => by omega
      obtain ⟨x, hx, hxl⟩ := h c' (by omega) p hpn b0 e he e' he'
      rw [eo] at hx
      exact ⟨x, hx, ple_trans hxl hle'⟩
    by_cases g : c = 0
    · intro _
      subst g
      refine ⟨_, h0, ?_⟩
      by_cases g : m = 0
      · subst g
        exact .inr ⟨rfl, ld_nonneg ht⟩
      · exact .inl (by show 0 < m; omega)
    · obtain ⟨p, hp⟩ := Nat.exists_testBit_of_ne_zero g
      induction m with
      | zero => exact fun hm => key 0 hm ⟨p, hp, by have := hm p (hb p hp) hp; omega⟩
      | succ m ihm =>
        intro hm
        by_cases g2 : ∃ p, c.testBit p = true ∧ f p = m + 1
        · exact key _ hm g2
        · obtain ⟨e, he, hle⟩ := ihm fun q hq hb' => by
            have := hm q hq hb'
            have : f q ≠ m + 1 := fun k => g2 ⟨q, hb', k⟩
            omega
          refine ⟨e, he, ?_⟩
          unfold ple at hle ⊢
          omega
/-! ### is there room -/
def lda (t : Nat → Int) (f : Nat → Nat) (m : Nat) : Nat → Int
  | 0 => 0
  | n + 1 => lda t f m n + if f n = m then t n else 0
theorem ld_full {t : Nat → Int} {f : Nat → Nat} {c m : Nat} : ∀ {n : Nat}, (∀ p, p < n → c.testBit p = true) → ld t f c m n = lda t f m n
  | 0, _ => rfl
  | n + 1, h => by
    unfold ld lda
    rw [ld_full fun p hp => h p (by omega), h n (by omega)]
    simp only [true_and]
/-- takes t 0 .. t (n - 1) can be put on rolls with so much room -/
def FitA (rooms : List Int) (t : Nat → Int) (n : Nat) (f : Nat → Nat) : Prop := (∀ p, p < n → f p < rooms.length) ∧ ∀ (m : Nat) (r : Int), rooms[m]? = some r → lda t f m n ≤ r
theorem bits_full {n p : Nat} : (2 ^ n - 1).testBit p = decide (p < n) := Nat.testBit_two_pow_sub_one ..
theorem room_iff {rooms : List Int} {t : Nat → Int} {n : Nat} {E : Nat → Option (Nat × Int)} (h0 : E 0 = some (0, 0)) (h : Cmp rooms t n (2 ^ n) E) (hs : ∀ c e, E c = some e → Snd rooms t n c e) (ht : ∀ p, p < n → 0 ≤ t p) :
    (E (2 ^ n - 1)).isSome = true ↔ ∃ f, FitA rooms t n f := by
  have fb : ∀ p, p < n → (2 ^ n - 1).testBit p = true := fun p hp => by rw [bits_full]; exact decide_eq_true hp
  have eq : ∀ f, Val' rooms t n (2 ^ n - 1) f ↔ FitA rooms t n f := fun f => by
    unfold Val' FitA
    constructor
    · rintro ⟨a, b⟩
      exact ⟨fun p hp => a p hp (fb p hp), fun m r hr => by rw [← ld_full fb]; exact b m r hr⟩
    · rintro ⟨a, b⟩
      exact ⟨fun p hp _ => a p hp, fun m r hr => by rw [ld_full fb]; exact b m r hr⟩
  constructor
  · intro h
    obtain ⟨e, he⟩ := Option.isSome_iff_exists.mp h
    obtain ⟨f, v, _⟩ := hs _ _ he
    exact ⟨f, (eq f).mp v⟩
  · rintro ⟨f, hf⟩
    obtain ⟨e, he, _⟩ := cmp_all h0 h ht (f := f) (2 ^ n - 1) (Nat.sub_le _ _) (fun p hp => by rw [bits_full] at hp; exact of_decide_eq_true hp) ((eq f).mpr hf) rooms.length fun p hp _ => by have := hf.1 p hp; omega
    rw [he]
    rfl

end Law

namespace Law
open PySem PySem.Spec PyProof.Rows L2 D2
local macro_rules | `(tactic| walk_at "ev") => `(tactic| simp (decide := true) only [kO_some, w_C, w_Var, w_VarW, kVar_val, kVarW_val, kVarW_lst, kVarW_dic, w_Flat, kFlat_eq, w_Bin, kBin_eq, kBin2_eq, w_Un, kUn_eq, w_Tup, kTup_eq, w_Lst, kLst_eq, w_Nil, w_Cons, kCons_eq, kCons2_eq, w_And, kAnd_eq, w_Or, kOr_eq, w_Tst, kTst_eq, w_Tru, kTru_bl, kTru_int, kTru_tup, kTru_lst, kTru_non, w_NotT, kNotT_eq, w_AndT, kAndT_eq, w_OrT, kOrT_eq, w_IsN, kIsN_eq, w_If, kIf_eq, w_Chain, kCh1_eq, kCh2_eq, kCh3_eq, w_Bi, kBi_eq, on1_eq, on2_eq, w_Meth, kMeth_eq, kMeth2_eq, w_Ix, kIx_eq, kIx2_eq, w_Get2, kGet1_eq, kGet2_eq, kGet3_eq, w_NoP, w_Part, kPart_eq, w_Sl, kSl1_eq, kSl2_eq, kSl3_eq, w_Call, kCall_eq, w_CallP, kCallP_eq, w_OfO, kOfO_eq, toD_lst, toD_dic, w_LstO, kLstO_eq, w_DicO, w_Rep, kRep_eq, kRep2_eq, w_Pn, w_Pc, kPc1_eq, kPc2_eq, kPc3_eq, w_Disp, kDisp_eq, kDisp2_eq, keyed_nil, keyed_S, keyed_I, w_Lc, kLc_eq, kLc2_eq, w_Il, kIl_eq, w_It, kIt_eq, w_Ir1, kIr1_eq, w_Ir2, kIr2_eq, w_Ie, kIe_eq, w_IeT, kIeT_eq, w_Yes, w_Seq, kSeq_nx, kSeq_bk, kSeq_ct, kSeq_rt, w_Nx, w_Bk, w_Ct, w_RetN, w_Ret, kRet_eq, w_Drop, kDrop_eq, w_IfS, kIfS_eq, w_Frz, w_Set, kSet_eq, w_SetO, kSetO_eq, w_Aft, kAft_eq, w_Asg, kAsg_eq, kAsg2_eq, w_For, kFor_eq, w_While, w_Put, kPut_eq, kPut2_own, kPut2_ref, kPutR_eq, w_Own, w_OwnE, w_OwnS, kOwn_eq, kOwnE_eq, kOwnS_eq, w_Fn, kFn_nx, kFn_rt, kLoop_nx, kLoop_ct, kLoop_bk, kLoop_rt, w_Ir3, kIr3_eq, w_Lrg, kLrg_eq, w_AppPop, kApp0_eq, w_Never, w_Irv, kIrv_eq, w_Star, kStar_tup, kStar_lst, kStar2_eq, w_CallX, kCallX_eq, w_Raise, kRaise_eq, w_Done, kDone_eq, w_Try, kTry_eq, w_msRetF, kFld_some, w_msRetC, w_msRetP, kFld2_some, w_ToL, kToL_tup, kToL_lst, w_Chain3, kD0_eq, kD1_eq, kD2_eq, kD3_eq, kD4_eq, w_Add, kAdd_eq, kAdd2_eq, w_msRet, w_xF, kFldE_some, w_xBin, w_Hd, w_TryN, kTryN_eq, kHd_some, kHd_only, w_IfT, kIfT_eq, w_Iz, kIz_tup, kIz_lst, w_xOwnE, w_xOne, o_addI, o_addS, o_addT, o_addL, o_sub, o_fdiv, o_mod, o_pow, o_shl, o_shr, o_and, o_or, o_mul, o_lt, o_le, o_gt, o_ge, lt_eq, le_eq, gt_eq, ge_eq, o_neg, o_nob, o_eqI, o_eqS, o_neI, o_neS, eqo_int, ixS_tup, ixS_lst, ixS_dic, ixS_ref0, ixS_ref1, ixo_tup, ixo_lst, ixo_dicI, ixo_dicS, atI_0, atI_1, atI_2, atI_3, atI_4, atI_5, atI_6, atI_7, atI_8, pr_0, pr_1, pr_2, pr_3, po_dicI, po_dicS, app_eq, ext_eq, isL_eq, isD_eq, DisL_eq, o_lenL, o_lenT, o_lenD, o_lenS, o_toI, o_abs, o_strI, o_max2, o_min2, o_toT, o_toTT, o_toL, o_toLT, o_sloT, o_sloL, o_sloS, g_Nm, g_Tu, g_Cons, g_Nil, own_val, own_no, merge_new, dGet_cons, dGet_nil, dGet2_S, dGet2_I, o_sset, o_ssetI, o_toIb, fl_int, fl_bl, fl_str, fl_non, isNon_non, isNon_int, isNon_tup, o_inI, o_ninI, o_ninE, o_mkRng, isNon_bl, o_eqB, o_mulI, o_mulTup, o_mulLst, o_revT, o_isStrS, o_isStrT, o_isStrN, o_ltG, o_sortG, o_ssetL, o_ssetLt, o_lenSetI, o_tupRg, o_minGl, o_minGt, o_maxGl, o_maxGt, o_bestDl, o_bestDt, o_bestDln, o_bestDtn, o_lenSetT, o_sortT, List.getElem?_cons_zero, List.getElem?_cons_succ, List.set_cons_zero, List.set_cons_succ, List.length_cons, List.length_nil, List.map_cons, List.map_nil, List.cons_append, List.nil_append, List.replicate_succ, List.replicate_zero, if_true, if_false, decide_eq_true_eq, decide_eq_false_iff_not, Bool.false_eq_true, and_true, true_and, Bool.not_true, Bool.not_false, reduceIte, Option.bind_some, Option.map_some, Option.getD_some, Option.getD_none, Sum.inr.injEq, Sum.inl.injEq, Nat.reduceAdd, Nat.reduceSub, Nat.reduceLeDiff, Nat.reduceLT, Nat.reduceEqDiff, reduceCtorEq, Int.reduceLT, Int.reduceLE, Int.reduceEq, Int.reduceAdd, Int.reduceSub, Int.reduceMul, Int.reduceNeg, Int.cast_ofNat_Int, Int.natCast_zero, Int.reduceToNat, Int.reducePow, or_true, true_or, String.reduceEq, decide_true, decide_false, Bool.not_eq_true', Bool.not_eq_false', List.all_cons, List.all_nil, Bool.and_true, Bool.true_and, Bool.true_or, Bool.or_true, wipeS, startS, hdOf_cons])
abbrev n__end_with : List Str := ["rooms", "end", "take", "number", "used"]
def m__end_with_b1 : MS :=
  (mSeq (mIfS (mTst (mBin D.le (mBin D.add (mVar 4) (mVar 2)) (mIx (mVar 0) (mVar 3)))) (mRet (mTup (mCons (mVar 3) (mCons (mBin D.add (mVar 4) (mVar 2)) mNil)))) mNx)
  (mSeq (mSet 3 (mBin D.add (mVar 3) (mC (.int 1))))
  (mSet 4 (mC (.int 0)))))
def m__end_with : MS :=
  (mSeq (mAsg (mVar 1) (gTu 2 (gsCons (gNm 3) (gsCons (gNm 4) gsNil))))
  (mSeq (mWhile 1000 (mTst (mBin D.lt (mVar 3) (mBi (on1 D.len) (mCons (mVar 0) mNil)))) (m__end_with_b1))
  (mRet (mC .non))))
def F__end_with : FD := fnF n__end_with m__end_with
abbrev n__have_room : List Str := ["rooms", "takes", "sets", "ends", "chosen", "place", "take", "more", "end", "_"]
def m__have_room_b1 : MS :=
  (mSeq (mSet 7 (mBin D.or (mVar 4) (mBin D.shl (mC (.int 1)) (mVar 5))))
  (mSeq (mSet 8 (mFlat (mCallP F__end_with (mCons (mVar 0) (mCons (mIx (mVarW 3) (mVar 4)) (mCons (mVar 6) mNil))))))
  (mIfS (mAndT (mTst (mBin D.neo (mVar 7) (mVar 4))) (mAndT (mTst (mIsN true (mVar 8))) (mOrT (mTst (mIsN false (mIx (mVarW 3) (mVar 7)))) (mTst (mBin D.ltG (mVar 8) (mIx (mVarW 3) (mVar 7))))))) (mPut 3 (mVar 8) (mVar 7)) mNx)))
def m__have_room_b2 : MS :=
  (mIfS (mTst (mIsN true (mIx (mVarW 3) (mVar 4)))) (mFor (mIeT (mCons (mVar 1) mNil)) (gTu 2 (gsCons (gNm 5) (gsCons (gNm 6) gsNil))) (m__have_room_b1)) mNx)
def m__have_room : MS :=
  (mSeq (mSet 2 (mBin D.shl (mC (.int 1)) (mBi (on1 D.len) (mCons (mVar 1) mNil))))
  (mSeq (mSetO 3 (oLc false (mIr1 (mCons (mVar 2) mNil)) (gNm 9) mYes (mC .non) [9]))
  (mSeq (mPut 3 (mTup (mCons (mC (.int 0)) (mCons (mC (.int 0)) mNil))) (mC (.int 0)))
  (mSeq (mFor (mIr1 (mCons (mVar 2) mNil)) (gNm 4) (m__have_room_b2))
  (mFrz 3 (mRet (mIsN true (mIx (mVar 3) (mUn D.neg (mC (.int 1)))))))))))
def F__have_room : FD := fnF n__have_room m__have_room
abbrev n__fewest : List Str := ["takes", "roll", "count", "_"]
def m__fewest_b1 : MS :=
  (mSet 2 (mBin D.add (mVar 2) (mC (.int 1))))
def m__fewest : MS :=
  (mSeq (mSet 2 (mC (.int 0)))
  (mSeq (mWhile 1000 (mNotT (mTru (mCall F__have_room (mCons (mOfO (oLc false (mIr1 (mCons (mVar 2) mNil)) (gNm 3) mYes (mVar 1) [3])) (mCons (mVar 0) mNil))))) (m__fewest_b1))
  (mRet (mVar 2))))
def F__fewest : FD := fnF n__fewest m__fewest
abbrev n__first_roll : List Str := ["rooms", "take", "others", "number", "room", "left"]
def m__first_roll_b1 : MS :=
  (mSeq (mSet 5 (mLst (mStar (mSl (mVar 0) mNoP (mPart (mVar 3))) (mCons (mBin D.sub (mVar 4) (mVar 1)) (mStar (mSl (mVar 0) (mPart (mBin D.add (mVar 3) (mC (.int 1)))) mNoP) mNil)))))
  (mIfS (mAndT (mTst (mBin D.ge (mVar 4) (mVar 1))) (mTru (mCall F__have_room (mCons (mVar 5) (mCons (mVar 2) mNil))))) (mRet (mVar 3)) mNx))
def m__first_roll : MS :=
  (mSeq (mFor (mIe (mCons (mVar 0) mNil)) (gTu 2 (gsCons (gNm 3) (gsCons (gNm 4) gsNil))) (m__first_roll_b1))
  (mRet (mC .non)))
def F__first_roll : FD := fnF n__first_roll m__first_roll
abbrev n_fewest_rolls : List Str := ["takes", "roll", "rooms", "numbers", "place", "take", "number", "_"]
def m_fewest_rolls_b1 : MS :=
  (mSeq (mSet 6 (mFlat (mCallP F__first_roll (mCons (mVarW 2) (mCons (mVar 5) (mCons (mSl (mVar 0) (mPart (mBin D.add (mVar 4) (mC (.int 1)))) mNoP) mNil))))))
  (mSeq (mPut 2 (mFlat (mBin D.sub (mIx (mVarW 2) (mVar 6)) (mVar 5))) (mVar 6))
  (mOwnE 3 O.isL O.append (mCons (mVar 6) mNil))))
def m_fewest_rolls : MS :=
  (mSeq (mDrop (mCallX F__check (mCons (mVar 0) (mCons (mVar 1) mNil))))
  (mSeq (mSetO 2 (oLc false (mIr1 (mCons (mCall F__fewest (mCons (mVar 0) (mCons (mVar 1) mNil))) mNil)) (gNm 7) mYes (mVar 1) [7]))
  (mSeq (mSetO 3 (oLst mNil))
  (mSeq (mFor (mIeT (mCons (mVar 0) mNil)) (gTu 2 (gsCons (gNm 4) (gsCons (gNm 5) gsNil))) (m_fewest_rolls_b1))
  (mFrz 3 (mRet (mBi (on1 D.toTup) (mCons (mVar 3) mNil))))))))
def F_fewest_rolls : FD := fnF n_fewest_rolls m_fewest_rolls
def enO : Option (Nat × Int) → D
  | none => .non
  | some e => .tup [.int (e.1 : Int), .int e.2]
theorem endw_cons {r u t : Int} {rs : List Int} {k : Nat} : endw (r :: rs) k u t = if u + t ≤ r then some (k, u + t) else endw rs (k + 1) 0 t := rfl
theorem endw_nil {u t : Int} {k : Nat} : endw [] k u t = none := rfl
theorem end_w {rs : List Int} {k : Nat} {u t : Int} {S : List O} {P : D × List O → Prop} {E : EP'} (hl : rs.length ≤ 100)
    (hy : P (enO (endw (rs.drop k) k u t), S)) : Wp (F__end_with [.lst (rs.map D.int), .tup [.int (k : Int), .int u], .int t] S) P E := by
  unfold F__end_with m__end_with
  walk_at "ev"
  refine Wp.wh (fun n sg S' => ∃ (k' : Nat) (u' : Int), sg = [.val (.lst (rs.map D.int)), .val (.tup [.int (k : Int), .int u]), .val (.int t), .val (.int (k' : Int)), .val (.int u')] ∧ S' = S ∧ endw (rs.drop k') k' u' t = endw (rs.drop k) k u t ∧ n = rs.length - k') (n := rs.length - k) ?_ ⟨k, u, rfl, rfl, rfl, rfl⟩ (by omega)
  rintro n sg S' ⟨k', u', rfl, rfl, he, rfl⟩
  walk_at "ev"
  rw [List.length_map]
  by_cases g : k' < rs.length
  · rw [if_pos (by omega)]
    refine ⟨by omega, ?_⟩
    have hk : rs[k']? = some rs[k'] := List.getElem?_eq_getElem g
    have at1 : atI (rs.map D.int) (k' : Int) = some (.int rs[k']) := atI_nat (by rw [List.getElem?_map, hk]; rfl)
    have ed : rs.drop k' = rs[k'] :: rs.drop (k' + 1) := List.drop_eq_getElem_cons g
    rw [ed, endw_cons] at he
    unfold m__end_with_b1
    walk_at "ev"
    simp only [at1, kO_some]
    walk_at "ev"
    by_cases g2 : u' + t ≤ rs[k']
    · rw [if_pos g2] at he ⊢
      try walk_at "ev"
      rw [← he] at hy
      exact hy
    · rw [if_neg g2] at he
      rw [if_neg g2]
      try walk_at "ev"
      exact ⟨rs.length - (k' + 1), by omega, k' + 1, 0, by rw [Int.natCast_add]; rfl, he, rfl⟩
  · rw [if_neg (by omega)]
    rw [List.drop_eq_nil_of_le (by omega), endw_nil] at he
    rw [← he] at hy
    try walk_at "ev"
    exact hy
theorem shl_one {p : Nat} : (1 : Int) * (2 : Int) ^ ((p : Int)).toNat = ((1 <<< p : Nat) : Int) := by
  rw [Int.one_mul, Int.toNat_natCast, Nat.one_shiftLeft, Int.natCast_pow]
  try rfl
theorem or_nat {a b : Nat} : Builtin.bitOr (a : Int) (b : Int) = ((a ||| b : Nat) : Int) := by
  rw [bitOr_nn (by omega) (by omega), Int.toNat_natCast, Int.toNat_natCast]
def eB (e e' : Nat × Int) : Bool := decide (e.1 < e'.1) || (decide (e.1 = e'.1) && decide (e.2 < e'.2))
theorem lt_e {e e' : Nat × Int} {S : List O} {P : D × List O → Prop} (h : P (.bl (eB e e'), S)) : kO (D.ltG (enO (some e)) (enO (some e'))) S P := by
  rw [o_ltG]
  have e1 : (enO (some e)).ltb (enO (some e')) = eB e e' := by
    have h := PySem.W.DatumOrd.lt_eq (((e.1 : Nat) : Int), e.2) (((e'.1 : Nat) : Int), e'.2)
    refine Eq.trans h ?_
    show (if ((e.1 : Nat) : Int) = ((e'.1 : Nat) : Int) then decide (e.2 < e'.2) else decide (((e.1 : Nat) : Int) < ((e'.1 : Nat) : Int))) = _
    unfold eB
    by_cases g : e.1 = e'.1
    · rw [if_pos (by omega), decide_eq_false (p := e.1 < e'.1) (by omega), decide_eq_true g, Bool.false_or, Bool.true_and]
    · rw [if_neg (by omega), decide_eq_false g, Bool.false_and, Bool.or_false]
      exact decide_eq_decide.mpr (by omega)
  rw [e1]
  exact ⟨rfl, h⟩
theorem fl_enO (x : Option (Nat × Int)) : ((enO x).flat = true) = True := by cases x <;> exact eq_true rfl
theorem non_enO (x : Option (Nat × Int)) : isNon (enO x) = x.isNone := by cases x <;> rfl
/-! ### the table, step by step -/
abbrev Ends := Nat → Option (Nat × Int)
def Tab (rs : List Int) (t : Nat → Int) (n k : Nat) (E : Ends) : Prop := E 0 = some (0, 0) ∧ (∀ c e, E c = some e → Snd rs t n c e) ∧ Cmp rs t n k E
def Tab2 (rs : List Int) (t : Nat → Int) (n i j : Nat) (e : Nat × Int) (E : Ends) : Prop :=
  Tab rs t n i E ∧ E i = some e ∧ ∀ p, p < j → i.testBit p = false → ∀ e', endw (rs.drop e.1) e.1 e.2 (t p) = some e' → ∃ x, E (i ||| 1 <<< p) = some x ∧ ple x e'.1 e'.2
section
variable {rs : List Int} {t : Nat → Int} {n i j k : Nat} {e e' : Nat × Int} {E : Ends}
theorem or_ge {a p : Nat} : a ≤ a ||| 1 <<< p := Nat.left_le_or
theorem or_pos {a p : Nat} : (a ||| 1 <<< p) ≠ 0 := fun h => by
  have := @bit_more_p a p
  rw [h, Nat.zero_testBit] at this
  cases this
theorem or_same {a p : Nat} (h : a.testBit p = true) : a ||| 1 <<< p = a := by
  apply Nat.eq_of_testBit_eq
  intro q
  by_cases g : q = p
  · subst g
    rw [bit_more_p, h]
  · exact bit_more g
theorem or_ne {a p : Nat} (h : a.testBit p = false) : a ||| 1 <<< p ≠ a := fun g => by
  have := @bit_more_p a p
  rw [g, h] at this
  cases this
theorem eB_lt (h : eB e e' = true) : ple e e'.1 e'.2 := by
  unfold eB at h
  rw [Bool.or_eq_true, Bool.and_eq_true, decide_eq_true_eq, decide_eq_true_eq, decide_eq_true_eq] at h
  unfold ple
  omega
theorem eB_ge (h : eB e e' = false) : ple e' e.1 e.2 := by
  unfold eB at h
  rw [Bool.or_eq_false_iff, Bool.and_eq_false_iff, decide_eq_false_iff_not, decide_eq_false_iff_not, decide_eq_false_iff_not] at h
  unfold ple
  omega
theorem ple_refl : ple e e.1 e.2 := .inr ⟨rfl, Int.le_refl _⟩
theorem Tab.start (h : Tab rs t n i E) (he : E i = some e) : Tab2 rs t n i 0 e E := ⟨h, he, fun p hp => by omega⟩
theorem Tab.skip (h : Tab rs t n i E) (he : E i = none) : Tab rs t n (i + 1) E := ⟨h.1, h.2.1, fun c hc p hp hb e h1 => by
  by_cases g : c = i
  · subst g
    rw [he] at h1
    cases h1
  · exact h.2.2 c (by omega) p hp hb e h1⟩
theorem Tab2.all (h : Tab2 rs t n i n e E) : Tab rs t n (i + 1) E := ⟨h.1.1, h.1.2.1, fun c hc p hp hb e1 h1 => by
  by_cases g : c = i
  · subst g
    rw [h.2.1] at h1
    cases h1
    exact h.2.2 p hp hb
  · exact h.1.2.2 c (by omega) p hp hb e1 h1⟩
theorem Tab2.keep (h : Tab2 rs t n i j e E) (hk : i.testBit j = true ∨ endw (rs.drop e.1) e.1 e.2 (t j) = none ∨ ∃ e' x, endw (rs.drop e.1) e.1 e.2 (t j) = some e' ∧ E (i ||| 1 <<< j) = some x ∧ eB e' x = false) : Tab2 rs t n i (j + 1) e E := ⟨h.1, h.2.1, fun p hp hb e' h' => by
  by_cases g : p = j
  · subst g
    rcases hk with hk | hk | ⟨e2, x, h1, h2, h3⟩
    · rw [hk] at hb
      cases hb
    · rw [hk] at h'
      cases h'
    · rw [h1] at h'
      cases h'
      exact ⟨x, h2, eB_ge h3⟩
  · exact h.2.2 p (by omega) hb e' h'⟩
theorem Tab2.put (h : Tab2 rs t n i j e E) (hj : j < n) (hb : i.testBit j = false) (he : endw (rs.drop e.1) e.1 e.2 (t j) = some e') (hx : ∀ x, E (i ||| 1 <<< j) = some x → eB e' x = true) :
    Tab2 rs t n i (j + 1) e (fun c => if c = i ||| 1 <<< j then some e' else E c) := by
  obtain ⟨⟨h0, h1, h2⟩, h3, h4⟩ := h
  have gt : i < i ||| 1 <<< j := Nat.lt_of_le_of_ne or_ge (Ne.symm (or_ne hb))
  have mono : ∀ c e1, (∃ x, E c = some x ∧ ple x e1.1 e1.2) → ∃ x, (if c = i ||| 1 <<< j then some e' else E c) = some x ∧ ple x (e1 : Nat × Int).1 e1.2 := fun c e1 ⟨x, k1, k2⟩ => by
    by_cases g : c = i ||| 1 <<< j
    · rw [if_pos g]
      subst g
      exact ⟨e', rfl, ple_trans (eB_lt (hx x k1)) k2⟩
    · rw [if_neg g]
      exact ⟨x, k1, k2⟩
  refine ⟨⟨?_, fun c e1 hc => ?_, fun c hc p hp hb' e1 k1 e2 k2 => ?_⟩, ?_, fun p hp hb' e2 k2 => ?_⟩
  · simp only []
    rw [if_neg (Ne.symm or_pos)]
    exact h0
  · simp only [] at hc
    split at hc
    · rename_i g
      cases hc
      subst g
      exact snd_more hj hb (h1 i e h3) he
    · exact h1 c e1 hc
  · simp only [] at k1
    rw [if_neg (by omega)] at k1
    exact mono _ e2 (h2 c hc p hp hb' e1 k1 e2 k2)
  · simp only []
    rw [if_neg (by omega)]
    exact h3
  · by_cases g : p = j
    · subst g
      rw [he] at k2
      cases k2
      simp only [if_true]
      exact ⟨_, rfl, ple_refl⟩
    · exact mono _ e2 (h4 p (by omega) hb' e2 k2)
end
theorem rng_ints (n : Nat) : rngD 0 n = ((List.range n).map fun (k : Nat) => (k : Int)).map D.int := by
  unfold rngD
  rw [List.map_map]
  refine List.map_congr_left fun k _ => ?_
  show D.int (0 + (k : Int)) = D.int (k : Int)
  rw [Int.zero_add]
/-- a list of the same thing -/
theorem lc_same {i : Nat} {me : ME} {sg : List Sl} {S : List O} {d : D} {n : Nat} (hi : isOwn sg[i]? = false) (h : ∀ k : Int, me (sg.set i (.val (.int k))) S = .ok (d, S)) :
    lcR (gNm i) mYes me sg (rngD 0 n) S = .ok (List.replicate n d, S) := by
  rw [rng_ints, lc_int (f := fun _ => d) hi fun k _ => h k, List.map_const', List.length_map, List.length_range]
/-! ### is there room -/
def tk (ts : List Int) (p : Nat) : Int := (ts[p]?).getD 0
theorem tk_at {ts : List Int} {p : Nat} {t : Int} (h : ts[p]? = some t) : tk ts p = t := by
  unfold tk
  rw [h]
  rfl
def eL (L : List (Option (Nat × Int))) : Ends := fun c => (L[c]?).getD none
theorem eL_at {L : List (Option (Nat × Int))} {c : Nat} (h : c < L.length) : atI (L.map enO) (c : Int) = some (enO (eL L c)) := by
  unfold eL
  rw [List.getElem?_eq_getElem h]
  exact atI_nat (by rw [List.getElem?_map, List.getElem?_eq_getElem h]; rfl)
theorem eL_set {L : List (Option (Nat × Int))} {m : Nat} {x : Option (Nat × Int)} (h : m < L.length) : eL (L.set m x) = fun c => if c = m then x else eL L c := by
  funext c
  unfold eL
  rw [List.getElem?_set]
  by_cases g : m = c
  · subst g
    rw [if_pos rfl, if_pos rfl, if_pos h]
    rfl
  · rw [if_neg g, if_neg (Ne.symm g)]
theorem or_lt {n i p : Nat} (hi : i < 2 ^ n) (hp : p < n) : i ||| 1 <<< p < 2 ^ n := Nat.or_lt_two_pow hi (by rw [Nat.one_shiftLeft]; exact Nat.pow_lt_pow_right (by omega) hp)
theorem enum_at {ds : List D} {i : Nat} {d : D} (h : (enumD 0 ds)[i]? = some d) : ∃ x, ds[i]? = some x ∧ d = .tup [.int (i : Int), x] := by
  obtain ⟨x, h1, h2⟩ := enumD_get h
  rw [Nat.zero_add] at h2
  exact ⟨x, h1, h2⟩
theorem put_set {L : List (Option (Nat × Int))} {m : Nat} {x : Option (Nat × Int)} (h : m < L.length) : (O.lst (L.map enO)).put (.int (m : Int)) (enO x) = some (.lst ((L.set m x).map enO)) := by
  have e : ixN (L.map enO).length (m : Int) = some m := by
    rw [List.length_map]
    unfold ixN
    simp
    omega
  unfold O.put
  simp only [e]
  rw [List.map_set]
theorem eL_last {L : List (Option (Nat × Int))} (h : 0 < L.length) : atI (L.map enO) (-1) = some (enO (eL L (L.length - 1))) := by
  have e : ixN (L.map enO).length (-1) = some (L.length - 1) := by
    rw [List.length_map]
    unfold ixN
    simp
    exact ⟨by omega, by omega⟩
  unfold atI
  rw [e]
  unfold eL
  rw [List.getElem?_eq_getElem (show L.length - 1 < L.length by omega)]
  show (L.map enO)[L.length - 1]? = _
  rw [List.getElem?_map, List.getElem?_eq_getElem (show L.length - 1 < L.length by omega)]
  rfl
theorem nr_ints : ∀ ns : List Int, D.norefA (ns.map D.int) = true
  | [] => rfl
  | n :: ns => by
    rw [List.map_cons, D.norefA, nr_ints ns]
    rfl
theorem gTu2 {i j : Nat} {a b : D} {sg : List Sl} (hi : isOwn sg[i]? = false) (hj : isOwn (sg.set i (.val a))[j]? = false) : gTu 2 (gsCons (gNm i) (gsCons (gNm j) gsNil)) (.tup [a, b]) sg = some ((sg.set i (.val a)).set j (.val b)) := by
  simp only [g_Tu, g_Cons, g_Nil, gNm_ok hi, Option.bind_some, gNm_ok hj, List.length_cons, List.length_nil, Nat.reduceAdd, if_true]
theorem tk_nn {ts : List Int} (ht : ∀ t ∈ ts, 0 ≤ t) (p : Nat) : 0 ≤ tk ts p := by
  unfold tk
  cases h : ts[p]? with
  | none => exact Int.le_refl 0
  | some t => exact ht t (List.mem_of_getElem? h)
theorem room_w {rs ts : List Int} {S : List O} {P : D × List O → Prop} {E : EP'} (hl : rs.length ≤ 100) (hn : ts.length ≤ 12) (hr : ∀ r ∈ rs, 0 ≤ r) (ht : ∀ t ∈ ts, 0 ≤ t)
    (hy : ∀ b, (b = true ↔ ∃ f, FitA rs (tk ts) ts.length f) → P (.bl b, S)) : Wp (F__have_room [.lst (rs.map D.int), .tup (ts.map D.int)] S) P E := by
  have p12 : (2 : Nat) ^ ts.length ≤ 4096 := Nat.pow_le_pow_right (by omega) hn
  have p0 : 0 < (2 : Nat) ^ ts.length := Nat.pow_pos (by omega)
  have eS : (1 : Int) * (2 : Int) ^ ((ts.length : Nat) : Int).toNat = ((2 ^ ts.length : Nat) : Int) := by
    rw [shl_one, Nat.one_shiftLeft]
  unfold F__have_room m__have_room
  walk_at "ev"
  rw [List.length_map]
  refine ⟨by omega, ?_⟩
  rw [eS]
  generalize hN : (2 : Nat) ^ ts.length = N at p12 p0
  refine ⟨lim_small (by omega) (by omega), ?_⟩
  rw [Int.toNat_natCast]
  have eN := lc_same (i := 9) (me := mC .non) (sg := [.val (.lst (rs.map D.int)), .val (.tup (ts.map D.int)), .val (.int (N : Int)), .no, .no, .no, .no, .no, .no, .no]) (S := S) (d := .non) (n := N) rfl fun _ => rfl
  rw [wp_eq eN]
  clear eN
  walk_at "ev"
  refine ⟨by rw [rngD_len]; omega, ?_⟩
  have er : List.replicate N D.non = (List.replicate N (none : Option (Nat × Int))).map enO := by rw [List.map_replicate]; rfl
  rw [er]
  have e0 : (O.lst ((List.replicate N (none : Option (Nat × Int))).map enO)).put (.int 0) (.tup [.int 0, .int 0]) = some (.lst (((List.replicate N (none : Option (Nat × Int))).set 0 (some (0, 0))).map enO)) := put_set (m := 0) (x := some (0, 0)) (by rw [List.length_replicate]; exact p0)
  rw [kPutO_eq e0]
  walk_at "ev"
  refine ⟨lim_small (by omega) (by omega), ?_⟩
  rw [Int.toNat_natCast]
  refine Wp.loop (fun i sg S' => ∃ (L : List (Option (Nat × Int))) (x4 x5 x6 x7 x8 : Sl), sg = [.val (.lst (rs.map D.int)), .val (.tup (ts.map D.int)), .val (.int (N : Int)), .own (.lst (L.map enO)), x4, x5, x6, x7, x8, .no] ∧ S' = S ∧ isOwn (some x4) = false ∧ isOwn (some x5) = false ∧ isOwn (some x6) = false ∧ L.length = N ∧ Tab rs (tk ts) ts.length i (eL L))
    ⟨_, .no, .no, .no, .no, .no, rfl, rfl, rfl, rfl, rfl, by rw [List.length_set, List.length_replicate], ?_⟩ ?_ ?_
  · rw [eL_set (by rw [List.length_replicate]; exact p0)]
    refine ⟨rfl, fun c e h => ?_, fun c hc => by omega⟩
    simp only [] at h
    split at h
    · rename_i g
      cases h
      subst g
      exact snd_zero hr
    · unfold eL at h
      rw [List.getElem?_replicate] at h
      split at h <;> cases h
  · rintro i d sg S' hd ⟨L, x4, x5, x6, x7, x8, rfl, rfl, h4, h5, h6, hL, hT⟩
    obtain ⟨hi, rfl⟩ := rng_at hd
    refine ⟨_, gNm_ok h4, ?_⟩
    unfold m__have_room_b2
    rw [Int.zero_add]
    have at1 := eL_at (L := L) (c := i) (by omega)
    walk_at "ev"
    simp only [at1, kO_some, non_enO]
    walk_at "ev"
    cases hE : eL L i with
    | none =>
      try walk_at "ev"
      exact ⟨L, _, _, _, _, _, rfl, rfl, h5, h6, hL, hT.skip hE⟩
    | some e =>
      simp only [non_enO, Option.isNone_some, Bool.false_eq_true, if_false, if_true]
      refine Wp.loop (fun j sg S'' => ∃ (L : List (Option (Nat × Int))) (x5 x6 x7 x8 : Sl), sg = [.val (.lst (rs.map D.int)), .val (.tup (ts.map D.int)), .val (.int (N : Int)), .own (.lst (L.map enO)), .val (.int (i : Int)), x5, x6, x7, x8, .no] ∧ S'' = S' ∧ isOwn (some x5) = false ∧ isOwn (some x6) = false ∧ L.length = N ∧ Tab2 rs (tk ts) ts.length i j e (eL L))
        ⟨L, _, _, _, _, rfl, rfl, h5, h6, hL, hT.start hE⟩ ?_ ?_
      · clear hT hE hL h5 h6
        rintro j d sg S'' hd ⟨L, x5, x6, x7, x8, rfl, rfl, h5, h6, hL, hT⟩
        obtain ⟨x, hx, rfl⟩ := enum_at hd
        rw [List.getElem?_map] at hx
        cases htj : ts[j]? with
        | none => rw [htj] at hx; cases hx
        | some tv =>
          rw [htj] at hx
          cases hx
          have hj := (List.getElem?_eq_some_iff.mp htj).1
          have hm : i ||| 1 <<< j < L.length := by
            rw [hL, ← hN]
            exact or_lt (by omega) hj
          have at2 := eL_at hm
          have at1 := eL_at (L := L) (c := i) (by omega)
          have hE := hT.2.1
          have htk := tk_at htj
          refine ⟨_, gTu2 h5 h6, ?_⟩
          unfold m__have_room_b1
          simp only [List.set_cons_succ, List.set_cons_zero]
          walk_at "ev"
          refine ⟨by omega, ?_⟩
          rw [shl_one, or_nat]
          rw [hE] at at1
          simp only [at1, kO_some, non_enO]
          walk_at "ev"
          refine ⟨by simp only [D.norefA, D.noref, nr_ints, enO, Bool.and_self], end_w (k := e.1) (u := e.2) hl ⟨rfl, ?_, ?_⟩⟩
          · rw [fl_enO]
            trivial
          simp only [non_enO]
          cases hb : i.testBit j with
          | true =>
            rw [or_same hb, if_neg (by omega)]
            exact ⟨L, _, _, _, _, rfl, rfl, rfl, hL, hT.keep (.inl hb)⟩
          | false =>
            have ne := or_ne hb
            rw [if_pos (by omega)]
            cases he : endw (rs.drop e.1) e.1 e.2 tv with
            | none =>
              simp only [Option.isNone_none, if_true, Bool.false_eq_true, if_false]
              exact ⟨L, _, _, _, _, rfl, rfl, rfl, hL, hT.keep (.inr (.inl (by rw [htk]; exact he)))⟩
            | some e' =>
              simp only [Option.isNone_some, if_true, Bool.false_eq_true, if_false, at2, kO_some]
              walk_at "ev"
              simp only [non_enO]
              cases hx : eL L (i ||| 1 <<< j) with
              | none =>
                simp only [Option.isNone_none, if_true, Bool.false_eq_true, if_false]
                rw [kPutO_eq (put_set hm)]
                walk_at "ev"
                exact ⟨_, _, _, _, _, rfl, rfl, rfl, by rw [List.length_set]; exact hL, by
                  rw [eL_set hm]
                  exact hT.put hj hb (by rw [htk]; exact he) fun y hy => by
                    rw [hx] at hy
                    cases hy⟩
              | some x =>
                simp only [Option.isNone_some, if_true, Bool.false_eq_true, if_false]
                rw [at2, kO_some, hx, kBin2_eq]
                refine lt_e ?_
                walk_at "ev"
                cases hB : eB e' x with
                | true =>
                  simp only [if_true]
                  rw [kPutO_eq (put_set hm)]
                  walk_at "ev"
                  exact ⟨_, _, _, _, _, rfl, rfl, rfl, by rw [List.length_set]; exact hL, by
                    rw [eL_set hm]
                    exact hT.put hj hb (by rw [htk]; exact he) fun y hy => by
                      rw [hx] at hy
                      cases hy
                      exact hB⟩
                | false =>
                  simp only [Bool.false_eq_true, if_false]
                  exact ⟨L, _, _, _, _, rfl, rfl, rfl, hL, hT.keep (.inr (.inr ⟨e', x, by rw [htk]; exact he, hx, hB⟩))⟩
      · rintro sg S'' ⟨L, x5, x6, x7, x8, rfl, rfl, h5, h6, hL, hT⟩
        rw [enumD_len, List.length_map] at hT
        exact ⟨L, _, _, _, _, _, rfl, rfl, rfl, h5, h6, hL, hT.all⟩
  · rintro sg S' ⟨L, x4, x5, x6, x7, x8, rfl, rfl, h4, h5, h6, hL, hT⟩
    rw [rngD_len] at hT
    walk_at "ev"
    simp only [frz, List.getElem?_cons_succ, List.getElem?_cons_zero, List.set_cons_succ, List.set_cons_zero, toD_lst]
    walk_at "ev"
    simp only [eL_last (L := L) (by omega), kO_some]
    walk_at "ev"
    simp only [non_enO]
    refine hy _ ?_
    rw [← room_iff (E := eL L) hT.1 (by rw [hN]; exact hT.2.2) hT.2.1 fun p _ => tk_nn ht p, hL, hN]
    cases eL L (N - 1) <;> simp

end Law

namespace Law
open PySem PySem.Spec PyProof.Rows L2 D2
local macro_rules | `(tactic| walk_at "ev") => `(tactic| simp (decide := true) only [kO_some, w_C, w_Var, w_VarW, kVar_val, kVarW_val, kVarW_lst, kVarW_dic, w_Flat, kFlat_eq, w_Bin, kBin_eq, kBin2_eq, w_Un, kUn_eq, w_Tup, kTup_eq, w_Lst, kLst_eq, w_Nil, w_Cons, kCons_eq, kCons2_eq, w_And, kAnd_eq, w_Or, kOr_eq, w_Tst, kTst_eq, w_Tru, kTru_bl, kTru_int, kTru_tup, kTru_lst, kTru_non, w_NotT, kNotT_eq, w_AndT, kAndT_eq, w_OrT, kOrT_eq, w_IsN, kIsN_eq, w_If, kIf_eq, w_Chain, kCh1_eq, kCh2_eq, kCh3_eq, w_Bi, kBi_eq, on1_eq, on2_eq, w_Meth, kMeth_eq, kMeth2_eq, w_Ix, kIx_eq, kIx2_eq, w_Get2, kGet1_eq, kGet2_eq, kGet3_eq, w_NoP, w_Part, kPart_eq, w_Sl, kSl1_eq, kSl2_eq, kSl3_eq, w_Call, kCall_eq, w_CallP, kCallP_eq, w_OfO, kOfO_eq, toD_lst, toD_dic, w_LstO, kLstO_eq, w_DicO, w_Rep, kRep_eq, kRep2_eq, w_Pn, w_Pc, kPc1_eq, kPc2_eq, kPc3_eq, w_Disp, kDisp_eq, kDisp2_eq, keyed_nil, keyed_S, keyed_I, w_Lc, kLc_eq, kLc2_eq, w_Il, kIl_eq, w_It, kIt_eq, w_Ir1, kIr1_eq, w_Ir2, kIr2_eq, w_Ie, kIe_eq, w_IeT, kIeT_eq, w_Yes, w_Seq, kSeq_nx, kSeq_bk, kSeq_ct, kSeq_rt, w_Nx, w_Bk, w_Ct, w_RetN, w_Ret, kRet_eq, w_Drop, kDrop_eq, w_IfS, kIfS_eq, w_Frz, w_Set, kSet_eq, w_SetO, kSetO_eq, w_Aft, kAft_eq, w_Asg, kAsg_eq, kAsg2_eq, w_For, kFor_eq, w_While, w_Put, kPut_eq, kPut2_own, kPut2_ref, kPutR_eq, w_Own, w_OwnE, w_OwnS, kOwn_eq, kOwnE_eq, kOwnS_eq, w_Fn, kFn_nx, kFn_rt, kLoop_nx, kLoop_ct, kLoop_bk, kLoop_rt, w_Ir3, kIr3_eq, w_Lrg, kLrg_eq, w_AppPop, kApp0_eq, w_Never, w_Irv, kIrv_eq, w_Star, kStar_tup, kStar_lst, kStar2_eq, w_CallX, kCallX_eq, w_Raise, kRaise_eq, w_Done, kDone_eq, w_Try, kTry_eq, w_msRetF, kFld_some, w_msRetC, w_msRetP, kFld2_some, w_ToL, kToL_tup, kToL_lst, w_Chain3, kD0_eq, kD1_eq, kD2_eq, kD3_eq, kD4_eq, w_Add, kAdd_eq, kAdd2_eq, w_msRet, w_xF, kFldE_some, w_xBin, w_Hd, w_TryN, kTryN_eq, kHd_some, kHd_only, w_IfT, kIfT_eq, w_Iz, kIz_tup, kIz_lst, w_xOwnE, w_xOne, o_addI, o_addS, o_addT, o_addL, o_sub, o_fdiv, o_mod, o_pow, o_shl, o_shr, o_and, o_or, o_mul, o_lt, o_le, o_gt, o_ge, lt_eq, le_eq, gt_eq, ge_eq, o_neg, o_nob, o_eqI, o_eqS, o_neI, o_neS, eqo_int, ixS_tup, ixS_lst, ixS_dic, ixS_ref0, ixS_ref1, ixo_tup, ixo_lst, ixo_dicI, ixo_dicS, atI_0, atI_1, atI_2, atI_3, atI_4, atI_5, atI_6, atI_7, atI_8, pr_0, pr_1, pr_2, pr_3, po_dicI, po_dicS, app_eq, ext_eq, isL_eq, isD_eq, DisL_eq, o_lenL, o_lenT, o_lenD, o_lenS, o_toI, o_abs, o_strI, o_max2, o_min2, o_toT, o_toTT, o_toL, o_toLT, o_sloT, o_sloL, o_sloS, g_Nm, g_Tu, g_Cons, g_Nil, own_val, own_no, merge_new, dGet_cons, dGet_nil, dGet2_S, dGet2_I, o_sset, o_ssetI, o_toIb, fl_int, fl_bl, fl_str, fl_non, isNon_non, isNon_int, isNon_tup, o_inI, o_ninI, o_ninE, o_mkRng, isNon_bl, o_eqB, o_mulI, o_mulTup, o_mulLst, o_revT, o_isStrS, o_isStrT, o_isStrN, o_ltG, o_sortG, o_ssetL, o_ssetLt, o_lenSetI, o_tupRg, o_minGl, o_minGt, o_maxGl, o_maxGt, o_bestDl, o_bestDt, o_bestDln, o_bestDtn, o_lenSetT, o_sortT, List.getElem?_cons_zero, List.getElem?_cons_succ, List.set_cons_zero, List.set_cons_succ, List.length_cons, List.length_nil, List.map_cons, List.map_nil, List.cons_append, List.nil_append, List.replicate_succ, List.replicate_zero, if_true, if_false, decide_eq_true_eq, decide_eq_false_iff_not, Bool.false_eq_true, and_true, true_and, Bool.not_true, Bool.not_false, reduceIte, Option.bind_some, Option.map_some, Option.getD_some, Option.getD_none, Sum.inr.injEq, Sum.inl.injEq, Nat.reduceAdd, Nat.reduceSub, Nat.reduceLeDiff, Nat.reduceLT, Nat.reduceEqDiff, reduceCtorEq, Int.reduceLT, Int.reduceLE, Int.reduceEq, Int.reduceAdd, Int.reduceSub, Int.reduceMul, Int.reduceNeg, Int.cast_ofNat_Int, Int.natCast_zero, Int.reduceToNat, Int.reducePow, or_true, true_or, String.reduceEq, decide_true, decide_false, Bool.not_eq_true', Bool.not_eq_false', List.all_cons, List.all_nil, Bool.and_true, Bool.true_and, Bool.true_or, Bool.or_true, wipeS, startS, hdOf_cons])

/-! ### ways to put takes on rolls, one after the other -/
def FitL : List Int → List Int → List Nat → Prop
  | _, [], [] => True
  | rs, t :: ts, j :: js => ∃ r, rs[j]? = some r ∧ t ≤ r ∧ FitL (rs.set j (r - t)) ts js
  | _, _, _ => False
def loadL : List Int → List Nat → Nat → Int
  | t :: ts, j :: js, m => (if j = m then t else 0) + loadL ts js m
  | _, _, _ => 0
def LoadOk (rs ts : List Int) (js : List Nat) : Prop := js.length = ts.length ∧ (∀ j ∈ js, j < rs.length) ∧ ∀ (m : Nat) (r : Int), rs[m]? = some r → loadL ts js m ≤ r
theorem loadL_nn : ∀ {ts : List Int} {js : List Nat} {m : Nat}, (∀ t ∈ ts, 0 ≤ t) → 0 ≤ loadL ts js m
  | [], _, _, _ => Int.le_refl 0
  | _ :: _, [], _, _ => Int.le_refl 0
  | t :: ts, j :: js, m, h => by
    have a := loadL_nn (js := js) (m := m) fun x hx => h x (List.mem_cons_of_mem _ hx)
    have b := h t List.mem_cons_self
    unfold loadL
    split <;> omega
theorem nn_set {rs : List Int} {j : Nat} {x : Int} (h : ∀ r ∈ rs, 0 ≤ r) (hx : 0 ≤ x) : ∀ r ∈ rs.set j x, 0 ≤ r := fun r hr => by
  rcases List.mem_or_eq_of_mem_set hr with h1 | h1
  · exact h r h1
  · omega
theorem fit_iff : ∀ {ts rs : List Int} {js : List Nat}, (∀ r ∈ rs, 0 ≤ r) → (∀ t ∈ ts, 0 ≤ t) → (FitL rs ts js ↔ LoadOk rs ts js)
  | [], rs, [], hr, _ => ⟨fun _ => ⟨rfl, ⟨(fun _ h => nomatch h), fun m r h => hr r (List.mem_of_getElem? h)⟩⟩, fun _ => trivial⟩
  | [], rs, j :: js, _, _ => ⟨fun h => h.elim, fun h => by have := h.1; simp at this⟩
  | t :: ts, rs, [], _, _ => ⟨fun h => h.elim, fun h => by have := h.1; simp at this⟩
  | t :: ts, rs, j :: js, hr, ht => by
    have h0 := ht t List.mem_cons_self
    have ht' : ∀ t ∈ ts, 0 ≤ t := fun x hx => ht x (List.mem_cons_of_mem _ hx)
    constructor
    · rintro ⟨r, h1, h2, h3⟩
      obtain ⟨a, b, c⟩ := (fit_iff (nn_set hr (by omega)) ht').mp h3
      have hj := (List.getElem?_eq_some_iff.mp h1).1
      refine ⟨by simp [a], fun k hk => ?_, fun m r' hm => ?_⟩
      · cases hk with
        | head => exact hj
        | tail _ hk => have := b k hk; rw [List.length_set] at this; exact this
      · have := c m (if j = m then r - t else r') (by rw [List.getElem?_set]; split <;> simp_all)
        unfold loadL
        split
        · rename_i g
          subst g
          rw [h1] at hm
          cases hm
          rw [if_pos rfl] at this
          omega
        · rename_i g
          rw [if_neg g] at this
          omega
    · rintro ⟨a, b, c⟩
      have hj := b j List.mem_cons_self
      have hr1 : rs[j]? = some rs[j] := List.getElem?_eq_getElem hj
      have c0 := c j _ hr1
      unfold loadL at c0
      rw [if_pos rfl] at c0
      have nn := loadL_nn (js := js) (m := j) ht'
      refine ⟨rs[j], hr1, by omega, (fit_iff (nn_set hr (by omega)) ht').mpr ⟨by simpa using a, fun k hk => by rw [List.length_set]; exact b k (List.mem_cons_of_mem _ hk), fun m r' hm => ?_⟩⟩
      rw [List.getElem?_set] at hm
      split at hm
      · rename_i g
        subst g
        try rw [if_pos hj] at hm
        cases hm
        omega
      · rename_i g
        have := c m r' hm
        unfold loadL at this
        rw [if_neg g] at this
        omega
def toJs : Nat → (Nat → Nat) → List Nat
  | 0, _ => []
  | n + 1, f => f 0 :: toJs n fun p => f (p + 1)
theorem toJs_len : ∀ {n : Nat} {f : Nat → Nat}, (toJs n f).length = n
  | 0, _ => rfl
  | n + 1, f => by rw [toJs, List.length_cons, toJs_len]
theorem toJs_mem : ∀ {n : Nat} {f : Nat → Nat} {x : Nat}, x ∈ toJs n f ↔ ∃ p, p < n ∧ f p = x
  | 0, _, _ => by simp [toJs]
  | n + 1, f, x => by
    rw [toJs, List.mem_cons, toJs_mem]
    constructor
    · rintro (h | ⟨p, h1, h2⟩)
      · exact ⟨0, by omega, h.symm⟩
      · exact ⟨p + 1, by omega, h2⟩
    · rintro ⟨p, h1, h2⟩
      cases p with
      | zero => exact .inl h2.symm
      | succ p => exact .inr ⟨p, by omega, h2⟩
theorem toJs_at : ∀ {js : List Nat}, toJs js.length (fun p => (js[p]?).getD 0) = js
  | [] => rfl
  | j :: js => by
    rw [List.length_cons, toJs]
    simp only [List.getElem?_cons_succ, List.getElem?_cons_zero, Option.getD_some]
    rw [toJs_at]
theorem lda_cons {t : Int} {ts : List Int} {f : Nat → Nat} {m : Nat} : ∀ {n : Nat}, lda (tk (t :: ts)) f m (n + 1) = (if f 0 = m then t else 0) + lda (tk ts) (fun p => f (p + 1)) m n
  | 0 => by
    unfold lda lda
    rw [Int.zero_add, Int.add_zero]
    rfl
  | n + 1 => by
    unfold lda
    rw [lda_cons]
    have : tk (t :: ts) (n + 1) = tk ts n := by unfold tk; rw [List.getElem?_cons_succ]
    rw [this]
    omega
theorem lda_load : ∀ {ts : List Int} {f : Nat → Nat} {m : Nat}, lda (tk ts) f m ts.length = loadL ts (toJs ts.length f) m
  | [], _, _ => rfl
  | t :: ts, f, m => by
    rw [List.length_cons, lda_cons, toJs, loadL, lda_load]
theorem fitA_iff {rs ts : List Int} {f : Nat → Nat} : FitA rs (tk ts) ts.length f ↔ LoadOk rs ts (toJs ts.length f) := by
  unfold FitA LoadOk
  constructor
  · rintro ⟨a, b⟩
    refine ⟨toJs_len, fun j hj => ?_, fun m r h => by rw [← lda_load]; exact b m r h⟩
    obtain ⟨p, hp, rfl⟩ := toJs_mem.mp hj
    exact a p hp
  · rintro ⟨_, a, b⟩
    exact ⟨fun p hp => a _ (toJs_mem.mpr ⟨p, hp, rfl⟩), fun m r h => by rw [lda_load]; exact b m r h⟩
/-- there is a way -/
def Room (rs ts : List Int) : Prop := ∃ js, FitL rs ts js
theorem room_fit {rs ts : List Int} (hr : ∀ r ∈ rs, 0 ≤ r) (ht : ∀ t ∈ ts, 0 ≤ t) : (∃ f, FitA rs (tk ts) ts.length f) ↔ Room rs ts := by
  constructor
  · rintro ⟨f, h⟩
    exact ⟨_, (fit_iff hr ht).mpr (fitA_iff.mp h)⟩
  · rintro ⟨js, h⟩
    have := (fit_iff hr ht).mp h
    refine ⟨fun p => (js[p]?).getD 0, fitA_iff.mpr ?_⟩
    rw [← this.1, toJs_at]
    exact this
theorem room_w2 {rs ts : List Int} {S : List O} {P : D × List O → Prop} {E : EP'} (hl : rs.length ≤ 100) (hn : ts.length ≤ 12) (hr : ∀ r ∈ rs, 0 ≤ r) (ht : ∀ t ∈ ts, 0 ≤ t)
    (hy : ∀ b, (b = true ↔ Room rs ts) → P (.bl b, S)) : Wp (F__have_room [.lst (rs.map D.int), .tup (ts.map D.int)] S) P E :=
  room_w hl hn hr ht fun b hb => hy b (hb.trans (room_fit hr ht))

end Law

namespace Law
open PySem PySem.Spec PyProof.Rows L2 D2
local macro_rules | `(tactic| walk_at "ev") => `(tactic| simp (decide := true) only [kO_some, w_C, w_Var, w_VarW, kVar_val, kVarW_val, kVarW_lst, kVarW_dic, w_Flat, kFlat_eq, w_Bin, kBin_eq, kBin2_eq, w_Un, kUn_eq, w_Tup, kTup_eq, w_Lst, kLst_eq, w_Nil, w_Cons, kCons_eq, kCons2_eq, w_And, kAnd_eq, w_Or, kOr_eq, w_Tst, kTst_eq, w_Tru, kTru_bl, kTru_int, kTru_tup, kTru_lst, kTru_non, w_NotT, kNotT_eq, w_AndT, kAndT_eq, w_OrT, kOrT_eq, w_IsN, kIsN_eq, w_If, kIf_eq, w_Chain, kCh1_eq, kCh2_eq, kCh3_eq, w_Bi, kBi_eq, on1_eq, on2_eq, w_Meth, kMeth_eq, kMeth2_eq, w_Ix, kIx_eq, kIx2_eq, w_Get2, kGet1_eq, kGet2_eq, kGet3_eq, w_NoP, w_Part, kPart_eq, w_Sl, kSl1_eq, kSl2_eq, kSl3_eq, w_Call, kCall_eq, w_CallP, kCallP_eq, w_OfO, kOfO_eq, toD_lst, toD_dic, w_LstO, kLstO_eq, w_DicO, w_Rep, kRep_eq, kRep2_eq, w_Pn, w_Pc, kPc1_eq, kPc2_eq, kPc3_eq, w_Disp, kDisp_eq, kDisp2_eq, keyed_nil, keyed_S, keyed_I, w_Lc, kLc_eq, kLc2_eq, w_Il, kIl_eq, w_It, kIt_eq, w_Ir1, kIr1_eq, w_Ir2, kIr2_eq, w_Ie, kIe_eq, w_IeT, kIeT_eq, w_Yes, w_Seq, kSeq_nx, kSeq_bk, kSeq_ct, kSeq_rt, w_Nx, w_Bk, w_Ct, w_RetN, w_Ret, kRet_eq, w_Drop, kDrop_eq, w_IfS, kIfS_eq, w_Frz, w_Set, kSet_eq, w_SetO, kSetO_eq, w_Aft, kAft_eq, w_Asg, kAsg_eq, kAsg2_eq, w_For, kFor_eq, w_While, w_Put, kPut_eq, kPut2_own, kPut2_ref, kPutR_eq, w_Own, w_OwnE, w_OwnS, kOwn_eq, kOwnE_eq, kOwnS_eq, w_Fn, kFn_nx, kFn_rt, kLoop_nx, kLoop_ct, kLoop_bk, kLoop_rt, w_Ir3, kIr3_eq, w_Lrg, kLrg_eq, w_AppPop, kApp0_eq, w_Never, w_Irv, kIrv_eq, w_Star, kStar_tup, kStar_lst, kStar2_eq, w_CallX, kCallX_eq, w_Raise, kRaise_eq, w_Done, kDone_eq, w_Try, kTry_eq, w_msRetF, kFld_some, w_msRetC, w_msRetP, kFld2_some, w_ToL, kToL_tup, kToL_lst, w_Chain3, kD0_eq, kD1_eq, kD2_eq, kD3_eq, kD4_eq, w_Add, kAdd_eq, kAdd2_eq, w_msRet, w_xF, kFldE_some, w_xBin, w_Hd, w_TryN, kTryN_eq, kHd_some, kHd_only, w_IfT, kIfT_eq, w_Iz, kIz_tup, kIz_lst, w_xOwnE, w_xOne, o_addI, o_addS, o_addT, o_addL, o_sub, o_fdiv, o_mod, o_pow, o_shl, o_shr, o_and, o_or, o_mul, o_lt, o_le, o_gt, o_ge, lt_eq, le_eq, gt_eq, ge_eq, o_neg, o_nob, o_eqI, o_eqS, o_neI, o_neS, eqo_int, ixS_tup, ixS_lst, ixS_dic, ixS_ref0, ixS_ref1, ixo_tup, ixo_lst, ixo_dicI, ixo_dicS, atI_0, atI_1, atI_2, atI_3, atI_4, atI_5, atI_6, atI_7, atI_8, pr_0, pr_1, pr_2, pr_3, po_dicI, po_dicS, app_eq, ext_eq, isL_eq, isD_eq, DisL_eq, o_lenL, o_lenT, o_lenD, o_lenS, o_toI, o_abs, o_strI, o_max2, o_min2, o_toT, o_toTT, o_toL, o_toLT, o_sloT, o_sloL, o_sloS, g_Nm, g_Tu, g_Cons, g_Nil, own_val, own_no, merge_new, dGet_cons, dGet_nil, dGet2_S, dGet2_I, o_sset, o_ssetI, o_toIb, fl_int, fl_bl, fl_str, fl_non, isNon_non, isNon_int, isNon_tup, o_inI, o_ninI, o_ninE, o_mkRng, isNon_bl, o_eqB, o_mulI, o_mulTup, o_mulLst, o_revT, o_isStrS, o_isStrT, o_isStrN, o_ltG, o_sortG, o_ssetL, o_ssetLt, o_lenSetI, o_tupRg, o_minGl, o_minGt, o_maxGl, o_maxGt, o_bestDl, o_bestDt, o_bestDln, o_bestDtn, o_lenSetT, o_sortT, List.getElem?_cons_zero, List.getElem?_cons_succ, List.set_cons_zero, List.set_cons_succ, List.length_cons, List.length_nil, List.map_cons, List.map_nil, List.cons_append, List.nil_append, List.replicate_succ, List.replicate_zero, if_true, if_false, decide_eq_true_eq, decide_eq_false_iff_not, Bool.false_eq_true, and_true, true_and, Bool.not_true, Bool.not_false, reduceIte, Option.bind_some, Option.map_some, Option.getD_some, Option.getD_none, Sum.inr.injEq, Sum.inl.injEq, Nat.reduceAdd, Nat.reduceSub, Nat.reduceLeDiff, Nat.reduceLT, Nat.reduceEqDiff, reduceCtorEq, Int.reduceLT, Int.reduceLE, Int.reduceEq, Int.reduceAdd, Int.reduceSub, Int.reduceMul, Int.reduceNeg, Int.cast_ofNat_Int, Int.natCast_zero, Int.reduceToNat, Int.reducePow, or_true, true_or, String.reduceEq, decide_true, decide_false, Bool.not_eq_true', Bool.not_eq_false', List.all_cons, List.all_nil, Bool.and_true, Bool.true_and, Bool.true_or, Bool.or_true, wipeS, startS, hdOf_cons])

theorem set_cut {α : Type} {l : List α} {j : Nat} {x : α} (h : j < l.length) : l.take j ++ x :: l.drop (j + 1) = l.set j x := by
  rw [List.set_eq_take_append_cons_drop, if_pos h]
theorem rep_nn {n : Nat} {r : Int} (h : 0 ≤ r) : ∀ x ∈ List.replicate n r, 0 ≤ x := fun x hx => by
  rw [List.mem_replicate] at hx
  omega
/-! ### the least number of rolls -/
def id_js : Nat → Nat → List Nat
  | _, 0 => []
  | k, n + 1 => k :: id_js (k + 1) n
theorem room_all {ts : List Int} {roll : Int} (h0 : 0 ≤ roll) (ht : ∀ t ∈ ts, 0 ≤ t ∧ t ≤ roll) : Room (List.replicate ts.length roll) ts := by
  refine (room_fit (rep_nn h0) fun t h => (ht t h).1).mp ⟨fun p => p, ⟨fun p hp => by rw [List.length_replicate]; exact hp, fun m r h => ?_⟩⟩
  rw [List.getElem?_replicate] at h
  split at h
  · rename_i hm
    cases h
    have : ∀ n, lda (tk ts) (fun p => p) m n = if m < n then tk ts m else 0 := fun n => by
      induction n with
      | zero => rfl
      | succ n ih =>
        unfold lda
        rw [ih]
        by_cases g : n = m
        · subst g
          rw [if_neg (by omega), if_pos rfl, if_pos (by omega)]
          omega
        · rw [if_neg g, Int.add_zero]
          by_cases g2 : m < n
          · rw [if_pos g2, if_pos (by omega)]
          · rw [if_neg g2, if_neg (by omega)]
    rw [this, if_pos hm, tk_at (List.getElem?_eq_getElem hm)]
    exact (ht _ (List.getElem_mem hm)).2
  · cases h
theorem count_w {ts : List Int} {roll : Int} {S : List O} {P : D × List O → Prop} {E : EP'} (hn : ts.length ≤ 12) (h0 : 0 ≤ roll) (ht : ∀ t ∈ ts, 0 ≤ t ∧ t ≤ roll)
    (hy : ∀ c : Nat, c ≤ ts.length → Room (List.replicate c roll) ts → (∀ c', c' < c → ¬ Room (List.replicate c' roll) ts) → P (.int (c : Int), S)) : Wp (F__fewest [.tup (ts.map D.int), .int roll] S) P E := by
  unfold F__fewest m__fewest
  walk_at "ev"
  refine Wp.wh (fun n sg S' => ∃ (c : Nat), sg = [.val (.tup (ts.map D.int)), .val (.int roll), .val (.int (c : Int)), .no] ∧ S' = S ∧ c + n = ts.length ∧ (∀ c', c' < c → ¬ Room (List.replicate c' roll) ts)) (n := ts.length) ?_ ⟨0, rfl, rfl, by omega, fun _ h => by omega⟩ (by omega)
  rintro n sg S' ⟨c, rfl, rfl, hc, hm⟩
  walk_at "ev"
  refine ⟨lim_small (by omega) (by omega), ?_⟩
  rw [Int.toNat_natCast]
  have eN := lc_same (i := 3) (me := mVar 1) (sg := [.val (.tup (ts.map D.int)), .val (.int roll), .val (.int (c : Int)), .no]) (S := S') (d := .int roll) (n := c) rfl fun _ => rfl
  rw [wp_eq eN]
  clear eN
  walk_at "ev"
  rw [← List.map_replicate]
  refine ⟨by rw [rngD_len]; omega, ?_⟩
  refine room_w2 (by rw [List.length_replicate]; omega) hn (rep_nn h0) (fun t h => (ht t h).1) fun b hb => ?_
  cases b with
  | true =>
    walk_at "ev"
    exact hy c (by omega) (hb.mp rfl) hm
  | false =>
    have hno : ¬ Room (List.replicate c roll) ts := fun h => by have := hb.mpr h; cases this
    have hlt : c ≠ ts.length := fun h => hno (by rw [h]; exact room_all h0 ht)
    unfold m__fewest_b1
    walk_at "ev"
    refine ⟨by omega, n - 1, by omega, c + 1, by rw [Int.natCast_add]; rfl, by omega, fun c' hc' => ?_⟩
    by_cases g : c' = c
    · subst g
      exact hno
    · exact hm c' (by omega)
theorem first_w {rs ts : List Int} {t : Int} {S : List O} {P : D × List O → Prop} {E : EP'} (hl : rs.length ≤ 100) (hn : ts.length ≤ 12) (hr : ∀ r ∈ rs, 0 ≤ r) (ht : ∀ t ∈ ts, 0 ≤ t) (h : Room rs (t :: ts))
    (hy : ∀ (j : Nat) (r : Int), rs[j]? = some r → t ≤ r → Room (rs.set j (r - t)) ts → (∀ j', j' < j → ∀ js, ¬ FitL rs (t :: ts) (j' :: js)) → P (.int (j : Int), S)) : Wp (F__first_roll [.lst (rs.map D.int), .int t, .tup (ts.map D.int)] S) P E := by
  unfold F__first_roll m__first_roll
  walk_at "ev"
  refine Wp.loop (fun i sg S' => ∃ (x3 x4 x5 : Sl), sg = [.val (.lst (rs.map D.int)), .val (.int t), .val (.tup (ts.map D.int)), x3, x4, x5] ∧ S' = S ∧ isOwn (some x3) = false ∧ isOwn (some x4) = false ∧ ∀ j', j' < i → ∀ js, ¬ FitL rs (t :: ts) (j' :: js))
    ⟨.no, .no, .no, rfl, rfl, rfl, rfl, fun _ h => by omega⟩ ?_ ?_
  · rintro i d sg S' hd ⟨x3, x4, x5, rfl, rfl, h3, h4, hm⟩
    obtain ⟨x, hx, rfl⟩ := enum_at hd
    rw [List.getElem?_map] at hx
    cases hri : rs[i]? with
    | none => rw [hri] at hx; cases hx
    | some r =>
      rw [hri] at hx
      cases hx
      have hi := (List.getElem?_eq_some_iff.mp hri).1
      refine ⟨_, gTu2 h3 h4, ?_⟩
      unfold m__first_roll_b1
      simp only [List.set_cons_succ, List.set_cons_zero]
      walk_at "ev"
      have hcut : D2.cutD (List.map D.int rs) none (some (i : Int)) ++ D.int (r - t) :: (D2.cutD (List.map D.int rs) (some ((i : Int) + 1)) none ++ []) = (rs.set i (r - t)).map D.int := by
        rw [cut_lo (by rw [List.length_map]; omega), show ((i : Int) + 1) = ((i + 1 : Nat) : Int) by omega, cut_hi (by rw [List.length_map]; omega), List.append_nil, set_cut (by rw [List.length_map]; exact hi), List.map_set]
      rw [hcut]
      refine ⟨by rw [List.length_map, List.length_set]; omega, ?_⟩
      have nofit : (t ≤ r → ¬ Room (rs.set i (r - t)) ts) → ∀ j', j' < i + 1 → ∀ js, ¬ FitL rs (t :: ts) (j' :: js) := fun hno j' hj' js hf => by
        by_cases g : j' = i
        · subst g
          obtain ⟨r', h1, h2, h3⟩ := hf
          rw [hri] at h1
          cases h1
          exact hno h2 ⟨js, h3⟩
        · exact hm j' (by omega) js hf
      by_cases g : t ≤ r
      · rw [if_pos g]
        refine room_w2 (by rw [List.length_set]; exact hl) hn (nn_set hr (by omega)) ht fun b hb => ?_
        cases b with
        | true =>
          walk_at "ev"
          exact hy i r hri g (hb.mp rfl) hm
        | false =>
          walk_at "ev"
          exact ⟨_, _, _, rfl, rfl, rfl, nofit fun _ h => by have := hb.mpr h; cases this⟩
      · rw [if_neg g]
        exact ⟨_, _, _, rfl, rfl, rfl, nofit fun h => absurd h g⟩
  · rintro sg S' ⟨x3, x4, x5, rfl, rfl, h3, h4, hm⟩
    rw [enumD_len, List.length_map] at hm
    obtain ⟨js, hj⟩ := h
    cases js with
    | nil => exact hj.elim
    | cons j js =>
      obtain ⟨r, h1, _⟩ := id hj
      exact absurd hj (hm j (List.getElem?_eq_some_iff.mp h1).1 js)

end Law

namespace Law
open PySem PySem.Spec PyProof.Rows L2 D2
local macro_rules | `(tactic| walk_at "ev") => `(tactic| simp (decide := true) only [kO_some, w_C, w_Var, w_VarW, kVar_val, kVarW_val, kVarW_lst, kVarW_dic, w_Flat, kFlat_eq, w_Bin, kBin_eq, kBin2_eq, w_Un, kUn_eq, w_Tup, kTup_eq, w_Lst, kLst_eq, w_Nil, w_Cons, kCons_eq, kCons2_eq, w_And, kAnd_eq, w_Or, kOr_eq, w_Tst, kTst_eq, w_Tru, kTru_bl, kTru_int, kTru_tup, kTru_lst, kTru_non, w_NotT, kNotT_eq, w_AndT, kAndT_eq, w_OrT, kOrT_eq, w_IsN, kIsN_eq, w_If, kIf_eq, w_Chain, kCh1_eq, kCh2_eq, kCh3_eq, w_Bi, kBi_eq, on1_eq, on2_eq, w_Meth, kMeth_eq, kMeth2_eq, w_Ix, kIx_eq, kIx2_eq, w_Get2, kGet1_eq, kGet2_eq, kGet3_eq, w_NoP, w_Part, kPart_eq, w_Sl, kSl1_eq, kSl2_eq, kSl3_eq, w_Call, kCall_eq, w_CallP, kCallP_eq, w_OfO, kOfO_eq, toD_lst, toD_dic, w_LstO, kLstO_eq, w_DicO, w_Rep, kRep_eq, kRep2_eq, w_Pn, w_Pc, kPc1_eq, kPc2_eq, kPc3_eq, w_Disp, kDisp_eq, kDisp2_eq, keyed_nil, keyed_S, keyed_I, w_Lc, kLc_eq, kLc2_eq, w_Il, kIl_eq, w_It, kIt_eq, w_Ir1, kIr1_eq, w_Ir2, kIr2_eq, w_Ie, kIe_eq, w_IeT, kIeT_eq, w_Yes, w_Seq, kSeq_nx, kSeq_bk, kSeq_ct, kSeq_rt, w_Nx, w_Bk, w_Ct, w_RetN, w_Ret, kRet_eq, w_Drop, kDrop_eq, w_IfS, kIfS_eq, w_Frz, w_Set, kSet_eq, w_SetO, kSetO_eq, w_Aft, kAft_eq, w_Asg, kAsg_eq, kAsg2_eq, w_For, kFor_eq, w_While, w_Put, kPut_eq, kPut2_own, kPut2_ref, kPutR_eq, w_Own, w_OwnE, w_OwnS, kOwn_eq, kOwnE_eq, kOwnS_eq, w_Fn, kFn_nx, kFn_rt, kLoop_nx, kLoop_ct, kLoop_bk, kLoop_rt, w_Ir3, kIr3_eq, w_Lrg, kLrg_eq, w_AppPop, kApp0_eq, w_Never, w_Irv, kIrv_eq, w_Star, kStar_tup, kStar_lst, kStar2_eq, w_CallX, kCallX_eq, w_Raise, kRaise_eq, w_Done, kDone_eq, w_Try, kTry_eq, w_msRetF, kFld_some, w_msRetC, w_msRetP, kFld2_some, w_ToL, kToL_tup, kToL_lst, w_Chain3, kD0_eq, kD1_eq, kD2_eq, kD3_eq, kD4_eq, w_Add, kAdd_eq, kAdd2_eq, w_msRet, w_xF, kFldE_some, w_xBin, w_Hd, w_TryN, kTryN_eq, kHd_some, kHd_only, w_IfT, kIfT_eq, w_Iz, kIz_tup, kIz_lst, w_xOwnE, w_xOne, o_addI, o_addS, o_addT, o_addL, o_sub, o_fdiv, o_mod, o_pow, o_shl, o_shr, o_and, o_or, o_mul, o_lt, o_le, o_gt, o_ge, lt_eq, le_eq, gt_eq, ge_eq, o_neg, o_nob, o_eqI, o_eqS, o_neI, o_neS, eqo_int, ixS_tup, ixS_lst, ixS_dic, ixS_ref0, ixS_ref1, ixo_tup, ixo_lst, ixo_dicI, ixo_dicS, atI_0, atI_1, atI_2, atI_3, atI_4, atI_5, atI_6, atI_7, atI_8, pr_0, pr_1, pr_2, pr_3, po_dicI, po_dicS, app_eq, ext_eq, isL_eq, isD_eq, DisL_eq, o_lenL, o_lenT, o_lenD, o_lenS, o_toI, o_abs, o_strI, o_max2, o_min2, o_toT, o_toTT, o_toL, o_toLT, o_sloT, o_sloL, o_sloS, g_Nm, g_Tu, g_Cons, g_Nil, own_val, own_no, merge_new, dGet_cons, dGet_nil, dGet2_S, dGet2_I, o_sset, o_ssetI, o_toIb, fl_int, fl_bl, fl_str, fl_non, isNon_non, isNon_int, isNon_tup, o_inI, o_ninI, o_ninE, o_mkRng, isNon_bl, o_eqB, o_mulI, o_mulTup, o_mulLst, o_revT, o_isStrS, o_isStrT, o_isStrN, o_ltG, o_sortG, o_ssetL, o_ssetLt, o_lenSetI, o_tupRg, o_minGl, o_minGt, o_maxGl, o_maxGt, o_bestDl, o_bestDt, o_bestDln, o_bestDtn, o_lenSetT, o_sortT, List.getElem?_cons_zero, List.getElem?_cons_succ, List.set_cons_zero, List.set_cons_succ, List.length_cons, List.length_nil, List.map_cons, List.map_nil, List.cons_append, List.nil_append, List.replicate_succ, List.replicate_zero, if_true, if_false, decide_eq_true_eq, decide_eq_false_iff_not, Bool.false_eq_true, and_true, true_and, Bool.not_true, Bool.not_false, reduceIte, Option.bind_some, Option.map_some, Option.getD_some, Option.getD_none, Sum.inr.injEq, Sum.inl.injEq, Nat.reduceAdd, Nat.reduceSub, Nat.reduceLeDiff, Nat.reduceLT, Nat.reduceEqDiff, reduceCtorEq, Int.reduceLT, Int.reduceLE, Int.reduceEq, Int.reduceAdd, Int.reduceSub, Int.reduceMul, Int.reduceNeg, Int.cast_ofNat_Int, Int.natCast_zero, Int.reduceToNat, Int.reducePow, or_true, true_or, String.reduceEq, decide_true, decide_false, Bool.not_eq_true', Bool.not_eq_false', List.all_cons, List.all_nil, Bool.and_true, Bool.true_and, Bool.true_or, Bool.or_true, wipeS, startS, hdOf_cons])

def Chosen : List Int → List Int → List Nat → Prop
  | _, [], [] => True
  | rs, t :: ts, j :: js => (∃ r, rs[j]? = some r ∧ t ≤ r ∧ Chosen (rs.set j (r - t)) ts js) ∧ ∀ j', j' < j → ∀ js', ¬ FitL rs (t :: ts) (j' :: js')
  | _, _, _ => False
abbrev iD (j : Nat) : D := .int (j : Int)
theorem take_good {ts : List Int} {roll : Int} (h : takeE ts roll = "") : ts.length ≤ 12 ∧ (1 ≤ roll ∧ roll ≤ 999) ∧ ∀ t ∈ ts, 1 ≤ t ∧ t ≤ roll := by
  unfold takeE at h
  split at h
  · cases h
  split at h
  · cases h
  split at h
  · cases h
  rename_i h1 h2 h3
  refine ⟨by omega, by omega, fun t ht => ?_⟩
  rw [Bool.not_eq_false, List.all_eq_true] at h3
  have := h3 t ht
  rw [Bool.and_eq_true, decide_eq_true_eq, decide_eq_true_eq] at this
  exact this
theorem put_int {L : List Int} {m : Nat} {x : Int} (h : m < L.length) : (O.lst (L.map D.int)).put (.int (m : Int)) (.int x) = some (.lst ((L.set m x).map D.int)) := by
  have e : ixN (L.map D.int).length (m : Int) = some m := by
    rw [List.length_map]
    unfold ixN
    simp
    omega
  unfold O.put
  simp only [e]
  rw [List.map_set]
theorem rolls_w {ts : List Int} {roll : Int} {S : List O} {P : D × List O → Prop} {E : EP'} (hl : ts.length ≤ 1000)
    (hn : takeE ts roll ≠ "" → ∀ sg, E (exT (takeE ts roll)) sg S)
    (hy : takeE ts roll = "" → ∀ (c : Nat) js, Chosen (List.replicate c roll) ts js → Room (List.replicate c roll) ts → (∀ c', c' < c → ¬ Room (List.replicate c' roll) ts) → P (.tup (js.map iD), S)) : Wp (F_fewest_rolls [.tup (ts.map D.int), .int roll] S) P E := by
  unfold F_fewest_rolls m_fewest_rolls
  walk_at "ev"
  refine check_w hl (fun h sg => hn h _) fun h => ?_
  obtain ⟨h12, hro, hts⟩ := take_good h
  walk_at "ev"
  refine count_w h12 (by omega) (fun t ht => ⟨by have := hts t ht; omega, (hts t ht).2⟩) fun c hc hR hL => ?_
  walk_at "ev"
  refine ⟨lim_small (by omega) (by omega), ?_⟩
  rw [Int.toNat_natCast]
  have eN := lc_same (i := 7) (me := mVar 1) (sg := [.val (.tup (ts.map D.int)), .val (.int roll), .no, .no, .no, .no, .no, .no]) (S := S) (d := .int roll) (n := c) rfl fun _ => rfl
  rw [wp_eq eN]
  clear eN
  walk_at "ev"
  rw [← List.map_replicate]
  refine ⟨by rw [rngD_len]; omega, ?_⟩
  refine Wp.loop (fun i sg S' => ∃ (rs : List Int) (acc : List Nat) (x4 x5 x6 : Sl), sg = [.val (.tup (ts.map D.int)), .val (.int roll), .own (.lst (rs.map D.int)), .own (.lst (acc.map iD)), x4, x5, x6, .no] ∧ S' = S ∧ isOwn (some x4) = false ∧ isOwn (some x5) = false ∧
      rs.length = c ∧ (∀ r ∈ rs, 0 ≤ r) ∧ acc.length = i ∧ Room rs (ts.drop i) ∧ ∀ js, Chosen rs (ts.drop i) js → Chosen (List.replicate c roll) ts (acc ++ js))
    ⟨_, [], .no, .no, .no, rfl, rfl, rfl, rfl, List.length_replicate, rep_nn (by omega), rfl, hR, fun js h => h⟩ ?_ ?_
  · rintro i d sg S' hd ⟨rs, acc, x4, x5, x6, rfl, rfl, h4, h5, hc', hnn, ha, hro', hch⟩
    obtain ⟨x, hx, rfl⟩ := enum_at hd
    rw [List.getElem?_map] at hx
    cases hti : ts[i]? with
    | none => rw [hti] at hx; cases hx
    | some t =>
      rw [hti] at hx
      cases hx
      have hi := (List.getElem?_eq_some_iff.mp hti).1
      have hd : ts.drop i = t :: ts.drop (i + 1) := by
        rw [List.drop_eq_getElem_cons hi, (List.getElem?_eq_some_iff.mp hti).2]
      rw [hd] at hro' hch
      refine ⟨_, gTu2 h4 h5, ?_⟩
      unfold m_fewest_rolls_b1
      simp only [List.set_cons_succ, List.set_cons_zero]
      walk_at "ev"
      rw [show ((i : Int) + 1) = ((i + 1 : Nat) : Int) by omega, cut_hi (by rw [List.length_map]; omega), ← List.map_drop]
      refine ⟨by simp only [D.norefA, D.noref, nr_ints, Bool.and_self], first_w (by omega) (by rw [List.length_drop]; omega) hnn (fun t ht => by have := hts t (List.mem_of_mem_drop ht); omega) hro' fun j r h1 h2 h3 h6 => ⟨rfl, ?_⟩⟩
      have hj := (List.getElem?_eq_some_iff.mp h1).1
      have at1 : atI (rs.map D.int) (j : Int) = some (.int r) := atI_nat (by rw [List.getElem?_map, h1]; rfl)
      walk_at "ev"
      simp only [at1, kO_some]
      walk_at "ev"
      rw [kPutO_eq (put_int hj)]
      walk_at "ev"
      refine ⟨by rw [List.length_map]; omega, rs.set j (r - t), acc ++ [j], .val (.int (i : Int)), .val (.int t), .val (.int (j : Int)), ?_, rfl, rfl, by rw [List.length_set]; exact hc', nn_set hnn (by omega), by rw [List.length_append, ha]; rfl, h3, fun js hjs => ?_⟩
      · rw [List.map_append]
        rfl
      · rw [List.append_assoc]
        exact hch (j :: js) ⟨⟨r, h1, h2, hjs⟩, h6⟩
  · rintro sg S' ⟨rs, acc, x4, x5, x6, rfl, rfl, h4, h5, hc', hnn, ha, hro', hch⟩
    rw [enumD_len, List.length_map, List.drop_length] at hch
    walk_at "ev"
    simp only [frz, List.getElem?_cons_succ, List.getElem?_cons_zero, List.set_cons_succ, List.set_cons_zero, toD_lst]
    walk_at "ev"
    have := hch [] trivial
    rw [List.append_nil] at this
    exact hy h c acc this hR hL

end Law

namespace Law
open PySem PySem.Spec PyProof.Rows L2 D2
local macro_rules | `(tactic| walk_at "ev") => `(tactic| simp (decide := true) only [kO_some, w_C, w_Var, w_VarW, kVar_val, kVarW_val, kVarW_lst, kVarW_dic, w_Flat, kFlat_eq, w_Bin, kBin_eq, kBin2_eq, w_Un, kUn_eq, w_Tup, kTup_eq, w_Lst, kLst_eq, w_Nil, w_Cons, kCons_eq, kCons2_eq, w_And, kAnd_eq, w_Or, kOr_eq, w_Tst, kTst_eq, w_Tru, kTru_bl, kTru_int, kTru_tup, kTru_lst, kTru_non, w_NotT, kNotT_eq, w_AndT, kAndT_eq, w_OrT, kOrT_eq, w_IsN, kIsN_eq, w_If, kIf_eq, w_Chain, kCh1_eq, kCh2_eq, kCh3_eq, w_Bi, kBi_eq, on1_eq, on2_eq, w_Meth, kMeth_eq, kMeth2_eq, w_Ix, kIx_eq, kIx2_eq, w_Get2, kGet1_eq, kGet2_eq, kGet3_eq, w_NoP, w_Part, kPart_eq, w_Sl, kSl1_eq, kSl2_eq, kSl3_eq, w_Call, kCall_eq, w_CallP, kCallP_eq, w_OfO, kOfO_eq, toD_lst, toD_dic, w_LstO, kLstO_eq, w_DicO, w_Rep, kRep_eq, kRep2_eq, w_Pn, w_Pc, kPc1_eq, kPc2_eq, kPc3_eq, w_Disp, kDisp_eq, kDisp2_eq, keyed_nil, keyed_S, keyed_I, w_Lc, kLc_eq, kLc2_eq, w_Il, kIl_eq, w_It, kIt_eq, w_Ir1, kIr1_eq, w_Ir2, kIr2_eq, w_Ie, kIe_eq, w_IeT, kIeT_eq, w_Yes, w_Seq, kSeq_nx, kSeq_bk, kSeq_ct, kSeq_rt, w_Nx, w_Bk, w_Ct, w_RetN, w_Ret, kRet_eq, w_Drop, kDrop_eq, w_IfS, kIfS_eq, w_Frz, w_Set, kSet_eq, w_SetO, kSetO_eq, w_Aft, kAft_eq, w_Asg, kAsg_eq, kAsg2_eq, w_For, kFor_eq, w_While, w_Put, kPut_eq, kPut2_own, kPut2_ref, kPutR_eq, w_Own, w_OwnE, w_OwnS, kOwn_eq, kOwnE_eq, kOwnS_eq, w_Fn, kFn_nx, kFn_rt, kLoop_nx, kLoop_ct, kLoop_bk, kLoop_rt, w_Ir3, kIr3_eq, w_Lrg, kLrg_eq, w_AppPop, kApp0_eq, w_Never, w_Irv, kIrv_eq, w_Star, kStar_tup, kStar_lst, kStar2_eq, w_CallX, kCallX_eq, w_Raise, kRaise_eq, w_Done, kDone_eq, w_Try, kTry_eq, w_msRetF, kFld_some, w_msRetC, w_msRetP, kFld2_some, w_ToL, kToL_tup, kToL_lst, w_Chain3, kD0_eq, kD1_eq, kD2_eq, kD3_eq, kD4_eq, w_Add, kAdd_eq, kAdd2_eq, w_msRet, w_xF, kFldE_some, w_xBin, w_Hd, w_TryN, kTryN_eq, kHd_some, kHd_only, w_IfT, kIfT_eq, w_Iz, kIz_tup, kIz_lst, w_xOwnE, w_xOne, o_addI, o_addS, o_addT, o_addL, o_sub, o_fdiv, o_mod, o_pow, o_shl, o_shr, o_and, o_or, o_mul, o_lt, o_le, o_gt, o_ge, lt_eq, le_eq, gt_eq, ge_eq, o_neg, o_nob, o_eqI, o_eqS, o_neI, o_neS, eqo_int, ixS_tup, ixS_lst, ixS_dic, ixS_ref0, ixS_ref1, ixo_tup, ixo_lst, ixo_dicI, ixo_dicS, atI_0, atI_1, atI_2, atI_3, atI_4, atI_5, atI_6, atI_7, atI_8, pr_0, pr_1, pr_2, pr_3, po_dicI, po_dicS, app_eq, ext_eq, isL_eq, isD_eq, DisL_eq, o_lenL, o_lenT, o_lenD, o_lenS, o_toI, o_abs, o_strI, o_max2, o_min2, o_toT, o_toTT, o_toL, o_toLT, o_sloT, o_sloL, o_sloS, g_Nm, g_Tu, g_Cons, g_Nil, own_val, own_no, merge_new, dGet_cons, dGet_nil, dGet2_S, dGet2_I, o_sset, o_ssetI, o_toIb, fl_int, fl_bl, fl_str, fl_non, isNon_non, isNon_int, isNon_tup, o_inI, o_ninI, o_ninE, o_mkRng, isNon_bl, o_eqB, o_mulI, o_mulTup, o_mulLst, o_revT, o_isStrS, o_isStrT, o_isStrN, o_ltG, o_sortG, o_ssetL, o_ssetLt, o_lenSetI, o_tupRg, o_minGl, o_minGt, o_maxGl, o_maxGt, o_bestDl, o_bestDt, o_bestDln, o_bestDtn, o_lenSetT, o_sortT, List.getElem?_cons_zero, List.getElem?_cons_succ, List.set_cons_zero, List.set_cons_succ, List.length_cons, List.length_nil, List.map_cons, List.map_nil, List.cons_append, List.nil_append, List.replicate_succ, List.replicate_zero, if_true, if_false, decide_eq_true_eq, decide_eq_false_iff_not, Bool.false_eq_true, and_true, true_and, Bool.not_true, Bool.not_false, reduceIte, Option.bind_some, Option.map_some, Option.getD_some, Option.getD_none, Sum.inr.injEq, Sum.inl.injEq, Nat.reduceAdd, Nat.reduceSub, Nat.reduceLeDiff, Nat.reduceLT, Nat.reduceEqDiff, reduceCtorEq, Int.reduceLT, Int.reduceLE, Int.reduceEq, Int.reduceAdd, Int.reduceSub, Int.reduceMul, Int.reduceNeg, Int.cast_ofNat_Int, Int.natCast_zero, Int.reduceToNat, Int.reducePow, or_true, true_or, String.reduceEq, decide_true, decide_false, Bool.not_eq_true', Bool.not_eq_false', List.all_cons, List.all_nil, Bool.and_true, Bool.true_and, Bool.true_or, Bool.or_true, wipeS, startS, hdOf_cons])

/-! ### the least and the greatest of numbers -/
def maxI (x : Int) (ns : List Int) : Int := ns.foldl (fun a y => if a < y then y else a) x
def minI (x : Int) (ns : List Int) : Int := ns.foldl (fun a y => if y < a then y else a) x
theorem ltb_int {x y : Int} : (D.int x).ltb (.int y) = decide (x < y) := PySem.W.dataLt_int x y
theorem maxF_int : ∀ {ns : List Int} {x : Int}, D.maxF (.int x) (ns.map D.int) = .int (maxI x ns)
  | [], _ => rfl
  | n :: ns, x => by
    have := maxF_int (ns := ns) (x := if x < n then n else x)
    unfold D.maxF maxI at this ⊢
    rw [List.map_cons, List.foldl_cons, List.foldl_cons, ltb_int, ← this]
    by_cases g : x < n <;> simp [g]
theorem minF_int : ∀ {ns : List Int} {x : Int}, D.minF (.int x) (ns.map D.int) = .int (minI x ns)
  | [], _ => rfl
  | n :: ns, x => by
    have := minF_int (ns := ns) (x := if n < x then n else x)
    unfold D.minF minI at this ⊢
    rw [List.map_cons, List.foldl_cons, List.foldl_cons, ltb_int, ← this]
    by_cases g : n < x <;> simp [g]
theorem bestOk_int (ns : List Int) : D.bestOk (ns.map D.int) = true := by
  unfold D.bestOk
  rw [Bool.and_eq_true, Bool.and_eq_true]
  refine ⟨⟨okqA_of fun x hx => ?_, List.all_eq_true.mpr fun x hx => List.all_eq_true.mpr fun y hy => ?_⟩, List.all_eq_true.mpr fun x hx => ?_⟩
  · obtain ⟨n, _, rfl⟩ := List.mem_map.mp hx
    rfl
  · obtain ⟨n, _, rfl⟩ := List.mem_map.mp hx
    obtain ⟨m, _, rfl⟩ := List.mem_map.mp hy
    exact PySem.W.DatumOrd.alike n m
  · obtain ⟨n, _, rfl⟩ := List.mem_map.mp hx
    rfl
theorem maxI_ge : ∀ {ns : List Int} {x : Int}, x ≤ maxI x ns ∧ ∀ n ∈ ns, n ≤ maxI x ns
  | [], x => ⟨Int.le_refl _, fun _ h => nomatch h⟩
  | n :: ns, x => by
    have h := maxI_ge (ns := ns) (x := if x < n then n else x)
    unfold maxI at h ⊢
    rw [List.foldl_cons]
    refine ⟨Int.le_trans (by split <;> omega) h.1, fun m hm => ?_⟩
    cases hm with
    | head => exact Int.le_trans (by split <;> omega) h.1
    | tail _ hm => exact h.2 m hm
theorem maxI_mem : ∀ {ns : List Int} {x : Int}, maxI x ns = x ∨ maxI x ns ∈ ns
  | [], x => .inl rfl
  | n :: ns, x => by
    have h := maxI_mem (ns := ns) (x := if x < n then n else x)
    unfold maxI at h ⊢
    rw [List.foldl_cons]
    by_cases g : x < n
    · rw [if_pos g] at h ⊢
      rcases h with h | h
      · rw [h]; exact .inr List.mem_cons_self
      · exact .inr (List.mem_cons_of_mem _ h)
    · rw [if_neg g] at h ⊢
      rcases h with h | h
      · exact .inl h
      · exact .inr (List.mem_cons_of_mem _ h)
theorem minI_neg : ∀ {ns : List Int} {x : Int}, minI x ns < 0 ↔ x < 0 ∨ ∃ n ∈ ns, n < 0
  | [], x => ⟨.inl, fun h => h.elim id fun ⟨_, h, _⟩ => nomatch h⟩
  | n :: ns, x => by
    have h := minI_neg (ns := ns) (x := if n < x then n else x)
    unfold minI at h ⊢
    rw [List.foldl_cons, h]
    constructor
    · rintro (k | ⟨m, k, l⟩)
      · split at k
        · exact .inr ⟨n, List.mem_cons_self, k⟩
        · exact .inl k
      · exact .inr ⟨m, List.mem_cons_of_mem _ k, l⟩
    · rintro (k | ⟨m, k, l⟩)
      · left
        split <;> omega
      · cases k with
        | head => left; split <;> omega
        | tail _ k => exact .inr ⟨m, k, l⟩
def min0 (z : Int) : List Int → Int
  | [] => z
  | r :: rs => minI r rs
def max0 (z : Int) : List Int → Int
  | [] => z
  | r :: rs => maxI r rs
theorem o_min0 {rs : List Int} {z : Int} {S : List O} {P : D × List O → Prop} : kO (D.bestD D.minF (.tup (rs.map D.int)) (.int z)) S P = P (.int (min0 z rs), S) := by
  cases rs with
  | nil => exact o_bestDtn
  | cons r rs =>
    rw [List.map_cons, o_bestDt, ← List.map_cons, minF_int]
    simp only [bestOk_int (r :: rs), true_and]
    rfl
theorem o_max0 {rs : List Int} {z : Int} {S : List O} {P : D × List O → Prop} : kO (D.bestD D.maxF (.tup (rs.map D.int)) (.int z)) S P = P (.int (max0 z rs), S) := by
  cases rs with
  | nil => exact o_bestDtn
  | cons r rs =>
    rw [List.map_cons, o_bestDt, ← List.map_cons, maxF_int]
    simp only [bestOk_int (r :: rs), true_and]
    rfl
theorem o_maxT {r : Int} {rs : List Int} {S : List O} {P : D × List O → Prop} : kO (D.maxG (.tup ((r :: rs).map D.int))) S P = P (.int (maxI r rs), S) := by
  rw [List.map_cons, o_maxGt, ← List.map_cons, maxF_int]
  simp only [bestOk_int (r :: rs), true_and]
theorem min0_neg {rs : List Int} : min0 0 rs < 0 ↔ (rs.all fun r => decide (0 ≤ r)) = false := by
  rw [List.all_eq_false]
  cases rs with
  | nil => simp [min0]
  | cons r rs =>
    unfold min0
    rw [minI_neg]
    simp
/-! ### what is on a roll -/
def loadI : List Int → List Int → Int → Int
  | t :: ts, r :: rs, m => (if r = m then t else 0) + loadI ts rs m
  | _, _, _ => 0
theorem zip_ints : ∀ (ts rs : List Int), zipD (ts.map D.int) (rs.map D.int) = (ts.zip rs).map fun p => D.tup [.int p.1, .int p.2]
  | [], _ => by simp [zipD]
  | _ :: _, [] => by simp [zipD]
  | t :: ts, r :: rs => by
    rw [List.map_cons, List.map_cons, zipD, zip_ints]
    rfl
theorem load_zip {m : Int} : ∀ (ts rs : List Int), (((ts.zip rs).filter fun p => decide (p.2 = m)).map Prod.fst).sum = loadI ts rs m
  | [], _ => by simp [loadI]
  | _ :: _, [] => by simp [loadI]
  | t :: ts, r :: rs => by
    rw [List.zip_cons_cons, List.filter_cons, loadI, ← load_zip ts rs]
    by_cases g : r = m
    · simp [g]
    · simp [g]
theorem used_w {ts rs : List Int} {m : Int} {S : List O} {P : D × List O → Prop} {E : EP'} (hl : ts.length ≤ 1000) (hy : P (.int (loadI ts rs m), S)) : Wp (F__used_of [.tup (ts.map D.int), .tup (rs.map D.int), .int m] S) P E := by
  unfold F__used_of m__used_of
  walk_at "ev"
  rw [zip_ints]
  refine ⟨by rw [List.length_map, List.length_zip]; omega, ?_⟩
  have e := lc_pure (gg := gTu 2 (gsCons (gNm 3) (gsCons (gNm 4) gsNil))) (mt := mTst (mBin D.eqo (mVar 4) (mVar 2))) (me := mVar 3) (sg := [.val (.tup (ts.map D.int)), .val (.tup (rs.map D.int)), .val (.int m), .no, .no]) (S := S)
    (en := fun p : Int × Int => D.tup [.int p.1, .int p.2]) (p := fun p => decide (p.2 = m)) (f := fun p => .int p.1) (xs := ts.zip rs) fun p _ => ⟨_, gTu2 rfl rfl, wp_is (by walk_at "ev"), fun _ => rfl⟩
  rw [wp_eq e]
  walk_at "ev"
  have e2 : ∀ l : List (Int × Int), l.map (fun p => D.int p.1) = (l.map Prod.fst).map D.int := fun l => by rw [List.map_map]; rfl
  rw [e2, o_intsL (ints_map _), load_zip]
  walk_at "ev"
  exact hy
/-- the numbers tell a roll for each take, and no roll has more than its minutes -/
def fitsB (ts : List Int) (roll : Int) (rs : List Int) : Bool := decide (rs.length = ts.length) && (rs.all fun r => decide (0 ≤ r)) && rs.all fun m => decide (loadI ts rs m ≤ roll)
theorem right_w {ts rs : List Int} {roll : Int} {S : List O} {P : D × List O → Prop} {E : EP'} (hl : ts.length ≤ 1000) (hr : rs.length ≤ 1000) (hy : P (.bl (fitsB ts roll rs), S)) : Wp (F__are_right [.tup (ts.map D.int), .int roll, .tup (rs.map D.int)] S) P E := by
  unfold F__are_right m__are_right
  unfold fitsB at hy
  walk_at "ev"
  rw [List.length_map, List.length_map]
  by_cases g1 : rs.length = ts.length
  · rw [decide_eq_true g1, Bool.true_and] at hy
    rw [if_neg (by omega), o_min0]
    walk_at "ev"
    cases hB : rs.all fun r => decide (0 ≤ r) with
    | false =>
      rw [hB] at hy
      rw [if_pos (min0_neg.mpr hB)]
      try walk_at "ev"
      exact hy
    | true =>
      rw [hB, Bool.true_and] at hy
      rw [if_neg (fun h => by rw [min0_neg.mp h] at hB; cases hB)]
      try walk_at "ev"
      refine ⟨by rw [List.length_map]; omega, ?_⟩
      have e := lc_int (i := 3) (me := mBin D.le (mCall F__used_of (mCons (mVar 0) (mCons (mVar 2) (mCons (mVar 3) mNil)))) (mVar 1)) (sg := [.val (.tup (ts.map D.int)), .val (.int roll), .val (.tup (rs.map D.int)), .no]) (S := S) (f := fun m => .bl (decide (loadI ts rs m ≤ roll))) (ns := rs) rfl fun m _ => wp_is (by
        walk_at "ev"
        exact used_w hl (by walk_at "ev"))
      rw [wp_eq e]
      walk_at "ev"
      rw [o_all]
      try walk_at "ev"
      exact hy
  · rw [decide_eq_false g1] at hy
    rw [if_pos (by omega)]
    try walk_at "ev"
    exact hy

end Law

namespace Law
open PySem PySem.Spec PyProof.Rows L2 D2
local macro_rules | `(tactic| walk_at "ev") => `(tactic| simp (decide := true) only [kO_some, w_C, w_Var, w_VarW, kVar_val, kVarW_val, kVarW_lst, kVarW_dic, w_Flat, kFlat_eq, w_Bin, kBin_eq, kBin2_eq, w_Un, kUn_eq, w_Tup, kTup_eq, w_Lst, kLst_eq, w_Nil, w_Cons, kCons_eq, kCons2_eq, w_And, kAnd_eq, w_Or, kOr_eq, w_Tst, kTst_eq, w_Tru, kTru_bl, kTru_int, kTru_tup, kTru_lst, kTru_non, w_NotT, kNotT_eq, w_AndT, kAndT_eq, w_OrT, kOrT_eq, w_IsN, kIsN_eq, w_If, kIf_eq, w_Chain, kCh1_eq, kCh2_eq, kCh3_eq, w_Bi, kBi_eq, on1_eq, on2_eq, w_Meth, kMeth_eq, kMeth2_eq, w_Ix, kIx_eq, kIx2_eq, w_Get2, kGet1_eq, kGet2_eq, kGet3_eq, w_NoP, w_Part, kPart_eq, w_Sl, kSl1_eq, kSl2_eq, kSl3_eq, w_Call, kCall_eq, w_CallP, kCallP_eq, w_OfO, kOfO_eq, toD_lst, toD_dic, w_LstO, kLstO_eq, w_DicO, w_Rep, kRep_eq, kRep2_eq, w_Pn, w_Pc, kPc1_eq, kPc2_eq, kPc3_eq, w_Disp, kDisp_eq, kDisp2_eq, keyed_nil, keyed_S, keyed_I, w_Lc, kLc_eq, kLc2_eq, w_Il, kIl_eq, w_It, kIt_eq, w_Ir1, kIr1_eq, w_Ir2, kIr2_eq, w_Ie, kIe_eq, w_IeT, kIeT_eq, w_Yes, w_Seq, kSeq_nx, kSeq_bk, kSeq_ct, kSeq_rt, w_Nx, w_Bk, w_Ct, w_RetN, w_Ret, kRet_eq, w_Drop, kDrop_eq, w_IfS, kIfS_eq, w_Frz, w_Set, kSet_eq, w_SetO, kSetO_eq, w_Aft, kAft_eq, w_Asg, kAsg_eq, kAsg2_eq, w_For, kFor_eq, w_While, w_Put, kPut_eq, kPut2_own, kPut2_ref, kPutR_eq, w_Own, w_OwnE, w_OwnS, kOwn_eq, kOwnE_eq, kOwnS_eq, w_Fn, kFn_nx, kFn_rt, kLoop_nx, kLoop_ct, kLoop_bk, kLoop_rt, w_Ir3, kIr3_eq, w_Lrg, kLrg_eq, w_AppPop, kApp0_eq, w_Never, w_Irv, kIrv_eq, w_Star, kStar_tup, kStar_lst, kStar2_eq, w_CallX, kCallX_eq, w_Raise, kRaise_eq, w_Done, kDone_eq, w_Try, kTry_eq, w_msRetF, kFld_some, w_msRetC, w_msRetP, kFld2_some, w_ToL, kToL_tup, kToL_lst, w_Chain3, kD0_eq, kD1_eq, kD2_eq, kD3_eq, kD4_eq, w_Add, kAdd_eq, kAdd2_eq, w_msRet, w_xF, kFldE_some, w_xBin, w_Hd, w_TryN, kTryN_eq, kHd_some, kHd_only, w_IfT, kIfT_eq, w_Iz, kIz_tup, kIz_lst, w_xOwnE, w_xOne, o_addI, o_addS, o_addT, o_addL, o_sub, o_fdiv, o_mod, o_pow, o_shl, o_shr, o_and, o_or, o_mul, o_lt, o_le, o_gt, o_ge, lt_eq, le_eq, gt_eq, ge_eq, o_neg, o_nob, o_eqI, o_eqS, o_neI, o_neS, eqo_int, ixS_tup, ixS_lst, ixS_dic, ixS_ref0, ixS_ref1, ixo_tup, ixo_lst, ixo_dicI, ixo_dicS, atI_0, atI_1, atI_2, atI_3, atI_4, atI_5, atI_6, atI_7, atI_8, pr_0, pr_1, pr_2, pr_3, po_dicI, po_dicS, app_eq, ext_eq, isL_eq, isD_eq, DisL_eq, o_lenL, o_lenT, o_lenD, o_lenS, o_toI, o_abs, o_strI, o_max2, o_min2, o_toT, o_toTT, o_toL, o_toLT, o_sloT, o_sloL, o_sloS, g_Nm, g_Tu, g_Cons, g_Nil, own_val, own_no, merge_new, dGet_cons, dGet_nil, dGet2_S, dGet2_I, o_sset, o_ssetI, o_toIb, fl_int, fl_bl, fl_str, fl_non, isNon_non, isNon_int, isNon_tup, o_inI, o_ninI, o_ninE, o_mkRng, isNon_bl, o_eqB, o_mulI, o_mulTup, o_mulLst, o_revT, o_isStrS, o_isStrT, o_isStrN, o_ltG, o_sortG, o_ssetL, o_ssetLt, o_lenSetI, o_tupRg, o_minGl, o_minGt, o_maxGl, o_maxGt, o_bestDl, o_bestDt, o_bestDln, o_bestDtn, o_lenSetT, o_sortT, List.getElem?_cons_zero, List.getElem?_cons_succ, List.set_cons_zero, List.set_cons_succ, List.length_cons, List.length_nil, List.map_cons, List.map_nil, List.cons_append, List.nil_append, List.replicate_succ, List.replicate_zero, if_true, if_false, decide_eq_true_eq, decide_eq_false_iff_not, Bool.false_eq_true, and_true, true_and, Bool.not_true, Bool.not_false, reduceIte, Option.bind_some, Option.map_some, Option.getD_some, Option.getD_none, Sum.inr.injEq, Sum.inl.injEq, Nat.reduceAdd, Nat.reduceSub, Nat.reduceLeDiff, Nat.reduceLT, Nat.reduceEqDiff, reduceCtorEq, Int.reduceLT, Int.reduceLE, Int.reduceEq, Int.reduceAdd, Int.reduceSub, Int.reduceMul, Int.reduceNeg, Int.cast_ofNat_Int, Int.natCast_zero, Int.reduceToNat, Int.reducePow, or_true, true_or, String.reduceEq, decide_true, decide_false, Bool.not_eq_true', Bool.not_eq_false', List.all_cons, List.all_nil, Bool.and_true, Bool.true_and, Bool.true_or, Bool.or_true, wipeS, startS, hdOf_cons])

theorem takes_w {ts rs : List Int} {roll : Int} {S : List O} {P : D × List O → Prop} {E : EP'} (hl : ts.length ≤ 1000) (hr : rs.length ≤ 1000)
    (hn : takeE ts roll ≠ "" → ∀ sg, E (exT (takeE ts roll)) sg S) (hy : takeE ts roll = "" → P (.bl (fitsB ts roll rs), S)) : Wp (F_takes_rolls [.tup (ts.map D.int), .int roll, .tup (rs.map D.int)] S) P E := by
  unfold F_takes_rolls m_takes_rolls
  walk_at "ev"
  refine check_w hl (fun h sg => hn h _) fun h => ?_
  walk_at "ev"
  refine right_w hl hr ?_
  walk_at "ev"
  exact hy h
def endsL (ts : List Int) (roll : Int) (rs : List Int) (n : Nat) : List Int := (List.range n).map fun (k : Nat) => roll - loadI ts rs (k : Int)
theorem rng_nat (n : Nat) : rngD 0 n = (List.range n).map fun k : Nat => D.int (k : Int) := by rw [rng_ints, List.map_map]; rfl
theorem max0_le {rs : List Int} {b : Int} (h : ∀ r ∈ rs, r ≤ b) (hb : -1 ≤ b) : max0 (-1) rs ≤ b := by
  cases rs with
  | nil => exact hb
  | cons r rs =>
    rcases maxI_mem (ns := rs) (x := r) with k | k
    · show maxI r rs ≤ b
      rw [k]
      exact h r List.mem_cons_self
    · exact h _ (List.mem_cons_of_mem _ k)
theorem max0_ge {rs : List Int} (h : ∀ r ∈ rs, 0 ≤ r) : -1 ≤ max0 (-1) rs := by
  cases rs with
  | nil => exact Int.le_refl _
  | cons r rs =>
    have := h r List.mem_cons_self
    have := (maxI_ge (ns := rs) (x := r)).1
    show -1 ≤ maxI r rs
    omega
theorem short_w {ts rs : List Int} {roll : Int} {S : List O} {P : D × List O → Prop} {E : EP'} (hl : ts.length ≤ 1000) (hr : rs.length ≤ 1000) (hb : ∀ r ∈ rs, r ≤ 1000)
    (hn : takeE ts roll ≠ "" → ∀ sg, E (exT (takeE ts roll)) sg S) (hf : takeE ts roll = "" → fitsB ts roll rs = false → ∀ sg, E (exT "rolls") sg S)
    (hy : takeE ts roll = "" → fitsB ts roll rs = true → P (.tup ((endsL ts roll rs (max0 (-1) rs + 1).toNat).map D.int), S)) : Wp (F_short_ends [.tup (ts.map D.int), .int roll, .tup (rs.map D.int)] S) P E := by
  unfold F_short_ends m_short_ends
  walk_at "ev"
  refine check_w hl (fun h sg => hn h _) fun h => ?_
  walk_at "ev"
  refine right_w hl hr ?_
  walk_at "ev"
  cases hB : fitsB ts roll rs with
  | false =>
    try walk_at "ev"
    exact hf h hB _
  | true =>
    try walk_at "ev"
    rw [o_max0]
    walk_at "ev"
    have hm := max0_le (b := 1000) hb (by omega)
    have h0 : -1 ≤ max0 (-1) rs := max0_ge fun r hr => by
      unfold fitsB at hB
      rw [Bool.and_eq_true, Bool.and_eq_true, List.all_eq_true, decide_eq_true_eq] at hB
      exact of_decide_eq_true (hB.1.2 r hr)
    refine ⟨lim_small (by omega) (by omega), ?_⟩
    rw [rng_ints]
    have e := lc_int (i := 3) (me := mBin D.sub (mVar 1) (mCall F__used_of (mCons (mVar 0) (mCons (mVar 2) (mCons (mVar 3) mNil))))) (sg := [.val (.tup (ts.map D.int)), .val (.int roll), .val (.tup (rs.map D.int)), .no]) (S := S) (f := fun m => .int (roll - loadI ts rs m)) (ns := (List.range (max0 (-1) rs + 1).toNat).map fun (k : Nat) => (k : Int)) rfl fun m _ => wp_is (by
      walk_at "ev"
      exact used_w hl (by walk_at "ev"))
    rw [wp_eq e]
    walk_at "ev"
    refine ⟨by rw [List.length_map, List.length_map, List.length_range]; omega, ?_⟩
    have e2 : List.map (fun m => D.int (roll - loadI ts rs m)) (List.map (fun (k : Nat) => (k : Int)) (List.range (max0 (-1) rs + 1).toNat)) = (endsL ts roll rs (max0 (-1) rs + 1).toNat).map D.int := by
      unfold endsL
      rw [List.map_map, List.map_map]
      rfl
    rw [e2]
    exact hy h hB
/-! ### the law's own judge -/
theorem sum_at {m : Int} : ∀ {ts rs : List Int}, rs.length = ts.length → (((List.range ts.length).filter fun k => decide ((rs[k]?).getD 0 = m)).map fun k => tk ts k).sum = loadI ts rs m
  | [], rs, h => by cases rs <;> rfl
  | t :: ts, [], h => by cases h
  | t :: ts, r :: rs, h => by
    have ih := sum_at (m := m) (ts := ts) (rs := rs) (by simpa using h)
    rw [List.length_cons, List.range_succ_eq_map, loadI, ← ih, List.filter_cons, List.filter_map]
    have e : ((fun k => decide (((r :: rs)[k]?).getD 0 = m)) ∘ Nat.succ) = fun k => decide ((rs[k]?).getD 0 = m) := by funext k; rfl
    rw [e]
    have e2 : ∀ l : List Nat, (l.map Nat.succ).map (fun k => tk (t :: ts) k) = l.map fun k => tk ts k := fun l => by rw [List.map_map]; rfl
    have e3 : tk (t :: ts) 0 = t := rfl
    by_cases g : r = m
    · simp only [List.getElem?_cons_zero, Option.getD_some, g, decide_true, if_true, List.map_cons, List.sum_cons, e2, e3]
    · simp only [List.getElem?_cons_zero, Option.getD_some, g, decide_false, if_false, Bool.false_eq_true, e2, Int.zero_add]
theorem load_none {m : Int} : ∀ {ts rs : List Int}, (∀ r ∈ rs, r ≠ m) → loadI ts rs m = 0
  | [], _, _ => rfl
  | _ :: _, [], _ => rfl
  | t :: ts, r :: rs, h => by
    rw [loadI, if_neg (h r List.mem_cons_self), load_none fun x hx => h x (List.mem_cons_of_mem _ hx)]
    rfl
theorem fits_w {ts rs : List Int} {roll : Int} {S : List O} {P : D × List O → Prop} {E : EP'} (hl : ts.length ≤ 1000) (hr : rs.length ≤ 1000) (h0 : 0 ≤ roll) (hb : ∀ r ∈ rs, r ≤ 1000)
    (hy : P (.bl (fitsB ts roll rs), S)) : Wp (F__law_fits [.tup (ts.map D.int), .int roll, .tup (rs.map D.int)] S) P E := by
  unfold F__law_fits m__law_fits
  walk_at "ev"
  rw [List.length_map, List.length_map]
  by_cases g1 : rs.length = ts.length
  · rw [if_neg (by omega)]
    try walk_at "ev"
    refine ⟨by omega, ?_⟩
    have e := lc_pure (gg := gNm 3) (mt := mTst (mBin D.lt (mVar 3) (mC (.int 0)))) (me := mVar 3) (sg := [.val (.tup (ts.map D.int)), .val (.int roll), .val (.tup (rs.map D.int)), .no, .no]) (S := S)
      (en := D.int) (p := fun r => decide (r < 0)) (f := D.int) (xs := rs) fun r _ => ⟨_, gNm_ok rfl, wp_is (by walk_at "ev"), fun _ => rfl⟩
    rw [wp_eq e]
    clear e
    walk_at "ev"
    rw [List.length_map]
    by_cases g2 : ∃ r ∈ rs, r < 0
    · obtain ⟨r, hr1, hr2⟩ := g2
      have hp : 0 < (rs.filter fun r => decide (r < 0)).length := List.length_pos_of_mem (List.mem_filter.mpr ⟨hr1, decide_eq_true hr2⟩)
      rw [if_pos (by omega)]
      have hB : fitsB ts roll rs = false := by
        unfold fitsB
        have : (rs.all fun r => decide (0 ≤ r)) = false := List.all_eq_false.mpr ⟨r, hr1, by simp; omega⟩
        rw [this, Bool.and_false, Bool.false_and]
      rw [hB] at hy
      try walk_at "ev"
      exact hy
    · have hz : ∀ r ∈ rs, 0 ≤ r := fun r hr => by
        by_cases g : 0 ≤ r
        · exact g
        · exact absurd ⟨r, hr, by omega⟩ g2
      have hf : (rs.filter fun r => decide (r < 0)) = [] := List.filter_eq_nil_iff.mpr fun r hr => by have := hz r hr; simp; omega
      rw [hf, if_neg (by simp)]
      have hm := max0_le (b := 1000) hb (by omega)
      have hg := max0_ge hz
      have key : Wp (loopM (gNm 3) m__law_fits_b1 (rngD 0 (max0 (-1) rs + 1).toNat) [.val (.tup (ts.map D.int)), .val (.int roll), .val (.tup (rs.map D.int)), .no, .no] S) (kSeq (mRet (mC (D.bl true))) (kFn P) E) E := by
        refine Wp.loop (fun i sg S' => ∃ (x3 : Sl), sg = [.val (.tup (ts.map D.int)), .val (.int roll), .val (.tup (rs.map D.int)), x3, .no] ∧ S' = S ∧ isOwn (some x3) = false ∧ ∀ m : Nat, m < i → loadI ts rs (m : Int) ≤ roll) ⟨.no, rfl, rfl, rfl, fun _ h => by omega⟩ ?_ ?_
        · rintro i d sg S' hd ⟨x3, rfl, rfl, h3, hlo⟩
          obtain ⟨hi, rfl⟩ := rng_at hd
          rw [Int.zero_add]
          refine ⟨_, gNm_ok h3, ?_⟩
          unfold m__law_fits_b1
          simp only [List.set_cons_succ, List.set_cons_zero]
          walk_at "ev"
          rw [List.length_map]
          refine ⟨lim_small (by omega) (by omega), ?_⟩
          rw [Int.toNat_natCast, rng_nat]
          refine ⟨by rw [List.length_map, List.length_range]; omega, ?_⟩
          have e := lc_pure (gg := gNm 4) (mt := mTst (mBin D.eqo (mIx (mVar 2) (mVar 4)) (mVar 3))) (me := mIx (mVar 0) (mVar 4)) (sg := [.val (.tup (ts.map D.int)), .val (.int roll), .val (.tup (rs.map D.int)), .val (.int (i : Int)), .no]) (S := S')
            (en := fun k : Nat => D.int (k : Int)) (p := fun k => decide ((rs[k]?).getD 0 = (i : Int))) (f := fun k => D.int (tk ts k)) (xs := List.range ts.length) fun k hk => by
              have hk1 := List.mem_range.mp hk
              have hk2 : k < rs.length := by omega
              have at1 : atI (rs.map D.int) (k : Int) = some (.int rs[k]) := atI_nat (by rw [List.getElem?_map, List.getElem?_eq_getElem hk2]; rfl)
              have at2 : atI (ts.map D.int) (k : Int) = some (.int ts[k]) := atI_nat (by rw [List.getElem?_map, List.getElem?_eq_getElem hk1]; rfl)
              refine ⟨_, gNm_ok rfl, wp_is ?_, fun _ => wp_is ?_⟩
              · walk_at "ev"
                simp only [at1, kO_some]
                walk_at "ev"
                rw [List.getElem?_eq_getElem hk2]
                rfl
              · walk_at "ev"
                simp only [at2, kO_some]
                rw [tk_at (List.getElem?_eq_getElem hk1)]
          rw [wp_eq e]
          clear e
          walk_at "ev"
          have e2 : ∀ l : List Nat, l.map (fun k => D.int (tk ts k)) = (l.map fun k => tk ts k).map D.int := fun l => by rw [List.map_map]; rfl
          rw [e2, o_intsL (ints_map _), sum_at g1]
          walk_at "ev"
          by_cases g : roll < loadI ts rs (i : Int)
          · rw [if_pos g]
            have hB : fitsB ts roll rs = false := by
              have hin : (i : Int) ∈ rs := by
                by_cases k : (i : Int) ∈ rs
                · exact k
                · rw [load_none (m := (i : Int)) (rs := rs) fun r hr h => k (by rw [← h]; exact hr)] at g
                  omega
              unfold fitsB
              have : (rs.all fun m => decide (loadI ts rs m ≤ roll)) = false := List.all_eq_false.mpr ⟨_, hin, by simp; omega⟩
              rw [this, Bool.and_false]
            rw [hB] at hy
            try walk_at "ev"
            exact hy
          · rw [if_neg g]
            exact ⟨_, rfl, rfl, fun m hm => by
              by_cases k : m = i
              · subst k; omega
              · exact hlo m (by omega)⟩
        · rintro sg S' ⟨x3, rfl, rfl, h3, hlo⟩
          rw [rngD_len] at hlo
          have hB : fitsB ts roll rs = true := by
            unfold fitsB
            rw [Bool.and_eq_true, Bool.and_eq_true, decide_eq_true_eq, List.all_eq_true, List.all_eq_true]
            refine ⟨⟨g1, fun r hr => decide_eq_true (hz r hr)⟩, fun r hr => decide_eq_true ?_⟩
            have h1 := hz r hr
            have h2 : r ≤ max0 (-1) rs := by
              cases rs with
              | nil => cases hr
              | cons a as =>
                show r ≤ maxI a as
                cases hr with
                | head => exact maxI_ge.1
                | tail _ hr => exact maxI_ge.2 r hr
            have := hlo r.toNat (by omega)
            rw [Int.toNat_of_nonneg h1] at this
            exact this
          rw [hB] at hy
          walk_at "ev"
          exact hy
      rw [List.length_map]
      cases rs with
      | nil =>
        rw [if_neg (by simp)]
        exact key
      | cons r rs =>
        rw [if_pos (by rw [List.length_cons]; omega), o_maxT]
        walk_at "ev"
        exact ⟨lim_small (by show -1000000 ≤ maxI r rs + 1; exact Int.le_trans (by decide) (show (0 : Int) ≤ max0 (-1) (r :: rs) + 1 by omega)) (by show max0 (-1) (r :: rs) + 1 ≤ 1000000; omega), key⟩
  · have hB : fitsB ts roll rs = false := by
      unfold fitsB
      rw [decide_eq_false g1]
      rfl
    rw [if_pos (by omega)]
    rw [hB] at hy
    try walk_at "ev"
    exact hy

end Law

namespace Law
open PySem PySem.Spec PyProof.Rows L2 D2
local macro_rules | `(tactic| walk_at "ev") => `(tactic| simp (decide := true) only [kO_some, w_C, w_Var, w_VarW, kVar_val, kVarW_val, kVarW_lst, kVarW_dic, w_Flat, kFlat_eq, w_Bin, kBin_eq, kBin2_eq, w_Un, kUn_eq, w_Tup, kTup_eq, w_Lst, kLst_eq, w_Nil, w_Cons, kCons_eq, kCons2_eq, w_And, kAnd_eq, w_Or, kOr_eq, w_Tst, kTst_eq, w_Tru, kTru_bl, kTru_int, kTru_tup, kTru_lst, kTru_non, w_NotT, kNotT_eq, w_AndT, kAndT_eq, w_OrT, kOrT_eq, w_IsN, kIsN_eq, w_If, kIf_eq, w_Chain, kCh1_eq, kCh2_eq, kCh3_eq, w_Bi, kBi_eq, on1_eq, on2_eq, w_Meth, kMeth_eq, kMeth2_eq, w_Ix, kIx_eq, kIx2_eq, w_Get2, kGet1_eq, kGet2_eq, kGet3_eq, w_NoP, w_Part, kPart_eq, w_Sl, kSl1_eq, kSl2_eq, kSl3_eq, w_Call, kCall_eq, w_CallP, kCallP_eq, w_OfO, kOfO_eq, toD_lst, toD_dic, w_LstO, kLstO_eq, w_DicO, w_Rep, kRep_eq, kRep2_eq, w_Pn, w_Pc, kPc1_eq, kPc2_eq, kPc3_eq, w_Disp, kDisp_eq, kDisp2_eq, keyed_nil, keyed_S, keyed_I, w_Lc, kLc_eq, kLc2_eq, w_Il, kIl_eq, w_It, kIt_eq, w_Ir1, kIr1_eq, w_Ir2, kIr2_eq, w_Ie, kIe_eq, w_IeT, kIeT_eq, w_Yes, w_Seq, kSeq_nx, kSeq_bk, kSeq_ct, kSeq_rt, w_Nx, w_Bk, w_Ct, w_RetN, w_Ret, kRet_eq, w_Drop, kDrop_eq, w_IfS, kIfS_eq, w_Frz, w_Set, kSet_eq, w_SetO, kSetO_eq, w_Aft, kAft_eq, w_Asg, kAsg_eq, kAsg2_eq, w_For, kFor_eq, w_While, w_Put, kPut_eq, kPut2_own, kPut2_ref, kPutR_eq, w_Own, w_OwnE, w_OwnS, kOwn_eq, kOwnE_eq, kOwnS_eq, w_Fn, kFn_nx, kFn_rt, kLoop_nx, kLoop_ct, kLoop_bk, kLoop_rt, w_Ir3, kIr3_eq, w_Lrg, kLrg_eq, w_AppPop, kApp0_eq, w_Never, w_Irv, kIrv_eq, w_Star, kStar_tup, kStar_lst, kStar2_eq, w_CallX, kCallX_eq, w_Raise, kRaise_eq, w_Done, kDone_eq, w_Try, kTry_eq, w_msRetF, kFld_some, w_msRetC, w_msRetP, kFld2_some, w_ToL, kToL_tup, kToL_lst, w_Chain3, kD0_eq, kD1_eq, kD2_eq, kD3_eq, kD4_eq, w_Add, kAdd_eq, kAdd2_eq, w_msRet, w_xF, kFldE_some, w_xBin, w_Hd, w_TryN, kTryN_eq, kHd_some, kHd_only, w_IfT, kIfT_eq, w_Iz, kIz_tup, kIz_lst, w_xOwnE, w_xOne, o_addI, o_addS, o_addT, o_addL, o_sub, o_fdiv, o_mod, o_pow, o_shl, o_shr, o_and, o_or, o_mul, o_lt, o_le, o_gt, o_ge, lt_eq, le_eq, gt_eq, ge_eq, o_neg, o_nob, o_eqI, o_eqS, o_neI, o_neS, eqo_int, ixS_tup, ixS_lst, ixS_dic, ixS_ref0, ixS_ref1, ixo_tup, ixo_lst, ixo_dicI, ixo_dicS, atI_0, atI_1, atI_2, atI_3, atI_4, atI_5, atI_6, atI_7, atI_8, pr_0, pr_1, pr_2, pr_3, po_dicI, po_dicS, app_eq, ext_eq, isL_eq, isD_eq, DisL_eq, o_lenL, o_lenT, o_lenD, o_lenS, o_toI, o_abs, o_strI, o_max2, o_min2, o_toT, o_toTT, o_toL, o_toLT, o_sloT, o_sloL, o_sloS, g_Nm, g_Tu, g_Cons, g_Nil, own_val, own_no, merge_new, dGet_cons, dGet_nil, dGet2_S, dGet2_I, o_sset, o_ssetI, o_toIb, fl_int, fl_bl, fl_str, fl_non, isNon_non, isNon_int, isNon_tup, o_inI, o_ninI, o_ninE, o_mkRng, isNon_bl, o_eqB, o_mulI, o_mulTup, o_mulLst, o_revT, o_isStrS, o_isStrT, o_isStrN, o_ltG, o_sortG, o_ssetL, o_ssetLt, o_lenSetI, o_tupRg, o_minGl, o_minGt, o_maxGl, o_maxGt, o_bestDl, o_bestDt, o_bestDln, o_bestDtn, o_lenSetT, o_sortT, List.getElem?_cons_zero, List.getElem?_cons_succ, List.set_cons_zero, List.set_cons_succ, List.length_cons, List.length_nil, List.map_cons, List.map_nil, List.cons_append, List.nil_append, List.replicate_succ, List.replicate_zero, if_true, if_false, decide_eq_true_eq, decide_eq_false_iff_not, Bool.false_eq_true, and_true, true_and, Bool.not_true, Bool.not_false, reduceIte, Option.bind_some, Option.map_some, Option.getD_some, Option.getD_none, Sum.inr.injEq, Sum.inl.injEq, Nat.reduceAdd, Nat.reduceSub, Nat.reduceLeDiff, Nat.reduceLT, Nat.reduceEqDiff, reduceCtorEq, Int.reduceLT, Int.reduceLE, Int.reduceEq, Int.reduceAdd, Int.reduceSub, Int.reduceMul, Int.reduceNeg, Int.cast_ofNat_Int, Int.natCast_zero, Int.reduceToNat, Int.reducePow, or_true, true_or, String.reduceEq, decide_true, decide_false, Bool.not_eq_true', Bool.not_eq_false', List.all_cons, List.all_nil, Bool.and_true, Bool.true_and, Bool.true_or, Bool.or_true, wipeS, startS, hdOf_cons])
abbrev n__law_asked : List Str := ["takes", "roll", "rolls", "told", "kind", "e"]
def m__law_asked_b1 : MS :=
  (mTryN [("StockError", some 5, (mxOwnE 3 O.isL O.append (mxOne (mxF "code"))))] (mIfS (mTst (mBin D.eqo (mVar 4) (mC (.int 0)))) (mOwnE 3 O.isL O.append (mCons (mCallX F_in_order (mCons (mVar 0) (mCons (mVar 1) mNil))) mNil)) (mIfS (mTst (mBin D.eqo (mVar 4) (mC (.int 1)))) (mOwnE 3 O.isL O.append (mCons (mCallX F_fewest_rolls (mCons (mVar 0) (mCons (mVar 1) mNil))) mNil)) (mIfS (mTst (mBin D.eqo (mVar 4) (mC (.int 2)))) (mOwnE 3 O.isL O.append (mCons (mCallX F_takes_rolls (mCons (mVar 0) (mCons (mVar 1) (mCons (mVar 2) mNil)))) mNil)) (mOwnE 3 O.isL O.append (mCons (mCallX F_short_ends (mCons (mVar 0) (mCons (mVar 1) (mCons (mVar 2) mNil)))) mNil))))))
def m__law_asked : MS :=
  (mSeq (mSetO 3 (oLst mNil))
  (mSeq (mFor (mIr1 (mCons (mC (.int 4)) mNil)) (gNm 4) (m__law_asked_b1))
  (mFrz 3 (mRet (mVar 3)))))
def F__law_asked : FD := fnF n__law_asked m__law_asked
/-- what the four calls tell -/
def AskQ (ts : List Int) (roll : Int) (rs : List Int) (k : Nat) (d : D) : Prop :=
  if takeE ts roll ≠ "" then d = .str (takeE ts roll) else
  match k with
  | 0 => d = .tup ((ordF roll ts).2.2.map D.int)
  | 1 => ∃ (c : Nat) (js : List Nat), d = .tup (js.map iD) ∧ Chosen (List.replicate c roll) ts js ∧ Room (List.replicate c roll) ts ∧ ∀ c', c' < c → ¬ Room (List.replicate c' roll) ts
  | 2 => d = .bl (fitsB ts roll rs)
  | _ => d = if fitsB ts roll rs = true then .tup ((endsL ts roll rs (max0 (-1) rs + 1).toNat).map D.int) else .str "rolls"
theorem fld_code (c : Str) : fld (exT c) "code" = some (.str c) := rfl
theorem asked_w {ts rs : List Int} {roll : Int} {S : List O} {P : D × List O → Prop} {E : EP'} (hl : ts.length ≤ 1000) (hr : rs.length ≤ 1000) (hb : ∀ r ∈ rs, r ≤ 1000)
    (hy : ∀ d0 d1 d2 d3, AskQ ts roll rs 0 d0 → AskQ ts roll rs 1 d1 → AskQ ts roll rs 2 d2 → AskQ ts roll rs 3 d3 → P (.lst [d0, d1, d2, d3], S)) : Wp (F__law_asked [.tup (ts.map D.int), .int roll, .tup (rs.map D.int)] S) P E := by
  unfold F__law_asked m__law_asked
  walk_at "ev"
  refine Wp.loop (fun i sg S' => ∃ (told : List D) (x4 : Sl), sg = [.val (.tup (ts.map D.int)), .val (.int roll), .val (.tup (rs.map D.int)), .own (.lst told), x4, .no] ∧ S' = S ∧ isOwn (some x4) = false ∧ told.length = i ∧ ∀ k d, told[k]? = some d → AskQ ts roll rs k d) ⟨[], .no, rfl, rfl, rfl, rfl, fun _ _ h => by simp at h⟩ ?_ ?_
  · rintro i d sg S' hd ⟨told, x4, rfl, rfl, h4, hL, hQ⟩
    obtain ⟨hi, rfl⟩ := rng_at hd
    rw [Int.zero_add]
    refine ⟨_, gNm_ok h4, ?_⟩
    unfold m__law_asked_b1
    simp only [List.set_cons_succ, List.set_cons_zero]
    have step : ∀ d, AskQ ts roll rs i d → ∀ k e, (told ++ [d])[k]? = some e → AskQ ts roll rs k e := fun d hd k e he => by
      rw [List.getElem?_append] at he
      split at he
      · exact hQ k e he
      · rename_i g
        cases hk : k - told.length with
        | zero =>
          rw [hk] at he
          cases he
          have : k = i := by omega
          rw [this]
          exact hd
        | succ n => rw [hk] at he; cases he
    have badE : ∀ k, takeE ts roll ≠ "" → AskQ ts roll rs k (.str (takeE ts roll)) := fun k hT => by unfold AskQ; rw [if_pos hT]
    walk_at "ev"
    rcases (by omega : i = 0 ∨ i = 1 ∨ i = 2 ∨ i = 3) with rfl | rfl | rfl | rfl
    · rw [if_pos (by decide)]
      refine order_w hl (fun h sg => ?_) fun h => ?_
      · unfold exT
        walk_at "ev"
        rw [show (⟨"StockError", ["code"], [.str (takeE ts roll)]⟩ : Exn) = exT (takeE ts roll) from rfl, fld_code]
        walk_at "ev"
        exact ⟨by omega, _, _, rfl, rfl, by rw [List.length_append, hL]; rfl, step _ (badE _ h)⟩
      · walk_at "ev"
        exact ⟨by omega, _, _, rfl, rfl, by rw [List.length_append, hL]; rfl, step _ (by unfold AskQ; rw [if_neg (fun k => k h)]; rfl)⟩
    · rw [if_neg (by decide), if_pos (by decide)]
      refine rolls_w hl (fun h sg => ?_) fun h c js h1 h2 h3 => ?_
      · unfold exT
        walk_at "ev"
        rw [show (⟨"StockError", ["code"], [.str (takeE ts roll)]⟩ : Exn) = exT (takeE ts roll) from rfl, fld_code]
        walk_at "ev"
        exact ⟨by omega, _, _, rfl, rfl, by rw [List.length_append, hL]; rfl, step _ (badE _ h)⟩
      · walk_at "ev"
        exact ⟨by omega, _, _, rfl, rfl, by rw [List.length_append, hL]; rfl, step _ (by unfold AskQ; rw [if_neg (fun k => k h)]; exact ⟨c, js, rfl, h1, h2, h3⟩)⟩
    · rw [if_neg (by decide), if_neg (by decide), if_pos (by decide)]
      refine takes_w hl hr (fun h sg => ?_) fun h => ?_
      · unfold exT
        walk_at "ev"
        rw [show (⟨"StockError", ["code"], [.str (takeE ts roll)]⟩ : Exn) = exT (takeE ts roll) from rfl, fld_code]
        walk_at "ev"
        exact ⟨by omega, _, _, rfl, rfl, by rw [List.length_append, hL]; rfl, step _ (badE _ h)⟩
      · walk_at "ev"
        exact ⟨by omega, _, _, rfl, rfl, by rw [List.length_append, hL]; rfl, step _ (by unfold AskQ; rw [if_neg (fun k => k h)]; rfl)⟩
    · rw [if_neg (by decide), if_neg (by decide), if_neg (by decide)]
      refine short_w hl hr hb (fun h sg => ?_) (fun h h2 sg => ?_) fun h h2 => ?_
      · unfold exT
        walk_at "ev"
        rw [show (⟨"StockError", ["code"], [.str (takeE ts roll)]⟩ : Exn) = exT (takeE ts roll) from rfl, fld_code]
        walk_at "ev"
        exact ⟨by omega, _, _, rfl, rfl, by rw [List.length_append, hL]; rfl, step _ (badE _ h)⟩
      · unfold exT
        walk_at "ev"
        rw [show (⟨"StockError", ["code"], [.str "rolls"]⟩ : Exn) = exT "rolls" from rfl, fld_code]
        walk_at "ev"
        exact ⟨by omega, _, _, rfl, rfl, by rw [List.length_append, hL]; rfl, step _ (by unfold AskQ; rw [if_neg (fun k => k h)]; simp only [h2]; rfl)⟩
      · walk_at "ev"
        exact ⟨by omega, _, _, rfl, rfl, by rw [List.length_append, hL]; rfl, step _ (by unfold AskQ; rw [if_neg (fun k => k h)]; simp only [h2, if_true])⟩
  · rintro sg S' ⟨told, x4, rfl, rfl, h4, hL, hQ⟩
    walk_at "ev"
    simp only [frz, List.getElem?_cons_succ, List.getElem?_cons_zero, List.set_cons_succ, List.set_cons_zero, toD_lst]
    walk_at "ev"
    match told, hL, hQ with
    | [a, b, c, d], _, hQ => exact hy a b c d (hQ 0 a rfl) (hQ 1 b rfl) (hQ 2 c rfl) (hQ 3 d rfl)

end Law

namespace Law
open PySem PySem.Spec PyProof.Rows L2 D2
local macro_rules | `(tactic| walk_at "ev") => `(tactic| simp (decide := true) only [kO_some, w_C, w_Var, w_VarW, kVar_val, kVarW_val, kVarW_lst, kVarW_dic, w_Flat, kFlat_eq, w_Bin, kBin_eq, kBin2_eq, w_Un, kUn_eq, w_Tup, kTup_eq, w_Lst, kLst_eq, w_Nil, w_Cons, kCons_eq, kCons2_eq, w_And, kAnd_eq, w_Or, kOr_eq, w_Tst, kTst_eq, w_Tru, kTru_bl, kTru_int, kTru_tup, kTru_lst, kTru_non, w_NotT, kNotT_eq, w_AndT, kAndT_eq, w_OrT, kOrT_eq, w_IsN, kIsN_eq, w_If, kIf_eq, w_Chain, kCh1_eq, kCh2_eq, kCh3_eq, w_Bi, kBi_eq, on1_eq, on2_eq, w_Meth, kMeth_eq, kMeth2_eq, w_Ix, kIx_eq, kIx2_eq, w_Get2, kGet1_eq, kGet2_eq, kGet3_eq, w_NoP, w_Part, kPart_eq, w_Sl, kSl1_eq, kSl2_eq, kSl3_eq, w_Call, kCall_eq, w_CallP, kCallP_eq, w_OfO, kOfO_eq, toD_lst, toD_dic, w_LstO, kLstO_eq, w_DicO, w_Rep, kRep_eq, kRep2_eq, w_Pn, w_Pc, kPc1_eq, kPc2_eq, kPc3_eq, w_Disp, kDisp_eq, kDisp2_eq, keyed_nil, keyed_S, keyed_I, w_Lc, kLc_eq, kLc2_eq, w_Il, kIl_eq, w_It, kIt_eq, w_Ir1, kIr1_eq, w_Ir2, kIr2_eq, w_Ie, kIe_eq, w_IeT, kIeT_eq, w_Yes, w_Seq, kSeq_nx, kSeq_bk, kSeq_ct, kSeq_rt, w_Nx, w_Bk, w_Ct, w_RetN, w_Ret, kRet_eq, w_Drop, kDrop_eq, w_IfS, kIfS_eq, w_Frz, w_Set, kSet_eq, w_SetO, kSetO_eq, w_Aft, kAft_eq, w_Asg, kAsg_eq, kAsg2_eq, w_For, kFor_eq, w_While, w_Put, kPut_eq, kPut2_own, kPut2_ref, kPutR_eq, w_Own, w_OwnE, w_OwnS, kOwn_eq, kOwnE_eq, kOwnS_eq, w_Fn, kFn_nx, kFn_rt, kLoop_nx, kLoop_ct, kLoop_bk, kLoop_rt, w_Ir3, kIr3_eq, w_Lrg, kLrg_eq, w_AppPop, kApp0_eq, w_Never, w_Irv, kIrv_eq, w_Star, kStar_tup, kStar_lst, kStar2_eq, w_CallX, kCallX_eq, w_Raise, kRaise_eq, w_Done, kDone_eq, w_Try, kTry_eq, w_msRetF, kFld_some, w_msRetC, w_msRetP, kFld2_some, w_ToL, kToL_tup, kToL_lst, w_Chain3, kD0_eq, kD1_eq, kD2_eq, kD3_eq, kD4_eq, w_Add, kAdd_eq, kAdd2_eq, w_msRet, w_xF, kFldE_some, w_xBin, w_Hd, w_TryN, kTryN_eq, kHd_some, kHd_only, w_IfT, kIfT_eq, w_Iz, kIz_tup, kIz_lst, w_xOwnE, w_xOne, o_addI, o_addS, o_addT, o_addL, o_sub, o_fdiv, o_mod, o_pow, o_shl, o_shr, o_and, o_or, o_mul, o_lt, o_le, o_gt, o_ge, lt_eq, le_eq, gt_eq, ge_eq, o_neg, o_nob, o_eqI, o_eqS, o_neI, o_neS, eqo_int, ixS_tup, ixS_lst, ixS_dic, ixS_ref0, ixS_ref1, ixo_tup, ixo_lst, ixo_dicI, ixo_dicS, atI_0, atI_1, atI_2, atI_3, atI_4, atI_5, atI_6, atI_7, atI_8, pr_0, pr_1, pr_2, pr_3, po_dicI, po_dicS, app_eq, ext_eq, isL_eq, isD_eq, DisL_eq, o_lenL, o_lenT, o_lenD, o_lenS, o_toI, o_abs, o_strI, o_max2, o_min2, o_toT, o_toTT, o_toL, o_toLT, o_sloT, o_sloL, o_sloS, g_Nm, g_Tu, g_Cons, g_Nil, own_val, own_no, merge_new, dGet_cons, dGet_nil, dGet2_S, dGet2_I, o_sset, o_ssetI, o_toIb, fl_int, fl_bl, fl_str, fl_non, isNon_non, isNon_int, isNon_tup, o_inI, o_ninI, o_ninE, o_mkRng, isNon_bl, o_eqB, o_mulI, o_mulTup, o_mulLst, o_revT, o_isStrS, o_isStrT, o_isStrN, o_ltG, o_sortG, o_ssetL, o_ssetLt, o_lenSetI, o_tupRg, o_minGl, o_minGt, o_maxGl, o_maxGt, o_bestDl, o_bestDt, o_bestDln, o_bestDtn, o_lenSetT, o_sortT, List.getElem?_cons_zero, List.getElem?_cons_succ, List.set_cons_zero, List.set_cons_succ, List.length_cons, List.length_nil, List.map_cons, List.map_nil, List.cons_append, List.nil_append, List.replicate_succ, List.replicate_zero, if_true, if_false, decide_eq_true_eq, decide_eq_false_iff_not, Bool.false_eq_true, and_true, true_and, Bool.not_true, Bool.not_false, reduceIte, Option.bind_some, Option.map_some, Option.getD_some, Option.getD_none, Sum.inr.injEq, Sum.inl.injEq, Nat.reduceAdd, Nat.reduceSub, Nat.reduceLeDiff, Nat.reduceLT, Nat.reduceEqDiff, reduceCtorEq, Int.reduceLT, Int.reduceLE, Int.reduceEq, Int.reduceAdd, Int.reduceSub, Int.reduceMul, Int.reduceNeg, Int.cast_ofNat_Int, Int.natCast_zero, Int.reduceToNat, Int.reducePow, or_true, true_or, String.reduceEq, decide_true, decide_false, Bool.not_eq_true', Bool.not_eq_false', List.all_cons, List.all_nil, Bool.and_true, Bool.true_and, Bool.true_or, Bool.or_true, wipeS, startS, hdOf_cons])
abbrev n__law_all : List Str := ["many", "found", "k", "longer", "row", "number"]
def m__law_all_b1 : MS :=
  (mSet 3 (mBin D.add (mVar 3) (mOfO (oLc false (mIr1 (mCons (mBin D.add (mBi (on1 D.maxG) (mCons (mBin D.add (mVar 4) (mTup (mCons (mUn D.neg (mC (.int 1))) mNil))) mNil)) (mC (.int 2))) mNil)) (gNm 5) mYes (mBin D.add (mVar 4) (mTup (mCons (mVar 5) mNil))) [5]))))
def m__law_all_b2 : MS :=
  (mSeq (mSet 3 (mLst mNil))
  (mSeq (mFor (mIl (mVar 1)) (gNm 4) (m__law_all_b1))
  (mSet 1 (mVar 3))))
def m__law_all : MS :=
  (mSeq (mSet 1 (mLst (mCons (mTup mNil) mNil)))
  (mSeq (mFor (mIr1 (mCons (mVar 0) mNil)) (gNm 2) (m__law_all_b2))
  (mRet (mVar 1))))
def F__law_all : FD := fnF n__law_all m__law_all
/-! ### rows in which each number is at most one above those before -/
def cnt : List Nat → Nat
  | [] => 0
  | a :: as => max (a + 1) (cnt as)
theorem cnt_app : ∀ {r : List Nat} {a : Nat}, cnt (r ++ [a]) = max (cnt r) (a + 1)
  | [], a => by simp [cnt]
  | b :: r, a => by
    rw [List.cons_append, cnt, cnt, cnt_app]
    omega
theorem cnt_lt : ∀ {r : List Nat} {a : Nat}, a ∈ r → a < cnt r
  | b :: r, a, h => by
    rw [cnt]
    cases h with
    | head => omega
    | tail _ h => have := cnt_lt h; omega
def rowsN : Nat → List (List Nat)
  | 0 => [[]]
  | n + 1 => (rowsN n).flatMap fun r => (List.range (cnt r + 1)).map fun a => r ++ [a]
theorem rows_mem : ∀ {n : Nat} {r : List Nat} {a : Nat}, r ∈ rowsN n → a ≤ cnt r → r ++ [a] ∈ rowsN (n + 1) := fun h ha =>
  List.mem_flatMap.mpr ⟨_, h, List.mem_map.mpr ⟨_, List.mem_range.mpr (by omega), rfl⟩⟩
theorem rows_len : ∀ {n : Nat} {r : List Nat}, r ∈ rowsN n → r.length = n
  | 0, r, h => by
    rw [List.mem_singleton.mp h]
    rfl
  | n + 1, r, h => by
    obtain ⟨r', h1, h2⟩ := List.mem_flatMap.mp h
    obtain ⟨a, _, rfl⟩ := List.mem_map.mp h2
    rw [List.length_append, rows_len h1]
    rfl
theorem rows_cnt {n : Nat} {r : List Nat} (h : r ∈ rowsN n) : cnt r ≤ n := by
  induction n generalizing r with
  | zero => rw [List.mem_singleton.mp h]; exact Nat.le_refl _
  | succ n ih =>
    obtain ⟨r', h1, h2⟩ := List.mem_flatMap.mp h
    obtain ⟨a, h3, rfl⟩ := List.mem_map.mp h2
    have := List.mem_range.mp h3
    have := ih h1
    rw [cnt_app]
    omega
/-! ### their order -/
def lexL : List Nat → List Nat → Prop
  | a :: as, b :: bs => a < b ∨ (a = b ∧ lexL as bs)
  | _, _ => False
theorem lex_app : ∀ {r s : List Nat} {x y : List Nat}, lexL r s → lexL (r ++ x) (s ++ y)
  | a :: r, b :: s, x, y, h => by
    rcases h with h | ⟨h1, h2⟩
    · exact .inl h
    · exact .inr ⟨h1, lex_app h2⟩
theorem lex_same : ∀ {r : List Nat} {a b : Nat}, a < b → lexL (r ++ [a]) (r ++ [b])
  | [], _, _, h => .inl h
  | _ :: _, _, _, h => .inr ⟨rfl, lex_same h⟩
theorem rows_lex : ∀ n : Nat, (rowsN n).Pairwise lexL
  | 0 => List.pairwise_singleton _ _
  | n + 1 => by
    rw [rowsN, List.flatMap_def, List.pairwise_flatten]
    refine ⟨fun l hl => ?_, ?_⟩
    · obtain ⟨r, _, rfl⟩ := List.mem_map.mp hl
      rw [List.pairwise_map]
      exact List.pairwise_lt_range.imp fun h => lex_same h
    · rw [List.pairwise_map]
      refine (rows_lex n).imp fun {r s} h x hx y hy => ?_
      obtain ⟨a, _, rfl⟩ := List.mem_map.mp hx
      obtain ⟨b, _, rfl⟩ := List.mem_map.mp hy
      exact lex_app h
theorem lex_irr : ∀ {r : List Nat}, ¬ lexL r r
  | a :: r, h => by
    rcases h with h | h
    · omega
    · exact lex_irr h.2
/-- the first of a list in order is the one before which none comes -/
theorem head_lex {l : List (List Nat)} {r : List Nat} (h : l.Pairwise lexL) (hr : r ∈ l) (hn : ∀ s ∈ l, ¬ lexL s r) : l.head? = some r := by
  cases l with
  | nil => cases hr
  | cons a l =>
    cases hr with
    | head => rfl
    | tail _ hr => exact absurd ((List.pairwise_cons.mp h).1 r hr) (hn a List.mem_cons_self)
theorem chosen_least : ∀ {ts rs : List Int} {js ks : List Nat}, Chosen rs ts js → FitL rs ts ks → ¬ lexL ks js
  | [], _, [], [], _, _, h => h
  | t :: ts, rs, j :: js, k :: ks, ⟨⟨r, h1, h2, h3⟩, h4⟩, hk, hl => by
    rcases hl with hl | ⟨rfl, hl⟩
    · exact h4 k hl ks hk
    · obtain ⟨r', k1, k2, k3⟩ := hk
      rw [h1] at k1
      cases k1
      exact chosen_least h3 k3 hl
theorem chosen_fit : ∀ {ts rs : List Int} {js : List Nat}, Chosen rs ts js → FitL rs ts js
  | [], _, [], _ => trivial
  | t :: ts, rs, j :: js, ⟨⟨r, h1, h2, h3⟩, _⟩ => ⟨r, h1, h2, chosen_fit h3⟩
/-! ### what is chosen is such a row -/
def sw (k j a : Nat) : Nat := if a = k then j else if a = j then k else a
theorem sw_eq {k j a m : Nat} : sw k j a = m ↔ a = sw k j m := by
  unfold sw
  split <;> split <;> (try split) <;> (try split) <;> constructor <;> intro h <;> omega
theorem load_sw {k j m : Nat} : ∀ {ts : List Int} {js : List Nat}, loadL ts (js.map (sw k j)) m = loadL ts js (sw k j m)
  | [], _ => rfl
  | _ :: _, [] => rfl
  | t :: ts, a :: js => by
    rw [List.map_cons, loadL, loadL, load_sw]
    by_cases g : a = sw k j m
    · rw [if_pos (sw_eq.mpr g), if_pos g]
    · rw [if_neg (fun h => g (sw_eq.mp h)), if_neg g]
theorem at_sw {rs : List Int} {k j : Nat} (h : rs[k]? = rs[j]?) (a : Nat) : rs[sw k j a]? = rs[a]? := by
  unfold sw
  split
  · rename_i g
    rw [g, h]
  · split
    · rename_i g
      rw [g, h]
    · rfl
theorem ok_sw {rs ts : List Int} {js : List Nat} {k j : Nat} (h : rs[k]? = rs[j]?) (ho : LoadOk rs ts js) : LoadOk rs ts (js.map (sw k j)) := by
  obtain ⟨h1, h2, h3⟩ := ho
  refine ⟨by rw [List.length_map]; exact h1, fun a ha => ?_, fun m r hm => ?_⟩
  · obtain ⟨b, hb, rfl⟩ := List.mem_map.mp ha
    have := at_sw h b
    rw [List.getElem?_eq_getElem (h2 b hb)] at this
    exact (List.getElem?_eq_some_iff.mp this).1
  · rw [load_sw]
    exact h3 _ r (by rw [at_sw h]; exact hm)
theorem chosen_rows {roll : Int} : ∀ {ts rs : List Int} {js pre : List Nat}, (∀ r ∈ rs, 0 ≤ r) → (∀ t ∈ ts, 0 ≤ t) → (∀ m, cnt pre ≤ m → m < rs.length → rs[m]? = some roll) → pre ∈ rowsN pre.length → Chosen rs ts js → pre ++ js ∈ rowsN (pre.length + js.length)
  | [], _, [], pre, _, _, _, hp, _ => by simpa using hp
  | t :: ts, rs, j :: js, pre, hr, ht, hm, hp, hc => by
    obtain ⟨⟨r, h1, h2, h3⟩, h4⟩ := id hc
    have hj := (List.getElem?_eq_some_iff.mp h1).1
    have hle : j ≤ cnt pre := by
      by_cases g : j ≤ cnt pre
      · exact g
      · have e : rs[cnt pre]? = rs[j]? := by rw [hm _ (Nat.le_refl _) (by omega), hm j (by omega) hj]
        have := ok_sw e ((fit_iff hr ht).mp (chosen_fit hc))
        rw [List.map_cons, show sw (cnt pre) j j = cnt pre by unfold sw; rw [if_neg (by omega), if_pos rfl]] at this
        exact absurd ((fit_iff hr ht).mpr this) (h4 _ (by omega) _)
    have ih := chosen_rows (roll := roll) (ts := ts) (rs := rs.set j (r - t)) (js := js) (pre := pre ++ [j]) (nn_set hr (by omega)) (fun x hx => ht x (List.mem_cons_of_mem _ hx)) (fun m k1 k2 => by
      rw [cnt_app] at k1
      rw [List.length_set] at k2
      rw [List.getElem?_set, if_neg (by omega)]
      exact hm m (by omega) k2) (by rw [List.length_append]; exact rows_mem hp hle) h3
    rw [List.append_assoc, List.length_append, Nat.add_assoc] at ih
    rw [List.length_cons, Nat.add_comm js.length 1]
    exact ih

end Law

namespace Law
open PySem PySem.Spec PyProof.Rows L2 D2
local macro_rules | `(tactic| walk_at "ev") => `(tactic| simp (decide := true) only [kO_some, w_C, w_Var, w_VarW, kVar_val, kVarW_val, kVarW_lst, kVarW_dic, w_Flat, kFlat_eq, w_Bin, kBin_eq, kBin2_eq, w_Un, kUn_eq, w_Tup, kTup_eq, w_Lst, kLst_eq, w_Nil, w_Cons, kCons_eq, kCons2_eq, w_And, kAnd_eq, w_Or, kOr_eq, w_Tst, kTst_eq, w_Tru, kTru_bl, kTru_int, kTru_tup, kTru_lst, kTru_non, w_NotT, kNotT_eq, w_AndT, kAndT_eq, w_OrT, kOrT_eq, w_IsN, kIsN_eq, w_If, kIf_eq, w_Chain, kCh1_eq, kCh2_eq, kCh3_eq, w_Bi, kBi_eq, on1_eq, on2_eq, w_Meth, kMeth_eq, kMeth2_eq, w_Ix, kIx_eq, kIx2_eq, w_Get2, kGet1_eq, kGet2_eq, kGet3_eq, w_NoP, w_Part, kPart_eq, w_Sl, kSl1_eq, kSl2_eq, kSl3_eq, w_Call, kCall_eq, w_CallP, kCallP_eq, w_OfO, kOfO_eq, toD_lst, toD_dic, w_LstO, kLstO_eq, w_DicO, w_Rep, kRep_eq, kRep2_eq, w_Pn, w_Pc, kPc1_eq, kPc2_eq, kPc3_eq, w_Disp, kDisp_eq, kDisp2_eq, keyed_nil, keyed_S, keyed_I, w_Lc, kLc_eq, kLc2_eq, w_Il, kIl_eq, w_It, kIt_eq, w_Ir1, kIr1_eq, w_Ir2, kIr2_eq, w_Ie, kIe_eq, w_IeT, kIeT_eq, w_Yes, w_Seq, kSeq_nx, kSeq_bk, kSeq_ct, kSeq_rt, w_Nx, w_Bk, w_Ct, w_RetN, w_Ret, kRet_eq, w_Drop, kDrop_eq, w_IfS, kIfS_eq, w_Frz, w_Set, kSet_eq, w_SetO, kSetO_eq, w_Aft, kAft_eq, w_Asg, kAsg_eq, kAsg2_eq, w_For, kFor_eq, w_While, w_Put, kPut_eq, kPut2_own, kPut2_ref, kPutR_eq, w_Own, w_OwnE, w_OwnS, kOwn_eq, kOwnE_eq, kOwnS_eq, w_Fn, kFn_nx, kFn_rt, kLoop_nx, kLoop_ct, kLoop_bk, kLoop_rt, w_Ir3, kIr3_eq, w_Lrg, kLrg_eq, w_AppPop, kApp0_eq, w_Never, w_Irv, kIrv_eq, w_Star, kStar_tup, kStar_lst, kStar2_eq, w_CallX, kCallX_eq, w_Raise, kRaise_eq, w_Done, kDone_eq, w_Try, kTry_eq, w_msRetF, kFld_some, w_msRetC, w_msRetP, kFld2_some, w_ToL, kToL_tup, kToL_lst, w_Chain3, kD0_eq, kD1_eq, kD2_eq, kD3_eq, kD4_eq, w_Add, kAdd_eq, kAdd2_eq, w_msRet, w_xF, kFldE_some, w_xBin, w_Hd, w_TryN, kTryN_eq, kHd_some, kHd_only, w_IfT, kIfT_eq, w_Iz, kIz_tup, kIz_lst, w_xOwnE, w_xOne, o_addI, o_addS, o_addT, o_addL, o_sub, o_fdiv, o_mod, o_pow, o_shl, o_shr, o_and, o_or, o_mul, o_lt, o_le, o_gt, o_ge, lt_eq, le_eq, gt_eq, ge_eq, o_neg, o_nob, o_eqI, o_eqS, o_neI, o_neS, eqo_int, ixS_tup, ixS_lst, ixS_dic, ixS_ref0, ixS_ref1, ixo_tup, ixo_lst, ixo_dicI, ixo_dicS, atI_0, atI_1, atI_2, atI_3, atI_4, atI_5, atI_6, atI_7, atI_8, pr_0, pr_1, pr_2, pr_3, po_dicI, po_dicS, app_eq, ext_eq, isL_eq, isD_eq, DisL_eq, o_lenL, o_lenT, o_lenD, o_lenS, o_toI, o_abs, o_strI, o_max2, o_min2, o_toT, o_toTT, o_toL, o_toLT, o_sloT, o_sloL, o_sloS, g_Nm, g_Tu, g_Cons, g_Nil, own_val, own_no, merge_new, dGet_cons, dGet_nil, dGet2_S, dGet2_I, o_sset, o_ssetI, o_toIb, fl_int, fl_bl, fl_str, fl_non, isNon_non, isNon_int, isNon_tup, o_inI, o_ninI, o_ninE, o_mkRng, isNon_bl, o_eqB, o_mulI, o_mulTup, o_mulLst, o_revT, o_isStrS, o_isStrT, o_isStrN, o_ltG, o_sortG, o_ssetL, o_ssetLt, o_lenSetI, o_tupRg, o_minGl, o_minGt, o_maxGl, o_maxGt, o_bestDl, o_bestDt, o_bestDln, o_bestDtn, o_lenSetT, o_sortT, List.getElem?_cons_zero, List.getElem?_cons_succ, List.set_cons_zero, List.set_cons_succ, List.length_cons, List.length_nil, List.map_cons, List.map_nil, List.cons_append, List.nil_append, List.replicate_succ, List.replicate_zero, if_true, if_false, decide_eq_true_eq, decide_eq_false_iff_not, Bool.false_eq_true, and_true, true_and, Bool.not_true, Bool.not_false, reduceIte, Option.bind_some, Option.map_some, Option.getD_some, Option.getD_none, Sum.inr.injEq, Sum.inl.injEq, Nat.reduceAdd, Nat.reduceSub, Nat.reduceLeDiff, Nat.reduceLT, Nat.reduceEqDiff, reduceCtorEq, Int.reduceLT, Int.reduceLE, Int.reduceEq, Int.reduceAdd, Int.reduceSub, Int.reduceMul, Int.reduceNeg, Int.cast_ofNat_Int, Int.natCast_zero, Int.reduceToNat, Int.reducePow, or_true, true_or, String.reduceEq, decide_true, decide_false, Bool.not_eq_true', Bool.not_eq_false', List.all_cons, List.all_nil, Bool.and_true, Bool.true_and, Bool.true_or, Bool.or_true, wipeS, startS, hdOf_cons])

abbrev nI (a : Nat) : Int := (a : Int)
theorem load_nat : ∀ {ts : List Int} {s : List Nat} {m : Nat}, loadI ts (s.map nI) (m : Int) = loadL ts s m
  | [], s, _ => by cases s <;> rfl
  | _ :: _, [], _ => rfl
  | t :: ts, a :: s, m => by
    rw [List.map_cons, loadI, loadL, load_nat]
    by_cases g : a = m
    · rw [if_pos g, if_pos (by show (a : Int) = (m : Int); omega)]
    · rw [if_neg g, if_neg (by show ¬ (a : Int) = (m : Int); omega)]
theorem loadL_none {m : Nat} : ∀ {ts : List Int} {s : List Nat}, (∀ a ∈ s, a ≠ m) → loadL ts s m = 0
  | [], _, _ => rfl
  | _ :: _, [], _ => rfl
  | t :: ts, a :: s, h => by
    rw [loadL, if_neg (h a List.mem_cons_self), loadL_none fun x hx => h x (List.mem_cons_of_mem _ hx)]
    rfl
theorem fits_nat {ts : List Int} {roll : Int} {s : List Nat} {c : Nat} (h0 : 0 ≤ roll) (hc : ∀ a ∈ s, a < c) : fitsB ts roll (s.map nI) = true ↔ LoadOk (List.replicate c roll) ts s := by
  unfold fitsB LoadOk
  rw [Bool.and_eq_true, Bool.and_eq_true, decide_eq_true_eq, List.all_eq_true, List.all_eq_true, List.length_map]
  constructor
  · rintro ⟨⟨a, _⟩, b⟩
    refine ⟨a, fun j hj => by rw [List.length_replicate]; exact hc j hj, fun m r hm => ?_⟩
    rw [List.getElem?_replicate] at hm
    split at hm
    · cases hm
      by_cases g : m ∈ s
      · have := of_decide_eq_true (b (nI m) (List.mem_map.mpr ⟨m, g, rfl⟩))
        rw [load_nat] at this
        exact this
      · rw [loadL_none fun a ha h => g (by rw [← h]; exact ha)]
        exact h0
    · cases hm
  · rintro ⟨a, b, d⟩
    refine ⟨⟨a, fun x hx => ?_⟩, fun x hx => ?_⟩
    · obtain ⟨m, _, rfl⟩ := List.mem_map.mp hx
      exact decide_eq_true (by show (0 : Int) ≤ (m : Int); omega)
    · obtain ⟨m, hm, rfl⟩ := List.mem_map.mp hx
      apply decide_eq_true
      rw [load_nat]
      exact d m roll (by rw [List.getElem?_replicate, if_pos (hc m hm)])
def waysN (ts : List Int) (roll : Int) : List (List Nat) := (rowsN ts.length).filter fun s => fitsB ts roll (s.map nI)
theorem cnt_le {b : Nat} : ∀ {s : List Nat}, (∀ a ∈ s, a < b) → cnt s ≤ b
  | [], _ => Nat.zero_le _
  | a :: s, h => by
    have h1 := h a List.mem_cons_self
    have h2 := cnt_le fun x hx => h x (List.mem_cons_of_mem _ hx)
    rw [cnt]
    omega
theorem ways_head {ts : List Int} {roll : Int} {c : Nat} {js : List Nat} (h0 : 0 ≤ roll) (ht : ∀ t ∈ ts, 0 ≤ t) (hc : Chosen (List.replicate c roll) ts js) (hm : ∀ c', c' < c → ¬ Room (List.replicate c' roll) ts) :
    js ∈ waysN ts roll ∧ cnt js = c ∧ (∀ s ∈ waysN ts roll, c ≤ cnt s) ∧ ((waysN ts roll).filter fun s => decide (cnt s = c)).head? = some js := by
  have okj := (fit_iff (rep_nn h0) ht).mp (chosen_fit hc)
  have jlt : ∀ a ∈ js, a < c := fun a ha => by have := okj.2.1 a ha; rw [List.length_replicate] at this; exact this
  have row : js ∈ rowsN ts.length := by
    have := chosen_rows (pre := []) (rep_nn h0) ht (fun m _ h => by rw [List.length_replicate] at h; rw [List.getElem?_replicate, if_pos h]) List.mem_cons_self hc
    rw [List.nil_append, List.length_nil, Nat.zero_add, okj.1] at this
    exact this
  have least : ∀ s ∈ waysN ts roll, c ≤ cnt s := fun s hs => by
    obtain ⟨h1, h2⟩ := List.mem_filter.mp hs
    have := (fits_nat h0 fun a ha => cnt_lt ha).mp h2
    by_cases g : c ≤ cnt s
    · exact g
    · exact absurd ⟨s, (fit_iff (rep_nn h0) ht).mpr this⟩ (hm (cnt s) (by omega))
  have inw : js ∈ waysN ts roll := List.mem_filter.mpr ⟨row, (fits_nat h0 jlt).mpr okj⟩
  have cj : cnt js = c := Nat.le_antisymm (cnt_le jlt) (least js inw)
  refine ⟨inw, cj, least, head_lex ?_ (List.mem_filter.mpr ⟨inw, decide_eq_true cj⟩) fun s hs hl => ?_⟩
  · exact (List.Pairwise.sublist List.filter_sublist (List.Pairwise.sublist List.filter_sublist (rows_lex _)))
  · obtain ⟨h1, h2⟩ := List.mem_filter.mp hs
    have h3 := (List.mem_filter.mp h1).2
    have h4 := of_decide_eq_true h2
    exact chosen_least hc ((fit_iff (rep_nn h0) ht).mpr ((fits_nat h0 fun a ha => by have := cnt_lt ha; omega).mp h3)) hl

end Law

namespace Law
open PySem PySem.Spec PyProof.Rows L2 D2
local macro_rules | `(tactic| walk_at "ev") => `(tactic| simp (decide := true) only [kO_some, w_C, w_Var, w_VarW, kVar_val, kVarW_val, kVarW_lst, kVarW_dic, w_Flat, kFlat_eq, w_Bin, kBin_eq, kBin2_eq, w_Un, kUn_eq, w_Tup, kTup_eq, w_Lst, kLst_eq, w_Nil, w_Cons, kCons_eq, kCons2_eq, w_And, kAnd_eq, w_Or, kOr_eq, w_Tst, kTst_eq, w_Tru, kTru_bl, kTru_int, kTru_tup, kTru_lst, kTru_non, w_NotT, kNotT_eq, w_AndT, kAndT_eq, w_OrT, kOrT_eq, w_IsN, kIsN_eq, w_If, kIf_eq, w_Chain, kCh1_eq, kCh2_eq, kCh3_eq, w_Bi, kBi_eq, on1_eq, on2_eq, w_Meth, kMeth_eq, kMeth2_eq, w_Ix, kIx_eq, kIx2_eq, w_Get2, kGet1_eq, kGet2_eq, kGet3_eq, w_NoP, w_Part, kPart_eq, w_Sl, kSl1_eq, kSl2_eq, kSl3_eq, w_Call, kCall_eq, w_CallP, kCallP_eq, w_OfO, kOfO_eq, toD_lst, toD_dic, w_LstO, kLstO_eq, w_DicO, w_Rep, kRep_eq, kRep2_eq, w_Pn, w_Pc, kPc1_eq, kPc2_eq, kPc3_eq, w_Disp, kDisp_eq, kDisp2_eq, keyed_nil, keyed_S, keyed_I, w_Lc, kLc_eq, kLc2_eq, w_Il, kIl_eq, w_It, kIt_eq, w_Ir1, kIr1_eq, w_Ir2, kIr2_eq, w_Ie, kIe_eq, w_IeT, kIeT_eq, w_Yes, w_Seq, kSeq_nx, kSeq_bk, kSeq_ct, kSeq_rt, w_Nx, w_Bk, w_Ct, w_RetN, w_Ret, kRet_eq, w_Drop, kDrop_eq, w_IfS, kIfS_eq, w_Frz, w_Set, kSet_eq, w_SetO, kSetO_eq, w_Aft, kAft_eq, w_Asg, kAsg_eq, kAsg2_eq, w_For, kFor_eq, w_While, w_Put, kPut_eq, kPut2_own, kPut2_ref, kPutR_eq, w_Own, w_OwnE, w_OwnS, kOwn_eq, kOwnE_eq, kOwnS_eq, w_Fn, kFn_nx, kFn_rt, kLoop_nx, kLoop_ct, kLoop_bk, kLoop_rt, w_Ir3, kIr3_eq, w_Lrg, kLrg_eq, w_AppPop, kApp0_eq, w_Never, w_Irv, kIrv_eq, w_Star, kStar_tup, kStar_lst, kStar2_eq, w_CallX, kCallX_eq, w_Raise, kRaise_eq, w_Done, kDone_eq, w_Try, kTry_eq, w_msRetF, kFld_some, w_msRetC, w_msRetP, kFld2_some, w_ToL, kToL_tup, kToL_lst, w_Chain3, kD0_eq, kD1_eq, kD2_eq, kD3_eq, kD4_eq, w_Add, kAdd_eq, kAdd2_eq, w_msRet, w_xF, kFldE_some, w_xBin, w_Hd, w_TryN, kTryN_eq, kHd_some, kHd_only, w_IfT, kIfT_eq, w_Iz, kIz_tup, kIz_lst, w_xOwnE, w_xOne, o_addI, o_addS, o_addT, o_addL, o_sub, o_fdiv, o_mod, o_pow, o_shl, o_shr, o_and, o_or, o_mul, o_lt, o_le, o_gt, o_ge, lt_eq, le_eq, gt_eq, ge_eq, o_neg, o_nob, o_eqI, o_eqS, o_neI, o_neS, eqo_int, ixS_tup, ixS_lst, ixS_dic, ixS_ref0, ixS_ref1, ixo_tup, ixo_lst, ixo_dicI, ixo_dicS, atI_0, atI_1, atI_2, atI_3, atI_4, atI_5, atI_6, atI_7, atI_8, pr_0, pr_1, pr_2, pr_3, po_dicI, po_dicS, app_eq, ext_eq, isL_eq, isD_eq, DisL_eq, o_lenL, o_lenT, o_lenD, o_lenS, o_toI, o_abs, o_strI, o_max2, o_min2, o_toT, o_toTT, o_toL, o_toLT, o_sloT, o_sloL, o_sloS, g_Nm, g_Tu, g_Cons, g_Nil, own_val, own_no, merge_new, dGet_cons, dGet_nil, dGet2_S, dGet2_I, o_sset, o_ssetI, o_toIb, fl_int, fl_bl, fl_str, fl_non, isNon_non, isNon_int, isNon_tup, o_inI, o_ninI, o_ninE, o_mkRng, isNon_bl, o_eqB, o_mulI, o_mulTup, o_mulLst, o_revT, o_isStrS, o_isStrT, o_isStrN, o_ltG, o_sortG, o_ssetL, o_ssetLt, o_lenSetI, o_tupRg, o_minGl, o_minGt, o_maxGl, o_maxGt, o_bestDl, o_bestDt, o_bestDln, o_bestDtn, o_lenSetT, o_sortT, List.getElem?_cons_zero, List.getElem?_cons_succ, List.set_cons_zero, List.set_cons_succ, List.length_cons, List.length_nil, List.map_cons, List.map_nil, List.cons_append, List.nil_append, List.replicate_succ, List.replicate_zero, if_true, if_false, decide_eq_true_eq, decide_eq_false_iff_not, Bool.false_eq_true, and_true, true_and, Bool.not_true, Bool.not_false, reduceIte, Option.bind_some, Option.map_some, Option.getD_some, Option.getD_none, Sum.inr.injEq, Sum.inl.injEq, Nat.reduceAdd, Nat.reduceSub, Nat.reduceLeDiff, Nat.reduceLT, Nat.reduceEqDiff, reduceCtorEq, Int.reduceLT, Int.reduceLE, Int.reduceEq, Int.reduceAdd, Int.reduceSub, Int.reduceMul, Int.reduceNeg, Int.cast_ofNat_Int, Int.natCast_zero, Int.reduceToNat, Int.reducePow, or_true, true_or, String.reduceEq, decide_true, decide_false, Bool.not_eq_true', Bool.not_eq_false', List.all_cons, List.all_nil, Bool.and_true, Bool.true_and, Bool.true_or, Bool.or_true, wipeS, startS, hdOf_cons])

theorem maxI_row : ∀ {r : List Nat} {x : Int}, 0 ≤ x → maxI x (r.map nI ++ [-1]) = max x ((cnt r : Int) - 1)
  | [], x, h => by
    show (if x < -1 then (-1 : Int) else x) = max x (((0 : Nat) : Int) - 1)
    rw [if_neg (by omega)]
    omega
  | a :: r, x, h => by
    have ih := maxI_row (r := r) (x := if x < (a : Int) then (a : Int) else x) (by split <;> omega)
    unfold maxI at ih ⊢
    rw [List.map_cons, List.cons_append, List.foldl_cons, ih, cnt]
    split <;> omega
theorem o_row {r : List Nat} {S : List O} {P : D × List O → Prop} : kO (D.maxG (.tup (r.map iD ++ [.int (-1)]))) S P = P (.int ((cnt r : Int) - 1), S) := by
  have e : r.map iD ++ [D.int (-1)] = (r.map nI ++ [-1]).map D.int := by rw [List.map_append, List.map_map]; rfl
  rw [e]
  cases r with
  | nil => exact o_maxT (r := -1) (rs := [])
  | cons a r =>
    rw [List.map_cons, List.cons_append, o_maxT, maxI_row (by show (0 : Int) ≤ (a : Int); omega)]
    have : max (nI a) ((cnt r : Int) - 1) = (cnt (a :: r) : Int) - 1 := by
      rw [cnt]
      show max (a : Int) _ = _
      omega
    rw [this]
abbrev rowD (r : List Nat) : D := .tup (r.map iD)
theorem rows_few : (rowsN 0).length = 1 ∧ (rowsN 1).length = 1 ∧ (rowsN 2).length = 2 ∧ (rowsN 3).length = 5 ∧ (rowsN 4).length = 15 ∧ (rowsN 5).length = 52 ∧ (rowsN 6).length = 203 := by decide +kernel
theorem rows_203 {n : Nat} (h : n ≤ 6) : (rowsN n).length ≤ 203 := by
  have := rows_few
  rcases (by omega : n = 0 ∨ n = 1 ∨ n = 2 ∨ n = 3 ∨ n = 4 ∨ n = 5 ∨ n = 6) with rfl | rfl | rfl | rfl | rfl | rfl | rfl <;> omega
def nextR (r : List Nat) : List (List Nat) := (List.range (cnt r + 1)).map fun a => r ++ [a]
theorem nextR_len {r : List Nat} : (nextR r).length = cnt r + 1 := by unfold nextR; rw [List.length_map, List.length_range]
theorem law_all_w {n : Nat} {S : List O} {P : D × List O → Prop} {E : EP'} (hn : n ≤ 6) (hy : P (.lst ((rowsN n).map rowD), S)) : Wp (F__law_all [.int (n : Int)] S) P E := by
  unfold F__law_all m__law_all
  walk_at "ev"
  refine ⟨lim_small (by omega) (by omega), ?_⟩
  rw [Int.toNat_natCast]
  refine Wp.loop (fun i sg S' => ∃ (x2 x3 x4 : Sl), sg = [.val (.int (n : Int)), .val (.lst ((rowsN i).map rowD)), x2, x3, x4, .no] ∧ S' = S ∧ isOwn (some x2) = false ∧ isOwn (some x4) = false) ⟨.no, .no, .no, rfl, rfl, rfl, rfl⟩ ?_ ?_
  · rintro i d sg S' hd ⟨x2, x3, x4, rfl, rfl, h2, h4⟩
    obtain ⟨hi, rfl⟩ := rng_at hd
    refine ⟨_, gNm_ok h2, ?_⟩
    unfold m__law_all_b2
    simp only [List.set_cons_succ, List.set_cons_zero]
    walk_at "ev"
    have hr := rows_203 (n := i) (by omega)
    refine Wp.loop (fun j sg S'' => ∃ (x4 : Sl), sg = [.val (.int (n : Int)), .val (.lst ((rowsN i).map rowD)), .val (.int (0 + (i : Int))), .val (.lst ((((rowsN i).take j).flatMap nextR).map rowD)), x4, .no] ∧ S'' = S' ∧ isOwn (some x4) = false ∧ (((rowsN i).take j).flatMap nextR).length ≤ 7 * j) ⟨x4, rfl, rfl, h4, by simp⟩ ?_ ?_
    · rintro j d sg S'' hd ⟨x4, rfl, rfl, h4, hlen⟩
      rw [List.getElem?_map] at hd
      cases hrj : (rowsN i)[j]? with
      | none => rw [hrj] at hd; cases hd
      | some r =>
        rw [hrj] at hd
        cases hd
        have hin := List.mem_of_getElem? hrj
        have hj := (List.getElem?_eq_some_iff.mp hrj).1
        have hcn := rows_cnt hin
        have hlr := rows_len hin
        refine ⟨_, gNm_ok h4, ?_⟩
        unfold m__law_all_b1
        simp only [List.set_cons_succ, List.set_cons_zero]
        walk_at "ev"
        refine ⟨by rw [List.length_map]; omega, ?_⟩
        rw [o_row]
        walk_at "ev"
        refine ⟨lim_small (by omega) (by omega), ?_⟩
        rw [show ((cnt r : Int) - 1 + 2).toNat = cnt r + 1 by omega, rng_ints]
        have e := lc_int (i := 5) (me := mBin D.add (mVar 4) (mTup (mCons (mVar 5) mNil))) (sg := [.val (.int (n : Int)), .val (.lst ((rowsN i).map rowD)), .val (.int (0 + (i : Int))), .val (.lst ((((rowsN i).take j).flatMap nextR).map rowD)), .val (rowD r), .no]) (S := S'')
          (f := fun m => .tup (r.map iD ++ [.int m])) (ns := (List.range (cnt r + 1)).map fun (k : Nat) => (k : Int)) rfl fun m _ => wp_is (by
            walk_at "ev"
            rw [List.length_map]
            omega)
        rw [wp_eq e]
        clear e
        have e2 : (List.map (fun m => D.tup (r.map iD ++ [.int m])) ((List.range (cnt r + 1)).map fun (k : Nat) => (k : Int))) = (nextR r).map rowD := by
          unfold nextR
          rw [List.map_map, List.map_map]
          refine List.map_congr_left fun k _ => ?_
          show D.tup _ = D.tup _
          rw [List.map_append]
          rfl
        rw [e2]
        walk_at "ev"
        have e3 : ((rowsN i).take (j + 1)).flatMap nextR = ((rowsN i).take j).flatMap nextR ++ nextR r := by
          rw [List.take_add_one, hrj, List.flatMap_append]
          simp
        refine ⟨by rw [List.length_map, List.length_map, List.length_range]; omega, by rw [List.length_map, List.length_map, nextR_len]; omega, .val (rowD r), ?_, rfl, ?_⟩
        · rw [e3, List.map_append]
        · rw [e3, List.length_append, nextR_len]
          omega
    · rintro sg S'' ⟨x4, rfl, rfl, h4, _⟩
      rw [List.length_map, List.take_length]
      walk_at "ev"
      exact ⟨_, _, _, rfl, rfl, h4⟩
  · rintro sg S' ⟨x2, x3, x4, rfl, rfl, h2, h4⟩
    rw [rngD_len]
    walk_at "ev"
    exact hy

end Law

namespace Law
open PySem PySem.Spec PyProof.Rows L2 D2
local macro_rules | `(tactic| walk_at "ev") => `(tactic| simp (decide := true) only [kO_some, w_C, w_Var, w_VarW, kVar_val, kVarW_val, kVarW_lst, kVarW_dic, w_Flat, kFlat_eq, w_Bin, kBin_eq, kBin2_eq, w_Un, kUn_eq, w_Tup, kTup_eq, w_Lst, kLst_eq, w_Nil, w_Cons, kCons_eq, kCons2_eq, w_And, kAnd_eq, w_Or, kOr_eq, w_Tst, kTst_eq, w_Tru, kTru_bl, kTru_int, kTru_tup, kTru_lst, kTru_non, w_NotT, kNotT_eq, w_AndT, kAndT_eq, w_OrT, kOrT_eq, w_IsN, kIsN_eq, w_If, kIf_eq, w_Chain, kCh1_eq, kCh2_eq, kCh3_eq, w_Bi, kBi_eq, on1_eq, on2_eq, w_Meth, kMeth_eq, kMeth2_eq, w_Ix, kIx_eq, kIx2_eq, w_Get2, kGet1_eq, kGet2_eq, kGet3_eq, w_NoP, w_Part, kPart_eq, w_Sl, kSl1_eq, kSl2_eq, kSl3_eq, w_Call, kCall_eq, w_CallP, kCallP_eq, w_OfO, kOfO_eq, toD_lst, toD_dic, w_LstO, kLstO_eq, w_DicO, w_Rep, kRep_eq, kRep2_eq, w_Pn, w_Pc, kPc1_eq, kPc2_eq, kPc3_eq, w_Disp, kDisp_eq, kDisp2_eq, keyed_nil, keyed_S, keyed_I, w_Lc, kLc_eq, kLc2_eq, w_Il, kIl_eq, w_It, kIt_eq, w_Ir1, kIr1_eq, w_Ir2, kIr2_eq, w_Ie, kIe_eq, w_IeT, kIeT_eq, w_Yes, w_Seq, kSeq_nx, kSeq_bk, kSeq_ct, kSeq_rt, w_Nx, w_Bk, w_Ct, w_RetN, w_Ret, kRet_eq, w_Drop, kDrop_eq, w_IfS, kIfS_eq, w_Frz, w_Set, kSet_eq, w_SetO, kSetO_eq, w_Aft, kAft_eq, w_Asg, kAsg_eq, kAsg2_eq, w_For, kFor_eq, w_While, w_Put, kPut_eq, kPut2_own, kPut2_ref, kPutR_eq, w_Own, w_OwnE, w_OwnS, kOwn_eq, kOwnE_eq, kOwnS_eq, w_Fn, kFn_nx, kFn_rt, kLoop_nx, kLoop_ct, kLoop_bk, kLoop_rt, w_Ir3, kIr3_eq, w_Lrg, kLrg_eq, w_AppPop, kApp0_eq, w_Never, w_Irv, kIrv_eq, w_Star, kStar_tup, kStar_lst, kStar2_eq, w_CallX, kCallX_eq, w_Raise, kRaise_eq, w_Done, kDone_eq, w_Try, kTry_eq, w_msRetF, kFld_some, w_msRetC, w_msRetP, kFld2_some, w_ToL, kToL_tup, kToL_lst, w_Chain3, kD0_eq, kD1_eq, kD2_eq, kD3_eq, kD4_eq, w_Add, kAdd_eq, kAdd2_eq, w_msRet, w_xF, kFldE_some, w_xBin, w_Hd, w_TryN, kTryN_eq, kHd_some, kHd_only, w_IfT, kIfT_eq, w_Iz, kIz_tup, kIz_lst, w_xOwnE, w_xOne, o_addI, o_addS, o_addT, o_addL, o_sub, o_fdiv, o_mod, o_pow, o_shl, o_shr, o_and, o_or, o_mul, o_lt, o_le, o_gt, o_ge, lt_eq, le_eq, gt_eq, ge_eq, o_neg, o_nob, o_eqI, o_eqS, o_neI, o_neS, eqo_int, ixS_tup, ixS_lst, ixS_dic, ixS_ref0, ixS_ref1, ixo_tup, ixo_lst, ixo_dicI, ixo_dicS, atI_0, atI_1, atI_2, atI_3, atI_4, atI_5, atI_6, atI_7, atI_8, pr_0, pr_1, pr_2, pr_3, po_dicI, po_dicS, app_eq, ext_eq, isL_eq, isD_eq, DisL_eq, o_lenL, o_lenT, o_lenD, o_lenS, o_toI, o_abs, o_strI, o_max2, o_min2, o_toT, o_toTT, o_toL, o_toLT, o_sloT, o_sloL, o_sloS, g_Nm, g_Tu, g_Cons, g_Nil, own_val, own_no, merge_new, dGet_cons, dGet_nil, dGet2_S, dGet2_I, o_sset, o_ssetI, o_toIb, fl_int, fl_bl, fl_str, fl_non, isNon_non, isNon_int, isNon_tup, o_inI, o_ninI, o_ninE, o_mkRng, isNon_bl, o_eqB, o_mulI, o_mulTup, o_mulLst, o_revT, o_isStrS, o_isStrT, o_isStrN, o_ltG, o_sortG, o_ssetL, o_ssetLt, o_lenSetI, o_tupRg, o_minGl, o_minGt, o_maxGl, o_maxGt, o_bestDl, o_bestDt, o_bestDln, o_bestDtn, o_lenSetT, o_sortT, List.getElem?_cons_zero, List.getElem?_cons_succ, List.set_cons_zero, List.set_cons_succ, List.length_cons, List.length_nil, List.map_cons, List.map_nil, List.cons_append, List.nil_append, List.replicate_succ, List.replicate_zero, if_true, if_false, decide_eq_true_eq, decide_eq_false_iff_not, Bool.false_eq_true, and_true, true_and, Bool.not_true, Bool.not_false, reduceIte, Option.bind_some, Option.map_some, Option.getD_some, Option.getD_none, Sum.inr.injEq, Sum.inl.injEq, Nat.reduceAdd, Nat.reduceSub, Nat.reduceLeDiff, Nat.reduceLT, Nat.reduceEqDiff, reduceCtorEq, Int.reduceLT, Int.reduceLE, Int.reduceEq, Int.reduceAdd, Int.reduceSub, Int.reduceMul, Int.reduceNeg, Int.cast_ofNat_Int, Int.natCast_zero, Int.reduceToNat, Int.reducePow, or_true, true_or, String.reduceEq, decide_true, decide_false, Bool.not_eq_true', Bool.not_eq_false', List.all_cons, List.all_nil, Bool.and_true, Bool.true_and, Bool.true_or, Bool.or_true, wipeS, startS, hdOf_cons])

theorem row_mem {n : Nat} {r : List Nat} (h : r ∈ rowsN n) : ∀ a, a ∈ r ↔ a < cnt r := by
  induction n generalizing r with
  | zero => rw [List.mem_singleton.mp h]; exact fun a => ⟨fun h => (by cases h), fun h => by simp [cnt] at h⟩
  | succ n ih =>
    obtain ⟨r', h1, h2⟩ := List.mem_flatMap.mp h
    obtain ⟨a, h3, rfl⟩ := List.mem_map.mp h2
    have h4 := List.mem_range.mp h3
    intro b
    rw [List.mem_append, List.mem_singleton, ih h1, cnt_app]
    omega
theorem set_row {n : Nat} {r : List Nat} (h : r ∈ rowsN n) : (sortS (r.map nI)).length = cnt r := by
  rw [← keys_len (l := (List.range (cnt r)).map nI) ?_ ?_, List.length_map, List.length_range]
  · refine List.Pairwise.map nI (fun a b hab h => hab (by have : (a : Int) = (b : Int) := h; omega)) (List.nodup_range)
  · intro k
    rw [decide_eq_true_eq, List.mem_map, List.mem_map]
    constructor
    · rintro ⟨a, ha, rfl⟩
      exact ⟨a, List.mem_range.mpr ((row_mem h a).mp ha), rfl⟩
    · rintro ⟨a, ha, rfl⟩
      exact ⟨a, (row_mem h a).mpr (List.mem_range.mp ha), rfl⟩
theorem used2_w {n : Nat} {r : List Nat} {S : List O} {P : D × List O → Prop} {E : EP'} (hn : n ≤ 100) (h : r ∈ rowsN n) (hy : P (.int (cnt r : Int), S)) : Wp (F__law_used [rowD r] S) P E := by
  unfold F__law_used m__law_used
  have e : rowD r = .tup ((r.map nI).map D.int) := by
    show D.tup _ = D.tup _
    rw [List.map_map]
    rfl
  rw [e]
  walk_at "ev"
  rw [set_row h]
  refine ⟨by rw [List.length_map, rows_len h]; omega, ?_⟩
  exact hy
/-! ### one after the other is best among the rows in order -/
def gS (roll : Int) (s : Nat × Int × List Nat) (t : Int) : Nat × Int × List Nat := if roll < s.2.1 + t then (s.1 + 1, t, s.2.2 ++ [s.1 + 1]) else (s.1, s.2.1 + t, s.2.2 ++ [s.1])
def gF (roll : Int) (ts : List Int) : Nat × Int × List Nat := ts.foldl (gS roll) (0, 0, [])
def gI (s : Nat × Int × List Nat) : Int × Int × List Int := ((s.1 : Int), s.2.1, s.2.2.map nI)
theorem ord_g {roll : Int} : ∀ {ts : List Int} {s : Nat × Int × List Nat}, ts.foldl (ordS roll) (gI s) = gI (ts.foldl (gS roll) s)
  | [], _ => rfl
  | t :: ts, s => by
    rw [List.foldl_cons, List.foldl_cons, ← ord_g]
    congr 1
    unfold ordS gS gI
    simp only []
    split
    · simp [nI]
    · simp [nI]
theorem ordF_g {roll : Int} {ts : List Int} : ordF roll ts = gI (gF roll ts) := ord_g (s := (0, 0, []))
def SeqOk (roll : Int) : Nat → Int → List Int → List Nat → Prop
  | _, _, [], [] => True
  | b, v, t :: ts, l :: s => (l = b ∧ v + t ≤ roll ∧ SeqOk roll b (v + t) ts s) ∨ (b < l ∧ SeqOk roll l t ts s)
  | _, _, _, _ => False
theorem seq_of {roll : Int} : ∀ {ts : List Int} {s : List Nat} {b : Nat} {v : Int}, (∀ t ∈ ts, 0 ≤ t) → s.length = ts.length → (∀ l ∈ s, b ≤ l) → s.Pairwise (· ≤ ·) → v + loadL ts s b ≤ roll → (∀ m, b < m → loadL ts s m ≤ roll) → SeqOk roll b v ts s
  | [], [], _, _, _, _, _, _, _, _ => trivial
  | [], _ :: _, _, _, _, h, _, _, _, _ => by cases h
  | _ :: _, [], _, _, _, h, _, _, _, _ => by cases h
  | t :: ts, l :: s, b, v, ht, hl, hb, hp, hv, hm => by
    have ht' : ∀ t ∈ ts, 0 ≤ t := fun x hx => ht x (List.mem_cons_of_mem _ hx)
    have h0 := ht t List.mem_cons_self
    have hlb := hb l List.mem_cons_self
    obtain ⟨hp1, hp2⟩ := List.pairwise_cons.mp hp
    have hl' : s.length = ts.length := by simpa using hl
    by_cases g : l = b
    · subst g
      rw [loadL, if_pos rfl] at hv
      have := loadL_nn (js := s) (m := l) ht'
      refine .inl ⟨rfl, by omega, seq_of ht' hl' hp1 hp2 (by omega) fun m h => ?_⟩
      have := hm m h
      rw [loadL, if_neg (by omega)] at this
      omega
    · refine .inr ⟨by omega, seq_of ht' hl' hp1 hp2 ?_ fun m h => ?_⟩
      · have := hm l (by omega)
        rw [loadL, if_pos rfl] at this
        exact this
      · have := hm m (by omega)
        rw [loadL, if_neg (by omega)] at this
        omega
theorem seq_best {roll : Int} : ∀ {ts : List Int} {s : List Nat} {b : Nat} {v : Int} {st : Nat × Int × List Nat}, (∀ t ∈ ts, 0 ≤ t) → 0 ≤ v → ple (st.1, st.2.1) b v → SeqOk roll b v ts s → (ts.foldl (gS roll) st).1 ≤ (b :: s).getLast (by simp)
  | [], [], b, v, st, _, _, h, _ => by
    unfold ple at h
    show st.1 ≤ b
    simp only [] at h
    omega
  | t :: ts, l :: s, b, v, st, ht, hv, h, hs => by
    have h0 := ht t List.mem_cons_self
    have ht' : ∀ t ∈ ts, 0 ≤ t := fun x hx => ht x (List.mem_cons_of_mem _ hx)
    rw [List.foldl_cons, List.getLast_cons (by simp)]
    unfold ple at h
    simp only [] at h
    rcases hs with ⟨rfl, h2, h3⟩ | ⟨h2, h3⟩
    · refine seq_best ht' (by omega) ?_ h3
      unfold gS ple
      split <;> simp only [] <;> omega
    · refine seq_best ht' h0 ?_ h3
      unfold gS ple
      split <;> simp only [] <;> omega

end Law

namespace Law
open PySem PySem.Spec PyProof.Rows L2 D2
local macro_rules | `(tactic| walk_at "ev") => `(tactic| simp (decide := true) only [kO_some, w_C, w_Var, w_VarW, kVar_val, kVarW_val, kVarW_lst, kVarW_dic, w_Flat, kFlat_eq, w_Bin, kBin_eq, kBin2_eq, w_Un, kUn_eq, w_Tup, kTup_eq, w_Lst, kLst_eq, w_Nil, w_Cons, kCons_eq, kCons2_eq, w_And, kAnd_eq, w_Or, kOr_eq, w_Tst, kTst_eq, w_Tru, kTru_bl, kTru_int, kTru_tup, kTru_lst, kTru_non, w_NotT, kNotT_eq, w_AndT, kAndT_eq, w_OrT, kOrT_eq, w_IsN, kIsN_eq, w_If, kIf_eq, w_Chain, kCh1_eq, kCh2_eq, kCh3_eq, w_Bi, kBi_eq, on1_eq, on2_eq, w_Meth, kMeth_eq, kMeth2_eq, w_Ix, kIx_eq, kIx2_eq, w_Get2, kGet1_eq, kGet2_eq, kGet3_eq, w_NoP, w_Part, kPart_eq, w_Sl, kSl1_eq, kSl2_eq, kSl3_eq, w_Call, kCall_eq, w_CallP, kCallP_eq, w_OfO, kOfO_eq, toD_lst, toD_dic, w_LstO, kLstO_eq, w_DicO, w_Rep, kRep_eq, kRep2_eq, w_Pn, w_Pc, kPc1_eq, kPc2_eq, kPc3_eq, w_Disp, kDisp_eq, kDisp2_eq, keyed_nil, keyed_S, keyed_I, w_Lc, kLc_eq, kLc2_eq, w_Il, kIl_eq, w_It, kIt_eq, w_Ir1, kIr1_eq, w_Ir2, kIr2_eq, w_Ie, kIe_eq, w_IeT, kIeT_eq, w_Yes, w_Seq, kSeq_nx, kSeq_bk, kSeq_ct, kSeq_rt, w_Nx, w_Bk, w_Ct, w_RetN, w_Ret, kRet_eq, w_Drop, kDrop_eq, w_IfS, kIfS_eq, w_Frz, w_Set, kSet_eq, w_SetO, kSetO_eq, w_Aft, kAft_eq, w_Asg, kAsg_eq, kAsg2_eq, w_For, kFor_eq, w_While, w_Put, kPut_eq, kPut2_own, kPut2_ref, kPutR_eq, w_Own, w_OwnE, w_OwnS, kOwn_eq, kOwnE_eq, kOwnS_eq, w_Fn, kFn_nx, kFn_rt, kLoop_nx, kLoop_ct, kLoop_bk, kLoop_rt, w_Ir3, kIr3_eq, w_Lrg, kLrg_eq, w_AppPop, kApp0_eq, w_Never, w_Irv, kIrv_eq, w_Star, kStar_tup, kStar_lst, kStar2_eq, w_CallX, kCallX_eq, w_Raise, kRaise_eq, w_Done, kDone_eq, w_Try, kTry_eq, w_msRetF, kFld_some, w_msRetC, w_msRetP, kFld2_some, w_ToL, kToL_tup, kToL_lst, w_Chain3, kD0_eq, kD1_eq, kD2_eq, kD3_eq, kD4_eq, w_Add, kAdd_eq, kAdd2_eq, w_msRet, w_xF, kFldE_some, w_xBin, w_Hd, w_TryN, kTryN_eq, kHd_some, kHd_only, w_IfT, kIfT_eq, w_Iz, kIz_tup, kIz_lst, w_xOwnE, w_xOne, o_addI, o_addS, o_addT, o_addL, o_sub, o_fdiv, o_mod, o_pow, o_shl, o_shr, o_and, o_or, o_mul, o_lt, o_le, o_gt, o_ge, lt_eq, le_eq, gt_eq, ge_eq, o_neg, o_nob, o_eqI, o_eqS, o_neI, o_neS, eqo_int, ixS_tup, ixS_lst, ixS_dic, ixS_ref0, ixS_ref1, ixo_tup, ixo_lst, ixo_dicI, ixo_dicS, atI_0, atI_1, atI_2, atI_3, atI_4, atI_5, atI_6, atI_7, atI_8, pr_0, pr_1, pr_2, pr_3, po_dicI, po_dicS, app_eq, ext_eq, isL_eq, isD_eq, DisL_eq, o_lenL, o_lenT, o_lenD, o_lenS, o_toI, o_abs, o_strI, o_max2, o_min2, o_toT, o_toTT, o_toL, o_toLT, o_sloT, o_sloL, o_sloS, g_Nm, g_Tu, g_Cons, g_Nil, own_val, own_no, merge_new, dGet_cons, dGet_nil, dGet2_S, dGet2_I, o_sset, o_ssetI, o_toIb, fl_int, fl_bl, fl_str, fl_non, isNon_non, isNon_int, isNon_tup, o_inI, o_ninI, o_ninE, o_mkRng, isNon_bl, o_eqB, o_mulI, o_mulTup, o_mulLst, o_revT, o_isStrS, o_isStrT, o_isStrN, o_ltG, o_sortG, o_ssetL, o_ssetLt, o_lenSetI, o_tupRg, o_minGl, o_minGt, o_maxGl, o_maxGt, o_bestDl, o_bestDt, o_bestDln, o_bestDtn, o_lenSetT, o_sortT, List.getElem?_cons_zero, List.getElem?_cons_succ, List.set_cons_zero, List.set_cons_succ, List.length_cons, List.length_nil, List.map_cons, List.map_nil, List.cons_append, List.nil_append, List.replicate_succ, List.replicate_zero, if_true, if_false, decide_eq_true_eq, decide_eq_false_iff_not, Bool.false_eq_true, and_true, true_and, Bool.not_true, Bool.not_false, reduceIte, Option.bind_some, Option.map_some, Option.getD_some, Option.getD_none, Sum.inr.injEq, Sum.inl.injEq, Nat.reduceAdd, Nat.reduceSub, Nat.reduceLeDiff, Nat.reduceLT, Nat.reduceEqDiff, reduceCtorEq, Int.reduceLT, Int.reduceLE, Int.reduceEq, Int.reduceAdd, Int.reduceSub, Int.reduceMul, Int.reduceNeg, Int.cast_ofNat_Int, Int.natCast_zero, Int.reduceToNat, Int.reducePow, or_true, true_or, String.reduceEq, decide_true, decide_false, Bool.not_eq_true', Bool.not_eq_false', List.all_cons, List.all_nil, Bool.and_true, Bool.true_and, Bool.true_or, Bool.or_true, wipeS, startS, hdOf_cons])

theorem load_app {m a : Nat} {t : Int} : ∀ {ts : List Int} {s : List Nat}, s.length = ts.length → loadL (ts ++ [t]) (s ++ [a]) m = loadL ts s m + if a = m then t else 0
  | [], [], _ => by
    show (if a = m then t else 0) + 0 = 0 + if a = m then t else 0
    omega
  | x :: ts, b :: s, h => by
    rw [List.cons_append, List.cons_append, loadL, loadL, load_app (by simpa using h)]
    omega
/-- what holds after some takes -/
structure GOk (roll : Int) (pre : List Int) (st : Nat × Int × List Nat) : Prop where
  row : st.2.2 ∈ rowsN pre.length
  le : ∀ a ∈ st.2.2, a ≤ st.1
  pw : st.2.2.Pairwise (· ≤ ·)
  cn : cnt st.2.2 = if pre = [] then 0 else st.1 + 1
  on : loadL pre st.2.2 st.1 = st.2.1
  ok : ∀ m, loadL pre st.2.2 m ≤ roll
  fst : pre = [] → st = (0, 0, [])
theorem g_step {roll : Int} {pre : List Int} {st : Nat × Int × List Nat} {t : Int} (h : GOk roll pre st) (ht : 1 ≤ t ∧ t ≤ roll) : GOk roll (pre ++ [t]) (gS roll st t) := by
  obtain ⟨n, u, row⟩ := st
  obtain ⟨h1, h2, h3, h4, h5, h6, h7⟩ := h
  simp only [] at h1 h2 h3 h4 h5 h6 h7
  have hl := rows_len h1
  have ne : pre ++ [t] ≠ [] := by simp
  unfold gS
  simp only []
  by_cases g : roll < u + t
  · rw [if_pos g]
    have np : pre ≠ [] := fun e => by have := h7 e; cases this; omega
    rw [if_neg np] at h4
    have z : loadL pre row (n + 1) = 0 := loadL_none fun a ha => by have := h2 a ha; omega
    refine ⟨?_, fun a ha => ?_, ?_, ?_, ?_, fun m => ?_, fun e => absurd e ne⟩
    · rw [List.length_append]
      exact rows_mem h1 (by omega)
    · rcases List.mem_append.mp ha with k | k
      · have := h2 a k
        show a ≤ n + 1
        omega
      · rw [List.mem_singleton.mp k]
        exact Nat.le_refl _
    · rw [List.pairwise_append]
      refine ⟨h3, List.pairwise_singleton _ _, fun a ha b hb => ?_⟩
      rw [List.mem_singleton.mp hb]
      have := h2 a ha
      omega
    · rw [if_neg ne, cnt_app, h4]
      omega
    · rw [load_app hl, z, if_pos rfl]
      show 0 + t = t
      omega
    · rw [load_app hl]
      split
      · rename_i k
        subst k
        rw [z]
        omega
      · have := h6 m
        omega
  · rw [if_neg g]
    refine ⟨?_, fun a ha => ?_, ?_, ?_, ?_, fun m => ?_, fun e => absurd e ne⟩
    · rw [List.length_append]
      refine rows_mem h1 ?_
      by_cases e : pre = []
      · have := h7 e
        cases this
        omega
      · rw [h4, if_neg e]
        omega
    · rcases List.mem_append.mp ha with k | k
      · exact h2 a k
      · rw [List.mem_singleton.mp k]
        exact Nat.le_refl _
    · rw [List.pairwise_append]
      refine ⟨h3, List.pairwise_singleton _ _, fun a ha b hb => ?_⟩
      rw [List.mem_singleton.mp hb]
      exact h2 a ha
    · rw [if_neg ne, cnt_app, h4]
      split <;> omega
    · rw [load_app hl, h5, if_pos rfl]
    · rw [load_app hl]
      split
      · rename_i k
        subst k
        rw [h5]
        omega
      · have := h6 m
        omega
theorem g_all {roll : Int} : ∀ {ts pre : List Int} {st : Nat × Int × List Nat}, GOk roll pre st → (∀ t ∈ ts, 1 ≤ t ∧ t ≤ roll) → GOk roll (pre ++ ts) (ts.foldl (gS roll) st)
  | [], pre, st, h, _ => by rw [List.append_nil]; exact h
  | t :: ts, pre, st, h, ht => by
    have := g_all (ts := ts) (g_step h (ht t List.mem_cons_self)) fun x hx => ht x (List.mem_cons_of_mem _ hx)
    rw [List.append_assoc] at this
    exact this
theorem g_ok {roll : Int} {ts : List Int} (h0 : 0 ≤ roll) (ht : ∀ t ∈ ts, 1 ≤ t ∧ t ≤ roll) : GOk roll ts (gF roll ts) :=
  g_all (pre := []) (st := (0, 0, [])) ⟨List.mem_cons_self, fun _ h => (by cases h), List.Pairwise.nil, rfl, rfl, fun _ => h0, fun _ => rfl⟩ ht
theorem last_cnt : ∀ {s : List Nat} {b : Nat}, s.Pairwise (· ≤ ·) → (∀ l ∈ s, b ≤ l) → (b :: s).getLast (by simp) + 1 = max (b + 1) (cnt s)
  | [], b, _, _ => by simp [cnt]
  | l :: s, b, h, hb => by
    obtain ⟨h1, h2⟩ := List.pairwise_cons.mp h
    have := hb l List.mem_cons_self
    rw [List.getLast_cons (by simp), last_cnt h2 h1, cnt]
    omega
/-- no row in order that fits has fewer numbers -/
theorem g_best {roll : Int} {ts : List Int} {s : List Nat} (h0 : 0 ≤ roll) (ht : ∀ t ∈ ts, 1 ≤ t ∧ t ≤ roll) (hne : ts ≠ []) (hl : s.length = ts.length) (hp : s.Pairwise (· ≤ ·)) (hf : ∀ m, loadL ts s m ≤ roll) : cnt (gF roll ts).2.2 ≤ cnt s := by
  have ht' : ∀ t ∈ ts, 0 ≤ t := fun t h => by have := ht t h; omega
  have a := seq_best (st := (0, 0, [])) ht' (Int.le_refl 0) (.inr ⟨rfl, Int.le_refl 0⟩) (seq_of (roll := roll) (b := 0) (v := 0) ht' hl (fun _ _ => Nat.zero_le _) hp (by have := hf 0; omega) fun m _ => hf m)
  have b := last_cnt (b := 0) hp fun _ _ => Nat.zero_le _
  have c := (g_ok h0 ht).cn
  rw [if_neg hne] at c
  have d : 1 ≤ cnt s := by
    cases s with
    | nil => cases ts with
      | nil => exact absurd rfl hne
      | cons _ _ => cases hl
    | cons x s => rw [cnt]; omega
  have e : (gF roll ts).1 ≤ (0 :: s).getLast (by simp) := a
  omega

end Law

namespace Law
open PySem PySem.Spec PyProof.Rows L2 D2
local macro_rules | `(tactic| walk_at "ev") => `(tactic| simp (decide := true) only [kO_some, w_C, w_Var, w_VarW, kVar_val, kVarW_val, kVarW_lst, kVarW_dic, w_Flat, kFlat_eq, w_Bin, kBin_eq, kBin2_eq, w_Un, kUn_eq, w_Tup, kTup_eq, w_Lst, kLst_eq, w_Nil, w_Cons, kCons_eq, kCons2_eq, w_And, kAnd_eq, w_Or, kOr_eq, w_Tst, kTst_eq, w_Tru, kTru_bl, kTru_int, kTru_tup, kTru_lst, kTru_non, w_NotT, kNotT_eq, w_AndT, kAndT_eq, w_OrT, kOrT_eq, w_IsN, kIsN_eq, w_If, kIf_eq, w_Chain, kCh1_eq, kCh2_eq, kCh3_eq, w_Bi, kBi_eq, on1_eq, on2_eq, w_Meth, kMeth_eq, kMeth2_eq, w_Ix, kIx_eq, kIx2_eq, w_Get2, kGet1_eq, kGet2_eq, kGet3_eq, w_NoP, w_Part, kPart_eq, w_Sl, kSl1_eq, kSl2_eq, kSl3_eq, w_Call, kCall_eq, w_CallP, kCallP_eq, w_OfO, kOfO_eq, toD_lst, toD_dic, w_LstO, kLstO_eq, w_DicO, w_Rep, kRep_eq, kRep2_eq, w_Pn, w_Pc, kPc1_eq, kPc2_eq, kPc3_eq, w_Disp, kDisp_eq, kDisp2_eq, keyed_nil, keyed_S, keyed_I, w_Lc, kLc_eq, kLc2_eq, w_Il, kIl_eq, w_It, kIt_eq, w_Ir1, kIr1_eq, w_Ir2, kIr2_eq, w_Ie, kIe_eq, w_IeT, kIeT_eq, w_Yes, w_Seq, kSeq_nx, kSeq_bk, kSeq_ct, kSeq_rt, w_Nx, w_Bk, w_Ct, w_RetN, w_Ret, kRet_eq, w_Drop, kDrop_eq, w_IfS, kIfS_eq, w_Frz, w_Set, kSet_eq, w_SetO, kSetO_eq, w_Aft, kAft_eq, w_Asg, kAsg_eq, kAsg2_eq, w_For, kFor_eq, w_While, w_Put, kPut_eq, kPut2_own, kPut2_ref, kPutR_eq, w_Own, w_OwnE, w_OwnS, kOwn_eq, kOwnE_eq, kOwnS_eq, w_Fn, kFn_nx, kFn_rt, kLoop_nx, kLoop_ct, kLoop_bk, kLoop_rt, w_Ir3, kIr3_eq, w_Lrg, kLrg_eq, w_AppPop, kApp0_eq, w_Never, w_Irv, kIrv_eq, w_Star, kStar_tup, kStar_lst, kStar2_eq, w_CallX, kCallX_eq, w_Raise, kRaise_eq, w_Done, kDone_eq, w_Try, kTry_eq, w_msRetF, kFld_some, w_msRetC, w_msRetP, kFld2_some, w_ToL, kToL_tup, kToL_lst, w_Chain3, kD0_eq, kD1_eq, kD2_eq, kD3_eq, kD4_eq, w_Add, kAdd_eq, kAdd2_eq, w_msRet, w_xF, kFldE_some, w_xBin, w_Hd, w_TryN, kTryN_eq, kHd_some, kHd_only, w_IfT, kIfT_eq, w_Iz, kIz_tup, kIz_lst, w_xOwnE, w_xOne, o_addI, o_addS, o_addT, o_addL, o_sub, o_fdiv, o_mod, o_pow, o_shl, o_shr, o_and, o_or, o_mul, o_lt, o_le, o_gt, o_ge, lt_eq, le_eq, gt_eq, ge_eq, o_neg, o_nob, o_eqI, o_eqS, o_neI, o_neS, eqo_int, ixS_tup, ixS_lst, ixS_dic, ixS_ref0, ixS_ref1, ixo_tup, ixo_lst, ixo_dicI, ixo_dicS, atI_0, atI_1, atI_2, atI_3, atI_4, atI_5, atI_6, atI_7, atI_8, pr_0, pr_1, pr_2, pr_3, po_dicI, po_dicS, app_eq, ext_eq, isL_eq, isD_eq, DisL_eq, o_lenL, o_lenT, o_lenD, o_lenS, o_toI, o_abs, o_strI, o_max2, o_min2, o_toT, o_toTT, o_toL, o_toLT, o_sloT, o_sloL, o_sloS, g_Nm, g_Tu, g_Cons, g_Nil, own_val, own_no, merge_new, dGet_cons, dGet_nil, dGet2_S, dGet2_I, o_sset, o_ssetI, o_toIb, fl_int, fl_bl, fl_str, fl_non, isNon_non, isNon_int, isNon_tup, o_inI, o_ninI, o_ninE, o_mkRng, isNon_bl, o_eqB, o_mulI, o_mulTup, o_mulLst, o_revT, o_isStrS, o_isStrT, o_isStrN, o_ltG, o_sortG, o_ssetL, o_ssetLt, o_lenSetI, o_tupRg, o_minGl, o_minGt, o_maxGl, o_maxGt, o_bestDl, o_bestDt, o_bestDln, o_bestDtn, o_lenSetT, o_sortT, List.getElem?_cons_zero, List.getElem?_cons_succ, List.set_cons_zero, List.set_cons_succ, List.length_cons, List.length_nil, List.map_cons, List.map_nil, List.cons_append, List.nil_append, List.replicate_succ, List.replicate_zero, if_true, if_false, decide_eq_true_eq, decide_eq_false_iff_not, Bool.false_eq_true, and_true, true_and, Bool.not_true, Bool.not_false, reduceIte, Option.bind_some, Option.map_some, Option.getD_some, Option.getD_none, Sum.inr.injEq, Sum.inl.injEq, Nat.reduceAdd, Nat.reduceSub, Nat.reduceLeDiff, Nat.reduceLT, Nat.reduceEqDiff, reduceCtorEq, Int.reduceLT, Int.reduceLE, Int.reduceEq, Int.reduceAdd, Int.reduceSub, Int.reduceMul, Int.reduceNeg, Int.cast_ofNat_Int, Int.natCast_zero, Int.reduceToNat, Int.reducePow, or_true, true_or, String.reduceEq, decide_true, decide_false, Bool.not_eq_true', Bool.not_eq_false', List.all_cons, List.all_nil, Bool.and_true, Bool.true_and, Bool.true_or, Bool.or_true, wipeS, startS, hdOf_cons])

theorem chosen_one : ∀ {ts rs : List Int} {js ks : List Nat}, Chosen rs ts js → Chosen rs ts ks → js = ks
  | [], _, [], [], _, _ => rfl
  | [], _, _ :: _, _, h, _ => h.elim
  | [], _, [], _ :: _, _, h => h.elim
  | _ :: _, _, [], _, h, _ => h.elim
  | _ :: _, _, _ :: _, [], _, h => h.elim
  | t :: ts, rs, j :: js, k :: ks, hj, hk => by
    have e : j = k := by
      have a := hj.2 k
      have b := hk.2 j
      have c := chosen_fit hj
      have d := chosen_fit hk
      by_cases g1 : j < k
      · exact absurd c (b g1 js)
      · by_cases g2 : k < j
        · exact absurd d (a g2 ks)
        · omega
    subst e
    obtain ⟨⟨r, h1, h2, h3⟩, _⟩ := hj
    obtain ⟨⟨r', k1, k2, k3⟩, _⟩ := hk
    rw [h1] at k1
    cases k1
    rw [chosen_one h3 k3]
theorem least_one {ts : List Int} {roll : Int} {c c' : Nat} (h1 : Room (List.replicate c roll) ts) (h2 : ∀ k, k < c → ¬ Room (List.replicate k roll) ts) (h3 : Room (List.replicate c' roll) ts) (h4 : ∀ k, k < c' → ¬ Room (List.replicate k roll) ts) : c = c' := by
  by_cases g1 : c < c'
  · exact absurd h1 (h4 c g1)
  · by_cases g2 : c' < c
    · exact absurd h3 (h2 c' g2)
    · omega
/-- what is asked of takes and a roll without a fault -/
theorem asked_good {ts rs : List Int} {roll : Int} {c : Nat} {js : List Nat} {S : List O} {P : D × List O → Prop} {E : EP'} (hl : ts.length ≤ 1000) (hr : rs.length ≤ 1000) (hb : ∀ r ∈ rs, r ≤ 1000) (hg : takeE ts roll = "")
    (h1 : Chosen (List.replicate c roll) ts js) (h2 : Room (List.replicate c roll) ts) (h3 : ∀ k, k < c → ¬ Room (List.replicate k roll) ts)
    (hy : P (.lst [.tup ((ordF roll ts).2.2.map D.int), rowD js, .bl (fitsB ts roll rs), if fitsB ts roll rs = true then .tup ((endsL ts roll rs (max0 (-1) rs + 1).toNat).map D.int) else .str "rolls"], S)) : Wp (F__law_asked [.tup (ts.map D.int), .int roll, .tup (rs.map D.int)] S) P E := by
  refine asked_w hl hr hb fun d0 d1 d2 d3 q0 q1 q2 q3 => ?_
  unfold AskQ at q0 q1 q2 q3
  rw [if_neg (fun k => k hg)] at q0 q1 q2 q3
  obtain ⟨c', js', e, k1, k2, k3⟩ := q1
  have := least_one h2 h3 k2 k3
  subst this
  rw [← chosen_one h1 k1] at e
  rw [show d0 = _ from q0, e, show d2 = _ from q2, show d3 = _ from q3]
  exact hy
theorem asked_bad {ts rs : List Int} {roll : Int} {S : List O} {P : D × List O → Prop} {E : EP'} (hl : ts.length ≤ 1000) (hr : rs.length ≤ 1000) (hb : ∀ r ∈ rs, r ≤ 1000) (hg : takeE ts roll ≠ "")
    (hy : P (.lst [.str (takeE ts roll), .str (takeE ts roll), .str (takeE ts roll), .str (takeE ts roll)], S)) : Wp (F__law_asked [.tup (ts.map D.int), .int roll, .tup (rs.map D.int)] S) P E := by
  refine asked_w hl hr hb fun d0 d1 d2 d3 q0 q1 q2 q3 => ?_
  unfold AskQ at q0 q1 q2 q3
  rw [if_pos hg] at q0 q1 q2 q3
  rw [q0, q1, q2, q3]
  exact hy

end Law

namespace Law
open PySem PySem.Spec PyProof.Rows L2 D2
local macro_rules | `(tactic| walk_at "ev") => `(tactic| simp (decide := true) only [kO_some, w_C, w_Var, w_VarW, kVar_val, kVarW_val, kVarW_lst, kVarW_dic, w_Flat, kFlat_eq, w_Bin, kBin_eq, kBin2_eq, w_Un, kUn_eq, w_Tup, kTup_eq, w_Lst, kLst_eq, w_Nil, w_Cons, kCons_eq, kCons2_eq, w_And, kAnd_eq, w_Or, kOr_eq, w_Tst, kTst_eq, w_Tru, kTru_bl, kTru_int, kTru_tup, kTru_lst, kTru_non, w_NotT, kNotT_eq, w_AndT, kAndT_eq, w_OrT, kOrT_eq, w_IsN, kIsN_eq, w_If, kIf_eq, w_Chain, kCh1_eq, kCh2_eq, kCh3_eq, w_Bi, kBi_eq, on1_eq, on2_eq, w_Meth, kMeth_eq, kMeth2_eq, w_Ix, kIx_eq, kIx2_eq, w_Get2, kGet1_eq, kGet2_eq, kGet3_eq, w_NoP, w_Part, kPart_eq, w_Sl, kSl1_eq, kSl2_eq, kSl3_eq, w_Call, kCall_eq, w_CallP, kCallP_eq, w_OfO, kOfO_eq, toD_lst, toD_dic, w_LstO, kLstO_eq, w_DicO, w_Rep, kRep_eq, kRep2_eq, w_Pn, w_Pc, kPc1_eq, kPc2_eq, kPc3_eq, w_Disp, kDisp_eq, kDisp2_eq, keyed_nil, keyed_S, keyed_I, w_Lc, kLc_eq, kLc2_eq, w_Il, kIl_eq, w_It, kIt_eq, w_Ir1, kIr1_eq, w_Ir2, kIr2_eq, w_Ie, kIe_eq, w_IeT, kIeT_eq, w_Yes, w_Seq, kSeq_nx, kSeq_bk, kSeq_ct, kSeq_rt, w_Nx, w_Bk, w_Ct, w_RetN, w_Ret, kRet_eq, w_Drop, kDrop_eq, w_IfS, kIfS_eq, w_Frz, w_Set, kSet_eq, w_SetO, kSetO_eq, w_Aft, kAft_eq, w_Asg, kAsg_eq, kAsg2_eq, w_For, kFor_eq, w_While, w_Put, kPut_eq, kPut2_own, kPut2_ref, kPutR_eq, w_Own, w_OwnE, w_OwnS, kOwn_eq, kOwnE_eq, kOwnS_eq, w_Fn, kFn_nx, kFn_rt, kLoop_nx, kLoop_ct, kLoop_bk, kLoop_rt, w_Ir3, kIr3_eq, w_Lrg, kLrg_eq, w_AppPop, kApp0_eq, w_Never, w_Irv, kIrv_eq, w_Star, kStar_tup, kStar_lst, kStar2_eq, w_CallX, kCallX_eq, w_Raise, kRaise_eq, w_Done, kDone_eq, w_Try, kTry_eq, w_msRetF, kFld_some, w_msRetC, w_msRetP, kFld2_some, w_ToL, kToL_tup, kToL_lst, w_Chain3, kD0_eq, kD1_eq, kD2_eq, kD3_eq, kD4_eq, w_Add, kAdd_eq, kAdd2_eq, w_msRet, w_xF, kFldE_some, w_xBin, w_Hd, w_TryN, kTryN_eq, kHd_some, kHd_only, w_IfT, kIfT_eq, w_Iz, kIz_tup, kIz_lst, w_xOwnE, w_xOne, o_addI, o_addS, o_addT, o_addL, o_sub, o_fdiv, o_mod, o_pow, o_shl, o_shr, o_and, o_or, o_mul, o_lt, o_le, o_gt, o_ge, lt_eq, le_eq, gt_eq, ge_eq, o_neg, o_nob, o_eqI, o_eqS, o_neI, o_neS, eqo_int, ixS_tup, ixS_lst, ixS_dic, ixS_ref0, ixS_ref1, ixo_tup, ixo_lst, ixo_dicI, ixo_dicS, atI_0, atI_1, atI_2, atI_3, atI_4, atI_5, atI_6, atI_7, atI_8, pr_0, pr_1, pr_2, pr_3, po_dicI, po_dicS, app_eq, ext_eq, isL_eq, isD_eq, DisL_eq, o_lenL, o_lenT, o_lenD, o_lenS, o_toI, o_abs, o_strI, o_max2, o_min2, o_toT, o_toTT, o_toL, o_toLT, o_sloT, o_sloL, o_sloS, g_Nm, g_Tu, g_Cons, g_Nil, own_val, own_no, merge_new, dGet_cons, dGet_nil, dGet2_S, dGet2_I, o_sset, o_ssetI, o_toIb, fl_int, fl_bl, fl_str, fl_non, isNon_non, isNon_int, isNon_tup, o_inI, o_ninI, o_ninE, o_mkRng, isNon_bl, o_eqB, o_mulI, o_mulTup, o_mulLst, o_revT, o_isStrS, o_isStrT, o_isStrN, o_ltG, o_sortG, o_ssetL, o_ssetLt, o_lenSetI, o_tupRg, o_minGl, o_minGt, o_maxGl, o_maxGt, o_bestDl, o_bestDt, o_bestDln, o_bestDtn, o_lenSetT, o_sortT, List.getElem?_cons_zero, List.getElem?_cons_succ, List.set_cons_zero, List.set_cons_succ, List.length_cons, List.length_nil, List.map_cons, List.map_nil, List.cons_append, List.nil_append, List.replicate_succ, List.replicate_zero, if_true, if_false, decide_eq_true_eq, decide_eq_false_iff_not, Bool.false_eq_true, and_true, true_and, Bool.not_true, Bool.not_false, reduceIte, Option.bind_some, Option.map_some, Option.getD_some, Option.getD_none, Sum.inr.injEq, Sum.inl.injEq, Nat.reduceAdd, Nat.reduceSub, Nat.reduceLeDiff, Nat.reduceLT, Nat.reduceEqDiff, reduceCtorEq, Int.reduceLT, Int.reduceLE, Int.reduceEq, Int.reduceAdd, Int.reduceSub, Int.reduceMul, Int.reduceNeg, Int.cast_ofNat_Int, Int.natCast_zero, Int.reduceToNat, Int.reducePow, or_true, true_or, String.reduceEq, decide_true, decide_false, Bool.not_eq_true', Bool.not_eq_false', List.all_cons, List.all_nil, Bool.and_true, Bool.true_and, Bool.true_or, Bool.or_true, wipeS, startS, hdOf_cons])
abbrev n_law : List Str := ["script", "d", "roll", "takes", "rolls", "ordered", "ways", "least", "kept", "fewest", "told", "fits", "ends", "wrong", "other", "code", "k", "row", "number"]
def m_law_b1 : MS :=
  (mSeq (mSet 11 (mCall F__law_fits (mCons (mVar 3) (mCons (mVar 2) (mCons (mVar 10) mNil)))))
  (mSeq (mSet 12 (mC (.str "rolls")))
  (mSeq (mIfS (mTru (mVar 11)) (mSet 12 (mBi (on1 D.toTup) (mCons (mOfO (oLc false (mIr1 (mCons (mIf (mTst (mBin D.gt (mBi (on1 D.len) (mCons (mVar 10) mNil)) (mC (.int 0)))) (mBin D.add (mBi (on1 D.maxG) (mCons (mVar 10) mNil)) (mC (.int 1))) (mC (.int 0))) mNil)) (gNm 18) mYes (mBin D.sub (mVar 2) (mBi (on1 (D.intsL fun ns => some (.int ns.sum))) (mCons (mOfO (oLc false (mIr1 (mCons (mBi (on1 D.len) (mCons (mVar 3) mNil)) mNil)) (gNm 16) (mTst (mBin D.eqo (mIx (mVar 10) (mVar 16)) (mVar 18))) (mIx (mVar 3) (mVar 16)) [16])) mNil))) [18])) mNil))) mNx)
  (mIfS (mTst (mBin D.neo (mCall F__law_asked (mCons (mVar 3) (mCons (mVar 2) (mCons (mVar 10) mNil)))) (mLst (mCons (mVar 5) (mCons (mVar 9) (mCons (mVar 11) (mCons (mVar 12) mNil))))))) (mRet (mC (.bl false))) mNx))))
def m_law_b2 : MS :=
  (mIfS (mTst (mBin D.neo (mCall F__law_asked (mCons (mVar 13) (mCons (mVar 14) (mCons (mBin D.mulT (mTup (mCons (mC (.int 0)) mNil)) (mBi (on1 D.len) (mCons (mVar 13) mNil))) mNil)))) (mBin D.mul (mLst (mCons (mVar 15) mNil)) (mC (.int 4))))) (mRet (mC (.bl false))) mNx)
def m_law : MS :=
  (mSeq (mSet 2 (mIx (mLst (mCons (mBin D.add (mC (.int 1)) (mCall F__law_take (mCons (mVar 1) (mCons (mC (.int 20)) mNil)))) (mCons (mC (.int 10)) (mCons (mC (.int 999)) (mCons (mC (.int 100)) mNil))))) (mCall F__law_take (mCons (mVar 1) (mCons (mC (.int 4)) mNil)))))
  (mSeq (mSet 3 (mBi (on1 D.toTup) (mCons (mOfO (oLc false (mIr1 (mCons (mCall F__law_take (mCons (mVar 1) (mCons (mC (.int 7)) mNil))) mNil)) (gNm 16) mYes (mIf (mTst (mBin D.gt (mCall F__law_take (mCons (mVar 1) (mCons (mC (.int 3)) mNil))) (mC (.int 0)))) (mBin D.add (mC (.int 1)) (mCall F__law_take (mCons (mVar 1) (mCons (mVar 2) mNil)))) (mBi (on2 D.max2) (mCons (mC (.int 1)) (mCons (mBin D.fdiv (mVar 2) (mBin D.add (mC (.int 2)) (mCall F__law_take (mCons (mVar 1) (mCons (mC (.int 3)) mNil))))) mNil)))) [16])) mNil)))
  (mSeq (mSet 4 (mBi (on1 D.toTup) (mCons (mOfO (oLc false (mIr1 (mCons (mBi (on1 D.len) (mCons (mVar 3) mNil)) mNil)) (gNm 16) mYes (mCall F__law_take (mCons (mVar 1) (mCons (mC (.int 4)) mNil))) [16])) mNil)))
  (mSeq (mSet 5 (mCall F__law_ordered (mCons (mVar 3) (mCons (mVar 2) mNil))))
  (mSeq (mAft 6 (mSetO 6 (oLc false (mIl (mCall F__law_all (mCons (mBi (on1 D.len) (mCons (mVar 3) mNil)) mNil))) (gNm 17) (mTru (mCall F__law_fits (mCons (mVar 3) (mCons (mVar 2) (mCons (mVar 17) mNil))))) (mVar 17) [17])))
  (mSeq (mSet 7 (mBi (on1 D.minG) (mCons (mOfO (oLc false (mIl (mVar 6)) (gNm 17) mYes (mCall F__law_used (mCons (mVar 17) mNil)) [17])) mNil)))
  (mSeq (mAft 8 (mSetO 8 (oLc false (mIl (mVar 6)) (gNm 17) (mTst (mBin D.eqo (mBi (on1 D.toLst) (mCons (mVar 17) mNil)) (mBi (on1 D.sortT) (mCons (mVar 17) mNil)))) (mCall F__law_used (mCons (mVar 17) mNil)) [17])))
  (mSeq (mIfS (mAndT (mTst (mBin D.gt (mBi (on1 D.len) (mCons (mVar 3) mNil)) (mC (.int 0)))) (mTst (mBin D.neo (mCall F__law_used (mCons (mVar 5) mNil)) (mBi (on1 D.minG) (mCons (mVar 8) mNil))))) (mRet (mC (.bl false))) mNx)
  (mSeq (mSet 9 (mIx (mOfO (oLc false (mIl (mVar 6)) (gNm 17) (mTst (mBin D.eqo (mCall F__law_used (mCons (mVar 17) mNil)) (mVar 7))) (mVar 17) [17])) (mC (.int 0))))
  (mSeq (mFor (mIl (mLst (mCons (mVar 4) (mCons (mVar 9) (mCons (mVar 5) (mCons (mBin D.add (mVar 9) (mTup (mCons (mC (.int 0)) mNil))) (mCons (mSl (mVar 9) (mPart (mC (.int 1))) mNoP) (mCons (mBi (on1 D.toTup) (mCons (mOfO (oLc false (mIt (mVar 9)) (gNm 18) mYes (mBin D.sub (mVar 18) (mC (.int 1))) [18])) mNil)) (mCons (mBi (on1 D.toTup) (mCons (mOfO (oLc false (mIt (mVar 9)) (gNm 18) mYes (mBin D.add (mVar 18) (mC (.int 1))) [18])) mNil)) mNil))))))))) (gNm 10) (m_law_b1))
  (mSeq (mFor (mIl (mLst (mCons (mTup (mCons (mBin D.mulT (mTup (mCons (mC (.int 1)) mNil)) (mC (.int 13))) (mCons (mC (.int 5)) (mCons (mC (.str "many")) mNil)))) (mCons (mTup (mCons (mTup (mCons (mC (.int 2)) mNil)) (mCons (mC (.int 0)) (mCons (mC (.str "roll")) mNil)))) (mCons (mTup (mCons (mTup (mCons (mC (.int 2)) mNil)) (mCons (mC (.int 1000)) (mCons (mC (.str "roll")) mNil)))) (mCons (mTup (mCons (mTup (mCons (mC (.int 0)) mNil)) (mCons (mC (.int 5)) (mCons (mC (.str "take")) mNil)))) (mCons (mTup (mCons (mTup (mCons (mC (.int 6)) mNil)) (mCons (mC (.int 5)) (mCons (mC (.str "take")) mNil)))) (mCons (mTup (mCons (mBin D.mulT (mTup (mCons (mC (.int 1)) mNil)) (mC (.int 13))) (mCons (mC (.int 0)) (mCons (mC (.str "many")) mNil)))) (mCons (mTup (mCons (mTup (mCons (mC (.int 3)) (mCons (mUn D.neg (mC (.int 1))) mNil))) (mCons (mC (.int 5)) (mCons (mC (.str "take")) mNil)))) mNil))))))))) (gTu 3 (gsCons (gNm 13) (gsCons (gNm 14) (gsCons (gNm 15) gsNil)))) (m_law_b2))
  (mRet (mC (.bl true))))))))))))))
theorem okqA_ints (n : Nat) (ns : List Int) : D.okqA (ns.map D.int) n = true := okqA_of fun d hd => by
  obtain ⟨x, _, rfl⟩ := List.mem_map.mp hd
  cases n <;> rfl
theorem okqA_iD (n : Nat) (r : List Nat) : D.okqA (r.map iD) n = true := okqA_of fun d hd => by
  obtain ⟨x, _, rfl⟩ := List.mem_map.mp hd
  cases n <;> rfl
theorem o_same {x : D} {S : List O} {P : D × List O → Prop} (h : x.okq 50 = true) (hy : P (.bl false, S)) : kO (D.neo x x) S P := by
  rw [o_neG, eqv_refl]
  exact ⟨h, h, hy⟩
theorem okq_4 {a : List Int} {b : List Nat} {t : Bool} {d : D} (h : d.okq 49 = true) : (D.lst [.tup (a.map D.int), rowD b, .bl t, d]).okq 50 = true := by
  show D.okqA [.tup (a.map D.int), rowD b, .bl t, d] 49 = true
  refine okqA_of fun x hx => ?_
  simp only [List.mem_cons, List.not_mem_nil, or_false] at hx
  rcases hx with rfl | rfl | rfl | rfl
  · exact okqA_ints 48 a
  · exact okqA_iD 48 b
  · rfl
  · exact h
theorem b1_w {a0 a1 a4 a6 a7 a8 a11 a12 a13 a14 a15 a16 a17 a18 : Sl} {ts rs : List Int} {roll : Int} {c : Nat} {js : List Nat} {S : List O} {P : Fl × List Sl × List O → Prop} {E : EP'} (hl : ts.length ≤ 100) (hr : rs.length ≤ 100) (hb : ∀ r ∈ rs, r ≤ 1000) (hg : takeE ts roll = "")
    (h1 : Chosen (List.replicate c roll) ts js) (h2 : Room (List.replicate c roll) ts) (h3 : ∀ k, k < c → ¬ Room (List.replicate k roll) ts)
    (o11 : isOwn (some a11) = false) (o12 : isOwn (some a12) = false) (o16 : isOwn (some a16) = false) (o18 : isOwn (some a18) = false)
    (hy : ∀ x11 x12 : D, P (.nx, [a0, a1, .val (.int roll), .val (.tup (ts.map D.int)), a4, .val (.tup ((ordF roll ts).2.2.map D.int)), a6, a7, a8, .val (rowD js), .val (.tup (rs.map D.int)), .val x11, .val x12, a13, a14, a15, a16, a17, a18], S)) :
    Wp (m_law_b1 [a0, a1, .val (.int roll), .val (.tup (ts.map D.int)), a4, .val (.tup ((ordF roll ts).2.2.map D.int)), a6, a7, a8, .val (rowD js), .val (.tup (rs.map D.int)), a11, a12, a13, a14, a15, a16, a17, a18] S) P E := by
  obtain ⟨_, hro, _⟩ := take_good hg
  unfold m_law_b1
  walk_at "ev"
  refine fits_w (by omega) (by omega) (by omega) hb ?_
  walk_at "ev"
  cases hB : fitsB ts roll rs with
  | false =>
    try walk_at "ev"
    refine asked_good (by omega) (by omega) hb hg h1 h2 h3 ?_
    rw [hB]
    walk_at "ev"
    refine o_same (okq_4 rfl) ?_
    walk_at "ev"
    exact hy _ _
  | true =>
    try walk_at "ev"
    have g1 : rs.length = ts.length := by
      unfold fitsB at hB
      rw [Bool.and_eq_true, Bool.and_eq_true, decide_eq_true_eq] at hB
      exact hB.1.1
    have h0r : ∀ r ∈ rs, 0 ≤ r := fun r hr => by
      unfold fitsB at hB
      rw [Bool.and_eq_true, Bool.and_eq_true, List.all_eq_true, decide_eq_true_eq] at hB
      exact of_decide_eq_true (hB.1.2 r hr)
    have hm := max0_le (b := 1000) hb (by omega)
    have hgm := max0_ge h0r
    have key : ∀ n : Nat, lcR (gNm 18) mYes (mBin D.sub (mVar 2) (mBi (on1 (D.intsL fun ns => some (D.int ns.sum))) (mCons (mOfO (oLc false (mIr1 (mCons (mBi (on1 D.len) (mCons (mVar 3) mNil)) mNil)) (gNm 16) (mTst (mBin D.eqo (mIx (mVar 10) (mVar 16)) (mVar 18))) (mIx (mVar 3) (mVar 16)) [16])) mNil)))
        [a0, a1, .val (.int roll), .val (.tup (ts.map D.int)), a4, .val (.tup ((ordF roll ts).2.2.map D.int)), a6, a7, a8, .val (rowD js), .val (.tup (rs.map D.int)), .val (.bl true), .val (.str "rolls"), a13, a14, a15, a16, a17, .no] (rngD 0 n) S = .ok ((endsL ts roll rs n).map D.int, S) := fun n => by
      rw [rng_ints]
      have e := lc_int (i := 18) (me := mBin D.sub (mVar 2) (mBi (on1 (D.intsL fun ns => some (D.int ns.sum))) (mCons (mOfO (oLc false (mIr1 (mCons (mBi (on1 D.len) (mCons (mVar 3) mNil)) mNil)) (gNm 16) (mTst (mBin D.eqo (mIx (mVar 10) (mVar 16)) (mVar 18))) (mIx (mVar 3) (mVar 16)) [16])) mNil)))
        (sg := [a0, a1, .val (.int roll), .val (.tup (ts.map D.int)), a4, .val (.tup ((ordF roll ts).2.2.map D.int)), a6, a7, a8, .val (rowD js), .val (.tup (rs.map D.int)), .val (.bl true), .val (.str "rolls"), a13, a14, a15, a16, a17, .no]) (S := S) (f := fun m => .int (roll - loadI ts rs m)) (ns := (List.range n).map fun (k : Nat) => (k : Int)) rfl fun m _ => wp_is (by
          simp only [List.set_cons_succ, List.set_cons_zero]
          walk_at "ev"
          rw [List.length_map]
          refine ⟨lim_small (by omega) (by omega), ?_⟩
          rw [Int.toNat_natCast, rng_nat]
          refine ⟨by rw [List.length_map, List.length_range]; omega, o16, ?_⟩
          have e := lc_pure (gg := gNm 16) (mt := mTst (mBin D.eqo (mIx (mVar 10) (mVar 16)) (mVar 18))) (me := mIx (mVar 3) (mVar 16)) (sg := [a0, a1, .val (.int roll), .val (.tup (ts.map D.int)), a4, .val (.tup ((ordF roll ts).2.2.map D.int)), a6, a7, a8, .val (rowD js), .val (.tup (rs.map D.int)), .val (.bl true), .val (.str "rolls"), a13, a14, a15, .no, a17, .val (.int m)]) (S := S)
            (en := fun k : Nat => D.int (k : Int)) (p := fun k => decide ((rs[k]?).getD 0 = m)) (f := fun k => D.int (tk ts k)) (xs := List.range ts.length) fun k hk => by
              have hk1 := List.mem_range.mp hk
              have hk2 : k < rs.length := by omega
              have at1 : atI (rs.map D.int) (k : Int) = some (.int rs[k]) := atI_nat (by rw [List.getElem?_map, List.getElem?_eq_getElem hk2]; rfl)
              have at2 : atI (ts.map D.int) (k : Int) = some (.int ts[k]) := atI_nat (by rw [List.getElem?_map, List.getElem?_eq_getElem hk1]; rfl)
              refine ⟨_, gNm_ok rfl, wp_is ?_, fun _ => wp_is ?_⟩
              · walk_at "ev"
                simp only [at1, kO_some]
                walk_at "ev"
                rw [List.getElem?_eq_getElem hk2]
                rfl
              · walk_at "ev"
                simp only [at2, kO_some]
                rw [tk_at (List.getElem?_eq_getElem hk1)]
          rw [wp_eq e]
          clear e
          walk_at "ev"
          have e2 : ∀ l : List Nat, l.map (fun k => D.int (tk ts k)) = (l.map fun k => tk ts k).map D.int := fun l => by rw [List.map_map]; rfl
          rw [e2, o_intsL (ints_map _), sum_at g1]
          walk_at "ev")
      rw [e]
      unfold endsL
      rw [List.map_map, List.map_map]
      rfl
    have fin : ∀ n : Nat, n = (max0 (-1) rs + 1).toNat → Wp (F__law_asked [.tup (ts.map D.int), .int roll, .tup (rs.map D.int)] S) (fun y => y = (.lst [.tup ((ordF roll ts).2.2.map D.int), rowD js, .bl true, .tup ((endsL ts roll rs n).map D.int)], S)) noE := fun n hn => by
      refine asked_good (by omega) (by omega) hb hg h1 h2 h3 ?_
      rw [hB, if_pos rfl, hn]
    rw [List.length_map]
    cases rs with
    | nil =>
      rw [if_neg (by simp)]
      refine ⟨o18, ?_⟩
      refine Eq.mpr (wp_eq (key 0)) ?_
      walk_at "ev"
      refine Eq.mpr (wp_eq (wp_is (fin 0 rfl))) ?_
      walk_at "ev"
      refine o_same (okq_4 (okqA_ints 48 _)) ?_
      walk_at "ev"
      exact hy _ _
    | cons r rs =>
      rw [if_pos (by rw [List.length_cons]; omega), o_maxT]
      walk_at "ev"
      have hm' : maxI r rs ≤ 1000 := hm
      have hg' : -1 ≤ maxI r rs := hgm
      refine ⟨lim_small (by omega) (by omega), by rw [rngD_len]; omega, o18, ?_⟩
      refine Eq.mpr (wp_eq (key (max0 (-1) (r :: rs) + 1).toNat)) ?_
      walk_at "ev"
      refine Eq.mpr (wp_eq (wp_is (fin _ rfl))) ?_
      walk_at "ev"
      refine o_same (okq_4 (okqA_ints 48 _)) ?_
      walk_at "ev"
      exact hy _ _

end Law

namespace Law
open PySem PySem.Spec PyProof.Rows L2 D2
local macro_rules | `(tactic| walk_at "ev") => `(tactic| simp (decide := true) only [kO_some, w_C, w_Var, w_VarW, kVar_val, kVarW_val, kVarW_lst, kVarW_dic, w_Flat, kFlat_eq, w_Bin, kBin_eq, kBin2_eq, w_Un, kUn_eq, w_Tup, kTup_eq, w_Lst, kLst_eq, w_Nil, w_Cons, kCons_eq, kCons2_eq, w_And, kAnd_eq, w_Or, kOr_eq, w_Tst, kTst_eq, w_Tru, kTru_bl, kTru_int, kTru_tup, kTru_lst, kTru_non, w_NotT, kNotT_eq, w_AndT, kAndT_eq, w_OrT, kOrT_eq, w_IsN, kIsN_eq, w_If, kIf_eq, w_Chain, kCh1_eq, kCh2_eq, kCh3_eq, w_Bi, kBi_eq, on1_eq, on2_eq, w_Meth, kMeth_eq, kMeth2_eq, w_Ix, kIx_eq, kIx2_eq, w_Get2, kGet1_eq, kGet2_eq, kGet3_eq, w_NoP, w_Part, kPart_eq, w_Sl, kSl1_eq, kSl2_eq, kSl3_eq, w_Call, kCall_eq, w_CallP, kCallP_eq, w_OfO, kOfO_eq, toD_lst, toD_dic, w_LstO, kLstO_eq, w_DicO, w_Rep, kRep_eq, kRep2_eq, w_Pn, w_Pc, kPc1_eq, kPc2_eq, kPc3_eq, w_Disp, kDisp_eq, kDisp2_eq, keyed_nil, keyed_S, keyed_I, w_Lc, kLc_eq, kLc2_eq, w_Il, kIl_eq, w_It, kIt_eq, w_Ir1, kIr1_eq, w_Ir2, kIr2_eq, w_Ie, kIe_eq, w_IeT, kIeT_eq, w_Yes, w_Seq, kSeq_nx, kSeq_bk, kSeq_ct, kSeq_rt, w_Nx, w_Bk, w_Ct, w_RetN, w_Ret, kRet_eq, w_Drop, kDrop_eq, w_IfS, kIfS_eq, w_Frz, w_Set, kSet_eq, w_SetO, kSetO_eq, w_Aft, kAft_eq, w_Asg, kAsg_eq, kAsg2_eq, w_For, kFor_eq, w_While, w_Put, kPut_eq, kPut2_own, kPut2_ref, kPutR_eq, w_Own, w_OwnE, w_OwnS, kOwn_eq, kOwnE_eq, kOwnS_eq, w_Fn, kFn_nx, kFn_rt, kLoop_nx, kLoop_ct, kLoop_bk, kLoop_rt, w_Ir3, kIr3_eq, w_Lrg, kLrg_eq, w_AppPop, kApp0_eq, w_Never, w_Irv, kIrv_eq, w_Star, kStar_tup, kStar_lst, kStar2_eq, w_CallX, kCallX_eq, w_Raise, kRaise_eq, w_Done, kDone_eq, w_Try, kTry_eq, w_msRetF, kFld_some, w_msRetC, w_msRetP, kFld2_some, w_ToL, kToL_tup, kToL_lst, w_Chain3, kD0_eq, kD1_eq, kD2_eq, kD3_eq, kD4_eq, w_Add, kAdd_eq, kAdd2_eq, w_msRet, w_xF, kFldE_some, w_xBin, w_Hd, w_TryN, kTryN_eq, kHd_some, kHd_only, w_IfT, kIfT_eq, w_Iz, kIz_tup, kIz_lst, w_xOwnE, w_xOne, o_addI, o_addS, o_addT, o_addL, o_sub, o_fdiv, o_mod, o_pow, o_shl, o_shr, o_and, o_or, o_mul, o_lt, o_le, o_gt, o_ge, lt_eq, le_eq, gt_eq, ge_eq, o_neg, o_nob, o_eqI, o_eqS, o_neI, o_neS, eqo_int, ixS_tup, ixS_lst, ixS_dic, ixS_ref0, ixS_ref1, ixo_tup, ixo_lst, ixo_dicI, ixo_dicS, atI_0, atI_1, atI_2, atI_3, atI_4, atI_5, atI_6, atI_7, atI_8, pr_0, pr_1, pr_2, pr_3, po_dicI, po_dicS, app_eq, ext_eq, isL_eq, isD_eq, DisL_eq, o_lenL, o_lenT, o_lenD, o_lenS, o_toI, o_abs, o_strI, o_max2, o_min2, o_toT, o_toTT, o_toL, o_toLT, o_sloT, o_sloL, o_sloS, g_Nm, g_Tu, g_Cons, g_Nil, own_val, own_no, merge_new, dGet_cons, dGet_nil, dGet2_S, dGet2_I, o_sset, o_ssetI, o_toIb, fl_int, fl_bl, fl_str, fl_non, isNon_non, isNon_int, isNon_tup, o_inI, o_ninI, o_ninE, o_mkRng, isNon_bl, o_eqB, o_mulI, o_mulTup, o_mulLst, o_revT, o_isStrS, o_isStrT, o_isStrN, o_ltG, o_sortG, o_ssetL, o_ssetLt, o_lenSetI, o_tupRg, o_minGl, o_minGt, o_maxGl, o_maxGt, o_bestDl, o_bestDt, o_bestDln, o_bestDtn, o_lenSetT, o_sortT, List.getElem?_cons_zero, List.getElem?_cons_succ, List.set_cons_zero, List.set_cons_succ, List.length_cons, List.length_nil, List.map_cons, List.map_nil, List.cons_append, List.nil_append, List.replicate_succ, List.replicate_zero, if_true, if_false, decide_eq_true_eq, decide_eq_false_iff_not, Bool.false_eq_true, and_true, true_and, Bool.not_true, Bool.not_false, reduceIte, Option.bind_some, Option.map_some, Option.getD_some, Option.getD_none, Sum.inr.injEq, Sum.inl.injEq, Nat.reduceAdd, Nat.reduceSub, Nat.reduceLeDiff, Nat.reduceLT, Nat.reduceEqDiff, reduceCtorEq, Int.reduceLT, Int.reduceLE, Int.reduceEq, Int.reduceAdd, Int.reduceSub, Int.reduceMul, Int.reduceNeg, Int.cast_ofNat_Int, Int.natCast_zero, Int.reduceToNat, Int.reducePow, or_true, true_or, String.reduceEq, decide_true, decide_false, Bool.not_eq_true', Bool.not_eq_false', List.all_cons, List.all_nil, Bool.and_true, Bool.true_and, Bool.true_or, Bool.or_true, wipeS, startS, hdOf_cons])

theorem flat_same {x : D} : ∀ {n : Nat}, (List.replicate n [x]).flatten = List.replicate n x
  | 0 => rfl
  | n + 1 => by rw [List.replicate_succ, List.flatten_cons, flat_same, List.replicate_succ]; rfl
theorem b2_w {a0 a1 a2 a3 a4 a5 a6 a7 a8 a9 a10 a11 a12 a16 a17 a18 : Sl} {ts : List Int} {roll : Int} {c : Str} {S : List O} {P : Fl × List Sl × List O → Prop} {E : EP'} (hl : ts.length ≤ 100) (hg : takeE ts roll = c) (hc : c ≠ "")
    (hy : P (.nx, [a0, a1, a2, a3, a4, a5, a6, a7, a8, a9, a10, a11, a12, .val (.tup (ts.map D.int)), .val (.int roll), .val (.str c), a16, a17, a18], S)) :
    Wp (m_law_b2 [a0, a1, a2, a3, a4, a5, a6, a7, a8, a9, a10, a11, a12, .val (.tup (ts.map D.int)), .val (.int roll), .val (.str c), a16, a17, a18] S) P E := by
  subst hg
  unfold m_law_b2
  walk_at "ev"
  rw [List.length_map, Int.toNat_natCast, flat_same, show List.replicate ts.length (D.int 0) = (List.replicate ts.length (0 : Int)).map D.int by rw [List.map_replicate]]
  refine ⟨⟨by omega, by omega, by omega⟩, asked_bad (by omega) (by rw [List.length_replicate]; omega) (fun r hr => by rw [List.mem_replicate] at hr; omega) hc ?_⟩
  walk_at "ev"
  refine Eq.mpr (o_mulLst (xs := [D.str (takeE ts roll)]) (k := 4)) ⟨rfl, ?_⟩
  show kBin2 D.neo _ _ (.lst [.str (takeE ts roll), .str (takeE ts roll), .str (takeE ts roll), .str (takeE ts roll)], S)
  walk_at "ev"
  refine o_same rfl ?_
  walk_at "ev"
  exact hy

end Law

namespace Law
open PySem PySem.Spec PyProof.Rows L2 D2
local macro_rules | `(tactic| walk_at "ev") => `(tactic| simp (decide := true) only [kO_some, w_C, w_Var, w_VarW, kVar_val, kVarW_val, kVarW_lst, kVarW_dic, w_Flat, kFlat_eq, w_Bin, kBin_eq, kBin2_eq, w_Un, kUn_eq, w_Tup, kTup_eq, w_Lst, kLst_eq, w_Nil, w_Cons, kCons_eq, kCons2_eq, w_And, kAnd_eq, w_Or, kOr_eq, w_Tst, kTst_eq, w_Tru, kTru_bl, kTru_int, kTru_tup, kTru_lst, kTru_non, w_NotT, kNotT_eq, w_AndT, kAndT_eq, w_OrT, kOrT_eq, w_IsN, kIsN_eq, w_If, kIf_eq, w_Chain, kCh1_eq, kCh2_eq, kCh3_eq, w_Bi, kBi_eq, on1_eq, on2_eq, w_Meth, kMeth_eq, kMeth2_eq, w_Ix, kIx_eq, kIx2_eq, w_Get2, kGet1_eq, kGet2_eq, kGet3_eq, w_NoP, w_Part, kPart_eq, w_Sl, kSl1_eq, kSl2_eq, kSl3_eq, w_Call, kCall_eq, w_CallP, kCallP_eq, w_OfO, kOfO_eq, toD_lst, toD_dic, w_LstO, kLstO_eq, w_DicO, w_Rep, kRep_eq, kRep2_eq, w_Pn, w_Pc, kPc1_eq, kPc2_eq, kPc3_eq, w_Disp, kDisp_eq, kDisp2_eq, keyed_nil, keyed_S, keyed_I, w_Lc, kLc_eq, kLc2_eq, w_Il, kIl_eq, w_It, kIt_eq, w_Ir1, kIr1_eq, w_Ir2, kIr2_eq, w_Ie, kIe_eq, w_IeT, kIeT_eq, w_Yes, w_Seq, kSeq_nx, kSeq_bk, kSeq_ct, kSeq_rt, w_Nx, w_Bk, w_Ct, w_RetN, w_Ret, kRet_eq, w_Drop, kDrop_eq, w_IfS, kIfS_eq, w_Frz, w_Set, kSet_eq, w_SetO, kSetO_eq, w_Aft, kAft_eq, w_Asg, kAsg_eq, kAsg2_eq, w_For, kFor_eq, w_While, w_Put, kPut_eq, kPut2_own, kPut2_ref, kPutR_eq, w_Own, w_OwnE, w_OwnS, kOwn_eq, kOwnE_eq, kOwnS_eq, w_Fn, kFn_nx, kFn_rt, kLoop_nx, kLoop_ct, kLoop_bk, kLoop_rt, w_Ir3, kIr3_eq, w_Lrg, kLrg_eq, w_AppPop, kApp0_eq, w_Never, w_Irv, kIrv_eq, w_Star, kStar_tup, kStar_lst, kStar2_eq, w_CallX, kCallX_eq, w_Raise, kRaise_eq, w_Done, kDone_eq, w_Try, kTry_eq, w_msRetF, kFld_some, w_msRetC, w_msRetP, kFld2_some, w_ToL, kToL_tup, kToL_lst, w_Chain3, kD0_eq, kD1_eq, kD2_eq, kD3_eq, kD4_eq, w_Add, kAdd_eq, kAdd2_eq, w_msRet, w_xF, kFldE_some, w_xBin, w_Hd, w_TryN, kTryN_eq, kHd_some, kHd_only, w_IfT, kIfT_eq, w_Iz, kIz_tup, kIz_lst, w_xOwnE, w_xOne, o_addI, o_addS, o_addT, o_addL, o_sub, o_fdiv, o_mod, o_pow, o_shl, o_shr, o_and, o_or, o_mul, o_lt, o_le, o_gt, o_ge, lt_eq, le_eq, gt_eq, ge_eq, o_neg, o_nob, o_eqI, o_eqS, o_neI, o_neS, eqo_int, ixS_tup, ixS_lst, ixS_dic, ixS_ref0, ixS_ref1, ixo_tup, ixo_lst, ixo_dicI, ixo_dicS, atI_0, atI_1, atI_2, atI_3, atI_4, atI_5, atI_6, atI_7, atI_8, pr_0, pr_1, pr_2, pr_3, po_dicI, po_dicS, app_eq, ext_eq, isL_eq, isD_eq, DisL_eq, o_lenL, o_lenT, o_lenD, o_lenS, o_toI, o_abs, o_strI, o_max2, o_min2, o_toT, o_toTT, o_toL, o_toLT, o_sloT, o_sloL, o_sloS, g_Nm, g_Tu, g_Cons, g_Nil, own_val, own_no, merge_new, dGet_cons, dGet_nil, dGet2_S, dGet2_I, o_sset, o_ssetI, o_toIb, fl_int, fl_bl, fl_str, fl_non, isNon_non, isNon_int, isNon_tup, o_inI, o_ninI, o_ninE, o_mkRng, isNon_bl, o_eqB, o_mulI, o_mulTup, o_mulLst, o_revT, o_isStrS, o_isStrT, o_isStrN, o_ltG, o_sortG, o_ssetL, o_ssetLt, o_lenSetI, o_tupRg, o_minGl, o_minGt, o_maxGl, o_maxGt, o_bestDl, o_bestDt, o_bestDln, o_bestDtn, o_lenSetT, o_sortT, List.getElem?_cons_zero, List.getElem?_cons_succ, List.set_cons_zero, List.set_cons_succ, List.length_cons, List.length_nil, List.map_cons, List.map_nil, List.cons_append, List.nil_append, List.replicate_succ, List.replicate_zero, if_true, if_false, decide_eq_true_eq, decide_eq_false_iff_not, Bool.false_eq_true, and_true, true_and, Bool.not_true, Bool.not_false, reduceIte, Option.bind_some, Option.map_some, Option.getD_some, Option.getD_none, Sum.inr.injEq, Sum.inl.injEq, Nat.reduceAdd, Nat.reduceSub, Nat.reduceLeDiff, Nat.reduceLT, Nat.reduceEqDiff, reduceCtorEq, Int.reduceLT, Int.reduceLE, Int.reduceEq, Int.reduceAdd, Int.reduceSub, Int.reduceMul, Int.reduceNeg, Int.cast_ofNat_Int, Int.natCast_zero, Int.reduceToNat, Int.reducePow, or_true, true_or, String.reduceEq, decide_true, decide_false, Bool.not_eq_true', Bool.not_eq_false', List.all_cons, List.all_nil, Bool.and_true, Bool.true_and, Bool.true_or, Bool.or_true, wipeS, startS, hdOf_cons])

/-! ### the wrong items -/
theorem wrongs_w {a0 a1 a2 a3 a4 a5 a6 a7 a8 a9 a10 a11 a12 a13 a14 a15 a16 a17 a18 : Sl} {S : List O} {P : Fl × List Sl × List O → Prop} {E : EP'} (o13 : isOwn (some a13) = false) (o14 : isOwn (some a14) = false) (o15 : isOwn (some a15) = false)
    (hy : ∀ sg, P (.nx, sg, S)) :
    Wp (loopM (gTu 3 (gsCons (gNm 13) (gsCons (gNm 14) (gsCons (gNm 15) gsNil)))) m_law_b2 ([((List.replicate 13 (1 : Int)), (5 : Int), ("many" : Str)), ([2], 0, "roll"), ([2], 1000, "roll"), ([0], 5, "take"), ([6], 5, "take"), (List.replicate 13 1, 0, "many"), ([3, -1], 5, "take")].map fun x => D.tup [.tup (x.1.map D.int), .int x.2.1, .str x.2.2]) [a0, a1, a2, a3, a4, a5, a6, a7, a8, a9, a10, a11, a12, a13, a14, a15, a16, a17, a18] S) P E := by
  refine Wp.loop (fun i sg S' => ∃ (x13 x14 x15 : Sl), sg = [a0, a1, a2, a3, a4, a5, a6, a7, a8, a9, a10, a11, a12, x13, x14, x15, a16, a17, a18] ∧ S' = S ∧ isOwn (some x13) = false ∧ isOwn (some x14) = false ∧ isOwn (some x15) = false) ⟨a13, a14, a15, rfl, rfl, o13, o14, o15⟩ ?_ ?_
  · rintro i d sg S' hd ⟨x13, x14, x15, rfl, rfl, h13, h14, h15⟩
    have hin := List.mem_of_getElem? hd
    obtain ⟨⟨ts, roll, c⟩, hx, rfl⟩ := List.mem_map.mp hin
    have ok : ts.length ≤ 100 ∧ takeE ts roll = c ∧ c ≠ "" := by
      simp only [List.mem_cons, List.not_mem_nil, or_false, Prod.mk.injEq] at hx
      rcases hx with ⟨rfl, rfl, rfl⟩ | ⟨rfl, rfl, rfl⟩ | ⟨rfl, rfl, rfl⟩ | ⟨rfl, rfl, rfl⟩ | ⟨rfl, rfl, rfl⟩ | ⟨rfl, rfl, rfl⟩ | ⟨rfl, rfl, rfl⟩ <;> exact ⟨by decide, by decide, by decide⟩
    refine ⟨[a0, a1, a2, a3, a4, a5, a6, a7, a8, a9, a10, a11, a12, .val (.tup (ts.map D.int)), .val (.int roll), .val (.str c), a16, a17, a18], ?_, b2_w ok.1 ok.2.1 ok.2.2 ⟨_, _, _, rfl, rfl, rfl, rfl, rfl⟩⟩
    simp only [g_Tu, g_Cons, g_Nil]
    rw [if_pos (by rfl)]
    rw [gNm_ok (i := 13) h13]
    simp only [Option.bind_some]
    rw [gNm_ok (i := 14) h14]
    simp only [Option.bind_some]
    rw [gNm_ok (i := 15) h15]
    rfl
  · rintro sg S' ⟨x13, x14, x15, rfl, rfl, _⟩
    exact hy _

end Law

namespace Law
open PySem PySem.Spec PyProof.Rows L2 D2
local macro_rules | `(tactic| walk_at "ev") => `(tactic| simp (decide := true) only [kO_some, w_C, w_Var, w_VarW, kVar_val, kVarW_val, kVarW_lst, kVarW_dic, w_Flat, kFlat_eq, w_Bin, kBin_eq, kBin2_eq, w_Un, kUn_eq, w_Tup, kTup_eq, w_Lst, kLst_eq, w_Nil, w_Cons, kCons_eq, kCons2_eq, w_And, kAnd_eq, w_Or, kOr_eq, w_Tst, kTst_eq, w_Tru, kTru_bl, kTru_int, kTru_tup, kTru_lst, kTru_non, w_NotT, kNotT_eq, w_AndT, kAndT_eq, w_OrT, kOrT_eq, w_IsN, kIsN_eq, w_If, kIf_eq, w_Chain, kCh1_eq, kCh2_eq, kCh3_eq, w_Bi, kBi_eq, on1_eq, on2_eq, w_Meth, kMeth_eq, kMeth2_eq, w_Ix, kIx_eq, kIx2_eq, w_Get2, kGet1_eq, kGet2_eq, kGet3_eq, w_NoP, w_Part, kPart_eq, w_Sl, kSl1_eq, kSl2_eq, kSl3_eq, w_Call, kCall_eq, w_CallP, kCallP_eq, w_OfO, kOfO_eq, toD_lst, toD_dic, w_LstO, kLstO_eq, w_DicO, w_Rep, kRep_eq, kRep2_eq, w_Pn, w_Pc, kPc1_eq, kPc2_eq, kPc3_eq, w_Disp, kDisp_eq, kDisp2_eq, keyed_nil, keyed_S, keyed_I, w_Lc, kLc_eq, kLc2_eq, w_Il, kIl_eq, w_It, kIt_eq, w_Ir1, kIr1_eq, w_Ir2, kIr2_eq, w_Ie, kIe_eq, w_IeT, kIeT_eq, w_Yes, w_Seq, kSeq_nx, kSeq_bk, kSeq_ct, kSeq_rt, w_Nx, w_Bk, w_Ct, w_RetN, w_Ret, kRet_eq, w_Drop, kDrop_eq, w_IfS, kIfS_eq, w_Frz, w_Set, kSet_eq, w_SetO, kSetO_eq, w_Aft, kAft_eq, w_Asg, kAsg_eq, kAsg2_eq, w_For, kFor_eq, w_While, w_Put, kPut_eq, kPut2_own, kPut2_ref, kPutR_eq, w_Own, w_OwnE, w_OwnS, kOwn_eq, kOwnE_eq, kOwnS_eq, w_Fn, kFn_nx, kFn_rt, kLoop_nx, kLoop_ct, kLoop_bk, kLoop_rt, w_Ir3, kIr3_eq, w_Lrg, kLrg_eq, w_AppPop, kApp0_eq, w_Never, w_Irv, kIrv_eq, w_Star, kStar_tup, kStar_lst, kStar2_eq, w_CallX, kCallX_eq, w_Raise, kRaise_eq, w_Done, kDone_eq, w_Try, kTry_eq, w_msRetF, kFld_some, w_msRetC, w_msRetP, kFld2_some, w_ToL, kToL_tup, kToL_lst, w_Chain3, kD0_eq, kD1_eq, kD2_eq, kD3_eq, kD4_eq, w_Add, kAdd_eq, kAdd2_eq, w_msRet, w_xF, kFldE_some, w_xBin, w_Hd, w_TryN, kTryN_eq, kHd_some, kHd_only, w_IfT, kIfT_eq, w_Iz, kIz_tup, kIz_lst, w_xOwnE, w_xOne, o_addI, o_addS, o_addT, o_addL, o_sub, o_fdiv, o_mod, o_pow, o_shl, o_shr, o_and, o_or, o_mul, o_lt, o_le, o_gt, o_ge, lt_eq, le_eq, gt_eq, ge_eq, o_neg, o_nob, o_eqI, o_eqS, o_neI, o_neS, eqo_int, ixS_tup, ixS_lst, ixS_dic, ixS_ref0, ixS_ref1, ixo_tup, ixo_lst, ixo_dicI, ixo_dicS, atI_0, atI_1, atI_2, atI_3, atI_4, atI_5, atI_6, atI_7, atI_8, pr_0, pr_1, pr_2, pr_3, po_dicI, po_dicS, app_eq, ext_eq, isL_eq, isD_eq, DisL_eq, o_lenL, o_lenT, o_lenD, o_lenS, o_toI, o_abs, o_strI, o_max2, o_min2, o_toT, o_toTT, o_toL, o_toLT, o_sloT, o_sloL, o_sloS, g_Nm, g_Tu, g_Cons, g_Nil, own_val, own_no, merge_new, dGet_cons, dGet_nil, dGet2_S, dGet2_I, o_sset, o_ssetI, o_toIb, fl_int, fl_bl, fl_str, fl_non, isNon_non, isNon_int, isNon_tup, o_inI, o_ninI, o_ninE, o_mkRng, isNon_bl, o_eqB, o_mulI, o_mulTup, o_mulLst, o_revT, o_isStrS, o_isStrT, o_isStrN, o_ltG, o_sortG, o_ssetL, o_ssetLt, o_lenSetI, o_tupRg, o_minGl, o_minGt, o_maxGl, o_maxGt, o_bestDl, o_bestDt, o_bestDln, o_bestDtn, o_lenSetT, o_sortT, List.getElem?_cons_zero, List.getElem?_cons_succ, List.set_cons_zero, List.set_cons_succ, List.length_cons, List.length_nil, List.map_cons, List.map_nil, List.cons_append, List.nil_append, List.replicate_succ, List.replicate_zero, if_true, if_false, decide_eq_true_eq, decide_eq_false_iff_not, Bool.false_eq_true, and_true, true_and, Bool.not_true, Bool.not_false, reduceIte, Option.bind_some, Option.map_some, Option.getD_some, Option.getD_none, Sum.inr.injEq, Sum.inl.injEq, Nat.reduceAdd, Nat.reduceSub, Nat.reduceLeDiff, Nat.reduceLT, Nat.reduceEqDiff, reduceCtorEq, Int.reduceLT, Int.reduceLE, Int.reduceEq, Int.reduceAdd, Int.reduceSub, Int.reduceMul, Int.reduceNeg, Int.cast_ofNat_Int, Int.natCast_zero, Int.reduceToNat, Int.reducePow, or_true, true_or, String.reduceEq, decide_true, decide_false, Bool.not_eq_true', Bool.not_eq_false', List.all_cons, List.all_nil, Bool.and_true, Bool.true_and, Bool.true_or, Bool.or_true, wipeS, startS, hdOf_cons])

/-! ### the told rows -/
theorem tolds_w {a0 a1 a4 a6 a7 a8 a10 a11 a12 a13 a14 a15 a16 a17 a18 : Sl} {ts : List Int} {roll : Int} {c : Nat} {js : List Nat} {tolds : List (List Int)} {S : List O} {P : Fl × List Sl × List O → Prop} {E : EP'} (hl : ts.length ≤ 100) (hr : ∀ rs ∈ tolds, rs.length ≤ 100 ∧ ∀ r ∈ rs, r ≤ 1000) (hg : takeE ts roll = "")
    (h1 : Chosen (List.replicate c roll) ts js) (h2 : Room (List.replicate c roll) ts) (h3 : ∀ k, k < c → ¬ Room (List.replicate k roll) ts)
    (o10 : isOwn (some a10) = false) (o11 : isOwn (some a11) = false) (o12 : isOwn (some a12) = false) (o16 : isOwn (some a16) = false) (o18 : isOwn (some a18) = false)
    (hy : ∀ x10 x11 x12 : Sl, P (.nx, [a0, a1, .val (.int roll), .val (.tup (ts.map D.int)), a4, .val (.tup ((ordF roll ts).2.2.map D.int)), a6, a7, a8, .val (rowD js), x10, x11, x12, a13, a14, a15, a16, a17, a18], S)) :
    Wp (loopM (gNm 10) m_law_b1 (tolds.map fun rs => D.tup (rs.map D.int)) [a0, a1, .val (.int roll), .val (.tup (ts.map D.int)), a4, .val (.tup ((ordF roll ts).2.2.map D.int)), a6, a7, a8, .val (rowD js), a10, a11, a12, a13, a14, a15, a16, a17, a18] S) P E := by
  refine Wp.loop (fun i sg S' => ∃ (x10 x11 x12 : Sl), sg = [a0, a1, .val (.int roll), .val (.tup (ts.map D.int)), a4, .val (.tup ((ordF roll ts).2.2.map D.int)), a6, a7, a8, .val (rowD js), x10, x11, x12, a13, a14, a15, a16, a17, a18] ∧ S' = S ∧ isOwn (some x10) = false ∧ isOwn (some x11) = false ∧ isOwn (some x12) = false) ⟨a10, a11, a12, rfl, rfl, o10, o11, o12⟩ ?_ ?_
  · rintro i d sg S' hd ⟨x10, x11, x12, rfl, rfl, h10, h11, h12⟩
    obtain ⟨rs, hx, rfl⟩ := List.mem_map.mp (List.mem_of_getElem? hd)
    refine ⟨_, gNm_ok h10, ?_⟩
    simp only [List.set_cons_succ, List.set_cons_zero]
    exact b1_w hl (hr rs hx).1 (hr rs hx).2 hg h1 h2 h3 h11 h12 o16 o18 fun x11 x12 => ⟨_, _, _, rfl, rfl, rfl, rfl, rfl⟩
  · rintro sg S' ⟨x10, x11, x12, rfl, rfl, _⟩
    exact hy _ _ _

end Law

namespace Law
open PySem PySem.Spec PyProof.Rows L2 D2
local macro_rules | `(tactic| walk_at "ev") => `(tactic| simp (decide := true) only [kO_some, w_C, w_Var, w_VarW, kVar_val, kVarW_val, kVarW_lst, kVarW_dic, w_Flat, kFlat_eq, w_Bin, kBin_eq, kBin2_eq, w_Un, kUn_eq, w_Tup, kTup_eq, w_Lst, kLst_eq, w_Nil, w_Cons, kCons_eq, kCons2_eq, w_And, kAnd_eq, w_Or, kOr_eq, w_Tst, kTst_eq, w_Tru, kTru_bl, kTru_int, kTru_tup, kTru_lst, kTru_non, w_NotT, kNotT_eq, w_AndT, kAndT_eq, w_OrT, kOrT_eq, w_IsN, kIsN_eq, w_If, kIf_eq, w_Chain, kCh1_eq, kCh2_eq, kCh3_eq, w_Bi, kBi_eq, on1_eq, on2_eq, w_Meth, kMeth_eq, kMeth2_eq, w_Ix, kIx_eq, kIx2_eq, w_Get2, kGet1_eq, kGet2_eq, kGet3_eq, w_NoP, w_Part, kPart_eq, w_Sl, kSl1_eq, kSl2_eq, kSl3_eq, w_Call, kCall_eq, w_CallP, kCallP_eq, w_OfO, kOfO_eq, toD_lst, toD_dic, w_LstO, kLstO_eq, w_DicO, w_Rep, kRep_eq, kRep2_eq, w_Pn, w_Pc, kPc1_eq, kPc2_eq, kPc3_eq, w_Disp, kDisp_eq, kDisp2_eq, keyed_nil, keyed_S, keyed_I, w_Lc, kLc_eq, kLc2_eq, w_Il, kIl_eq, w_It, kIt_eq, w_Ir1, kIr1_eq, w_Ir2, kIr2_eq, w_Ie, kIe_eq, w_IeT, kIeT_eq, w_Yes, w_Seq, kSeq_nx, kSeq_bk, kSeq_ct, kSeq_rt, w_Nx, w_Bk, w_Ct, w_RetN, w_Ret, kRet_eq, w_Drop, kDrop_eq, w_IfS, kIfS_eq, w_Frz, w_Set, kSet_eq, w_SetO, kSetO_eq, w_Aft, kAft_eq, w_Asg, kAsg_eq, kAsg2_eq, w_For, kFor_eq, w_While, w_Put, kPut_eq, kPut2_own, kPut2_ref, kPutR_eq, w_Own, w_OwnE, w_OwnS, kOwn_eq, kOwnE_eq, kOwnS_eq, w_Fn, kFn_nx, kFn_rt, kLoop_nx, kLoop_ct, kLoop_bk, kLoop_rt, w_Ir3, kIr3_eq, w_Lrg, kLrg_eq, w_AppPop, kApp0_eq, w_Never, w_Irv, kIrv_eq, w_Star, kStar_tup, kStar_lst, kStar2_eq, w_CallX, kCallX_eq, w_Raise, kRaise_eq, w_Done, kDone_eq, w_Try, kTry_eq, w_msRetF, kFld_some, w_msRetC, w_msRetP, kFld2_some, w_ToL, kToL_tup, kToL_lst, w_Chain3, kD0_eq, kD1_eq, kD2_eq, kD3_eq, kD4_eq, w_Add, kAdd_eq, kAdd2_eq, w_msRet, w_xF, kFldE_some, w_xBin, w_Hd, w_TryN, kTryN_eq, kHd_some, kHd_only, w_IfT, kIfT_eq, w_Iz, kIz_tup, kIz_lst, w_xOwnE, w_xOne, o_addI, o_addS, o_addT, o_addL, o_sub, o_fdiv, o_mod, o_pow, o_shl, o_shr, o_and, o_or, o_mul, o_lt, o_le, o_gt, o_ge, lt_eq, le_eq, gt_eq, ge_eq, o_neg, o_nob, o_eqI, o_eqS, o_neI, o_neS, eqo_int, ixS_tup, ixS_lst, ixS_dic, ixS_ref0, ixS_ref1, ixo_tup, ixo_lst, ixo_dicI, ixo_dicS, atI_0, atI_1, atI_2, atI_3, atI_4, atI_5, atI_6, atI_7, atI_8, pr_0, pr_1, pr_2, pr_3, po_dicI, po_dicS, app_eq, ext_eq, isL_eq, isD_eq, DisL_eq, o_lenL, o_lenT, o_lenD, o_lenS, o_toI, o_abs, o_strI, o_max2, o_min2, o_toT, o_toTT, o_toL, o_toLT, o_sloT, o_sloL, o_sloS, g_Nm, g_Tu, g_Cons, g_Nil, own_val, own_no, merge_new, dGet_cons, dGet_nil, dGet2_S, dGet2_I, o_sset, o_ssetI, o_toIb, fl_int, fl_bl, fl_str, fl_non, isNon_non, isNon_int, isNon_tup, o_inI, o_ninI, o_ninE, o_mkRng, isNon_bl, o_eqB, o_mulI, o_mulTup, o_mulLst, o_revT, o_isStrS, o_isStrT, o_isStrN, o_ltG, o_sortG, o_ssetL, o_ssetLt, o_lenSetI, o_tupRg, o_minGl, o_minGt, o_maxGl, o_maxGt, o_bestDl, o_bestDt, o_bestDln, o_bestDtn, o_lenSetT, o_sortT, List.getElem?_cons_zero, List.getElem?_cons_succ, List.set_cons_zero, List.set_cons_succ, List.length_cons, List.length_nil, List.map_cons, List.map_nil, List.cons_append, List.nil_append, List.replicate_succ, List.replicate_zero, if_true, if_false, decide_eq_true_eq, decide_eq_false_iff_not, Bool.false_eq_true, and_true, true_and, Bool.not_true, Bool.not_false, reduceIte, Option.bind_some, Option.map_some, Option.getD_some, Option.getD_none, Sum.inr.injEq, Sum.inl.injEq, Nat.reduceAdd, Nat.reduceSub, Nat.reduceLeDiff, Nat.reduceLT, Nat.reduceEqDiff, reduceCtorEq, Int.reduceLT, Int.reduceLE, Int.reduceEq, Int.reduceAdd, Int.reduceSub, Int.reduceMul, Int.reduceNeg, Int.cast_ofNat_Int, Int.natCast_zero, Int.reduceToNat, Int.reducePow, or_true, true_or, String.reduceEq, decide_true, decide_false, Bool.not_eq_true', Bool.not_eq_false', List.all_cons, List.all_nil, Bool.and_true, Bool.true_and, Bool.true_or, Bool.or_true, wipeS, startS, hdOf_cons])

/-! ### the ways -/
theorem rowD_eq (s : List Nat) : rowD s = .tup ((s.map nI).map D.int) := by
  show D.tup _ = D.tup _
  rw [List.map_map]
  rfl
theorem ways_lc {a0 a1 a4 a5 a6 a7 a8 a9 a10 a11 a12 a13 a14 a15 a16 a17 a18 : Sl} {ts : List Int} {roll : Int} {S : List O} (hl : ts.length ≤ 6) (h0 : 0 ≤ roll) (o17 : isOwn (some a17) = false) :
    lcR (gNm 17) (mTru (mCall F__law_fits (mCons (mVar 3) (mCons (mVar 2) (mCons (mVar 17) mNil))))) (mVar 17) [a0, a1, .val (.int roll), .val (.tup (ts.map D.int)), a4, a5, a6, a7, a8, a9, a10, a11, a12, a13, a14, a15, a16, a17, a18] ((rowsN ts.length).map rowD) S = .ok ((waysN ts roll).map rowD, S) :=
  lc_pure (en := rowD) (p := fun s => fitsB ts roll (s.map nI)) (f := rowD) fun s hs => by
    have hln := rows_len hs
    have hcn := rows_cnt hs
    refine ⟨_, gNm_ok o17, wp_is ?_, fun _ => rfl⟩
    simp only [List.set_cons_succ, List.set_cons_zero, rowD_eq]
    walk_at "ev"
    refine fits_w (by omega) (by rw [List.length_map]; omega) h0 (fun r hr => ?_) ?_
    · obtain ⟨a, ha, rfl⟩ := List.mem_map.mp hr
      have := cnt_lt ha
      show (a : Int) ≤ 1000
      omega
    · walk_at "ev"

end Law

namespace Law
open PySem PySem.Spec PyProof.Rows L2 D2
local macro_rules | `(tactic| walk_at "ev") => `(tactic| simp (decide := true) only [kO_some, w_C, w_Var, w_VarW, kVar_val, kVarW_val, kVarW_lst, kVarW_dic, w_Flat, kFlat_eq, w_Bin, kBin_eq, kBin2_eq, w_Un, kUn_eq, w_Tup, kTup_eq, w_Lst, kLst_eq, w_Nil, w_Cons, kCons_eq, kCons2_eq, w_And, kAnd_eq, w_Or, kOr_eq, w_Tst, kTst_eq, w_Tru, kTru_bl, kTru_int, kTru_tup, kTru_lst, kTru_non, w_NotT, kNotT_eq, w_AndT, kAndT_eq, w_OrT, kOrT_eq, w_IsN, kIsN_eq, w_If, kIf_eq, w_Chain, kCh1_eq, kCh2_eq, kCh3_eq, w_Bi, kBi_eq, on1_eq, on2_eq, w_Meth, kMeth_eq, kMeth2_eq, w_Ix, kIx_eq, kIx2_eq, w_Get2, kGet1_eq, kGet2_eq, kGet3_eq, w_NoP, w_Part, kPart_eq, w_Sl, kSl1_eq, kSl2_eq, kSl3_eq, w_Call, kCall_eq, w_CallP, kCallP_eq, w_OfO, kOfO_eq, toD_lst, toD_dic, w_LstO, kLstO_eq, w_DicO, w_Rep, kRep_eq, kRep2_eq, w_Pn, w_Pc, kPc1_eq, kPc2_eq, kPc3_eq, w_Disp, kDisp_eq, kDisp2_eq, keyed_nil, keyed_S, keyed_I, w_Lc, kLc_eq, kLc2_eq, w_Il, kIl_eq, w_It, kIt_eq, w_Ir1, kIr1_eq, w_Ir2, kIr2_eq, w_Ie, kIe_eq, w_IeT, kIeT_eq, w_Yes, w_Seq, kSeq_nx, kSeq_bk, kSeq_ct, kSeq_rt, w_Nx, w_Bk, w_Ct, w_RetN, w_Ret, kRet_eq, w_Drop, kDrop_eq, w_IfS, kIfS_eq, w_Frz, w_Set, kSet_eq, w_SetO, kSetO_eq, w_Aft, kAft_eq, w_Asg, kAsg_eq, kAsg2_eq, w_For, kFor_eq, w_While, w_Put, kPut_eq, kPut2_own, kPut2_ref, kPutR_eq, w_Own, w_OwnE, w_OwnS, kOwn_eq, kOwnE_eq, kOwnS_eq, w_Fn, kFn_nx, kFn_rt, kLoop_nx, kLoop_ct, kLoop_bk, kLoop_rt, w_Ir3, kIr3_eq, w_Lrg, kLrg_eq, w_AppPop, kApp0_eq, w_Never, w_Irv, kIrv_eq, w_Star, kStar_tup, kStar_lst, kStar2_eq, w_CallX, kCallX_eq, w_Raise, kRaise_eq, w_Done, kDone_eq, w_Try, kTry_eq, w_msRetF, kFld_some, w_msRetC, w_msRetP, kFld2_some, w_ToL, kToL_tup, kToL_lst, w_Chain3, kD0_eq, kD1_eq, kD2_eq, kD3_eq, kD4_eq, w_Add, kAdd_eq, kAdd2_eq, w_msRet, w_xF, kFldE_some, w_xBin, w_Hd, w_TryN, kTryN_eq, kHd_some, kHd_only, w_IfT, kIfT_eq, w_Iz, kIz_tup, kIz_lst, w_xOwnE, w_xOne, o_addI, o_addS, o_addT, o_addL, o_sub, o_fdiv, o_mod, o_pow, o_shl, o_shr, o_and, o_or, o_mul, o_lt, o_le, o_gt, o_ge, lt_eq, le_eq, gt_eq, ge_eq, o_neg, o_nob, o_eqI, o_eqS, o_neI, o_neS, eqo_int, ixS_tup, ixS_lst, ixS_dic, ixS_ref0, ixS_ref1, ixo_tup, ixo_lst, ixo_dicI, ixo_dicS, atI_0, atI_1, atI_2, atI_3, atI_4, atI_5, atI_6, atI_7, atI_8, pr_0, pr_1, pr_2, pr_3, po_dicI, po_dicS, app_eq, ext_eq, isL_eq, isD_eq, DisL_eq, o_lenL, o_lenT, o_lenD, o_lenS, o_toI, o_abs, o_strI, o_max2, o_min2, o_toT, o_toTT, o_toL, o_toLT, o_sloT, o_sloL, o_sloS, g_Nm, g_Tu, g_Cons, g_Nil, own_val, own_no, merge_new, dGet_cons, dGet_nil, dGet2_S, dGet2_I, o_sset, o_ssetI, o_toIb, fl_int, fl_bl, fl_str, fl_non, isNon_non, isNon_int, isNon_tup, o_inI, o_ninI, o_ninE, o_mkRng, isNon_bl, o_eqB, o_mulI, o_mulTup, o_mulLst, o_revT, o_isStrS, o_isStrT, o_isStrN, o_ltG, o_sortG, o_ssetL, o_ssetLt, o_lenSetI, o_tupRg, o_minGl, o_minGt, o_maxGl, o_maxGt, o_bestDl, o_bestDt, o_bestDln, o_bestDtn, o_lenSetT, o_sortT, List.getElem?_cons_zero, List.getElem?_cons_succ, List.set_cons_zero, List.set_cons_succ, List.length_cons, List.length_nil, List.map_cons, List.map_nil, List.cons_append, List.nil_append, List.replicate_succ, List.replicate_zero, if_true, if_false, decide_eq_true_eq, decide_eq_false_iff_not, Bool.false_eq_true, and_true, true_and, Bool.not_true, Bool.not_false, reduceIte, Option.bind_some, Option.map_some, Option.getD_some, Option.getD_none, Sum.inr.injEq, Sum.inl.injEq, Nat.reduceAdd, Nat.reduceSub, Nat.reduceLeDiff, Nat.reduceLT, Nat.reduceEqDiff, reduceCtorEq, Int.reduceLT, Int.reduceLE, Int.reduceEq, Int.reduceAdd, Int.reduceSub, Int.reduceMul, Int.reduceNeg, Int.cast_ofNat_Int, Int.natCast_zero, Int.reduceToNat, Int.reducePow, or_true, true_or, String.reduceEq, decide_true, decide_false, Bool.not_eq_true', Bool.not_eq_false', List.all_cons, List.all_nil, Bool.and_true, Bool.true_and, Bool.true_or, Bool.or_true, wipeS, startS, hdOf_cons])

theorem minI_mem : ∀ {ns : List Int} {x : Int}, minI x ns = x ∨ minI x ns ∈ ns
  | [], x => .inl rfl
  | n :: ns, x => by
    have h := minI_mem (ns := ns) (x := if n < x then n else x)
    unfold minI at h ⊢
    rw [List.foldl_cons]
    by_cases g : n < x
    · rw [if_pos g] at h ⊢
      rcases h with h | h
      · rw [h]; exact .inr List.mem_cons_self
      · exact .inr (List.mem_cons_of_mem _ h)
    · rw [if_neg g] at h ⊢
      rcases h with h | h
      · exact .inl h
      · exact .inr (List.mem_cons_of_mem _ h)
theorem minI_le : ∀ {ns : List Int} {x : Int}, minI x ns ≤ x ∧ ∀ n ∈ ns, minI x ns ≤ n
  | [], x => ⟨Int.le_refl _, fun _ h => nomatch h⟩
  | n :: ns, x => by
    have h := minI_le (ns := ns) (x := if n < x then n else x)
    unfold minI at h ⊢
    rw [List.foldl_cons]
    refine ⟨Int.le_trans h.1 (by split <;> omega), fun m hm => ?_⟩
    cases hm with
    | head => exact Int.le_trans h.1 (by split <;> omega)
    | tail _ hm => exact h.2 m hm
/-- the least of a list of numbers, told by what it is -/
theorem o_minL {ns : List Int} {c : Int} {S : List O} {P : D × List O → Prop} (h1 : c ∈ ns) (h2 : ∀ n ∈ ns, c ≤ n) (hy : P (.int c, S)) : kO (D.minG (.lst (ns.map D.int))) S P := by
  cases ns with
  | nil => cases h1
  | cons r rs =>
    rw [List.map_cons, o_minGl, ← List.map_cons, minF_int]
    have e : minI r rs = c := by
      have a : minI r rs ≤ c := by
        cases h1 with
        | head => exact minI_le.1
        | tail _ h => exact minI_le.2 c h
      rcases minI_mem (ns := rs) (x := r) with k | k
      · have := h2 r List.mem_cons_self; omega
      · have := h2 _ (List.mem_cons_of_mem _ k); omega
    rw [e]
    exact ⟨bestOk_int (r :: rs), hy⟩

end Law

namespace Law
open PySem PySem.Spec PyProof.Rows L2 D2
local macro_rules | `(tactic| walk_at "ev") => `(tactic| simp (decide := true) only [kO_some, w_C, w_Var, w_VarW, kVar_val, kVarW_val, kVarW_lst, kVarW_dic, w_Flat, kFlat_eq, w_Bin, kBin_eq, kBin2_eq, w_Un, kUn_eq, w_Tup, kTup_eq, w_Lst, kLst_eq, w_Nil, w_Cons, kCons_eq, kCons2_eq, w_And, kAnd_eq, w_Or, kOr_eq, w_Tst, kTst_eq, w_Tru, kTru_bl, kTru_int, kTru_tup, kTru_lst, kTru_non, w_NotT, kNotT_eq, w_AndT, kAndT_eq, w_OrT, kOrT_eq, w_IsN, kIsN_eq, w_If, kIf_eq, w_Chain, kCh1_eq, kCh2_eq, kCh3_eq, w_Bi, kBi_eq, on1_eq, on2_eq, w_Meth, kMeth_eq, kMeth2_eq, w_Ix, kIx_eq, kIx2_eq, w_Get2, kGet1_eq, kGet2_eq, kGet3_eq, w_NoP, w_Part, kPart_eq, w_Sl, kSl1_eq, kSl2_eq, kSl3_eq, w_Call, kCall_eq, w_CallP, kCallP_eq, w_OfO, kOfO_eq, toD_lst, toD_dic, w_LstO, kLstO_eq, w_DicO, w_Rep, kRep_eq, kRep2_eq, w_Pn, w_Pc, kPc1_eq, kPc2_eq, kPc3_eq, w_Disp, kDisp_eq, kDisp2_eq, keyed_nil, keyed_S, keyed_I, w_Lc, kLc_eq, kLc2_eq, w_Il, kIl_eq, w_It, kIt_eq, w_Ir1, kIr1_eq, w_Ir2, kIr2_eq, w_Ie, kIe_eq, w_IeT, kIeT_eq, w_Yes, w_Seq, kSeq_nx, kSeq_bk, kSeq_ct, kSeq_rt, w_Nx, w_Bk, w_Ct, w_RetN, w_Ret, kRet_eq, w_Drop, kDrop_eq, w_IfS, kIfS_eq, w_Frz, w_Set, kSet_eq, w_SetO, kSetO_eq, w_Aft, kAft_eq, w_Asg, kAsg_eq, kAsg2_eq, w_For, kFor_eq, w_While, w_Put, kPut_eq, kPut2_own, kPut2_ref, kPutR_eq, w_Own, w_OwnE, w_OwnS, kOwn_eq, kOwnE_eq, kOwnS_eq, w_Fn, kFn_nx, kFn_rt, kLoop_nx, kLoop_ct, kLoop_bk, kLoop_rt, w_Ir3, kIr3_eq, w_Lrg, kLrg_eq, w_AppPop, kApp0_eq, w_Never, w_Irv, kIrv_eq, w_Star, kStar_tup, kStar_lst, kStar2_eq, w_CallX, kCallX_eq, w_Raise, kRaise_eq, w_Done, kDone_eq, w_Try, kTry_eq, w_msRetF, kFld_some, w_msRetC, w_msRetP, kFld2_some, w_ToL, kToL_tup, kToL_lst, w_Chain3, kD0_eq, kD1_eq, kD2_eq, kD3_eq, kD4_eq, w_Add, kAdd_eq, kAdd2_eq, w_msRet, w_xF, kFldE_some, w_xBin, w_Hd, w_TryN, kTryN_eq, kHd_some, kHd_only, w_IfT, kIfT_eq, w_Iz, kIz_tup, kIz_lst, w_xOwnE, w_xOne, o_addI, o_addS, o_addT, o_addL, o_sub, o_fdiv, o_mod, o_pow, o_shl, o_shr, o_and, o_or, o_mul, o_lt, o_le, o_gt, o_ge, lt_eq, le_eq, gt_eq, ge_eq, o_neg, o_nob, o_eqI, o_eqS, o_neI, o_neS, eqo_int, ixS_tup, ixS_lst, ixS_dic, ixS_ref0, ixS_ref1, ixo_tup, ixo_lst, ixo_dicI, ixo_dicS, atI_0, atI_1, atI_2, atI_3, atI_4, atI_5, atI_6, atI_7, atI_8, pr_0, pr_1, pr_2, pr_3, po_dicI, po_dicS, app_eq, ext_eq, isL_eq, isD_eq, DisL_eq, o_lenL, o_lenT, o_lenD, o_lenS, o_toI, o_abs, o_strI, o_max2, o_min2, o_toT, o_toTT, o_toL, o_toLT, o_sloT, o_sloL, o_sloS, g_Nm, g_Tu, g_Cons, g_Nil, own_val, own_no, merge_new, dGet_cons, dGet_nil, dGet2_S, dGet2_I, o_sset, o_ssetI, o_toIb, fl_int, fl_bl, fl_str, fl_non, isNon_non, isNon_int, isNon_tup, o_inI, o_ninI, o_ninE, o_mkRng, isNon_bl, o_eqB, o_mulI, o_mulTup, o_mulLst, o_revT, o_isStrS, o_isStrT, o_isStrN, o_ltG, o_sortG, o_ssetL, o_ssetLt, o_lenSetI, o_tupRg, o_minGl, o_minGt, o_maxGl, o_maxGt, o_bestDl, o_bestDt, o_bestDln, o_bestDtn, o_lenSetT, o_sortT, List.getElem?_cons_zero, List.getElem?_cons_succ, List.set_cons_zero, List.set_cons_succ, List.length_cons, List.length_nil, List.map_cons, List.map_nil, List.cons_append, List.nil_append, List.replicate_succ, List.replicate_zero, if_true, if_false, decide_eq_true_eq, decide_eq_false_iff_not, Bool.false_eq_true, and_true, true_and, Bool.not_true, Bool.not_false, reduceIte, Option.bind_some, Option.map_some, Option.getD_some, Option.getD_none, Sum.inr.injEq, Sum.inl.injEq, Nat.reduceAdd, Nat.reduceSub, Nat.reduceLeDiff, Nat.reduceLT, Nat.reduceEqDiff, reduceCtorEq, Int.reduceLT, Int.reduceLE, Int.reduceEq, Int.reduceAdd, Int.reduceSub, Int.reduceMul, Int.reduceNeg, Int.cast_ofNat_Int, Int.natCast_zero, Int.reduceToNat, Int.reducePow, or_true, true_or, String.reduceEq, decide_true, decide_false, Bool.not_eq_true', Bool.not_eq_false', List.all_cons, List.all_nil, Bool.and_true, Bool.true_and, Bool.true_or, Bool.or_true, wipeS, startS, hdOf_cons])

/-! ### the law -/
theorem chosen_ex {ts : List Int} {roll : Int} (hl : ts.length ≤ 1000) (hg : takeE ts roll = "") : ∃ (c : Nat) (js : List Nat), Chosen (List.replicate c roll) ts js ∧ Room (List.replicate c roll) ts ∧ ∀ c', c' < c → ¬ Room (List.replicate c' roll) ts := by
  have h := rolls_w (ts := ts) (roll := roll) (S := []) (P := fun _ => ∃ (c : Nat) (js : List Nat), Chosen (List.replicate c roll) ts js ∧ Room (List.replicate c roll) ts ∧ ∀ c', c' < c → ¬ Room (List.replicate c' roll) ts) (E := noE) hl (fun h => absurd hg h) (fun _ c js h1 h2 h3 => ⟨c, js, h1, h2, h3⟩)
  obtain ⟨_, _, h⟩ := h.ok
  exact h
theorem takeE_ok {ts : List Int} {roll : Int} (hl : ts.length ≤ 12) (hr : 1 ≤ roll ∧ roll ≤ 999) (ht : ∀ t ∈ ts, 1 ≤ t ∧ t ≤ roll) : takeE ts roll = "" := by
  unfold takeE
  have : (ts.all fun t => decide (1 ≤ t) && decide (t ≤ roll)) = true := List.all_eq_true.mpr fun t h => by have := ht t h; simp; omega
  rw [if_neg (by omega), if_neg (by omega), this]
  decide
theorem eqvA_ints : ∀ xs ys : List Int, PyData.eqvAll (D.pdA (xs.map D.int)) (D.pdA (ys.map D.int)) = decide (xs = ys)
  | [], [] => by simp [D.pdA, PyData.eqvAll]
  | [], _ :: _ => by simp [D.pdA, PyData.eqvAll]
  | _ :: _, [] => by simp [D.pdA, PyData.eqvAll]
  | x :: xs, y :: ys => by
    have h1 : PyData.eqv (D.pd (.int x)) (D.pd (.int y)) = decide (x = y) := eqv_int
    have h2 := eqvA_ints xs ys
    simp only [List.map_cons, D.pdA, PyData.eqvAll, h1, h2, List.cons.injEq, Bool.decide_and]
theorem eqv_intsL {xs ys : List Int} : D.eqv (.lst (xs.map D.int)) (.lst (ys.map D.int)) = decide (xs = ys) := by
  simp only [D.eqv, D.pd, PyData.eqv]
  exact eqvA_ints xs ys
theorem sortI_same {ns : List Int} (h : ns.Pairwise (· ≤ ·)) : sortI ns = ns := (sorted_one (sortI_perm ns).symm h (sortI_sorted ns)).symm
def keptN (ts : List Int) (roll : Int) : List (List Nat) := (waysN ts roll).filter fun s => decide (s.map nI = sortI (s.map nI))
theorem kept_best {ts : List Int} {roll : Int} (h0 : 0 ≤ roll) (ht : ∀ t ∈ ts, 1 ≤ t ∧ t ≤ roll) (hne : ts ≠ []) : ((cnt (gF roll ts).2.2 : Nat) : Int) ∈ (keptN ts roll).map (fun s => (cnt s : Int)) ∧ ∀ n ∈ (keptN ts roll).map (fun s => (cnt s : Int)), ((cnt (gF roll ts).2.2 : Nat) : Int) ≤ n := by
  have g := g_ok h0 ht
  constructor
  · refine List.mem_map.mpr ⟨(gF roll ts).2.2, ?_, rfl⟩
    refine List.mem_filter.mpr ⟨List.mem_filter.mpr ⟨g.row, ?_⟩, decide_eq_true ?_⟩
    · refine (fits_nat h0 (c := cnt (gF roll ts).2.2) fun a ha => cnt_lt ha).mpr ⟨rows_len g.row, fun j hj => by rw [List.length_replicate]; exact cnt_lt hj, fun m r hm => ?_⟩
      rw [List.getElem?_replicate] at hm
      split at hm
      · cases hm; exact g.ok m
      · cases hm
    · rw [sortI_same]
      refine List.Pairwise.map nI (fun a b h => ?_) g.pw
      show (a : Int) ≤ (b : Int)
      omega
  · intro n hn
    obtain ⟨s, hs, rfl⟩ := List.mem_map.mp hn
    obtain ⟨h1, h2⟩ := List.mem_filter.mp hs
    obtain ⟨h3, h4⟩ := List.mem_filter.mp h1
    have h5 := of_decide_eq_true h2
    have pw : s.Pairwise (· ≤ ·) := by
      have := sortI_sorted (s.map nI)
      rw [← h5, List.pairwise_map] at this
      exact this.imp fun {a b} h => by have : (a : Int) ≤ (b : Int) := h; omega
    have ok := (fits_nat h0 (c := cnt s) fun a ha => cnt_lt ha).mp h4
    have := g_best h0 ht hne (rows_len h3) pw fun m => by
      by_cases k : m < cnt s
      · exact ok.2.2 m roll (by rw [List.getElem?_replicate, if_pos k])
      · rw [loadL_none fun a ha h => by have := cnt_lt ha; omega]
        exact h0
    show ((cnt (gF roll ts).2.2 : Nat) : Int) ≤ (cnt s : Int)
    omega
theorem cut_1 (L : List Int) : D2.cutD (L.map D.int) (some 1) none = (L.drop 1).map D.int := by
  cases L with
  | nil => rfl
  | cons a l =>
    have := cut_hi (ds := (a :: l).map D.int) (k := 1) (by simp)
    rw [show ((1 : Nat) : Int) = 1 from rfl] at this
    rw [this, List.map_drop]
theorem fin : ∀ (ns : List Int) (seed : Int), ns.length ≤ 63 → 0 ≤ seed → seed < 2147483647 → ∃ sg S, m_law (lawS 17) [drawer ns seed] = .ok (.rt (.bl true), sg, S) := by
  intro ns seed h1 h2 _
  have hd : dOk (drawer ns seed) := .mk h1 (by decide) (by decide) h2
  generalize drawer ns seed = o at hd
  have main : Wp (m_law (lawS 17) [o]) (fun y => y.1 = .rt (.bl true)) noE := by
    unfold m_law lawS
    simp only [List.replicate]
    walk_at "ev"
    refine (take_ok hd 20 (by decide) (by decide)).imp ?_
    rintro _ ⟨r1, o1, rfl, p0, p1, hd1⟩
    walk_at "ev"
    refine (take_ok hd1 4 (by decide) (by decide)).imp ?_
    rintro _ ⟨r2, o2, rfl, q0, q1, hd2⟩
    walk_at "ev"
    obtain ⟨roll, hat, hro⟩ : ∃ roll : Int, atI [D.int (1 + r1), D.int 10, D.int 999, D.int 100] r2 = some (.int roll) ∧ 1 ≤ roll ∧ roll ≤ 999 := by
      rcases (by omega : r2 = 0 ∨ r2 = 1 ∨ r2 = 2 ∨ r2 = 3) with rfl | rfl | rfl | rfl
      · exact ⟨1 + r1, rfl, by omega, by omega⟩
      · exact ⟨10, rfl, by decide, by decide⟩
      · exact ⟨999, rfl, by decide, by decide⟩
      · exact ⟨100, rfl, by decide, by decide⟩
    simp only [hat, kO_some]
    walk_at "ev"
    refine (take_ok hd2 7 (by decide) (by decide)).imp ?_
    rintro _ ⟨m, o3, rfl, m0, m1, hd3⟩
    walk_at "ev"
    refine ⟨lim_small (by omega) (by omega), ?_⟩
    refine ⟨by rw [rngD_len]; omega, draw_lc (en := D.int) (Q := fun _ a => 1 ≤ a ∧ a ≤ roll) hd3 ?_ ?_⟩
    · intro i d o' hdi hdo
      refine ⟨_, gNm_ok rfl, ?_⟩
      simp only [List.set_cons_succ, List.set_cons_zero]
      walk_at "ev"
      refine (take_ok hdo 3 (by decide) (by decide)).imp ?_
      rintro _ ⟨t1, o4, rfl, t10, t11, hd4⟩
      walk_at "ev"
      by_cases g : 0 < t1
      · simp only [g, decide_true, if_true]
        try walk_at "ev"
        refine (take_ok hd4 roll (by omega) (by omega)).imp ?_
        rintro _ ⟨t2, o5, rfl, t20, t21, hd5⟩
        walk_at "ev"
        exact ⟨1 + t2, o5, rfl, ⟨by omega, by omega⟩, hd5⟩
      · simp only [g, decide_false, Bool.false_eq_true, if_false]
        try walk_at "ev"
        refine (take_ok hd4 3 (by decide) (by decide)).imp ?_
        rintro _ ⟨t2, o5, rfl, t20, t21, hd5⟩
        walk_at "ev"
        refine ⟨by omega, ?_⟩
        have hq : roll / (2 + t2) ≤ roll := Int.ediv_le_self _ (by omega)
        refine ⟨_, o5, rfl, ?_, hd5⟩
        split <;> constructor <;> omega
    · intro ts o4 hlen hts hd4
      rw [rngD_len] at hlen
      have hl6 : ts.length ≤ 6 := by omega
      have htk : ∀ t ∈ ts, 1 ≤ t ∧ t ≤ roll := fun t h => by obtain ⟨i, hi⟩ := List.getElem?_of_mem h; exact hts i t hi
      walk_at "ev"
      try rw [List.length_map]
      refine ⟨lim_small (by omega) (by omega), by rw [rngD_len]; omega, draw_lc (en := D.int) (Q := fun _ a => 0 ≤ a ∧ a < 4) hd4 ?_ ?_⟩
      · intro i d o' hdi hdo
        refine ⟨_, gNm_ok rfl, ?_⟩
        simp only [List.set_cons_succ, List.set_cons_zero]
        walk_at "ev"
        refine (take_ok hdo 4 (by decide) (by decide)).imp ?_
        rintro _ ⟨t1, o5, rfl, t10, t11, hd5⟩
        exact ⟨_, o5, rfl, ⟨t10, t11⟩, hd5⟩
      intro rs o5 hlr hrs hd5
      rw [rngD_len, Int.toNat_natCast] at hlr
      have hr4 : ∀ r ∈ rs, 0 ≤ r ∧ r < 4 := fun t h => by obtain ⟨i, hi⟩ := List.getElem?_of_mem h; exact hrs i t hi
      have hg : takeE ts roll = "" := takeE_ok (by omega) hro htk
      obtain ⟨c, js, hch, hroom, hleast⟩ := chosen_ex (ts := ts) (roll := roll) (by omega) hg
      walk_at "ev"
      refine law_order_w (by omega) htk ?_
      walk_at "ev"
      rw [List.length_map]
      refine law_all_w hl6 ?_
      walk_at "ev"
      have h0 : 0 ≤ roll := by omega
      have ht0 : ∀ t ∈ ts, 0 ≤ t := fun t h => by have := htk t h; omega
      have hrows := rows_203 hl6
      have hwl : (waysN ts roll).length ≤ 203 := Nat.le_trans (List.length_filter_le _ _) hrows
      have hwr : ∀ s ∈ waysN ts roll, s ∈ rowsN ts.length := fun s h => (List.mem_filter.mp h).1
      obtain ⟨jin, jc, jle, jhd⟩ := ways_head h0 ht0 hch hleast
      refine ⟨by rw [List.length_map]; omega, ?_⟩
      rw [wp_eq (ways_lc hl6 h0 rfl)]
      walk_at "ev"
      simp only [frz, List.getElem?_cons_succ, List.getElem?_cons_zero, List.set_cons_succ, List.set_cons_zero, toD_lst]
      walk_at "ev"
      have usedE : ∀ (sg : List Sl) (l : List (List Nat)), (∀ s ∈ l, s ∈ rowsN ts.length) → isOwn sg[17]? = false → sg.length = 19 → lcR (gNm 17) mYes (mCall F__law_used (mCons (mVar 17) mNil)) sg (l.map rowD) [o5] = .ok ((l.map fun s => (cnt s : Int)).map D.int, [o5]) := fun sg l hl hs hl19 => by
        have e := lc_pure (gg := gNm 17) (mt := mYes) (me := mCall F__law_used (mCons (mVar 17) mNil)) (sg := sg) (S := [o5]) (en := rowD) (p := fun _ => true) (f := fun s => D.int (cnt s : Int)) (xs := l) fun s hin => ⟨_, gNm_ok hs, rfl, fun _ => wp_is (by
          have e17 : (sg.set 17 (.val (rowD s)))[17]? = some (.val (rowD s)) := by rw [List.getElem?_set, if_pos rfl, if_pos (by omega)]
          walk_at "ev"
          simp only [e17]
          walk_at "ev"
          refine used2_w (by omega) (hl s hin) ?_
          rfl)⟩
        rw [e, List.filter_eq_self.mpr fun _ _ => rfl, List.map_map]
        rfl
      rw [wp_eq (usedE _ _ hwr rfl rfl)]
      walk_at "ev"
      refine ⟨by rw [List.length_map]; omega, o_minL (c := (c : Int)) (List.mem_map.mpr ⟨js, jin, by rw [jc]⟩) (fun n hn => by obtain ⟨s, hs, rfl⟩ := List.mem_map.mp hn; have := jle s hs; show (c : Int) ≤ (cnt s : Int); omega) ?_⟩
      walk_at "ev"
      have keptE : lcR (gNm 17) (mTst (mBin D.eqo (mBi (on1 D.toLst) (mCons (mVar 17) mNil)) (mBi (on1 D.sortT) (mCons (mVar 17) mNil)))) (mCall F__law_used (mCons (mVar 17) mNil))
          [.no, .val (.ref 0), .val (.int roll), .val (.tup (ts.map D.int)), .val (.tup (rs.map D.int)), .val (.tup ((ordF roll ts).2.2.map D.int)), .val (.lst ((waysN ts roll).map rowD)), .val (.int (c : Int)), .no, .no, .no, .no, .no, .no, .no, .no, .no, .no, .no] ((waysN ts roll).map rowD) [o5] = .ok (((keptN ts roll).map fun s => (cnt s : Int)).map D.int, [o5]) := by
        have e := lc_pure (gg := gNm 17) (mt := mTst (mBin D.eqo (mBi (on1 D.toLst) (mCons (mVar 17) mNil)) (mBi (on1 D.sortT) (mCons (mVar 17) mNil)))) (me := mCall F__law_used (mCons (mVar 17) mNil))
          (sg := [.no, .val (.ref 0), .val (.int roll), .val (.tup (ts.map D.int)), .val (.tup (rs.map D.int)), .val (.tup ((ordF roll ts).2.2.map D.int)), .val (.lst ((waysN ts roll).map rowD)), .val (.int (c : Int)), .no, .no, .no, .no, .no, .no, .no, .no, .no, .no, .no]) (S := [o5])
          (en := rowD) (p := fun s => decide (s.map nI = sortI (s.map nI))) (f := fun s => D.int (cnt s : Int)) (xs := waysN ts roll) fun s hin => ⟨_, gNm_ok rfl, wp_is (by
            have hls := rows_len (hwr s hin)
            simp only [List.set_cons_succ, List.set_cons_zero]
            rw [rowD_eq]
            walk_at "ev"
            refine ⟨by rw [List.length_map]; omega, ?_⟩
            refine (o_eqG (P := _)).mpr ⟨okqA_ints 49 _, okqA_ints 49 _, ?_⟩
            rw [eqv_intsL]
            walk_at "ev"), fun _ => wp_is (by
            simp only [List.set_cons_succ, List.set_cons_zero]
            walk_at "ev"
            refine used2_w (by omega) (hwr s hin) ?_
            rfl)⟩
        rw [e, List.map_map]
        rfl
      refine ⟨by rw [List.length_map]; omega, ?_⟩
      rw [wp_eq keptE]
      walk_at "ev"
      simp only [frz, List.getElem?_cons_succ, List.getElem?_cons_zero, List.set_cons_succ, List.set_cons_zero, toD_lst]
      walk_at "ev"
      rw [List.length_map]
      have eG : D.tup ((ordF roll ts).2.2.map D.int) = rowD (gF roll ts).2.2 := by
        rw [ordF_g, rowD_eq]
        rfl
      have gok := g_ok (ts := ts) h0 htk
      rcases (by by_cases k : ts = [] <;> simp [k] : ts = [] ∨ ts ≠ []) with hne | hne
      all_goals
        first
        | (rw [if_neg (show ¬ (0 : Int) < ((ts.length : Nat) : Int) by rw [hne]; decide)]
           try walk_at "ev")
        | (rw [if_pos (show (0 : Int) < ((ts.length : Nat) : Int) by have := List.length_pos_iff.mpr hne; omega)]
           try walk_at "ev"
           obtain ⟨k1, k2⟩ := kept_best h0 htk hne
           rw [eG]
           refine used2_w (by omega) gok.row ?_
           walk_at "ev"
           refine o_minL k1 k2 ?_
           walk_at "ev"
           try walk_at "ev"
           rw [← eG])
      all_goals
        have fewE : lcR (gNm 17) (mTst (mBin D.eqo (mCall F__law_used (mCons (mVar 17) mNil)) (mVar 7))) (mVar 17)
            [.no, .val (.ref 0), .val (.int roll), .val (.tup (ts.map D.int)), .val (.tup (rs.map D.int)), .val (.tup ((ordF roll ts).2.2.map D.int)), .val (.lst ((waysN ts roll).map rowD)), .val (.int (c : Int)), .val (.lst (((keptN ts roll).map fun s => (cnt s : Int)).map D.int)), .no, .no, .no, .no, .no, .no, .no, .no, .no, .no] ((waysN ts roll).map rowD) [o5] = .ok (((waysN ts roll).filter fun s => decide (cnt s = c)).map rowD, [o5]) :=
          lc_pure (en := rowD) (p := fun s => decide (cnt s = c)) (f := rowD) fun s hin => ⟨_, gNm_ok rfl, wp_is (by
            simp only [List.set_cons_succ, List.set_cons_zero]
            walk_at "ev"
            refine used2_w (by omega) (hwr s hin) ?_
            walk_at "ev"
            have : decide (((cnt s : Nat) : Int) = (c : Int)) = decide (cnt s = c) := by
              by_cases k : cnt s = c
              · rw [decide_eq_true k, decide_eq_true (by omega)]
              · rw [decide_eq_false k, decide_eq_false (by omega)]
            rw [this]), fun _ => rfl⟩
        refine ⟨by rw [List.length_map]; omega, ?_⟩
        rw [wp_eq fewE]
        have hd0 : atI (((waysN ts roll).filter fun s => decide (cnt s = c)).map rowD) 0 = some (rowD js) := by
          cases hq : (waysN ts roll).filter fun s => decide (cnt s = c) with
          | nil => rw [hq] at jhd; cases jhd
          | cons a l =>
            rw [hq] at jhd
            cases jhd
            show atI (rowD js :: l.map rowD) ((0 : Nat) : Int) = _
            exact atI_nat rfl
        walk_at "ev"
        simp only [hd0, kO_some]
        walk_at "ev"
        have ejs : js.map iD = (js.map nI).map D.int := by rw [List.map_map]; rfl
        have ljs : js.length = ts.length := rows_len (hwr js jin)
        have subE := lc_int (i := 18) (me := mBin D.sub (mVar 18) (mC (.int 1))) (sg := [.no, .val (.ref 0), .val (.int roll), .val (.tup (ts.map D.int)), .val (.tup (rs.map D.int)), .val (.tup ((ordF roll ts).2.2.map D.int)), .val (.lst ((waysN ts roll).map rowD)), .val (.int (c : Int)), .val (.lst (((keptN ts roll).map fun s => (cnt s : Int)).map D.int)), .val (rowD js), .no, .no, .no, .no, .no, .no, .no, .no, .no]) (S := [o5]) (f := fun n => .int (n - 1)) (ns := js.map nI) rfl fun n _ => wp_is (by
          simp only [List.set_cons_succ, List.set_cons_zero]
          walk_at "ev")
        have addE := lc_int (i := 18) (me := mBin D.add (mVar 18) (mC (.int 1))) (sg := [.no, .val (.ref 0), .val (.int roll), .val (.tup (ts.map D.int)), .val (.tup (rs.map D.int)), .val (.tup ((ordF roll ts).2.2.map D.int)), .val (.lst ((waysN ts roll).map rowD)), .val (.int (c : Int)), .val (.lst (((keptN ts roll).map fun s => (cnt s : Int)).map D.int)), .val (rowD js), .no, .no, .no, .no, .no, .no, .no, .no, .no]) (S := [o5]) (f := fun n => .int (n + 1)) (ns := js.map nI) rfl fun n _ => wp_is (by
          simp only [List.set_cons_succ, List.set_cons_zero]
          walk_at "ev")
        refine ⟨by rw [List.length_map]; omega, by rw [List.length_map]; omega, ?_⟩
        rw [ejs, wp_eq subE]
        walk_at "ev"
        refine ⟨by rw [List.length_map]; omega, ?_⟩
        rw [ejs, wp_eq addE]
        walk_at "ev"
        rw [cut_1]
        have eO : (ordF roll ts).2.2 = (gF roll ts).2.2.map nI := by rw [ordF_g]; rfl
        have bO : ∀ (s : List Nat), s ∈ rowsN ts.length → s.length ≤ 6 ∧ ∀ x ∈ s.map nI, x ≤ 6 := fun s hs => by
          refine ⟨by rw [rows_len hs]; exact hl6, fun x hx => ?_⟩
          obtain ⟨a, ha, rfl⟩ := List.mem_map.mp hx
          have := cnt_lt ha
          have := rows_cnt hs
          show (a : Int) ≤ 6
          omega
        obtain ⟨bj1, bj2⟩ := bO js (hwr js jin)
        obtain ⟨bg1, bg2⟩ := bO _ gok.row
        have eT : [D.tup (rs.map D.int), rowD js, D.tup ((ordF roll ts).2.2.map D.int), D.tup ((js.map nI).map D.int ++ [D.int 0]), D.tup (((js.map nI).drop 1).map D.int), D.tup ((js.map nI).map fun n => D.int (n - 1)), D.tup ((js.map nI).map fun n => D.int (n + 1))]
            = ([rs, js.map nI, (ordF roll ts).2.2, js.map nI ++ [0], (js.map nI).drop 1, (js.map nI).map fun n => n - 1, (js.map nI).map fun n => n + 1]).map fun rs => D.tup (rs.map D.int) := by
          simp only [List.map_cons, List.map_nil, List.map_append, List.map_map, rowD_eq]
          rfl
        rw [eT]
        refine tolds_w (by omega) (fun L hL => ?_) hg hch hroom hleast rfl rfl rfl rfl rfl fun x10 x11 x12 => ?_
        · simp only [List.mem_cons, List.not_mem_nil, or_false] at hL
          rcases hL with rfl | rfl | rfl | rfl | rfl | rfl | rfl
          · exact ⟨by omega, fun r hr => by have := hr4 r hr; omega⟩
          · exact ⟨by rw [List.length_map]; omega, fun r hr => by have := bj2 r hr; omega⟩
          · rw [eO]
            exact ⟨by rw [List.length_map]; omega, fun r hr => by have := bg2 r hr; omega⟩
          · refine ⟨by rw [List.length_append, List.length_map]; show _ + 1 ≤ 100; omega, fun r hr => ?_⟩
            rcases List.mem_append.mp hr with k | k
            · have := bj2 r k; omega
            · rw [List.mem_singleton.mp k]; decide
          · exact ⟨by rw [List.length_drop, List.length_map]; omega, fun r hr => by have := bj2 r (List.mem_of_mem_drop hr); omega⟩
          · refine ⟨by rw [List.length_map, List.length_map]; omega, fun r hr => ?_⟩
            obtain ⟨x, hx, rfl⟩ := List.mem_map.mp hr
            have := bj2 x hx
            omega
          · refine ⟨by rw [List.length_map, List.length_map]; omega, fun r hr => ?_⟩
            obtain ⟨x, hx, rfl⟩ := List.mem_map.mp hr
            have := bj2 x hx
            omega
        walk_at "ev"
        refine wrongs_w rfl rfl rfl fun sg => ?_
        walk_at "ev"
  obtain ⟨⟨fl, sg, S⟩, e, q⟩ := main.ok
  exact ⟨sg, S, by rw [e]; simp only [] at q; rw [q]⟩

end Law

namespace Law
open PySem PySem.Spec PyProof.Rows L2 D2
def top (i : Nat) : Stmt := PySem.Challenge.pw_callsheets_k69_takes_on_rolls.main.body.getD i (.Pass ⟨0, 0, 0, 0⟩)
def clsBody : Stmt → List Stmt
  | .ClassDef _ _ _ b _ _ _ _ _ _ _ => b
  | _ => []
abbrev s_ini_CallError : Stmt := (clsBody (top 1)).getD 0 (.Pass ⟨0, 0, 0, 0⟩)
structure Txt (K : PySem.W.Frag) (mg : Str → Option Value) (a_TAKE_LIMIT : Tok) (a_LONGEST_ROLL : Tok) : Prop where
  b_abs : mg "abs" = none
  b_all : mg "all" = none
  b_enumerate : mg "enumerate" = none
  b_int : mg "int" = none
  b_len : mg "len" = none
  b_list : mg "list" = none
  b_max : mg "max" = none
  b_min : mg "min" = none
  b_range : mg "range" = none
  b_set : mg "set" = none
  b_sorted : mg "sorted" = none
  b_sum : mg "sum" = none
  b_tuple : mg "tuple" = none
  b_zip : mg "zip" = none
  g_TAKE_LIMIT : mg "TAKE_LIMIT" = some (.int (12) a_TAKE_LIMIT)
  g_LONGEST_ROLL : mg "LONGEST_ROLL" = some (.int (999) a_LONGEST_ROLL)
structure Cl (K : PySem.W.Frag) (mg : Str → Option Value) (x : Str) (st : Stmt) (f : Addr) (fd : FuncData) (ps : List Str) : Prop where
  m : mg x = some (.ref f)
  F : Fun K x x st f fd
  b : Binds K fd ps []
theorem rc_TAKE_LIMIT {K : PySem.W.Frag} : ∀ (as : List Addr) (B : Addr → Prop) (H : Hp), Rep K as B H d_TAKE_LIMIT (.int (12)) := fun _ _ _ => rfl
theorem rc_LONGEST_ROLL {K : PySem.W.Frag} : ∀ (as : List Addr) (B : Addr → Prop) (H : Hp), Rep K as B H d_LONGEST_ROLL (.int (999)) := fun _ _ _ => rfl
abbrev s_is_roll : Stmt := top 8
abbrev s__check : Stmt := top 7
abbrev s_in_order : Stmt := top 6
abbrev s__end_with : Stmt := top 13
abbrev s__have_room : Stmt := top 12
abbrev s__fewest : Stmt := top 10
abbrev s__first_roll : Stmt := top 11
abbrev s_fewest_rolls : Stmt := top 9
abbrev s__used_of : Stmt := top 16
abbrev s__are_right : Stmt := top 15
abbrev s_takes_rolls : Stmt := top 14
abbrev s_short_ends : Stmt := top 17
abbrev s__law_take : Stmt := top 20
abbrev s__law_asked : Stmt := top 21
abbrev s__law_fits : Stmt := top 22
abbrev s__law_all : Stmt := top 23
abbrev s__law_used : Stmt := top 24
abbrev s__law_ordered : Stmt := top 25
abbrev s_law : Stmt := top 26
section
variable {P : Program} {w : World} {K : PySem.W.Frag} {mg : Str → Option Value} {base : Heap} {a_TAKE_LIMIT : Tok} {a_LONGEST_ROLL : Tok}
theorem sc_ini_CallError : FnScope ["self", "code"] ["self", "code"] (defScope s_ini_CallError) := ⟨rfl, rfl, rfl, by decide +kernel, rfl, by decide +kernel, by decide +kernel⟩
theorem ok_ini_CallError {f_ : Addr} {fd_ : FuncData} {k : Nat} (F : Fun K "__init__" "CallError.__init__" s_ini_CallError f_ fd_) : FnOk P w K mg base CX0 (k + 1) f_ fd_ ["self", "code"] (spIni ["code"] K) := by
  refine F.ok sc_ini_CallError (fun vs H Q E h => ?_) (fun cdv A outer s H vs Q E hr h => ⟨_, (pss_one (ps_ost (pv 0) (pv 1))), ?_⟩)
  · obtain ⟨a, C, xs, rfl, hl, _⟩ := h
    show xs.length + 1 = 2
    rw [hl]
    rfl
  · obtain ⟨a, C, xs, rfl, hl, T, hn, e, q⟩ := h
    match xs, hl with
    | [v], _ => exact ⟨v, rfl, .ref a, rfl, a, C, rfl, T, hn _ List.mem_cons_self, .inl ⟨e, fun dx h1 h2 => q dx h1 h2⟩⟩
theorem sc_is_roll : FnScope n_is_roll ["roll"] (defScope s_is_roll) := ⟨rfl, rfl, rfl, by decide +kernel, rfl, by decide +kernel, by decide +kernel⟩
theorem ok_is_roll {f_is_roll : Addr} {fd_is_roll : FuncData} {k : Nat} (T : Txt K mg a_TAKE_LIMIT a_LONGEST_ROLL) (C_is_roll : Cl K mg "is_roll" s_is_roll f_is_roll fd_is_roll ["roll"]) :
    FnOk P w K mg base CX0 (k + 1) f_is_roll fd_is_roll ["roll"] (Fn2 K 1 F_is_roll) := fn2_ok C_is_roll.F sc_is_roll fun cdv A outer s H E hr => by
  have hN := sc_is_roll.nd
  have hu := units64 hr
  have hu1 := hu_of hr
  exact (ss_one (s2_ret (e2_chain op_le ok_le op_le ok_le e2_int (e2_var 0) (e2_glob (v := .int (999)) rfl T.g_LONGEST_ROLL ⟨_, rfl⟩ rc_LONGEST_ROLL))))
theorem sc__check : FnScope n__check ["takes", "roll"] (defScope s__check) := ⟨rfl, rfl, rfl, by decide +kernel, rfl, by decide +kernel, by decide +kernel⟩
theorem ok__check {f__check : Addr} {fd__check : FuncData} {f_is_roll : Addr} {fd_is_roll : FuncData} {C_StockError : Addr} {f_ini_CallError : Addr} {fd_ini_CallError : FuncData} {k : Nat} (T : Txt K mg a_TAKE_LIMIT a_LONGEST_ROLL) (C__check : Cl K mg "_check" s__check f__check fd__check ["takes", "roll"]) (C_is_roll : Cl K mg "is_roll" s_is_roll f_is_roll fd_is_roll ["roll"]) (X_StockError : ExCl K mg "StockError" C_StockError f_ini_CallError fd_ini_CallError ["code"] ["self", "code"]) (G_ini_CallError : FnOk P w K mg base CX0 k f_ini_CallError fd_ini_CallError ["self", "code"] (spIni ["code"] K)) (G_is_roll : FnOk P w K mg base CX0 (k + 1) f_is_roll fd_is_roll ["roll"] (Fn2 K 1 F_is_roll)) :
    FnOk P w K mg base (L2.CX P w) (k + 1 + 1) f__check fd__check ["takes", "roll"] (Fn2X K mg 2 F__check) := fn2x_ok C__check.F sc__check fun cdv A outer s H E hr => by
  have hN := sc__check.nd
  have hu := units64 hr
  have hu1 := hu_of hr
  exact (ss_cons (s2_if (t2_cmp op_gt ok_gt (e2_callB call_len2 ok_len rfl T.b_len PySem.boot_len (a2_cons (e2_var 0) a2_nil)) (e2_glob (v := .int (12)) rfl T.g_TAKE_LIMIT ⟨_, rfl⟩ rc_TAKE_LIMIT) (nomark _)) (ss_one (s2_raise rfl (takes_of rfl rfl rfl rfl) X_StockError.oe X_StockError.nf (by decide) X_StockError.iC X_StockError.tI G_ini_CallError hr X_StockError.b rfl X_StockError.gm (a2_cons e2_str a2_nil))) ss_nil) (ss_cons (s2_if (t2_not (t2_tru (wk := false) (e2_call G_is_roll hr rfl C_is_roll.m C_is_roll.F.kp C_is_roll.b (a2_cons (e2_var 1) a2_nil) (cons_len (nil_len (n := 0)))))) (ss_one (s2_raise rfl (takes_of rfl rfl rfl rfl) X_StockError.oe X_StockError.nf (by decide) X_StockError.iC X_StockError.tI G_ini_CallError hr X_StockError.b rfl X_StockError.gm (a2_cons e2_str a2_nil))) ss_nil) (ss_one (s2_if (t2_not (t2_tru (wk := false) (e2_callB (cr_all rfl) ok_all rfl T.b_all (by decide +kernel) (a2_cons (e2_ofO (f2_lc [("take", 2)] rfl hN (i2_tup (e2_var 0)) (blkOk_by (own := [("take", 2)]) (by show blkC n__check (defScope s__check) _ _ = true; decide +kernel)) (fun _ _ _ _ _ => (g2_name 2 hN)) (fun _ _ _ _ _ => ts2_nil) (fun _ _ _ _ _ => (e2_chain op_le ok_le op_le ok_le e2_int (e2_var 2) (e2_var 1))))) a2_nil)))) (ss_one (s2_raise rfl (takes_of rfl rfl rfl rfl) X_StockError.oe X_StockError.nf (by decide) X_StockError.iC X_StockError.tI G_ini_CallError hr X_StockError.b rfl X_StockError.gm (a2_cons e2_str a2_nil))) ss_nil))))
theorem sc_in_order : FnScope n_in_order ["takes", "roll"] (defScope s_in_order) := ⟨rfl, rfl, rfl, by decide +kernel, rfl, by decide +kernel, by decide +kernel⟩
theorem ok_in_order {f_in_order : Addr} {fd_in_order : FuncData} {f__check : Addr} {fd__check : FuncData} {k : Nat} (T : Txt K mg a_TAKE_LIMIT a_LONGEST_ROLL) (C_in_order : Cl K mg "in_order" s_in_order f_in_order fd_in_order ["takes", "roll"]) (C__check : Cl K mg "_check" s__check f__check fd__check ["takes", "roll"]) (G__check : FnOk P w K mg base (L2.CX P w) (k) f__check fd__check ["takes", "roll"] (Fn2X K mg 2 F__check)) :
    FnOk P w K mg base (L2.CX P w) (k + 1) f_in_order fd_in_order ["takes", "roll"] (Fn2X K mg 2 F_in_order) := fn2x_ok C_in_order.F sc_in_order fun cdv A outer s H E hr => by
  have hN := sc_in_order.nd
  have hu := units64 hr
  have hu1 := hu_of hr
  exact (ss_cons (s2_expr (e2_callX (takes_of rfl rfl rfl rfl) G__check hr rfl C__check.m C__check.F.kp C__check.b (a2_cons (e2_var 0) (a2_cons (e2_var 1) a2_nil)) (cons_len (cons_len (nil_len (n := 0)))))) (ss_cons (s2_own 2 hN (f2_lst a2_nil)) (ss_cons (s2_set 3 hN e2_int) (ss_cons (s2_set 4 hN e2_int) (ss_cons (s2_for (passes_of rfl) rfl (i2_tup (e2_var 0)) (g2_name 5 hN) (ss_cons (s2_if (t2_cmp op_gt ok_gt (e2_bin op_addD ok_add (e2_var 4) (e2_var 5)) (e2_var 1) (nomark _)) (ss_cons (s2_set 3 hN (e2_bin op_addD ok_add (e2_var 3) e2_int)) (ss_one (s2_set 4 hN e2_int))) ss_nil) (ss_cons (s2_set 4 hN (e2_bin op_addD ok_add (e2_var 4) (e2_var 5))) (ss_one (s2_ownE 2 PySem.F.plainAttrs_list PySem.F.slot_list_append PySem.F.type_list_append mt_append own_append (a2_cons (e2_var 3) a2_nil)))))) (ss_one (s2_frz 2 (s2_ret (e2_callTy call_tuple_of ok_tup rfl T.b_tuple (by decide +kernel) (a2_cons (e2_var 2) a2_nil))))))))))
theorem sc__end_with : FnScope n__end_with ["rooms", "end", "take"] (defScope s__end_with) := ⟨rfl, rfl, rfl, by decide +kernel, rfl, by decide +kernel, by decide +kernel⟩
theorem ok__end_with {f__end_with : Addr} {fd__end_with : FuncData} {k : Nat} (T : Txt K mg a_TAKE_LIMIT a_LONGEST_ROLL) (C__end_with : Cl K mg "_end_with" s__end_with f__end_with fd__end_with ["rooms", "end", "take"]) :
    FnOk P w K mg base CX0 (k + 1) f__end_with fd__end_with ["rooms", "end", "take"] (Fn2 K 3 F__end_with) := fn2_ok C__end_with.F sc__end_with fun cdv A outer s H E hr => by
  have hN := sc__end_with.nd
  have hu := units64 hr
  have hu1 := hu_of hr
  exact (ss_cons (s2_asg (e2_var 1) (g2_tup rfl (gs2_cons (g2_name 3 hN) (gs2_cons (g2_name 4 hN) gs2_nil)))) (ss_cons (s2_while 1000 PassesOwn.never (t2_cmp op_lt ok_lt (e2_var 3) (e2_callB call_len2 ok_len rfl T.b_len PySem.boot_len (a2_cons (e2_var 0) a2_nil)) (nomark _)) (ss_cons (s2_if (t2_cmp op_le ok_le (e2_bin op_addD ok_add (e2_var 4) (e2_var 2)) (e2_sub hu1 (e2_var 0) (e2_var 3) (fun _ _ => rfl)) (nomark _)) (ss_one (s2_ret (e2_tup (a2_cons (e2_var 3) (a2_cons (e2_bin op_addD ok_add (e2_var 4) (e2_var 2)) a2_nil))))) ss_nil) (ss_cons (s2_set 3 hN (e2_bin op_addD ok_add (e2_var 3) e2_int)) (ss_one (s2_set 4 hN e2_int))))) (ss_one (s2_ret e2_non))))
theorem sc__have_room : FnScope n__have_room ["rooms", "takes"] (defScope s__have_room) := ⟨rfl, rfl, rfl, by decide +kernel, rfl, by decide +kernel, by decide +kernel⟩
theorem ok__have_room {f__have_room : Addr} {fd__have_room : FuncData} {f__end_with : Addr} {fd__end_with : FuncData} {k : Nat} (T : Txt K mg a_TAKE_LIMIT a_LONGEST_ROLL) (C__have_room : Cl K mg "_have_room" s__have_room f__have_room fd__have_room ["rooms", "takes"]) (C__end_with : Cl K mg "_end_with" s__end_with f__end_with fd__end_with ["rooms", "end", "take"]) (G__end_with : FnOk P w K mg base CX0 (k) f__end_with fd__end_with ["rooms", "end", "take"] (Fn2 K 3 F__end_with)) :
    FnOk P w K mg base CX0 (k + 1) f__have_room fd__have_room ["rooms", "takes"] (Fn2 K 2 F__have_room) := fn2_ok C__have_room.F sc__have_room fun cdv A outer s H E hr => by
  have hN := sc__have_room.nd
  have hu := units64 hr
  have hu1 := hu_of hr
  exact (ss_cons (s2_set 2 hN (e2_bin op_shl ok_shl e2_int (e2_callB call_len2 ok_len rfl T.b_len PySem.boot_len (a2_cons (e2_var 1) a2_nil)))) (ss_cons (s2_ownLc 3 [("_", 9)] rfl hN rfl rfl (sw_true rfl rfl rfl (by decide +kernel)) (i2_rng1 rfl T.b_range (a2_cons (e2_var 2) a2_nil)) (blkOk_by (own := [("_", 9)]) (by show blkC n__have_room (defScope s__have_room) _ _ = true; decide +kernel)) (fun _ _ _ _ _ => (g2_name 9 hN)) (fun _ _ _ _ _ => ts2_nil) (fun _ _ _ _ _ => e2_non)) (ss_cons (s2_put 3 hu1 (e2_tup (a2_cons e2_int (a2_cons e2_int a2_nil))) e2_int) (ss_cons (s2_for PassesOwn.never rfl (i2_rng1 rfl T.b_range (a2_cons (e2_var 2) a2_nil)) (g2_name 4 hN) (ss_one (s2_if (t2_notN (wk := true) (e2_sub hu1 (e2_varW 3) (e2_weak (e2_var 4)) (fun _ _ => rfl))) (ss_one (s2_for PassesOwn.never rfl (i2_enumT rfl T.b_enumerate (a2_cons (e2_var 1) a2_nil)) (g2_tup rfl (gs2_cons (g2_name 5 hN) (gs2_cons (g2_name 6 hN) gs2_nil))) (ss_cons (s2_set 7 hN (e2_bin op_or ok_or (e2_var 4) (e2_bin op_shl ok_shl e2_int (e2_var 5)))) (ss_cons (s2_set 8 hN (e2_flat (e2_callP G__end_with hr rfl C__end_with.m C__end_with.F.kp C__end_with.b (a2_cons (e2_weak (e2_var 0)) (a2_cons (e2_sub hu1 (e2_varW 3) (e2_weak (e2_var 4)) (fun _ _ => rfl)) (a2_cons (e2_weak (e2_var 6)) a2_nil))) (cons_len (cons_len (cons_len (nil_len (n := 0)))))))) (ss_one (s2_if (w2_pt (w2_and (t2_cmp (op_neP hu) ok_ne (e2_var 7) (e2_var 4) (nomark _)) (w2_and (t2_notN (wk := false) (e2_var 8)) (w2_and1 (w2_pt (w2_or (t2_isN (wk := true) (e2_sub hu1 (e2_varW 3) (e2_weak (e2_var 7)) (fun _ _ => rfl))) (w2_or1 (t2_cmp (op_ltD hu) ok_ltG (e2_weak (e2_var 8)) (e2_sub hu1 (e2_varW 3) (e2_weak (e2_var 7)) (fun _ _ => rfl)) (nomark _))))))))) (ss_one (s2_put 3 hu1 (e2_var 8) (e2_var 7))) ss_nil)))))) ss_nil))) (ss_one (s2_frz 3 (s2_ret (e2_notN (e2_sub hu1 (e2_var 3) (e2_neg e2_int) (fun _ _ => rfl))))))))))
theorem sc__fewest : FnScope n__fewest ["takes", "roll"] (defScope s__fewest) := ⟨rfl, rfl, rfl, by decide +kernel, rfl, by decide +kernel, by decide +kernel⟩
theorem ok__fewest {f__fewest : Addr} {fd__fewest : FuncData} {f__have_room : Addr} {fd__have_room : FuncData} {k : Nat} (T : Txt K mg a_TAKE_LIMIT a_LONGEST_ROLL) (C__fewest : Cl K mg "_fewest" s__fewest f__fewest fd__fewest ["takes", "roll"]) (C__have_room : Cl K mg "_have_room" s__have_room f__have_room fd__have_room ["rooms", "takes"]) (G__have_room : FnOk P w K mg base CX0 (k) f__have_room fd__have_room ["rooms", "takes"] (Fn2 K 2 F__have_room)) :
    FnOk P w K mg base CX0 (k + 1) f__fewest fd__fewest ["takes", "roll"] (Fn2 K 2 F__fewest) := fn2_ok C__fewest.F sc__fewest fun cdv A outer s H E hr => by
  have hN := sc__fewest.nd
  have hu := units64 hr
  have hu1 := hu_of hr
  exact (ss_cons (s2_set 2 hN e2_int) (ss_cons (s2_while 1000 PassesOwn.never (t2_not (t2_tru (wk := false) (e2_call G__have_room hr rfl C__have_room.m C__have_room.F.kp C__have_room.b (a2_cons (e2_ofO (f2_lc [("_", 3)] rfl hN (i2_rng1 rfl T.b_range (a2_cons (e2_var 2) a2_nil)) (blkOk_by (own := [("_", 3)]) (by show blkC n__fewest (defScope s__fewest) _ _ = true; decide +kernel)) (fun _ _ _ _ _ => (g2_name 3 hN)) (fun _ _ _ _ _ => ts2_nil) (fun _ _ _ _ _ => (e2_var 1)))) (a2_cons (e2_var 0) a2_nil)) (cons_len (cons_len (nil_len (n := 0))))))) (ss_one (s2_set 2 hN (e2_bin op_addD ok_add (e2_var 2) e2_int)))) (ss_one (s2_ret (e2_var 2)))))
theorem sc__first_roll : FnScope n__first_roll ["rooms", "take", "others"] (defScope s__first_roll) := ⟨rfl, rfl, rfl, by decide +kernel, rfl, by decide +kernel, by decide +kernel⟩
theorem ok__first_roll {f__first_roll : Addr} {fd__first_roll : FuncData} {f__have_room : Addr} {fd__have_room : FuncData} {k : Nat} (T : Txt K mg a_TAKE_LIMIT a_LONGEST_ROLL) (C__first_roll : Cl K mg "_first_roll" s__first_roll f__first_roll fd__first_roll ["rooms", "take", "others"]) (C__have_room : Cl K mg "_have_room" s__have_room f__have_room fd__have_room ["rooms", "takes"]) (G__have_room : FnOk P w K mg base CX0 (k) f__have_room fd__have_room ["rooms", "takes"] (Fn2 K 2 F__have_room)) :
    FnOk P w K mg base CX0 (k + 1) f__first_roll fd__first_roll ["rooms", "take", "others"] (Fn2 K 3 F__first_roll) := fn2_ok C__first_roll.F sc__first_roll fun cdv A outer s H E hr => by
  have hN := sc__first_roll.nd
  have hu := units64 hr
  have hu1 := hu_of hr
  exact (ss_cons (s2_for PassesOwn.never rfl (i2_enum rfl T.b_enumerate (a2_cons (e2_var 0) a2_nil)) (g2_tup rfl (gs2_cons (g2_name 3 hN) (gs2_cons (g2_name 4 hN) gs2_nil))) (ss_cons (s2_set 5 hN (e2_lst (a2_star (e2_slice (e2_var 0) o2_none (o2_some (e2_var 3))) (a2_cons (e2_bin op_sub ok_sub (e2_var 4) (e2_var 1)) (a2_star (e2_slice (e2_var 0) (o2_some (e2_bin op_addD ok_add (e2_var 3) e2_int)) o2_none) a2_nil))))) (ss_one (s2_if (w2_pt (w2_and (t2_cmp op_ge ok_ge (e2_var 4) (e2_var 1) (nomark _)) (w2_and1 (t2_tru (wk := false) (e2_call G__have_room hr rfl C__have_room.m C__have_room.F.kp C__have_room.b (a2_cons (e2_var 5) (a2_cons (e2_var 2) a2_nil)) (cons_len (cons_len (nil_len (n := 0))))))))) (ss_one (s2_ret (e2_var 3))) ss_nil)))) (ss_one (s2_ret e2_non)))
theorem sc_fewest_rolls : FnScope n_fewest_rolls ["takes", "roll"] (defScope s_fewest_rolls) := ⟨rfl, rfl, rfl, by decide +kernel, rfl, by decide +kernel, by decide +kernel⟩
theorem ok_fewest_rolls {f_fewest_rolls : Addr} {fd_fewest_rolls : FuncData} {f__check : Addr} {fd__check : FuncData} {f__fewest : Addr} {fd__fewest : FuncData} {f__first_roll : Addr} {fd__first_roll : FuncData} {k : Nat} (T : Txt K mg a_TAKE_LIMIT a_LONGEST_ROLL) (C_fewest_rolls : Cl K mg "fewest_rolls" s_fewest_rolls f_fewest_rolls fd_fewest_rolls ["takes", "roll"]) (C__check : Cl K mg "_check" s__check f__check fd__check ["takes", "roll"]) (C__fewest : Cl K mg "_fewest" s__fewest f__fewest fd__fewest ["takes", "roll"]) (C__first_roll : Cl K mg "_first_roll" s__first_roll f__first_roll fd__first_roll ["rooms", "take", "others"]) (G__check : FnOk P w K mg base (L2.CX P w) (k) f__check fd__check ["takes", "roll"] (Fn2X K mg 2 F__check)) (G__fewest : FnOk P w K mg base CX0 (k) f__fewest fd__fewest ["takes", "roll"] (Fn2 K 2 F__fewest)) (G__first_roll : FnOk P w K mg base CX0 (k) f__first_roll fd__first_roll ["rooms", "take", "others"] (Fn2 K 3 F__first_roll)) :
    FnOk P w K mg base (L2.CX P w) (k + 1) f_fewest_rolls fd_fewest_rolls ["takes", "roll"] (Fn2X K mg 2 F_fewest_rolls) := fn2x_ok C_fewest_rolls.F sc_fewest_rolls fun cdv A outer s H E hr => by
  have hN := sc_fewest_rolls.nd
  have hu := units64 hr
  have hu1 := hu_of hr
  exact (ss_cons (s2_expr (e2_callX (takes_of rfl rfl rfl rfl) G__check hr rfl C__check.m C__check.F.kp C__check.b (a2_cons (e2_var 0) (a2_cons (e2_var 1) a2_nil)) (cons_len (cons_len (nil_len (n := 0)))))) (ss_cons (s2_ownLc 2 [("_", 7)] rfl hN rfl rfl (sw_true rfl rfl rfl (by decide +kernel)) (i2_rng1 rfl T.b_range (a2_cons (e2_call G__fewest hr rfl C__fewest.m C__fewest.F.kp C__fewest.b (a2_cons (e2_var 0) (a2_cons (e2_var 1) a2_nil)) (cons_len (cons_len (nil_len (n := 0))))) a2_nil)) (blkOk_by (own := [("_", 7)]) (by show blkC n_fewest_rolls (defScope s_fewest_rolls) _ _ = true; decide +kernel)) (fun _ _ _ _ _ => (g2_name 7 hN)) (fun _ _ _ _ _ => ts2_nil) (fun _ _ _ _ _ => (e2_var 1))) (ss_cons (s2_own 3 hN (f2_lst a2_nil)) (ss_cons (s2_for (passes_of rfl) rfl (i2_enumT rfl T.b_enumerate (a2_cons (e2_var 0) a2_nil)) (g2_tup rfl (gs2_cons (g2_name 4 hN) (gs2_cons (g2_name 5 hN) gs2_nil))) (ss_cons (s2_set 6 hN (e2_flat (e2_callP G__first_roll hr rfl C__first_roll.m C__first_roll.F.kp C__first_roll.b (a2_cons (e2_varW 2) (a2_cons (e2_weak (e2_var 5)) (a2_cons (e2_weak (e2_slice (e2_var 0) (o2_some (e2_bin op_addD ok_add (e2_var 4) e2_int)) o2_none)) a2_nil))) (cons_len (cons_len (cons_len (nil_len (n := 0)))))))) (ss_cons (s2_put 2 hu1 (e2_flat (e2_bin op_sub ok_sub (e2_sub hu1 (e2_varW 2) (e2_weak (e2_var 6)) (fun _ _ => rfl)) (e2_weak (e2_var 5)))) (e2_var 6)) (ss_one (s2_ownE 3 PySem.F.plainAttrs_list PySem.F.slot_list_append PySem.F.type_list_append mt_append own_append (a2_cons (e2_var 6) a2_nil)))))) (ss_one (s2_frz 3 (s2_ret (e2_callTy call_tuple_of ok_tup rfl T.b_tuple (by decide +kernel) (a2_cons (e2_var 3) a2_nil)))))))))
theorem sc__used_of : FnScope n__used_of ["takes", "rolls", "number"] (defScope s__used_of) := ⟨rfl, rfl, rfl, by decide +kernel, rfl, by decide +kernel, by decide +kernel⟩
theorem ok__used_of {f__used_of : Addr} {fd__used_of : FuncData} {k : Nat} (T : Txt K mg a_TAKE_LIMIT a_LONGEST_ROLL) (C__used_of : Cl K mg "_used_of" s__used_of f__used_of fd__used_of ["takes", "rolls", "number"]) :
    FnOk P w K mg base CX0 (k + 1) f__used_of fd__used_of ["takes", "rolls", "number"] (Fn2 K 3 F__used_of) := fn2_ok C__used_of.F sc__used_of fun cdv A outer s H E hr => by
  have hN := sc__used_of.nd
  have hu := units64 hr
  have hu1 := hu_of hr
  exact (ss_one (s2_ret (e2_callB (cr_sum rfl) ok_sum rfl T.b_sum (by decide +kernel) (a2_cons (e2_ofO (f2_lc [("take", 3), ("other", 4)] rfl hN (i2_zip rfl T.b_zip (a2_cons (e2_var 0) (a2_cons (e2_var 1) a2_nil))) (blkOk_by (own := [("take", 3), ("other", 4)]) (by show blkC n__used_of (defScope s__used_of) _ _ = true; decide +kernel)) (fun _ _ _ _ _ => (g2_tup rfl (gs2_cons (g2_name 3 hN) (gs2_cons (g2_name 4 hN) gs2_nil)))) (fun _ _ _ _ _ => (ts2_one (t2_cmp (op_eqP hu) ok_eq (e2_var 4) (e2_var 2) (nomark _)))) (fun _ _ _ _ _ => (e2_var 3)))) a2_nil))))
theorem sc__are_right : FnScope n__are_right ["takes", "roll", "rolls"] (defScope s__are_right) := ⟨rfl, rfl, rfl, by decide +kernel, rfl, by decide +kernel, by decide +kernel⟩
theorem ok__are_right {f__are_right : Addr} {fd__are_right : FuncData} {f__used_of : Addr} {fd__used_of : FuncData} {k : Nat} (T : Txt K mg a_TAKE_LIMIT a_LONGEST_ROLL) (C__are_right : Cl K mg "_are_right" s__are_right f__are_right fd__are_right ["takes", "roll", "rolls"]) (C__used_of : Cl K mg "_used_of" s__used_of f__used_of fd__used_of ["takes", "rolls", "number"]) (G__used_of : FnOk P w K mg base CX0 (k) f__used_of fd__used_of ["takes", "rolls", "number"] (Fn2 K 3 F__used_of)) :
    FnOk P w K mg base CX0 (k + 1) f__are_right fd__are_right ["takes", "roll", "rolls"] (Fn2 K 3 F__are_right) := fn2_ok C__are_right.F sc__are_right fun cdv A outer s H E hr => by
  have hN := sc__are_right.nd
  have hu := units64 hr
  have hu1 := hu_of hr
  exact (ss_cons (s2_if (w2_pt (w2_or (t2_cmp (op_neP hu) ok_ne (e2_callB call_len2 ok_len rfl T.b_len PySem.boot_len (a2_cons (e2_var 2) a2_nil)) (e2_callB call_len2 ok_len rfl T.b_len PySem.boot_len (a2_cons (e2_var 0) a2_nil)) (nomark _)) (w2_or1 (t2_cmp op_lt ok_lt (e2_minD2 rfl hu rfl T.b_min (e2_var 2) e2_int) e2_int (nomark _))))) (ss_one (s2_ret e2_bl)) ss_nil) (ss_one (s2_ret (e2_callB (cr_all rfl) ok_all rfl T.b_all (by decide +kernel) (a2_cons (e2_ofO (f2_lc [("number", 3)] rfl hN (i2_tup (e2_var 2)) (blkOk_by (own := [("number", 3)]) (by show blkC n__are_right (defScope s__are_right) _ _ = true; decide +kernel)) (fun _ _ _ _ _ => (g2_name 3 hN)) (fun _ _ _ _ _ => ts2_nil) (fun _ _ _ _ _ => (e2_cmp op_le ok_le (e2_call G__used_of hr rfl C__used_of.m C__used_of.F.kp C__used_of.b (a2_cons (e2_var 0) (a2_cons (e2_var 2) (a2_cons (e2_var 3) a2_nil))) (cons_len (cons_len (cons_len (nil_len (n := 0)))))) (e2_var 1) (nomark _))))) a2_nil)))))
theorem sc_takes_rolls : FnScope n_takes_rolls ["takes", "roll", "rolls"] (defScope s_takes_rolls) := ⟨rfl, rfl, rfl, by decide +kernel, rfl, by decide +kernel, by decide +kernel⟩
theorem ok_takes_rolls {f_takes_rolls : Addr} {fd_takes_rolls : FuncData} {f__are_right : Addr} {fd__are_right : FuncData} {f__check : Addr} {fd__check : FuncData} {k : Nat} (T : Txt K mg a_TAKE_LIMIT a_LONGEST_ROLL) (C_takes_rolls : Cl K mg "takes_rolls" s_takes_rolls f_takes_rolls fd_takes_rolls ["takes", "roll", "rolls"]) (C__are_right : Cl K mg "_are_right" s__are_right f__are_right fd__are_right ["takes", "roll", "rolls"]) (C__check : Cl K mg "_check" s__check f__check fd__check ["takes", "roll"]) (G__are_right : FnOk P w K mg base CX0 (k) f__are_right fd__are_right ["takes", "roll", "rolls"] (Fn2 K 3 F__are_right)) (G__check : FnOk P w K mg base (L2.CX P w) (k) f__check fd__check ["takes", "roll"] (Fn2X K mg 2 F__check)) :
    FnOk P w K mg base (L2.CX P w) (k + 1) f_takes_rolls fd_takes_rolls ["takes", "roll", "rolls"] (Fn2X K mg 3 F_takes_rolls) := fn2x_ok C_takes_rolls.F sc_takes_rolls fun cdv A outer s H E hr => by
  have hN := sc_takes_rolls.nd
  have hu := units64 hr
  have hu1 := hu_of hr
  exact (ss_cons (s2_expr (e2_callX (takes_of rfl rfl rfl rfl) G__check hr rfl C__check.m C__check.F.kp C__check.b (a2_cons (e2_var 0) (a2_cons (e2_var 1) a2_nil)) (cons_len (cons_len (nil_len (n := 0)))))) (ss_one (s2_ret (e2_call G__are_right hr rfl C__are_right.m C__are_right.F.kp C__are_right.b (a2_cons (e2_var 0) (a2_cons (e2_var 1) (a2_cons (e2_var 2) a2_nil))) (cons_len (cons_len (cons_len (nil_len (n := 0)))))))))
theorem sc_short_ends : FnScope n_short_ends ["takes", "roll", "rolls"] (defScope s_short_ends) := ⟨rfl, rfl, rfl, by decide +kernel, rfl, by decide +kernel, by decide +kernel⟩
theorem ok_short_ends {f_short_ends : Addr} {fd_short_ends : FuncData} {f__are_right : Addr} {fd__are_right : FuncData} {f__check : Addr} {fd__check : FuncData} {f__used_of : Addr} {fd__used_of : FuncData} {C_StockError : Addr} {f_ini_CallError : Addr} {fd_ini_CallError : FuncData} {k : Nat} (T : Txt K mg a_TAKE_LIMIT a_LONGEST_ROLL) (C_short_ends : Cl K mg "short_ends" s_short_ends f_short_ends fd_short_ends ["takes", "roll", "rolls"]) (C__are_right : Cl K mg "_are_right" s__are_right f__are_right fd__are_right ["takes", "roll", "rolls"]) (C__check : Cl K mg "_check" s__check f__check fd__check ["takes", "roll"]) (C__used_of : Cl K mg "_used_of" s__used_of f__used_of fd__used_of ["takes", "rolls", "number"]) (X_StockError : ExCl K mg "StockError" C_StockError f_ini_CallError fd_ini_CallError ["code"] ["self", "code"]) (G_ini_CallError : FnOk P w K mg base CX0 k f_ini_CallError fd_ini_CallError ["self", "code"] (spIni ["code"] K)) (G__are_right : FnOk P w K mg base CX0 (k + 1) f__are_right fd__are_right ["takes", "roll", "rolls"] (Fn2 K 3 F__are_right)) (G__check : FnOk P w K mg base (L2.CX P w) (k + 1) f__check fd__check ["takes", "roll"] (Fn2X K mg 2 F__check)) (G__used_of : FnOk P w K mg base CX0 (k + 1) f__used_of fd__used_of ["takes", "rolls", "number"] (Fn2 K 3 F__used_of)) :
    FnOk P w K mg base (L2.CX P w) (k + 1 + 1) f_short_ends fd_short_ends ["takes", "roll", "rolls"] (Fn2X K mg 3 F_short_ends) := fn2x_ok C_short_ends.F sc_short_ends fun cdv A outer s H E hr => by
  have hN := sc_short_ends.nd
  have hu := units64 hr
  have hu1 := hu_of hr
  exact (ss_cons (s2_expr (e2_callX (takes_of rfl rfl rfl rfl) G__check hr rfl C__check.m C__check.F.kp C__check.b (a2_cons (e2_var 0) (a2_cons (e2_var 1) a2_nil)) (cons_len (cons_len (nil_len (n := 0)))))) (ss_cons (s2_if (t2_not (t2_tru (wk := false) (e2_call G__are_right hr rfl C__are_right.m C__are_right.F.kp C__are_right.b (a2_cons (e2_var 0) (a2_cons (e2_var 1) (a2_cons (e2_var 2) a2_nil))) (cons_len (cons_len (cons_len (nil_len (n := 0)))))))) (ss_one (s2_raise rfl (takes_of rfl rfl rfl rfl) X_StockError.oe X_StockError.nf (by decide) X_StockError.iC X_StockError.tI G_ini_CallError hr X_StockError.b rfl X_StockError.gm (a2_cons e2_str a2_nil))) ss_nil) (ss_one (s2_ret (e2_callTy call_tuple_of ok_tup rfl T.b_tuple (by decide +kernel) (a2_cons (e2_ofO (f2_lc [("number", 3)] rfl hN (i2_rng1 rfl T.b_range (a2_cons (e2_bin op_addD ok_add (e2_maxD2 rfl hu rfl T.b_max (e2_var 2) (e2_neg e2_int)) e2_int) a2_nil)) (blkOk_by (own := [("number", 3)]) (by show blkC n_short_ends (defScope s_short_ends) _ _ = true; decide +kernel)) (fun _ _ _ _ _ => (g2_name 3 hN)) (fun _ _ _ _ _ => ts2_nil) (fun _ _ _ _ _ => (e2_bin op_sub ok_sub (e2_var 1) (e2_call G__used_of hr rfl C__used_of.m C__used_of.F.kp C__used_of.b (a2_cons (e2_var 0) (a2_cons (e2_var 2) (a2_cons (e2_var 3) a2_nil))) (cons_len (cons_len (cons_len (nil_len (n := 0)))))))))) a2_nil))))))
theorem sc__law_take : FnScope n__law_take ["d", "many"] (defScope s__law_take) := ⟨rfl, rfl, rfl, by decide +kernel, rfl, by decide +kernel, by decide +kernel⟩
theorem ok__law_take {f__law_take : Addr} {fd__law_take : FuncData} {k : Nat} (T : Txt K mg a_TAKE_LIMIT a_LONGEST_ROLL) (C__law_take : Cl K mg "_law_take" s__law_take f__law_take fd__law_take ["d", "many"]) :
    FnOk P w K mg base CX0 (k + 1) f__law_take fd__law_take ["d", "many"] (Fn2 K 2 F__law_take) := fn2_ok C__law_take.F sc__law_take fun cdv A outer s H E hr => by
  have hN := sc__law_take.nd
  have hu := units64 hr
  have hu1 := hu_of hr
  exact (ss_cons (s2_if (w2_pt (w2_and (t2_cmp (op_eqP hu) ok_eq (e2_sub hu1 (e2_var 0) e2_int (fun _ _ => rfl)) e2_int (nomark _)) (w2_and1 (t2_cmp op_lt ok_lt (e2_sub hu1 (e2_var 0) e2_int (fun _ _ => rfl)) (e2_callB call_len2 ok_len rfl T.b_len PySem.boot_len (a2_cons (e2_sub hu1 (e2_var 0) e2_int (fun _ _ => rfl)) a2_nil)) (nomark _))))) (ss_cons (s2_put 0 hu1 (e2_callB call_abs ok_abs rfl T.b_abs (by decide +kernel) (a2_cons (e2_callTy call_int2 ok_int rfl T.b_int (by decide +kernel) (a2_cons (e2_sub hu1 (e2_sub hu1 (e2_var 0) e2_int (fun _ _ => rfl)) (e2_sub hu1 (e2_var 0) e2_int (fun _ _ => rfl)) (fun _ _ => rfl)) a2_nil)) a2_nil)) e2_int) (ss_cons (s2_put 0 hu1 (e2_bin op_addD ok_add (e2_sub hu1 (e2_var 0) e2_int (fun _ _ => rfl)) e2_int) e2_int) (ss_one (s2_if (t2_cmp op_lt ok_lt (e2_sub hu1 (e2_var 0) e2_int (fun _ _ => rfl)) (e2_bin op_pow ok_pow e2_int e2_int) (nomark _)) (ss_cons (s2_set 2 hN (e2_callTy call_int2 ok_int rfl T.b_int (by decide +kernel) (a2_cons (e2_sub hu1 (e2_var 0) e2_int (fun _ _ => rfl)) a2_nil))) (ss_cons (s2_put 0 hu1 e2_int e2_int) (ss_one (s2_ret (e2_bin op_mod ok_mod (e2_var 2) (e2_var 1)))))) ss_nil)))) ss_nil) (ss_cons (s2_if (t2_cmp op_gt ok_gt (e2_sub hu1 (e2_var 0) e2_int (fun _ _ => rfl)) e2_int (nomark _)) (ss_cons (s2_set 3 hN (e2_bin op_mod ok_mod (e2_callTy call_int2 ok_int rfl T.b_int (by decide +kernel) (a2_cons (e2_sub hu1 (e2_var 0) e2_int (fun _ _ => rfl)) a2_nil)) (e2_var 1))) (ss_cons (s2_put 0 hu1 (e2_bin op_fdiv ok_fdiv (e2_callTy call_int2 ok_int rfl T.b_int (by decide +kernel) (a2_cons (e2_sub hu1 (e2_var 0) e2_int (fun _ _ => rfl)) a2_nil)) (e2_var 1)) e2_int) (ss_one (s2_ret (e2_var 3))))) ss_nil) (ss_cons (s2_put 0 hu1 (e2_bin op_mod ok_mod (e2_callTy call_int2 ok_int rfl T.b_int (by decide +kernel) (a2_cons (e2_bin op_addD ok_add (e2_bin op_mulD ok_mul (e2_sub hu1 (e2_var 0) e2_int (fun _ _ => rfl)) e2_int) e2_int) a2_nil)) e2_int) e2_int) (ss_one (s2_ret (e2_bin op_mod ok_mod (e2_callTy call_int2 ok_int rfl T.b_int (by decide +kernel) (a2_cons (e2_bin op_fdiv ok_fdiv (e2_sub hu1 (e2_var 0) e2_int (fun _ _ => rfl)) e2_int) a2_nil)) (e2_var 1)))))))
theorem sc__law_asked : FnScope n__law_asked ["takes", "roll", "rolls"] (defScope s__law_asked) := ⟨rfl, rfl, rfl, by decide +kernel, rfl, by decide +kernel, by decide +kernel⟩
theorem ok__law_asked {f__law_asked : Addr} {fd__law_asked : FuncData} {f_fewest_rolls : Addr} {fd_fewest_rolls : FuncData} {f_in_order : Addr} {fd_in_order : FuncData} {f_short_ends : Addr} {fd_short_ends : FuncData} {f_takes_rolls : Addr} {fd_takes_rolls : FuncData} {C_StockError : Addr} {f_ini_CallError : Addr} {fd_ini_CallError : FuncData} {k : Nat} (T : Txt K mg a_TAKE_LIMIT a_LONGEST_ROLL) (C__law_asked : Cl K mg "_law_asked" s__law_asked f__law_asked fd__law_asked ["takes", "roll", "rolls"]) (C_fewest_rolls : Cl K mg "fewest_rolls" s_fewest_rolls f_fewest_rolls fd_fewest_rolls ["takes", "roll"]) (C_in_order : Cl K mg "in_order" s_in_order f_in_order fd_in_order ["takes", "roll"]) (C_short_ends : Cl K mg "short_ends" s_short_ends f_short_ends fd_short_ends ["takes", "roll", "rolls"]) (C_takes_rolls : Cl K mg "takes_rolls" s_takes_rolls f_takes_rolls fd_takes_rolls ["takes", "roll", "rolls"]) (X_StockError : ExCl K mg "StockError" C_StockError f_ini_CallError fd_ini_CallError ["code"] ["self", "code"]) (G_fewest_rolls : FnOk P w K mg base (L2.CX P w) (k) f_fewest_rolls fd_fewest_rolls ["takes", "roll"] (Fn2X K mg 2 F_fewest_rolls)) (G_in_order : FnOk P w K mg base (L2.CX P w) (k) f_in_order fd_in_order ["takes", "roll"] (Fn2X K mg 2 F_in_order)) (G_short_ends : FnOk P w K mg base (L2.CX P w) (k) f_short_ends fd_short_ends ["takes", "roll", "rolls"] (Fn2X K mg 3 F_short_ends)) (G_takes_rolls : FnOk P w K mg base (L2.CX P w) (k) f_takes_rolls fd_takes_rolls ["takes", "roll", "rolls"] (Fn2X K mg 3 F_takes_rolls)) :
    FnOk P w K mg base CX0 (k + 1) f__law_asked fd__law_asked ["takes", "roll", "rolls"] (Fn2 K 3 F__law_asked) := fn2_ok C__law_asked.F sc__law_asked fun cdv A outer s H E hr => by
  have hN := sc__law_asked.nd
  have hu := units64 hr
  have hu1 := hu_of hr
  exact (ss_cons (s2_own 3 hN (f2_lst a2_nil)) (ss_cons (s2_for PassesOwn.never rfl (i2_rng1 rfl T.b_range (a2_cons e2_int a2_nil)) (g2_name 4 hN) (ss_one (s2_tryN rfl rfl takes0 (fun W2 pn xe tk pw => (ss_one (s2_if (t2_cmp (op_eqP hu) ok_eq (e2_var 4) e2_int (nomark _)) (ss_one (s2_ownE 3 PySem.F.plainAttrs_list PySem.F.slot_list_append PySem.F.type_list_append mt_append own_append (a2_cons (e2_callX tk G_in_order hr rfl C_in_order.m C_in_order.F.kp C_in_order.b (a2_cons (e2_var 0) (a2_cons (e2_var 1) a2_nil)) (cons_len (cons_len (nil_len (n := 0))))) a2_nil))) (ss_one (s2_if (t2_cmp (op_eqP hu) ok_eq (e2_var 4) e2_int (nomark _)) (ss_one (s2_ownE 3 PySem.F.plainAttrs_list PySem.F.slot_list_append PySem.F.type_list_append mt_append own_append (a2_cons (e2_callX tk G_fewest_rolls hr rfl C_fewest_rolls.m C_fewest_rolls.F.kp C_fewest_rolls.b (a2_cons (e2_var 0) (a2_cons (e2_var 1) a2_nil)) (cons_len (cons_len (nil_len (n := 0))))) a2_nil))) (ss_one (s2_if (t2_cmp (op_eqP hu) ok_eq (e2_var 4) e2_int (nomark _)) (ss_one (s2_ownE 3 PySem.F.plainAttrs_list PySem.F.slot_list_append PySem.F.type_list_append mt_append own_append (a2_cons (e2_callX tk G_takes_rolls hr rfl C_takes_rolls.m C_takes_rolls.F.kp C_takes_rolls.b (a2_cons (e2_var 0) (a2_cons (e2_var 1) (a2_cons (e2_var 2) a2_nil))) (cons_len (cons_len (cons_len (nil_len (n := 0)))))) a2_nil))) (ss_one (s2_ownE 3 PySem.F.plainAttrs_list PySem.F.slot_list_append PySem.F.type_list_append mt_append own_append (a2_cons (e2_callX tk G_short_ends hr rfl C_short_ends.m C_short_ends.F.kp C_short_ends.b (a2_cons (e2_var 0) (a2_cons (e2_var 1) (a2_cons (e2_var 2) a2_nil))) (cons_len (cons_len (cons_len (nil_len (n := 0)))))) a2_nil)))))))))) (.as (i := 5) hN rfl rfl ⟨rfl, by decide, .inl X_StockError.gm⟩ X_StockError.gm X_StockError.te (fun p hp => by cases hp) (fun a oe cls d pn hz hf => psu_of (sv_own 3 PySem.F.plainAttrs_list PySem.F.slot_list_append PySem.F.type_list_append mt_append own_append (au_one (eu_fld (i := 5) X_StockError.ef X_StockError.gm (X_StockError.nf _ (by decide)) hz hf)))) .nil)))) (ss_one (s2_frz 3 (s2_ret (e2_var 3))))))
theorem sc__law_fits : FnScope n__law_fits ["takes", "roll", "rolls"] (defScope s__law_fits) := ⟨rfl, rfl, rfl, by decide +kernel, rfl, by decide +kernel, by decide +kernel⟩
theorem ok__law_fits {f__law_fits : Addr} {fd__law_fits : FuncData} {k : Nat} (T : Txt K mg a_TAKE_LIMIT a_LONGEST_ROLL) (C__law_fits : Cl K mg "_law_fits" s__law_fits f__law_fits fd__law_fits ["takes", "roll", "rolls"]) :
    FnOk P w K mg base CX0 (k + 1) f__law_fits fd__law_fits ["takes", "roll", "rolls"] (Fn2 K 3 F__law_fits) := fn2_ok C__law_fits.F sc__law_fits fun cdv A outer s H E hr => by
  have hN := sc__law_fits.nd
  have hu := units64 hr
  have hu1 := hu_of hr
  exact (ss_cons (s2_if (w2_pt (w2_or (t2_cmp (op_neP hu) ok_ne (e2_callB call_len2 ok_len rfl T.b_len PySem.boot_len (a2_cons (e2_var 2) a2_nil)) (e2_callB call_len2 ok_len rfl T.b_len PySem.boot_len (a2_cons (e2_var 0) a2_nil)) (nomark _)) (w2_or1 (t2_cmp op_gt ok_gt (e2_callB call_len2 ok_len rfl T.b_len PySem.boot_len (a2_cons (e2_ofO (f2_lc [("number", 3)] rfl hN (i2_tup (e2_var 2)) (blkOk_by (own := [("number", 3)]) (by show blkC n__law_fits (defScope s__law_fits) _ _ = true; decide +kernel)) (fun _ _ _ _ _ => (g2_name 3 hN)) (fun _ _ _ _ _ => (ts2_one (t2_cmp op_lt ok_lt (e2_var 3) e2_int (nomark _)))) (fun _ _ _ _ _ => (e2_var 3)))) a2_nil)) e2_int (nomark _))))) (ss_one (s2_ret e2_bl)) ss_nil) (ss_cons (s2_for PassesOwn.never rfl (i2_rng1 rfl T.b_range (a2_cons (e2_if (t2_cmp op_gt ok_gt (e2_callB call_len2 ok_len rfl T.b_len PySem.boot_len (a2_cons (e2_var 2) a2_nil)) e2_int (nomark _)) (e2_bin op_addD ok_add (e2_callB (cr_maxG rfl hu) ok_maxG rfl T.b_max (by decide +kernel) (a2_cons (e2_var 2) a2_nil)) e2_int) e2_int) a2_nil)) (g2_name 3 hN) (ss_one (s2_if (t2_cmp op_gt ok_gt (e2_callB (cr_sum rfl) ok_sum rfl T.b_sum (by decide +kernel) (a2_cons (e2_ofO (f2_lc [("k", 4)] rfl hN (i2_rng1 rfl T.b_range (a2_cons (e2_callB call_len2 ok_len rfl T.b_len PySem.boot_len (a2_cons (e2_var 0) a2_nil)) a2_nil)) (blkOk_by (own := [("k", 4)]) (by show blkC n__law_fits (defScope s__law_fits) _ _ = true; decide +kernel)) (fun _ _ _ _ _ => (g2_name 4 hN)) (fun _ _ _ _ _ => (ts2_one (t2_cmp (op_eqP hu) ok_eq (e2_sub hu1 (e2_var 2) (e2_var 4) (fun _ _ => rfl)) (e2_var 3) (nomark _)))) (fun _ _ _ _ _ => (e2_sub hu1 (e2_var 0) (e2_var 4) (fun _ _ => rfl))))) a2_nil)) (e2_var 1) (nomark _)) (ss_one (s2_ret e2_bl)) ss_nil))) (ss_one (s2_ret e2_bl))))
theorem sc__law_all : FnScope n__law_all ["many"] (defScope s__law_all) := ⟨rfl, rfl, rfl, by decide +kernel, rfl, by decide +kernel, by decide +kernel⟩
theorem ok__law_all {f__law_all : Addr} {fd__law_all : FuncData} {k : Nat} (T : Txt K mg a_TAKE_LIMIT a_LONGEST_ROLL) (C__law_all : Cl K mg "_law_all" s__law_all f__law_all fd__law_all ["many"]) :
    FnOk P w K mg base CX0 (k + 1) f__law_all fd__law_all ["many"] (Fn2 K 1 F__law_all) := fn2_ok C__law_all.F sc__law_all fun cdv A outer s H E hr => by
  have hN := sc__law_all.nd
  have hu := units64 hr
  have hu1 := hu_of hr
  exact (ss_cons (s2_set 1 hN (e2_lst (a2_cons (e2_tup a2_nil) a2_nil))) (ss_cons (s2_for PassesOwn.never rfl (i2_rng1 rfl T.b_range (a2_cons (e2_var 0) a2_nil)) (g2_name 2 hN) (ss_cons (s2_set 3 hN (e2_lst a2_nil)) (ss_cons (s2_for PassesOwn.never rfl (i2_lst (e2_var 1)) (g2_name 4 hN) (ss_one (s2_set 3 hN (e2_bin op_addD ok_add (e2_var 3) (e2_ofO (f2_lc [("number", 5)] rfl hN (i2_rng1 rfl T.b_range (a2_cons (e2_bin op_addD ok_add (e2_callB (cr_maxG rfl hu) ok_maxG rfl T.b_max (by decide +kernel) (a2_cons (e2_bin op_addD ok_add (e2_var 4) (e2_tup (a2_cons (e2_neg e2_int) a2_nil))) a2_nil)) e2_int) a2_nil)) (blkOk_by (own := [("number", 5)]) (by show blkC n__law_all (defScope s__law_all) _ _ = true; decide +kernel)) (fun _ _ _ _ _ => (g2_name 5 hN)) (fun _ _ _ _ _ => ts2_nil) (fun _ _ _ _ _ => (e2_bin op_addD ok_add (e2_var 4) (e2_tup (a2_cons (e2_var 5) a2_nil)))))))))) (ss_one (s2_set 1 hN (e2_var 3)))))) (ss_one (s2_ret (e2_var 1)))))
theorem sc__law_used : FnScope n__law_used ["rolls"] (defScope s__law_used) := ⟨rfl, rfl, rfl, by decide +kernel, rfl, by decide +kernel, by decide +kernel⟩
theorem ok__law_used {f__law_used : Addr} {fd__law_used : FuncData} {k : Nat} (T : Txt K mg a_TAKE_LIMIT a_LONGEST_ROLL) (C__law_used : Cl K mg "_law_used" s__law_used f__law_used fd__law_used ["rolls"]) :
    FnOk P w K mg base CX0 (k + 1) f__law_used fd__law_used ["rolls"] (Fn2 K 1 F__law_used) := fn2_ok C__law_used.F sc__law_used fun cdv A outer s H E hr => by
  have hN := sc__law_used.nd
  have hu := units64 hr
  have hu1 := hu_of hr
  exact (ss_one (s2_ret (e2_lenSetT rfl rfl T.b_len rfl T.b_set (e2_var 0))))
theorem sc__law_ordered : FnScope n__law_ordered ["takes", "roll"] (defScope s__law_ordered) := ⟨rfl, rfl, rfl, by decide +kernel, rfl, by decide +kernel, by decide +kernel⟩
theorem ok__law_ordered {f__law_ordered : Addr} {fd__law_ordered : FuncData} {k : Nat} (T : Txt K mg a_TAKE_LIMIT a_LONGEST_ROLL) (C__law_ordered : Cl K mg "_law_ordered" s__law_ordered f__law_ordered fd__law_ordered ["takes", "roll"]) :
    FnOk P w K mg base CX0 (k + 1) f__law_ordered fd__law_ordered ["takes", "roll"] (Fn2 K 2 F__law_ordered) := fn2_ok C__law_ordered.F sc__law_ordered fun cdv A outer s H E hr => by
  have hN := sc__law_ordered.nd
  have hu := units64 hr
  have hu1 := hu_of hr
  exact (ss_cons (s2_set 2 hN (e2_tup a2_nil)) (ss_cons (s2_set 3 hN e2_int) (ss_cons (s2_for PassesOwn.never rfl (i2_rng1 rfl T.b_range (a2_cons (e2_callB call_len2 ok_len rfl T.b_len PySem.boot_len (a2_cons (e2_var 0) a2_nil)) a2_nil)) (g2_name 4 hN) (ss_one (s2_if (w2_pt (w2_and (t2_cmp op_gt ok_gt (e2_var 4) e2_int (nomark _)) (w2_and1 (t2_cmp op_le ok_le (e2_sub hu1 (e2_var 0) (e2_var 4) (fun _ _ => rfl)) (e2_var 3) (nomark _))))) (ss_cons (s2_set 3 hN (e2_bin op_sub ok_sub (e2_var 3) (e2_sub hu1 (e2_var 0) (e2_var 4) (fun _ _ => rfl)))) (ss_one (s2_set 2 hN (e2_bin op_addD ok_add (e2_var 2) (e2_tup (a2_cons (e2_sub hu1 (e2_var 2) (e2_neg e2_int) (fun _ _ => rfl)) a2_nil)))))) (ss_cons (s2_set 3 hN (e2_bin op_sub ok_sub (e2_var 1) (e2_sub hu1 (e2_var 0) (e2_var 4) (fun _ _ => rfl)))) (ss_one (s2_set 2 hN (e2_bin op_addD ok_add (e2_var 2) (e2_tup (a2_cons (e2_if (t2_cmp op_gt ok_gt (e2_var 4) e2_int (nomark _)) (e2_bin op_addD ok_add (e2_sub hu1 (e2_var 2) (e2_neg e2_int) (fun _ _ => rfl)) e2_int) e2_int) a2_nil))))))))) (ss_one (s2_ret (e2_var 2))))))
abbrev s__law_begin : Stmt := top 19
abbrev n__law_begin : List Str := ["script", "seed", "cell"]
theorem sc__law_begin : FnScope n__law_begin ["script"] (defScope s__law_begin) := ⟨rfl, rfl, rfl, by decide +kernel, rfl, by decide +kernel, by decide +kernel⟩
theorem ok__law_begin {f_ : Addr} {fd_ : FuncData} {k : Nat} (T : Txt K mg a_TAKE_LIMIT a_LONGEST_ROLL) (C : Cl K mg "_law_begin" s__law_begin f_ fd_ ["script"]) : FnOk P w K mg base CX0 (k + 1) f_ fd_ ["script"] (spBegin K) := by
  refine C.F.ok sc__law_begin (fun vs H Q E h => ?_) (fun cdv A outer s H vs Q E hr h => ?_)
  · obtain ⟨a, ns, rfl, _⟩ := h
    rfl
  obtain ⟨a, ns, rfl, hS, hl, q⟩ := h
  have hN := sc__law_begin.nd
  refine ⟨_, pss_cons (ps_set (i := 1) hN rfl (Or.inl rfl) pe_int)
    (pss_cons (ps_for PassesOwn.never rfl (pi_list (pv 0)) (pg_name (i := 2) hN rfl (Or.inl rfl))
      (pss_one (ps_set (i := 1) hN rfl (Or.inl rfl) (pe_op op_mod (pe_op op_add (pe_op op_add (pe_op op_mul (pv 1) pe_int) (pe_op op_mod (pe_callTy call_int1 rfl T.b_int (by decide +kernel) (pa_cons (pv 2) pa_nil)) pe_int)) pe_int) pe_int))))
    (pss_one (ps_ret (pe_lst (pa_cons (pe_callTy call_list_of rfl T.b_list (by decide +kernel) (pa_cons (pv 0) pa_nil)) (pa_cons pe_int (pa_cons pe_int (pa_cons (pv 1) pa_nil)))))))), ?_⟩
  refine ⟨_, rfl, a, rfl, ⟨_, hS⟩, for_list (K := K) (a := a) (xs := ns.map V.int) (fun i σ H2 => ∃ (seed : Int) (v : Option V), σ = [some (.ref a), some (.int seed), v] ∧ H2 = H ∧ 0 ≤ seed ∧ seed < 2147483647)
    ⟨1, none, rfl, rfl, by decide, by decide⟩ (fun i σ H2 _ ⟨_, _, _, e, _⟩ => e ▸ hS) ?_ ?_⟩
  · rintro i y σ H2 hi ⟨seed, v, rfl, rfl, hs⟩
    obtain ⟨z, rfl⟩ := sqL_ints hS hi
    exact ⟨_, rfl, _, _, rfl, rfl, (.inr ⟨by decide, by decide⟩), _, rfl, .inl ⟨_, rfl, _, _, rfl, rfl, (by show (0 : Int) < 2147483629; decide), _, _, rfl, rfl, _, _, rfl, rfl, _, _, rfl, rfl, (by show (0 : Int) < 2147483647; decide), _, _, rfl, rfl, Int.emod_nonneg _ (by decide), Int.emod_lt_of_pos _ (by decide)⟩⟩
  · rintro σ H2 ⟨seed, v, rfl, rfl, hs⟩
    refine ⟨_, rfl, a, _, rfl, .inl hS, fun l hl' => ⟨_, rfl, (by show 4 ≤ sizeLine; decide), fun p hp => ?_⟩⟩
    have npl : p ≠ l := fun z => by subst z; rw [upd_same] at hp; cases hp
    have hpH : H2 p = none := by rw [upd_ne npl] at hp; exact hp
    exact q p l seed _ hs.1 hs.2 npl ((Evo.new hl').trans (Evo.new hp)) upd_same (by rw [upd_ne npl.symm]; exact upd_same)
theorem sc_law : FnScope n_law ["script"] (defScope s_law) := ⟨rfl, rfl, rfl, by decide +kernel, rfl, by decide +kernel, by decide +kernel⟩
theorem ok_law {f_law : Addr} {fd_law : FuncData} {f__law_begin : Addr} {fd__law_begin : FuncData} {f__law_all : Addr} {fd__law_all : FuncData} {f__law_asked : Addr} {fd__law_asked : FuncData} {f__law_fits : Addr} {fd__law_fits : FuncData} {f__law_ordered : Addr} {fd__law_ordered : FuncData} {f__law_take : Addr} {fd__law_take : FuncData} {f__law_used : Addr} {fd__law_used : FuncData} {k : Nat} (T : Txt K mg a_TAKE_LIMIT a_LONGEST_ROLL) (C_law : Cl K mg "law" s_law f_law fd_law ["script"]) (C__law_begin : Cl K mg "_law_begin" s__law_begin f__law_begin fd__law_begin ["script"]) (G__law_begin : FnOk P w K mg base CX0 k f__law_begin fd__law_begin ["script"] (spBegin K)) (C__law_all : Cl K mg "_law_all" s__law_all f__law_all fd__law_all ["many"]) (C__law_asked : Cl K mg "_law_asked" s__law_asked f__law_asked fd__law_asked ["takes", "roll", "rolls"]) (C__law_fits : Cl K mg "_law_fits" s__law_fits f__law_fits fd__law_fits ["takes", "roll", "rolls"]) (C__law_ordered : Cl K mg "_law_ordered" s__law_ordered f__law_ordered fd__law_ordered ["takes", "roll"]) (C__law_take : Cl K mg "_law_take" s__law_take f__law_take fd__law_take ["d", "many"]) (C__law_used : Cl K mg "_law_used" s__law_used f__law_used fd__law_used ["rolls"]) (G__law_all : FnOk P w K mg base CX0 (k) f__law_all fd__law_all ["many"] (Fn2 K 1 F__law_all)) (G__law_asked : FnOk P w K mg base CX0 (k) f__law_asked fd__law_asked ["takes", "roll", "rolls"] (Fn2 K 3 F__law_asked)) (G__law_fits : FnOk P w K mg base CX0 (k) f__law_fits fd__law_fits ["takes", "roll", "rolls"] (Fn2 K 3 F__law_fits)) (G__law_ordered : FnOk P w K mg base CX0 (k) f__law_ordered fd__law_ordered ["takes", "roll"] (Fn2 K 2 F__law_ordered)) (G__law_take : FnOk P w K mg base CX0 (k) f__law_take fd__law_take ["d", "many"] (Fn2 K 2 F__law_take)) (G__law_used : FnOk P w K mg base CX0 (k) f__law_used fd__law_used ["rolls"] (Fn2 K 1 F__law_used)) (fin : ∀ (ns : List Int) (seed : Int), ns.length ≤ 63 → 0 ≤ seed → seed < 2147483647 → ∃ sg S, m_law (lawS 17) [drawer ns seed] = .ok (.rt (.bl true), sg, S)) :
    FnOk P w K mg base CX0 (k + 1) f_law fd_law ["script"] (spLaw K) := by
  refine C_law.F.ok sc_law (fun vs H Q E h => ?_) (fun cdv A outer s H vs Q E hr h => ?_)
  · obtain ⟨a, ns, rfl, _⟩ := h
    rfl
  obtain ⟨a, ns, rfl, hS, hl, q⟩ := h
  have hN := sc_law.nd
  have hu := units64 hr
  have hu1 := hu_of hr
  have rest : PSs2 (cxOf CX0 P w K mg base n_law "law" (defScope s_law) f_law cdv A outer s H E).nox W0 ((defBody s_law).drop 1) m_law := by
    exact (ss_cons (s2_set 2 hN (e2_sub hu1 (e2_lst (a2_cons (e2_bin op_addD ok_add e2_int (e2_call G__law_take hr rfl C__law_take.m C__law_take.F.kp C__law_take.b (a2_cons (e2_var 1) (a2_cons e2_int a2_nil)) (cons_len (cons_len (nil_len (n := 0)))))) (a2_cons e2_int (a2_cons e2_int (a2_cons e2_int a2_nil))))) (e2_call G__law_take hr rfl C__law_take.m C__law_take.F.kp C__law_take.b (a2_cons (e2_var 1) (a2_cons e2_int a2_nil)) (cons_len (cons_len (nil_len (n := 0))))) (fun _ _ => rfl))) (ss_cons (s2_set 3 hN (e2_callTy call_tuple_of ok_tup rfl T.b_tuple (by decide +kernel) (a2_cons (e2_ofO (f2_lc [("k", 16)] rfl hN (i2_rng1 rfl T.b_range (a2_cons (e2_call G__law_take hr rfl C__law_take.m C__law_take.F.kp C__law_take.b (a2_cons (e2_var 1) (a2_cons e2_int a2_nil)) (cons_len (cons_len (nil_len (n := 0))))) a2_nil)) (blkOk_by (own := [("k", 16)]) (by show blkC n_law (defScope s_law) _ _ = true; decide +kernel)) (fun _ _ _ _ _ => (g2_name 16 hN)) (fun _ _ _ _ _ => ts2_nil) (fun _ _ _ _ _ => (e2_if (t2_cmp op_gt ok_gt (e2_call G__law_take hr rfl C__law_take.m C__law_take.F.kp C__law_take.b (a2_cons (e2_var 1) (a2_cons e2_int a2_nil)) (cons_len (cons_len (nil_len (n := 0))))) e2_int (nomark _)) (e2_bin op_addD ok_add e2_int (e2_call G__law_take hr rfl C__law_take.m C__law_take.F.kp C__law_take.b (a2_cons (e2_var 1) (a2_cons (e2_var 2) a2_nil)) (cons_len (cons_len (nil_len (n := 0)))))) (e2_callB (call_max2 rfl) ok_max2 rfl T.b_max (by decide +kernel) (a2_cons e2_int (a2_cons (e2_bin op_fdiv ok_fdiv (e2_var 2) (e2_bin op_addD ok_add e2_int (e2_call G__law_take hr rfl C__law_take.m C__law_take.F.kp C__law_take.b (a2_cons (e2_var 1) (a2_cons e2_int a2_nil)) (cons_len (cons_len (nil_len (n := 0))))))) a2_nil))))))) a2_nil))) (ss_cons (s2_set 4 hN (e2_callTy call_tuple_of ok_tup rfl T.b_tuple (by decide +kernel) (a2_cons (e2_ofO (f2_lc [("k", 16)] rfl hN (i2_rng1 rfl T.b_range (a2_cons (e2_callB call_len2 ok_len rfl T.b_len PySem.boot_len (a2_cons (e2_var 3) a2_nil)) a2_nil)) (blkOk_by (own := [("k", 16)]) (by show blkC n_law (defScope s_law) _ _ = true; decide +kernel)) (fun _ _ _ _ _ => (g2_name 16 hN)) (fun _ _ _ _ _ => ts2_nil) (fun _ _ _ _ _ => (e2_call G__law_take hr rfl C__law_take.m C__law_take.F.kp C__law_take.b (a2_cons (e2_var 1) (a2_cons e2_int a2_nil)) (cons_len (cons_len (nil_len (n := 0)))))))) a2_nil))) (ss_cons (s2_set 5 hN (e2_call G__law_ordered hr rfl C__law_ordered.m C__law_ordered.F.kp C__law_ordered.b (a2_cons (e2_var 3) (a2_cons (e2_var 2) a2_nil)) (cons_len (cons_len (nil_len (n := 0)))))) (ss_cons (s2_letGo 6 (s2_ownLc 6 [("row", 17)] rfl hN rfl rfl (sw_true rfl rfl rfl (by decide +kernel)) (i2_lst (e2_call G__law_all hr rfl C__law_all.m C__law_all.F.kp C__law_all.b (a2_cons (e2_callB call_len2 ok_len rfl T.b_len PySem.boot_len (a2_cons (e2_var 3) a2_nil)) a2_nil) (cons_len (nil_len (n := 0))))) (blkOk_by (own := [("row", 17)]) (by show blkC n_law (defScope s_law) _ _ = true; decide +kernel)) (fun _ _ _ _ _ => (g2_name 17 hN)) (fun _ _ _ _ _ => (ts2_one (t2_tru (wk := false) (e2_call G__law_fits hr rfl C__law_fits.m C__law_fits.F.kp C__law_fits.b (a2_cons (e2_var 3) (a2_cons (e2_var 2) (a2_cons (e2_var 17) a2_nil))) (cons_len (cons_len (cons_len (nil_len (n := 0))))))))) (fun _ _ _ _ _ => (e2_var 17)))) (ss_cons (s2_set 7 hN (e2_callB (cr_minG rfl hu) ok_minG rfl T.b_min (by decide +kernel) (a2_cons (e2_ofO (f2_lc [("row", 17)] rfl hN (i2_lst (e2_var 6)) (blkOk_by (own := [("row", 17)]) (by show blkC n_law (defScope s_law) _ _ = true; decide +kernel)) (fun _ _ _ _ _ => (g2_name 17 hN)) (fun _ _ _ _ _ => ts2_nil) (fun _ _ _ _ _ => (e2_call G__law_used hr rfl C__law_used.m C__law_used.F.kp C__law_used.b (a2_cons (e2_var 17) a2_nil) (cons_len (nil_len (n := 0))))))) a2_nil))) (ss_cons (s2_letGo 8 (s2_ownLc 8 [("row", 17)] rfl hN rfl rfl (sw_true rfl rfl rfl (by decide +kernel)) (i2_lst (e2_var 6)) (blkOk_by (own := [("row", 17)]) (by show blkC n_law (defScope s_law) _ _ = true; decide +kernel)) (fun _ _ _ _ _ => (g2_name 17 hN)) (fun _ _ _ _ _ => (ts2_one (t2_cmp (op_eqP hu) ok_eq (e2_callTy call_list_of ok_lst rfl T.b_list (by decide +kernel) (a2_cons (e2_var 17) a2_nil)) (e2_callB (cr_sortTu hu) ok_sortT rfl T.b_sorted (by decide +kernel) (a2_cons (e2_var 17) a2_nil)) (nomark _)))) (fun _ _ _ _ _ => (e2_call G__law_used hr rfl C__law_used.m C__law_used.F.kp C__law_used.b (a2_cons (e2_var 17) a2_nil) (cons_len (nil_len (n := 0))))))) (ss_cons (s2_if (w2_pt (w2_and (t2_cmp op_gt ok_gt (e2_callB call_len2 ok_len rfl T.b_len PySem.boot_len (a2_cons (e2_var 3) a2_nil)) e2_int (nomark _)) (w2_and1 (t2_cmp (op_neP hu) ok_ne (e2_call G__law_used hr rfl C__law_used.m C__law_used.F.kp C__law_used.b (a2_cons (e2_var 5) a2_nil) (cons_len (nil_len (n := 0)))) (e2_callB (cr_minG rfl hu) ok_minG rfl T.b_min (by decide +kernel) (a2_cons (e2_var 8) a2_nil)) (nomark _))))) (ss_one (s2_ret e2_bl)) ss_nil) (ss_cons (s2_set 9 hN (e2_sub hu1 (e2_ofO (f2_lc [("row", 17)] rfl hN (i2_lst (e2_var 6)) (blkOk_by (own := [("row", 17)]) (by show blkC n_law (defScope s_law) _ _ = true; decide +kernel)) (fun _ _ _ _ _ => (g2_name 17 hN)) (fun _ _ _ _ _ => (ts2_one (t2_cmp (op_eqP hu) ok_eq (e2_call G__law_used hr rfl C__law_used.m C__law_used.F.kp C__law_used.b (a2_cons (e2_var 17) a2_nil) (cons_len (nil_len (n := 0)))) (e2_var 7) (nomark _)))) (fun _ _ _ _ _ => (e2_var 17)))) e2_int (fun _ _ => rfl))) (ss_cons (s2_for PassesOwn.never rfl (i2_lst (e2_lst (a2_cons (e2_var 4) (a2_cons (e2_var 9) (a2_cons (e2_var 5) (a2_cons (e2_bin op_addD ok_add (e2_var 9) (e2_tup (a2_cons e2_int a2_nil))) (a2_cons (e2_slice (e2_var 9) (o2_some e2_int) o2_none) (a2_cons (e2_callTy call_tuple_of ok_tup rfl T.b_tuple (by decide +kernel) (a2_cons (e2_ofO (f2_lc [("number", 18)] rfl hN (i2_tup (e2_var 9)) (blkOk_by (own := [("number", 18)]) (by show blkC n_law (defScope s_law) _ _ = true; decide +kernel)) (fun _ _ _ _ _ => (g2_name 18 hN)) (fun _ _ _ _ _ => ts2_nil) (fun _ _ _ _ _ => (e2_bin op_sub ok_sub (e2_var 18) e2_int)))) a2_nil)) (a2_cons (e2_callTy call_tuple_of ok_tup rfl T.b_tuple (by decide +kernel) (a2_cons (e2_ofO (f2_lc [("number", 18)] rfl hN (i2_tup (e2_var 9)) (blkOk_by (own := [("number", 18)]) (by show blkC n_law (defScope s_law) _ _ = true; decide +kernel)) (fun _ _ _ _ _ => (g2_name 18 hN)) (fun _ _ _ _ _ => ts2_nil) (fun _ _ _ _ _ => (e2_bin op_addD ok_add (e2_var 18) e2_int)))) a2_nil)) a2_nil))))))))) (g2_name 10 hN) (ss_cons (s2_set 11 hN (e2_call G__law_fits hr rfl C__law_fits.m C__law_fits.F.kp C__law_fits.b (a2_cons (e2_var 3) (a2_cons (e2_var 2) (a2_cons (e2_var 10) a2_nil))) (cons_len (cons_len (cons_len (nil_len (n := 0))))))) (ss_cons (s2_set 12 hN e2_str) (ss_cons (s2_if (t2_tru (wk := false) (e2_var 11)) (ss_one (s2_set 12 hN (e2_callTy call_tuple_of ok_tup rfl T.b_tuple (by decide +kernel) (a2_cons (e2_ofO (f2_lc [("number", 18)] rfl hN (i2_rng1 rfl T.b_range (a2_cons (e2_if (t2_cmp op_gt ok_gt (e2_callB call_len2 ok_len rfl T.b_len PySem.boot_len (a2_cons (e2_var 10) a2_nil)) e2_int (nomark _)) (e2_bin op_addD ok_add (e2_callB (cr_maxG rfl hu) ok_maxG rfl T.b_max (by decide +kernel) (a2_cons (e2_var 10) a2_nil)) e2_int) e2_int) a2_nil)) (blkOk_by (own := [("number", 18)]) (by show blkC n_law (defScope s_law) _ _ = true; decide +kernel)) (fun _ _ _ _ _ => (g2_name 18 hN)) (fun _ _ _ _ _ => ts2_nil) (fun _ _ _ _ _ => (e2_bin op_sub ok_sub (e2_var 2) (e2_callB (cr_sum rfl) ok_sum rfl T.b_sum (by decide +kernel) (a2_cons (e2_ofO (f2_lc [("k", 16)] rfl hN (i2_rng1 rfl T.b_range (a2_cons (e2_callB call_len2 ok_len rfl T.b_len PySem.boot_len (a2_cons (e2_var 3) a2_nil)) a2_nil)) (blkOk_by (own := [("k", 16)]) (by show blkC n_law (relabS (defScope s_law) _) _ _ = true; decide +kernel)) (fun _ _ _ _ _ => (g2_name 16 hN)) (fun _ _ _ _ _ => (ts2_one (t2_cmp (op_eqP hu) ok_eq (e2_sub hu1 (e2_var 10) (e2_var 16) (fun _ _ => rfl)) (e2_var 18) (nomark _)))) (fun _ _ _ _ _ => (e2_sub hu1 (e2_var 3) (e2_var 16) (fun _ _ => rfl))))) a2_nil)))))) a2_nil)))) ss_nil) (ss_one (s2_if (t2_cmp (op_neP hu) ok_ne (e2_call G__law_asked hr rfl C__law_asked.m C__law_asked.F.kp C__law_asked.b (a2_cons (e2_var 3) (a2_cons (e2_var 2) (a2_cons (e2_var 10) a2_nil))) (cons_len (cons_len (cons_len (nil_len (n := 0)))))) (e2_lst (a2_cons (e2_var 5) (a2_cons (e2_var 9) (a2_cons (e2_var 11) (a2_cons (e2_var 12) a2_nil))))) (nomark _)) (ss_one (s2_ret e2_bl)) ss_nil)))))) (ss_cons (s2_for PassesOwn.never rfl (i2_lst (e2_lst (a2_cons (e2_tup (a2_cons (e2_bin op_mulT ok_mulT (e2_tup (a2_cons e2_int a2_nil)) e2_int) (a2_cons e2_int (a2_cons e2_str a2_nil)))) (a2_cons (e2_tup (a2_cons (e2_tup (a2_cons e2_int a2_nil)) (a2_cons e2_int (a2_cons e2_str a2_nil)))) (a2_cons (e2_tup (a2_cons (e2_tup (a2_cons e2_int a2_nil)) (a2_cons e2_int (a2_cons e2_str a2_nil)))) (a2_cons (e2_tup (a2_cons (e2_tup (a2_cons e2_int a2_nil)) (a2_cons e2_int (a2_cons e2_str a2_nil)))) (a2_cons (e2_tup (a2_cons (e2_tup (a2_cons e2_int a2_nil)) (a2_cons e2_int (a2_cons e2_str a2_nil)))) (a2_cons (e2_tup (a2_cons (e2_bin op_mulT ok_mulT (e2_tup (a2_cons e2_int a2_nil)) e2_int) (a2_cons e2_int (a2_cons e2_str a2_nil)))) (a2_cons (e2_tup (a2_cons (e2_tup (a2_cons e2_int (a2_cons (e2_neg e2_int) a2_nil))) (a2_cons e2_int (a2_cons e2_str a2_nil)))) a2_nil))))))))) (g2_tup rfl (gs2_cons (g2_name 13 hN) (gs2_cons (g2_name 14 hN) (gs2_cons (g2_name 15 hN) gs2_nil)))) (ss_one (s2_if (t2_cmp (op_neP hu) ok_ne (e2_call G__law_asked hr rfl C__law_asked.m C__law_asked.F.kp C__law_asked.b (a2_cons (e2_var 13) (a2_cons (e2_var 14) (a2_cons (e2_bin op_mulT ok_mulT (e2_tup (a2_cons e2_int a2_nil)) (e2_callB call_len2 ok_len rfl T.b_len PySem.boot_len (a2_cons (e2_var 13) a2_nil))) a2_nil))) (cons_len (cons_len (cons_len (nil_len (n := 0)))))) (e2_bin op_mulD ok_mul (e2_lst (a2_cons (e2_var 15) a2_nil)) e2_int) (nomark _)) (ss_one (s2_ret e2_bl)) ss_nil))) (ss_one (s2_ret e2_bl)))))))))))))
  obtain ⟨t, pt, sim⟩ := rest
  refine ⟨_, pss_cons (ps_set (i := 1) hN rfl (by first | exact Or.inl rfl | exact Or.inr rfl) (pe_call G__law_begin hr rfl C__law_begin.m C__law_begin.F.kp C__law_begin.b .nil pass0 (pa_cons (pv 0) pa_nil))) pt, ?_⟩
  refine ⟨_, rfl, a, ns, rfl, hS, hl, fun p q0 seed H' h0 h1 npq ev hp hq => ?_⟩
  obtain ⟨sg', S', e⟩ := fin ns seed hl h0 h1
  refine sim (· = p) H' [p] [] _ _ _ _ H' _ (rl_law (n := 17) rfl rfl npq hp hq) ?_
  rw [e]
  intro v H2 _ _ r
  have r' : v = .bl true := r
  subst r'
  exact q H2
end
theorem all_mk {l : PySem.W.OpenLaw} {w : World} {K : PySem.W.Frag} {h : Heap} {mg : Str → Option Value} {fa : Addr} {a_TAKE_LIMIT : Tok} {a_LONGEST_ROLL : Tok} (X : K.In h) (G : h.Ns mainGlobals mg) (hfa : mg "law" = some (.ref fa))
    {f0 : Addr} {od0 an0 : Option Addr} {sl0 : Array (Option Value)} {oc0 kV0 dc0 pm0 cd0 ct0 : Value}
    {f1 : Addr} {od1 an1 : Option Addr} {sl1 : Array (Option Value)} {oc1 kV1 dc1 pm1 cd1 ct1 : Value}
    {f2 : Addr} {od2 an2 : Option Addr} {sl2 : Array (Option Value)} {oc2 kV2 dc2 pm2 cd2 ct2 : Value}
    {f3 : Addr} {od3 an3 : Option Addr} {sl3 : Array (Option Value)} {oc3 kV3 dc3 pm3 cd3 ct3 : Value}
    {f4 : Addr} {od4 an4 : Option Addr} {sl4 : Array (Option Value)} {oc4 kV4 dc4 pm4 cd4 ct4 : Value}
    {f5 : Addr} {od5 an5 : Option Addr} {sl5 : Array (Option Value)} {oc5 kV5 dc5 pm5 cd5 ct5 : Value}
    {f6 : Addr} {od6 an6 : Option Addr} {sl6 : Array (Option Value)} {oc6 kV6 dc6 pm6 cd6 ct6 : Value}
    {f7 : Addr} {od7 an7 : Option Addr} {sl7 : Array (Option Value)} {oc7 kV7 dc7 pm7 cd7 ct7 : Value}
    {f8 : Addr} {od8 an8 : Option Addr} {sl8 : Array (Option Value)} {oc8 kV8 dc8 pm8 cd8 ct8 : Value}
    {f9 : Addr} {od9 an9 : Option Addr} {sl9 : Array (Option Value)} {oc9 kV9 dc9 pm9 cd9 ct9 : Value}
    {f10 : Addr} {od10 an10 : Option Addr} {sl10 : Array (Option Value)} {oc10 kV10 dc10 pm10 cd10 ct10 : Value}
    {f11 : Addr} {od11 an11 : Option Addr} {sl11 : Array (Option Value)} {oc11 kV11 dc11 pm11 cd11 ct11 : Value}
    {f12 : Addr} {od12 an12 : Option Addr} {sl12 : Array (Option Value)} {oc12 kV12 dc12 pm12 cd12 ct12 : Value}
    {f13 : Addr} {od13 an13 : Option Addr} {sl13 : Array (Option Value)} {oc13 kV13 dc13 pm13 cd13 ct13 : Value}
    {f14 : Addr} {od14 an14 : Option Addr} {sl14 : Array (Option Value)} {oc14 kV14 dc14 pm14 cd14 ct14 : Value}
    {f15 : Addr} {od15 an15 : Option Addr} {sl15 : Array (Option Value)} {oc15 kV15 dc15 pm15 cd15 ct15 : Value}
    {f16 : Addr} {od16 an16 : Option Addr} {sl16 : Array (Option Value)} {oc16 kV16 dc16 pm16 cd16 ct16 : Value}
    {f17 : Addr} {od17 an17 : Option Addr} {sl17 : Array (Option Value)} {oc17 kV17 dc17 pm17 cd17 ct17 : Value}
    {f18 : Addr} {od18 an18 : Option Addr} {sl18 : Array (Option Value)} {oc18 kV18 dc18 pm18 cd18 ct18 : Value}
    {f19 : Addr} {od19 an19 : Option Addr} {sl19 : Array (Option Value)} {oc19 kV19 dc19 pm19 cd19 ct19 : Value}
    (a0 : PySem.W.nsIn K mainGlobals "_law_begin" = some (some (.ref f0))) (l0 : K.lookup f0 = some ⟨oc0, od0, .func (PySem.W.fnOf "_law_begin" "_law_begin" (defArgs s__law_begin) (defBody s__law_begin) (defScope s__law_begin) .none kV0 dc0 pm0 an0 cd0 ct0), sl0⟩) (c0 : PySem.W.codeIn K cd0 "_law_begin" = true) (k0 : PySem.W.keepIn K (.ref f0) = true)
    (a1 : PySem.W.nsIn K mainGlobals "is_roll" = some (some (.ref f1))) (l1 : K.lookup f1 = some ⟨oc1, od1, .func (PySem.W.fnOf "is_roll" "is_roll" (defArgs s_is_roll) (defBody s_is_roll) (defScope s_is_roll) .none kV1 dc1 pm1 an1 cd1 ct1), sl1⟩) (c1 : PySem.W.codeIn K cd1 "is_roll" = true) (k1 : PySem.W.keepIn K (.ref f1) = true)
    (a2 : PySem.W.nsIn K mainGlobals "_check" = some (some (.ref f2))) (l2 : K.lookup f2 = some ⟨oc2, od2, .func (PySem.W.fnOf "_check" "_check" (defArgs s__check) (defBody s__check) (defScope s__check) .none kV2 dc2 pm2 an2 cd2 ct2), sl2⟩) (c2 : PySem.W.codeIn K cd2 "_check" = true) (k2 : PySem.W.keepIn K (.ref f2) = true)
    (a3 : PySem.W.nsIn K mainGlobals "in_order" = some (some (.ref f3))) (l3 : K.lookup f3 = some ⟨oc3, od3, .func (PySem.W.fnOf "in_order" "in_order" (defArgs s_in_order) (defBody s_in_order) (defScope s_in_order) .none kV3 dc3 pm3 an3 cd3 ct3), sl3⟩) (c3 : PySem.W.codeIn K cd3 "in_order" = true) (k3 : PySem.W.keepIn K (.ref f3) = true)
    (a4 : PySem.W.nsIn K mainGlobals "_end_with" = some (some (.ref f4))) (l4 : K.lookup f4 = some ⟨oc4, od4, .func (PySem.W.fnOf "_end_with" "_end_with" (defArgs s__end_with) (defBody s__end_with) (defScope s__end_with) .none kV4 dc4 pm4 an4 cd4 ct4), sl4⟩) (c4 : PySem.W.codeIn K cd4 "_end_with" = true) (k4 : PySem.W.keepIn K (.ref f4) = true)
    (a5 : PySem.W.nsIn K mainGlobals "_have_room" = some (some (.ref f5))) (l5 : K.lookup f5 = some ⟨oc5, od5, .func (PySem.W.fnOf "_have_room" "_have_room" (defArgs s__have_room) (defBody s__have_room) (defScope s__have_room) .none kV5 dc5 pm5 an5 cd5 ct5), sl5⟩) (c5 : PySem.W.codeIn K cd5 "_have_room" = true) (k5 : PySem.W.keepIn K (.ref f5) = true)
    (a6 : PySem.W.nsIn K mainGlobals "_fewest" = some (some (.ref f6))) (l6 : K.lookup f6 = some ⟨oc6, od6, .func (PySem.W.fnOf "_fewest" "_fewest" (defArgs s__fewest) (defBody s__fewest) (defScope s__fewest) .none kV6 dc6 pm6 an6 cd6 ct6), sl6⟩) (c6 : PySem.W.codeIn K cd6 "_fewest" = true) (k6 : PySem.W.keepIn K (.ref f6) = true)
    (a7 : PySem.W.nsIn K mainGlobals "_first_roll" = some (some (.ref f7))) (l7 : K.lookup f7 = some ⟨oc7, od7, .func (PySem.W.fnOf "_first_roll" "_first_roll" (defArgs s__first_roll) (defBody s__first_roll) (defScope s__first_roll) .none kV7 dc7 pm7 an7 cd7 ct7), sl7⟩) (c7 : PySem.W.codeIn K cd7 "_first_roll" = true) (k7 : PySem.W.keepIn K (.ref f7) = true)
    (a8 : PySem.W.nsIn K mainGlobals "fewest_rolls" = some (some (.ref f8))) (l8 : K.lookup f8 = some ⟨oc8, od8, .func (PySem.W.fnOf "fewest_rolls" "fewest_rolls" (defArgs s_fewest_rolls) (defBody s_fewest_rolls) (defScope s_fewest_rolls) .none kV8 dc8 pm8 an8 cd8 ct8), sl8⟩) (c8 : PySem.W.codeIn K cd8 "fewest_rolls" = true) (k8 : PySem.W.keepIn K (.ref f8) = true)
    (a9 : PySem.W.nsIn K mainGlobals "_used_of" = some (some (.ref f9))) (l9 : K.lookup f9 = some ⟨oc9, od9, .func (PySem.W.fnOf "_used_of" "_used_of" (defArgs s__used_of) (defBody s__used_of) (defScope s__used_of) .none kV9 dc9 pm9 an9 cd9 ct9), sl9⟩) (c9 : PySem.W.codeIn K cd9 "_used_of" = true) (k9 : PySem.W.keepIn K (.ref f9) = true)
    (a10 : PySem.W.nsIn K mainGlobals "_are_right" = some (some (.ref f10))) (l10 : K.lookup f10 = some ⟨oc10, od10, .func (PySem.W.fnOf "_are_right" "_are_right" (defArgs s__are_right) (defBody s__are_right) (defScope s__are_right) .none kV10 dc10 pm10 an10 cd10 ct10), sl10⟩) (c10 : PySem.W.codeIn K cd10 "_are_right" = true) (k10 : PySem.W.keepIn K (.ref f10) = true)
    (a11 : PySem.W.nsIn K mainGlobals "takes_rolls" = some (some (.ref f11))) (l11 : K.lookup f11 = some ⟨oc11, od11, .func (PySem.W.fnOf "takes_rolls" "takes_rolls" (defArgs s_takes_rolls) (defBody s_takes_rolls) (defScope s_takes_rolls) .none kV11 dc11 pm11 an11 cd11 ct11), sl11⟩) (c11 : PySem.W.codeIn K cd11 "takes_rolls" = true) (k11 : PySem.W.keepIn K (.ref f11) = true)
    (a12 : PySem.W.nsIn K mainGlobals "short_ends" = some (some (.ref f12))) (l12 : K.lookup f12 = some ⟨oc12, od12, .func (PySem.W.fnOf "short_ends" "short_ends" (defArgs s_short_ends) (defBody s_short_ends) (defScope s_short_ends) .none kV12 dc12 pm12 an12 cd12 ct12), sl12⟩) (c12 : PySem.W.codeIn K cd12 "short_ends" = true) (k12 : PySem.W.keepIn K (.ref f12) = true)
    (a13 : PySem.W.nsIn K mainGlobals "_law_take" = some (some (.ref f13))) (l13 : K.lookup f13 = some ⟨oc13, od13, .func (PySem.W.fnOf "_law_take" "_law_take" (defArgs s__law_take) (defBody s__law_take) (defScope s__law_take) .none kV13 dc13 pm13 an13 cd13 ct13), sl13⟩) (c13 : PySem.W.codeIn K cd13 "_law_take" = true) (k13 : PySem.W.keepIn K (.ref f13) = true)
    (a14 : PySem.W.nsIn K mainGlobals "_law_asked" = some (some (.ref f14))) (l14 : K.lookup f14 = some ⟨oc14, od14, .func (PySem.W.fnOf "_law_asked" "_law_asked" (defArgs s__law_asked) (defBody s__law_asked) (defScope s__law_asked) .none kV14 dc14 pm14 an14 cd14 ct14), sl14⟩) (c14 : PySem.W.codeIn K cd14 "_law_asked" = true) (k14 : PySem.W.keepIn K (.ref f14) = true)
    (a15 : PySem.W.nsIn K mainGlobals "_law_fits" = some (some (.ref f15))) (l15 : K.lookup f15 = some ⟨oc15, od15, .func (PySem.W.fnOf "_law_fits" "_law_fits" (defArgs s__law_fits) (defBody s__law_fits) (defScope s__law_fits) .none kV15 dc15 pm15 an15 cd15 ct15), sl15⟩) (c15 : PySem.W.codeIn K cd15 "_law_fits" = true) (k15 : PySem.W.keepIn K (.ref f15) = true)
    (a16 : PySem.W.nsIn K mainGlobals "_law_all" = some (some (.ref f16))) (l16 : K.lookup f16 = some ⟨oc16, od16, .func (PySem.W.fnOf "_law_all" "_law_all" (defArgs s__law_all) (defBody s__law_all) (defScope s__law_all) .none kV16 dc16 pm16 an16 cd16 ct16), sl16⟩) (c16 : PySem.W.codeIn K cd16 "_law_all" = true) (k16 : PySem.W.keepIn K (.ref f16) = true)
    (a17 : PySem.W.nsIn K mainGlobals "_law_used" = some (some (.ref f17))) (l17 : K.lookup f17 = some ⟨oc17, od17, .func (PySem.W.fnOf "_law_used" "_law_used" (defArgs s__law_used) (defBody s__law_used) (defScope s__law_used) .none kV17 dc17 pm17 an17 cd17 ct17), sl17⟩) (c17 : PySem.W.codeIn K cd17 "_law_used" = true) (k17 : PySem.W.keepIn K (.ref f17) = true)
    (a18 : PySem.W.nsIn K mainGlobals "_law_ordered" = some (some (.ref f18))) (l18 : K.lookup f18 = some ⟨oc18, od18, .func (PySem.W.fnOf "_law_ordered" "_law_ordered" (defArgs s__law_ordered) (defBody s__law_ordered) (defScope s__law_ordered) .none kV18 dc18 pm18 an18 cd18 ct18), sl18⟩) (c18 : PySem.W.codeIn K cd18 "_law_ordered" = true) (k18 : PySem.W.keepIn K (.ref f18) = true)
    (a19 : PySem.W.nsIn K mainGlobals "law" = some (some (.ref f19))) (l19 : K.lookup f19 = some ⟨oc19, od19, .func (PySem.W.fnOf "law" "law" (defArgs s_law) (defBody s_law) (defScope s_law) .none kV19 dc19 pm19 an19 cd19 ct19), sl19⟩) (c19 : PySem.W.codeIn K cd19 "law" = true) (k19 : PySem.W.keepIn K (.ref f19) = true)
    (zb_abs : PySem.W.nsIn K mainGlobals "abs" = some none)
    (zb_all : PySem.W.nsIn K mainGlobals "all" = some none)
    (zb_enumerate : PySem.W.nsIn K mainGlobals "enumerate" = some none)
    (zb_int : PySem.W.nsIn K mainGlobals "int" = some none)
    (zb_len : PySem.W.nsIn K mainGlobals "len" = some none)
    (zb_list : PySem.W.nsIn K mainGlobals "list" = some none)
    (zb_max : PySem.W.nsIn K mainGlobals "max" = some none)
    (zb_min : PySem.W.nsIn K mainGlobals "min" = some none)
    (zb_range : PySem.W.nsIn K mainGlobals "range" = some none)
    (zb_set : PySem.W.nsIn K mainGlobals "set" = some none)
    (zb_sorted : PySem.W.nsIn K mainGlobals "sorted" = some none)
    (zb_sum : PySem.W.nsIn K mainGlobals "sum" = some none)
    (zb_tuple : PySem.W.nsIn K mainGlobals "tuple" = some none)
    (zb_zip : PySem.W.nsIn K mainGlobals "zip" = some none)
    {C_CallError : Addr} (xa_CallError : PySem.W.nsIn K mainGlobals "CallError" = some (some (.ref C_CallError)))
    {C_StockError : Addr} (xa_StockError : PySem.W.nsIn K mainGlobals "StockError" = some (some (.ref C_StockError)))
    {fi_CallError : Addr} {odi_CallError ani_CallError : Option Addr} {sli_CallError : Array (Option Value)} {oci_CallError kVi_CallError dci_CallError pmi_CallError cdi_CallError cti_CallError : Value}
    (xI_CallError : PySem.W.findIn K (.ref C_CallError) "__init__" = some (some (.ref fi_CallError))) (li_CallError : K.lookup fi_CallError = some ⟨oci_CallError, odi_CallError, .func (PySem.W.fnOf "__init__" "CallError.__init__" (defArgs s_ini_CallError) (defBody s_ini_CallError) (defScope s_ini_CallError) .none kVi_CallError dci_CallError pmi_CallError ani_CallError cdi_CallError cti_CallError), sli_CallError⟩) (ci_CallError : PySem.W.codeIn K cdi_CallError "CallError.__init__" = true) (ki_CallError : PySem.W.keepIn K (.ref fi_CallError) = true) (ti_CallError : PySem.W.typeIn K (.ref fi_CallError) = some (.type "function"))
    {nm_StockError q_StockError : Str} {N_StockError : Addr} {bs_StockError : List Value} {sn_StockError : List Str} {sub_StockError : List Value} {ab_StockError : Bool} {col_StockError : Option Bool} {dd_StockError : Option Addr} {m0_StockError m1_StockError m2_StockError m3_StockError m5_StockError : Option Value}
    (xl_StockError : K.lookup C_StockError = some (excClassObj nm_StockError q_StockError C_StockError N_StockError bs_StockError [.ref C_CallError, .type "ValueError", .type "Exception", .type "BaseException", .type "object"] true sn_StockError sub_StockError ab_StockError col_StockError dd_StockError m0_StockError m1_StockError m2_StockError m3_StockError m5_StockError "ValueError.__new__"))
    (xs_StockError : PySem.W.findIn K (.ref C_StockError) "__setattr__" = some (some (.builtin "object.__setattr__"))) (xg_StockError : PySem.W.findIn K (.ref C_StockError) "__getattribute__" = some (some (.builtin "BaseException.__getattribute__"))) (xh_StockError : PySem.W.findIn K (.ref C_StockError) "__getattr__" = some none)
    (xn_StockError_code : PySem.W.findIn K (.ref C_StockError) "code" = some none)
    (xi_StockError : PySem.W.findIn K (.ref C_StockError) "__init__" = some (some (.ref fi_CallError)))
    (xk_StockError : PySem.W.keepIn K (.ref C_StockError) = true) (xe_StockError : PySem.W.subIn K (.ref C_StockError) (.type "BaseException") = some true) (xy_StockError : PySem.W.typeIn K (.ref C_StockError) = some (.type "type")) (xd_StockError : PySem.W.hasDictIn K C_StockError = true) (xc_StockError : PySem.W.isClsIn K C_StockError = true) (xz_StockError : PySem.W.subIn K (.ref C_StockError) (.ref C_StockError) = some true)
    (zg_TAKE_LIMIT : PySem.W.nsIn K mainGlobals "TAKE_LIMIT" = some (some (.int (12) a_TAKE_LIMIT)))
    (zg_LONGEST_ROLL : PySem.W.nsIn K mainGlobals "LONGEST_ROLL" = some (some (.int (999) a_LONGEST_ROLL)))
    (fin : ∀ (ns : List Int) (seed : Int), ns.length ≤ 63 → 0 ≤ seed → seed < 2147483647 → ∃ sg S, m_law (lawS 17) [drawer ns seed] = .ok (.rt (.bl true), sg, S)) :
    ∃ fd : FuncData, (∀ (s : Shared) (v : Value), BindsTo s fd ⟨[v], []⟩ [("script", v)]) ∧ ∀ base : Heap, K.In base → base.Ns mainGlobals mg → FnOk l.prog w K mg base CX0 6 fa fd ["script"] (spLaw K) := by
  have e := hfa.symm.trans (PySem.W.mg_of X G a19)
  cases e
  have T : Txt K mg a_TAKE_LIMIT a_LONGEST_ROLL := ⟨PySem.W.mg_none_of X G zb_abs, PySem.W.mg_none_of X G zb_all, PySem.W.mg_none_of X G zb_enumerate, PySem.W.mg_none_of X G zb_int, PySem.W.mg_none_of X G zb_len, PySem.W.mg_none_of X G zb_list, PySem.W.mg_none_of X G zb_max, PySem.W.mg_none_of X G zb_min, PySem.W.mg_none_of X G zb_range, PySem.W.mg_none_of X G zb_set, PySem.W.mg_none_of X G zb_sorted, PySem.W.mg_none_of X G zb_sum, PySem.W.mg_none_of X G zb_tuple, PySem.W.mg_none_of X G zb_zip, PySem.W.mg_of X G zg_TAKE_LIMIT, PySem.W.mg_of X G zg_LONGEST_ROLL⟩
  have F0 := fun_mk (st := s__law_begin) l0 c0 k0
  have C0 : Cl K mg "_law_begin" s__law_begin _ _ ["script"] := ⟨PySem.W.mg_of X G a0, F0, F0.binds (ps := ["script"]) fun _ _ _ _ _ _ us hl => match us, hl with | [_], _ => rfl⟩
  have F1 := fun_mk (st := s_is_roll) l1 c1 k1
  have C1 : Cl K mg "is_roll" s_is_roll _ _ ["roll"] := ⟨PySem.W.mg_of X G a1, F1, F1.binds (ps := ["roll"]) fun _ _ _ _ _ _ us hl => match us, hl with | [_], _ => rfl⟩
  have F2 := fun_mk (st := s__check) l2 c2 k2
  have C2 : Cl K mg "_check" s__check _ _ ["takes", "roll"] := ⟨PySem.W.mg_of X G a2, F2, F2.binds (ps := ["takes", "roll"]) fun _ _ _ _ _ _ us hl => match us, hl with | [_, _], _ => rfl⟩
  have F3 := fun_mk (st := s_in_order) l3 c3 k3
  have C3 : Cl K mg "in_order" s_in_order _ _ ["takes", "roll"] := ⟨PySem.W.mg_of X G a3, F3, F3.binds (ps := ["takes", "roll"]) fun _ _ _ _ _ _ us hl => match us, hl with | [_, _], _ => rfl⟩
  have F4 := fun_mk (st := s__end_with) l4 c4 k4
  have C4 : Cl K mg "_end_with" s__end_with _ _ ["rooms", "end", "take"] := ⟨PySem.W.mg_of X G a4, F4, F4.binds (ps := ["rooms", "end", "take"]) fun _ _ _ _ _ _ us hl => match us, hl with | [_, _, _], _ => rfl⟩
  have F5 := fun_mk (st := s__have_room) l5 c5 k5
  have C5 : Cl K mg "_have_room" s__have_room _ _ ["rooms", "takes"] := ⟨PySem.W.mg_of X G a5, F5, F5.binds (ps := ["rooms", "takes"]) fun _ _ _ _ _ _ us hl => match us, hl with | [_, _], _ => rfl⟩
  have F6 := fun_mk (st := s__fewest) l6 c6 k6
  have C6 : Cl K mg "_fewest" s__fewest _ _ ["takes", "roll"] := ⟨PySem.W.mg_of X G a6, F6, F6.binds (ps := ["takes", "roll"]) fun _ _ _ _ _ _ us hl => match us, hl with | [_, _], _ => rfl⟩
  have F7 := fun_mk (st := s__first_roll) l7 c7 k7
  have C7 : Cl K mg "_first_roll" s__first_roll _ _ ["rooms", "take", "others"] := ⟨PySem.W.mg_of X G a7, F7, F7.binds (ps := ["rooms", "take", "others"]) fun _ _ _ _ _ _ us hl => match us, hl with | [_, _, _], _ => rfl⟩
  have F8 := fun_mk (st := s_fewest_rolls) l8 c8 k8
  have C8 : Cl K mg "fewest_rolls" s_fewest_rolls _ _ ["takes", "roll"] := ⟨PySem.W.mg_of X G a8, F8, F8.binds (ps := ["takes", "roll"]) fun _ _ _ _ _ _ us hl => match us, hl with | [_, _], _ => rfl⟩
  have F9 := fun_mk (st := s__used_of) l9 c9 k9
  have C9 : Cl K mg "_used_of" s__used_of _ _ ["takes", "rolls", "number"] := ⟨PySem.W.mg_of X G a9, F9, F9.binds (ps := ["takes", "rolls", "number"]) fun _ _ _ _ _ _ us hl => match us, hl with | [_, _, _], _ => rfl⟩
  have F10 := fun_mk (st := s__are_right) l10 c10 k10
  have C10 : Cl K mg "_are_right" s__are_right _ _ ["takes", "roll", "rolls"] := ⟨PySem.W.mg_of X G a10, F10, F10.binds (ps := ["takes", "roll", "rolls"]) fun _ _ _ _ _ _ us hl => match us, hl with | [_, _, _], _ => rfl⟩
  have F11 := fun_mk (st := s_takes_rolls) l11 c11 k11
  have C11 : Cl K mg "takes_rolls" s_takes_rolls _ _ ["takes", "roll", "rolls"] := ⟨PySem.W.mg_of X G a11, F11, F11.binds (ps := ["takes", "roll", "rolls"]) fun _ _ _ _ _ _ us hl => match us, hl with | [_, _, _], _ => rfl⟩
  have F12 := fun_mk (st := s_short_ends) l12 c12 k12
  have C12 : Cl K mg "short_ends" s_short_ends _ _ ["takes", "roll", "rolls"] := ⟨PySem.W.mg_of X G a12, F12, F12.binds (ps := ["takes", "roll", "rolls"]) fun _ _ _ _ _ _ us hl => match us, hl with | [_, _, _], _ => rfl⟩
  have F13 := fun_mk (st := s__law_take) l13 c13 k13
  have C13 : Cl K mg "_law_take" s__law_take _ _ ["d", "many"] := ⟨PySem.W.mg_of X G a13, F13, F13.binds (ps := ["d", "many"]) fun _ _ _ _ _ _ us hl => match us, hl with | [_, _], _ => rfl⟩
  have F14 := fun_mk (st := s__law_asked) l14 c14 k14
  have C14 : Cl K mg "_law_asked" s__law_asked _ _ ["takes", "roll", "rolls"] := ⟨PySem.W.mg_of X G a14, F14, F14.binds (ps := ["takes", "roll", "rolls"]) fun _ _ _ _ _ _ us hl => match us, hl with | [_, _, _], _ => rfl⟩
  have F15 := fun_mk (st := s__law_fits) l15 c15 k15
  have C15 : Cl K mg "_law_fits" s__law_fits _ _ ["takes", "roll", "rolls"] := ⟨PySem.W.mg_of X G a15, F15, F15.binds (ps := ["takes", "roll", "rolls"]) fun _ _ _ _ _ _ us hl => match us, hl with | [_, _, _], _ => rfl⟩
  have F16 := fun_mk (st := s__law_all) l16 c16 k16
  have C16 : Cl K mg "_law_all" s__law_all _ _ ["many"] := ⟨PySem.W.mg_of X G a16, F16, F16.binds (ps := ["many"]) fun _ _ _ _ _ _ us hl => match us, hl with | [_], _ => rfl⟩
  have F17 := fun_mk (st := s__law_used) l17 c17 k17
  have C17 : Cl K mg "_law_used" s__law_used _ _ ["rolls"] := ⟨PySem.W.mg_of X G a17, F17, F17.binds (ps := ["rolls"]) fun _ _ _ _ _ _ us hl => match us, hl with | [_], _ => rfl⟩
  have F18 := fun_mk (st := s__law_ordered) l18 c18 k18
  have C18 : Cl K mg "_law_ordered" s__law_ordered _ _ ["takes", "roll"] := ⟨PySem.W.mg_of X G a18, F18, F18.binds (ps := ["takes", "roll"]) fun _ _ _ _ _ _ us hl => match us, hl with | [_, _], _ => rfl⟩
  have F19 := fun_mk (st := s_law) l19 c19 k19
  have C19 : Cl K mg "law" s_law _ _ ["script"] := ⟨PySem.W.mg_of X G a19, F19, F19.binds (ps := ["script"]) fun _ _ _ _ _ _ us hl => match us, hl with | [_], _ => rfl⟩
  refine ⟨PySem.W.fnOf "law" "law" (defArgs s_law) (defBody s_law) (defScope s_law) .none kV19 dc19 pm19 an19 cd19 ct19, fun s v => .of_eq rfl, fun base _ _ => ?_⟩
  have G0 := ok__law_begin (P := l.prog) (w := w) (base := base) (k := 0) T C0
  have FI_CallError := fun_mk (st := s_ini_CallError) li_CallError ci_CallError ki_CallError
  have GI_CallError := ok_ini_CallError (P := l.prog) (w := w) (mg := mg) (base := base) (k := 0) FI_CallError
  have X_StockError : ExCl K mg "StockError" C_StockError fi_CallError _ ["code"] ["self", "code"] := { gm := PySem.W.mg_of X G xa_StockError, oe := ⟨⟨_, _, _, _, _, _, _, _, _, _, _, _, _, _, _, xl_StockError, by first | decide +kernel | rfl⟩, xs_StockError, xe_StockError, xy_StockError, xk_StockError⟩, nf := (by intro n hn; simp only [List.mem_cons, List.not_mem_nil, or_false] at hn; subst hn; exact xn_StockError_code), iC := xi_StockError, tI := ti_CallError, b := FI_CallError.binds (ps := ["self", "code"]) fun _ _ _ _ _ _ us hl => match us, hl with | [_, _], _ => rfl, ef := ⟨xg_StockError, xh_StockError, xe_StockError, xd_StockError⟩, te := exm_own xe_StockError xc_StockError xy_StockError xz_StockError }
  have G1 := ok_is_roll (P := l.prog) (w := w) (base := base) (k := 0) T C1 
  have G2 := ok__check (P := l.prog) (w := w) (base := base) (k := 1) T C2 C1 X_StockError (GI_CallError.mono (by decide)) (G1.mono (by decide)) 
  have G3 := ok_in_order (P := l.prog) (w := w) (base := base) (k := 3) T C3 C2 (G2.mono (by decide)) 
  have G4 := ok__end_with (P := l.prog) (w := w) (base := base) (k := 0) T C4 
  have G5 := ok__have_room (P := l.prog) (w := w) (base := base) (k := 1) T C5 C4 (G4.mono (by decide)) 
  have G6 := ok__fewest (P := l.prog) (w := w) (base := base) (k := 2) T C6 C5 (G5.mono (by decide)) 
  have G7 := ok__first_roll (P := l.prog) (w := w) (base := base) (k := 2) T C7 C5 (G5.mono (by decide)) 
  have G8 := ok_fewest_rolls (P := l.prog) (w := w) (base := base) (k := 3) T C8 C2 C6 C7 (G2.mono (by decide)) (G6.mono (by decide)) (G7.mono (by decide)) 
  have G9 := ok__used_of (P := l.prog) (w := w) (base := base) (k := 0) T C9 
  have G10 := ok__are_right (P := l.prog) (w := w) (base := base) (k := 1) T C10 C9 (G9.mono (by decide)) 
  have G11 := ok_takes_rolls (P := l.prog) (w := w) (base := base) (k := 3) T C11 C10 C2 (G10.mono (by decide)) (G2.mono (by decide)) 
  have G12 := ok_short_ends (P := l.prog) (w := w) (base := base) (k := 2) T C12 C10 C2 C9 X_StockError (GI_CallError.mono (by decide)) (G10.mono (by decide)) (G2.mono (by decide)) (G9.mono (by decide)) 
  have G13 := ok__law_take (P := l.prog) (w := w) (base := base) (k := 0) T C13 
  have G14 := ok__law_asked (P := l.prog) (w := w) (base := base) (k := 4) T C14 C8 C3 C12 C11 X_StockError (G8.mono (by decide)) (G3.mono (by decide)) (G12.mono (by decide)) (G11.mono (by decide)) 
  have G15 := ok__law_fits (P := l.prog) (w := w) (base := base) (k := 0) T C15 
  have G16 := ok__law_all (P := l.prog) (w := w) (base := base) (k := 0) T C16 
  have G17 := ok__law_used (P := l.prog) (w := w) (base := base) (k := 0) T C17 
  have G18 := ok__law_ordered (P := l.prog) (w := w) (base := base) (k := 0) T C18 
  exact ok_law (k := 5) T C19 C0 (G0.mono (by decide)) C16 C14 C15 C18 C13 C17 (G16.mono (by decide)) (G14.mono (by decide)) (G15.mono (by decide)) (G18.mono (by decide)) (G13.mono (by decide)) (G17.mono (by decide)) fin
end Law
open PySem PySem.W PyProof.Rows
set_option maxRecDepth 100000 in
set_option maxHeartbeats 0 in
theorem PySem.Challenge.cw_callsheets_k69_takes_on_rolls_holds : PySem.Challenge.rw_callsheets_k69_takes_on_rolls.Holds := by
  w_on; o_law; k_head; (case hw => w_witness2)
  k_fill
  refine D2.walkL (l := PySem.Challenge.rw_callsheets_k69_takes_on_rolls) (k := 6) rfl rfl ⟨rfl, by decide, by decide⟩ (fun w h Y => PySem.W.kIn_of Y) ?F
  case F =>
    intro w mg fa h KX G hmg
    refine' Law.all_mk KX G hmg ?a0 ?l0 ?c0 ?k0 ?a1 ?l1 ?c1 ?k1 ?a2 ?l2 ?c2 ?k2 ?a3 ?l3 ?c3 ?k3 ?a4 ?l4 ?c4 ?k4 ?a5 ?l5 ?c5 ?k5 ?a6 ?l6 ?c6 ?k6 ?a7 ?l7 ?c7 ?k7 ?a8 ?l8 ?c8 ?k8 ?a9 ?l9 ?c9 ?k9 ?a10 ?l10 ?c10 ?k10 ?a11 ?l11 ?c11 ?k11 ?a12 ?l12 ?c12 ?k12 ?a13 ?l13 ?c13 ?k13 ?a14 ?l14 ?c14 ?k14 ?a15 ?l15 ?c15 ?k15 ?a16 ?l16 ?c16 ?k16 ?a17 ?l17 ?c17 ?k17 ?a18 ?l18 ?c18 ?k18 ?a19 ?l19 ?c19 ?k19 ?zb_abs ?zb_all ?zb_enumerate ?zb_int ?zb_len ?zb_list ?zb_max ?zb_min ?zb_range ?zb_set ?zb_sorted ?zb_sum ?zb_tuple ?zb_zip ?xa_CallError ?xa_StockError ?xI_CallError ?li_CallError ?ci_CallError ?ki_CallError ?ti_CallError ?xl_StockError ?xs_StockError ?xg_StockError ?xh_StockError ?xn_StockError_code ?xi_StockError ?xk_StockError ?xe_StockError ?xy_StockError ?xd_StockError ?xc_StockError ?xz_StockError ?zg_TAKE_LIMIT ?zg_LONGEST_ROLL Law.fin
    (case a0 => k_is)
    (case l0 => k_is)
    (case c0 => k_is)
    (case k0 => k_is)
    (case a1 => k_is)
    (case l1 => k_is)
    (case c1 => k_is)
    (case k1 => k_is)
    (case a2 => k_is)
    (case l2 => k_is)
    (case c2 => k_is)
    (case k2 => k_is)
    (case a3 => k_is)
    (case l3 => k_is)
    (case c3 => k_is)
    (case k3 => k_is)
    (case a4 => k_is)
    (case l4 => k_is)
    (case c4 => k_is)
    (case k4 => k_is)
    (case a5 => k_is)
    (case l5 => k_is)
    (case c5 => k_is)
    (case k5 => k_is)
    (case a6 => k_is)
    (case l6 => k_is)
    (case c6 => k_is)
    (case k6 => k_is)
    (case a7 => k_is)
    (case l7 => k_is)
    (case c7 => k_is)
    (case k7 => k_is)
    (case a8 => k_is)
    (case l8 => k_is)
    (case c8 => k_is)
    (case k8 => k_is)
    (case a9 => k_is)
    (case l9 => k_is)
    (case c9 => k_is)
    (case k9 => k_is)
    (case a10 => k_is)
    (case l10 => k_is)
    (case c10 => k_is)
    (case k10 => k_is)
    (case a11 => k_is)
    (case l11 => k_is)
    (case c11 => k_is)
    (case k11 => k_is)
    (case a12 => k_is)
    (case l12 => k_is)
    (case c12 => k_is)
    (case k12 => k_is)
    (case a13 => k_is)
    (case l13 => k_is)
    (case c13 => k_is)
    (case k13 => k_is)
    (case a14 => k_is)
    (case l14 => k_is)
    (case c14 => k_is)
    (case k14 => k_is)
    (case a15 => k_is)
    (case l15 => k_is)
    (case c15 => k_is)
    (case k15 => k_is)
    (case a16 => k_is)
    (case l16 => k_is)
    (case c16 => k_is)
    (case k16 => k_is)
    (case a17 => k_is)
    (case l17 => k_is)
    (case c17 => k_is)
    (case k17 => k_is)
    (case a18 => k_is)
    (case l18 => k_is)
    (case c18 => k_is)
    (case k18 => k_is)
    (case a19 => k_is)
    (case l19 => k_is)
    (case c19 => k_is)
    (case k19 => k_is)
    (case zb_abs => k_is)
    (case zb_all => k_is)
    (case zb_enumerate => k_is)
    (case zb_int => k_is)
    (case zb_len => k_is)
    (case zb_list => k_is)
    (case zb_max => k_is)
    (case zb_min => k_is)
    (case zb_range => k_is)
    (case zb_set => k_is)
    (case zb_sorted => k_is)
    (case zb_sum => k_is)
    (case zb_tuple => k_is)
    (case zb_zip => k_is)
    (case xa_CallError => k_is)
    (case xa_StockError => k_is)
    (case xI_CallError => k_is)
    (case li_CallError => k_is)
    (case ci_CallError => k_is)
    (case ki_CallError => k_is)
    (case ti_CallError => k_is)
    (case xl_StockError => k_is)
    (case xs_StockError => k_is)
    (case xg_StockError => k_is)
    (case xh_StockError => k_is)
    (case xn_StockError_code => k_is)
    (case xi_StockError => k_is)
    (case xk_StockError => k_is)
    (case xe_StockError => k_is)
    (case xy_StockError => k_is)
    (case xd_StockError => k_is)
    (case xc_StockError => k_is)
    (case xz_StockError => k_is)
    (case zg_TAKE_LIMIT => k_is)
    (case zg_LONGEST_ROLL => k_is)

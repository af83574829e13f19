import PyProof.Rows.All
import Wide.All
import OpenK.AllK
import Wide.FinOn
import HandS.ForMost
import HandS.Flow
import HandS.IsInst
import HandS.Walk
import HandS.Zip
import HandS.Conv
import HandS.Wide
import HandS.TupAny
import HandS.Style
import HandS.SortInts
import KE.GoesMore
import HandS.Deep
import HandS.Text
import HandS.Strs
import HandS.SetBool
import HandS.Comp
import HandS.Lambda
import HandS.Gcd
import KE.DataMinMax
import KE.KTupSum
import KE.KMathGC
import HandS.EndBits
import HandS.ExcInit
import HandS.TryOnly
import HandS.WordsExc
import KE.GoesEnum
import HandS.ExcField
import HandS.StrMore
import HandS.TupMul
import HandS.Star
import HandS.Defaults
import PyProof.TupleOfStr
import HandS.FStr
import HandS.TryMany
import KE.KDictKeyed
import PyProof.ListStr
import KE.KDictZip
import KE.GoesZip
import HandS.ListItems
import PyProof.Rows.SetFrom
import HandS.SetKeys
import HandS.DictComp
import HandS.NoneIn
import HandS.Dict
import HandS.Flt
import KE.SortData
import HandS.TupSets
import HandS.ExcIs
import HandS.EndTab
import HandS.NestedK
import KE.KExcInit
import KE.DataAny
import HandS.Zip0
import KE.DataFind
import PyProof.ReprBulk
import PyProof.Rows.ReprShort
import HandS.Head0
import HandS.Head1
import HandS.Head2
import HandS.Head3
import KE.KStateDown
import PySem.Challenge.RW_captionhouse_k63_whole_cuts_shown
set_option Elab.async false
set_option linter.all false
set_option maxRecDepth 100000
set_option maxHeartbeats 3900000
namespace DL
open PySem L2
abbrev D := PyData
def KD : Key → D
  | .inl i => .int i
  | .inr x => .str x
mutual
/-- the value v is the datum d, in what stands at H -/
inductive At (K : PySem.W.Frag) (H : Hp) : V → D → Prop
  | non : At K H .non .none
  | bl (b : Bool) : At K H (.bl b) (.bool b)
  | int (i : Int) : At K H (.int i) (.int i)
  | str (x : Str) : At K H (.str x) (.str x)
  | lst {a : Addr} {xs : List V} {ds : List D} : SqL K H a xs → AtAll K H xs ds → At K H (.ref a) (.list ds)
  | tup {a : Addr} {xs : List V} {ds : List D} : SqT K H a xs → AtAll K H xs ds → At K H (.ref a) (.tuple ds)
  | dk {a : Addr} {ks : List Key} {xs : List V} {ds : List D} : Rd H a (.dK (ks.zip xs)) → ks ≠ [] → ks.length = xs.length → AtAll K H xs ds → At K H (.ref a) (.dict ((ks.map KD).zip ds))
  | dt {a : Addr} {ks : List (List Key)} {xs : List V} {ds : List D} : H a = some (.dT (ks.zip xs)) → ks.length = xs.length → AtAll K H xs ds → At K H (.ref a) (.dict ((ks.map fun k => PyData.tuple (k.map KD)).zip ds))
inductive AtAll (K : PySem.W.Frag) (H : Hp) : List V → List D → Prop
  | nil : AtAll K H [] []
  | cons {v : V} {vs : List V} {d : D} {ds : List D} : At K H v d → AtAll K H vs ds → AtAll K H (v :: vs) (d :: ds)
end
def Ex (G G' : Hp) : Prop := ∀ a o, G a = some o → G' a = some o
theorem Ex.refl (G : Hp) : Ex G G := fun _ _ h => h
theorem Ex.trans {G G1 G2 : Hp} (a : Ex G G1) (b : Ex G1 G2) : Ex G G2 := fun x o h => b x o (a x o h)
theorem Ex.new {G : Hp} {p : Addr} {o : HO} (h : G p = none) : Ex G (upd G p o) := fun a u e => by
  rw [upd_ne (ne_of_none e h)]
  exact e
theorem Ex.rd {H H' : Hp} {a : Addr} {u : HO} (e : Ex H H') (h : Rd H a u) : Rd H' a u := by
  rcases h with h | ⟨o, h⟩
  · exact Or.inl (e a _ h)
  · exact Or.inr ⟨o, e a _ h⟩
theorem Ex.sl {K : PySem.W.Frag} {H H' : Hp} {a : Addr} {xs : List V} (e : Ex H H') (h : SqL K H a xs) : SqL K H' a xs := by
  rcases h with h | h
  · exact Or.inl (e.rd h)
  · exact Or.inr h
theorem Ex.st {K : PySem.W.Frag} {H H' : Hp} {a : Addr} {xs : List V} (e : Ex H H') (h : SqT K H a xs) : SqT K H' a xs := by
  rcases h with h | h
  · exact Or.inl (e.rd h)
  · exact Or.inr h
theorem At.mono {K : PySem.W.Frag} {H H' : Hp} (e : Ex H H') {v : V} {d : D} (h : At K H v d) : At K H' v d := by
  refine At.rec (motive_1 := fun v d _ => At K H' v d) (motive_2 := fun vs ds _ => AtAll K H' vs ds) ?_ ?_ ?_ ?_ ?_ ?_ ?_ ?_ ?_ ?_ h
  · exact .non
  · exact fun b => .bl b
  · exact fun i => .int i
  · exact fun x => .str x
  · exact fun s _ i => .lst (e.sl s) i
  · exact fun s _ i => .tup (e.st s) i
  · exact fun s n l _ i => .dk (e.rd s) n l i
  · exact fun s l _ i => .dt (e _ _ s) l i
  · exact .nil
  · exact fun _ _ i j => .cons i j
theorem AtAll.mono {K : PySem.W.Frag} {H H' : Hp} (e : Ex H H') : ∀ {vs : List V} {ds : List D}, AtAll K H vs ds → AtAll K H' vs ds
  | _, _, .nil => .nil
  | _, _, .cons h t => .cons (h.mono e) (AtAll.mono e t)
section
variable {K : PySem.W.Frag} {H : Hp}
theorem AtAll.length : ∀ {vs : List V} {ds : List D}, AtAll K H vs ds → vs.length = ds.length
  | _, _, .nil => rfl
  | _, _, .cons _ t => congrArg (· + 1) t.length
theorem AtAll.append : ∀ {vs ws : List V} {ds es : List D}, AtAll K H vs ds → AtAll K H ws es → AtAll K H (vs ++ ws) (ds ++ es)
  | _, _, _, _, .nil, s => s
  | _, _, _, _, .cons r t, s => .cons r (t.append s)
theorem AtAll.take : ∀ {vs : List V} {ds : List D} (n : Nat), AtAll K H vs ds → AtAll K H (vs.take n) (ds.take n)
  | _, _, 0, _ => by simpa using AtAll.nil
  | _, _, _ + 1, .nil => .nil
  | _, _, n + 1, .cons r t => .cons r (t.take n)
theorem AtAll.drop : ∀ {vs : List V} {ds : List D} (n : Nat), AtAll K H vs ds → AtAll K H (vs.drop n) (ds.drop n)
  | _, _, 0, r => r
  | _, _, _ + 1, .nil => .nil
  | _, _, n + 1, .cons _ t => t.drop n
theorem AtAll.get : ∀ {vs : List V} {ds : List D} {i : Nat} {d : D}, AtAll K H vs ds → ds[i]? = some d → ∃ v, vs[i]? = some v ∧ At K H v d
  | _, _, _, _, .nil, e => (by simp at e)
  | _, _, 0, _, .cons r _, e => (by simp at e; subst e; exact ⟨_, rfl, r⟩)
  | _, _, i + 1, d, .cons _ t, e => by
    obtain ⟨v, h1, h2⟩ := t.get (i := i) (d := d) (by simpa using e)
    exact ⟨v, by simpa using h1, h2⟩
theorem AtAll.set {x : V} {d : D} (r : At K H x d) : ∀ {vs : List V} {ds : List D} (i : Nat), AtAll K H vs ds → AtAll K H (vs.set i x) (ds.set i d)
  | _, _, _, .nil => .nil
  | _, _, 0, .cons _ t => (.cons r t)
  | _, _, i + 1, .cons q t => .cons q (AtAll.set r i t)
theorem AtAll.reverse : ∀ {vs : List V} {ds : List D}, AtAll K H vs ds → AtAll K H vs.reverse ds.reverse
  | _, _, .nil => .nil
  | _, _, .cons r t => by
    (rw [List.reverse_cons, List.reverse_cons])
    exact t.reverse.append (.cons r .nil)
theorem AtAll.dropLast {vs : List V} {ds : List D} (h : AtAll K H vs ds) : AtAll K H vs.dropLast ds.dropLast := by
  rw [List.dropLast_eq_take, List.dropLast_eq_take, h.length]
  exact h.take _
theorem AtAll.ints : ∀ {vs : List V} {ns : List Int}, AtAll K H vs (ns.map PyData.int) → vs = ns.map V.int
  | _, [], .nil => rfl
  | _, n :: ns, .cons r t => by cases r; rw [t.ints]; rfl
theorem AtAll.ofInts : ∀ (ns : List Int), AtAll K H (ns.map V.int) (ns.map PyData.int)
  | [] => .nil
  | n :: ns => .cons (.int n) (AtAll.ofInts ns)
end
mutual
def nod : D → Bool
  | .list xs => nodAll xs
  | .tuple xs => nodAll xs
  | .dict _ => false
  | _ => true
def nodAll : List D → Bool
  | [] => true
  | x :: xs => nod x && nodAll xs
end
theorem At.dp {K : PySem.W.Frag} {H : Hp} {v : V} {d : D} (h : At K H v d) : nod d = true → Dp K H v d := by
  refine At.rec (motive_1 := fun v d _ => nod d = true → Dp K H v d) (motive_2 := fun vs ds _ => nodAll ds = true → DpAll K H vs ds) ?_ ?_ ?_ ?_ ?_ ?_ ?_ ?_ ?_ ?_ h
  · exact fun _ => .non
  · exact fun b _ => .bl b
  · exact fun i _ => .int i
  · exact fun x _ => .str x
  · exact fun s _ i e => .lst s (i (by simpa [nod] using e))
  · exact fun s _ i e => .tup s (i (by simpa [nod] using e))
  · exact fun _ _ _ _ _ e => by simp [nod] at e
  · exact fun _ _ _ _ e => by simp [nod] at e
  · exact fun _ => .nil
  · exact fun _ _ i j e => by
      simp only [nodAll, Bool.and_eq_true] at e
      exact .cons (i e.1) (j e.2)
end DL
namespace DL
open PySem L2
def Foot (T : List (Addr × Str)) : Option Addr → Hp → Addr → Prop
  | none, _, _ => False
  | some q, H, a => (a = q ∨ ∃ kvs k, H q = some (.dK kvs) ∧ (k, V.ref a) ∈ kvs) ∨ ∃ t ∈ T, a = t.1 ∨ ∃ (ps : Array Value) (pos : Pos), H t.1 = some (.tbl ps) ∧ codeAmong pos ps.toList = some (Value.ref a)
theorem Foot.eqv {T : List (Addr × Str)} {p : Option Addr} {H H' : Hp} (h : ∀ q, p = some q → H' q = H q) (h2 : p ≠ none → ∀ t ∈ T, H' t.1 = H t.1) (a : Addr) : Foot T p H' a ↔ Foot T p H a := by
  cases p with
  | none => exact Iff.rfl
  | some q =>
    have e := h q rfl
    have e2 := h2 (fun z => by cases z)
    show ((a = q ∨ ∃ kvs k, H' q = some (.dK kvs) ∧ (k, V.ref a) ∈ kvs) ∨ ∃ t ∈ T, a = t.1 ∨ ∃ (ps : Array Value) (pos : Pos), H' t.1 = some (.tbl ps) ∧ codeAmong pos ps.toList = some (Value.ref a)) ↔ ((a = q ∨ ∃ kvs k, H q = some (.dK kvs) ∧ (k, V.ref a) ∈ kvs) ∨ ∃ t ∈ T, a = t.1 ∨ ∃ (ps : Array Value) (pos : Pos), H t.1 = some (.tbl ps) ∧ codeAmong pos ps.toList = some (Value.ref a))
    rw [e]
    constructor
    · rintro (z | ⟨t, ht, z⟩)
      · exact .inl z
      · rw [e2 t ht] at z
        exact .inr ⟨t, ht, z⟩
    · rintro (z | ⟨t, ht, z⟩)
      · exact .inl z
      · rw [← e2 t ht] at z
        exact .inr ⟨t, ht, z⟩
structure Orc where
  T : List (Addr × Str)
  I : Addr → Hp → Prop
  cnt : Addr → Hp → Nat
  al : ∀ q H a, I q H → Foot T (some q) H a → H a ≠ none
  st : ∀ q H H', I q H → (∀ a, Foot T (some q) H a → H' a = H a) → I q H'
  sc : ∀ q H H', I q H → (∀ a, Foot T (some q) H a → H' a = H a) → cnt q H' = cnt q H
/-- no source of numbers -/
def Orc.nil : Orc := ⟨[], fun _ _ => False, fun _ _ => 0, fun _ _ _ h => h.elim, fun _ _ _ h => h.elim, fun _ _ _ h => h.elim⟩
/-- from F0 (known to stay) and H0 (all) to F and H -/
structure World (R : Orc) (p : Option Addr) (F0 H0 F H : Hp) : Prop where
  ff : Ex F0 F
  fh : Ex F H
  kp : ∀ a o, H0 a = some o → ¬ Foot R.T p H0 a → H a = some o ∧ ¬ Foot R.T p H a
  dom : ∀ a, H0 a ≠ none → H a ≠ none
  fn : ∀ a, H0 a ≠ none → F0 a = none → F a = none
  ft : ∀ a, F a ≠ none → ¬ Foot R.T p H a
  or : ∀ q, p = some q → R.I q H
theorem World.start {R : Orc} {p : Option Addr} {F H : Hp} (fh : Ex F H) (ft : ∀ a, F a ≠ none → ¬ Foot R.T p H a) (or : ∀ q, p = some q → R.I q H) : World R p F H F H :=
  ⟨Ex.refl F, fh, fun _ _ h f => ⟨h, f⟩, fun _ h => h, fun _ _ h => h, ft, or⟩
theorem World.here {R : Orc} {p : Option Addr} {F0 H0 F H : Hp} (w : World R p F0 H0 F H) : World R p F H F H := World.start w.fh w.ft w.or
theorem World.trans {R : Orc} {p : Option Addr} {F0 H0 F H F' H' : Hp} (w : World R p F0 H0 F H) (v : World R p F H F' H') : World R p F0 H0 F' H' := by
  refine ⟨w.ff.trans v.ff, v.fh, fun a o h f => ?_, fun a h => v.dom a (w.dom a h), fun a h f => v.fn a (w.dom a h) (w.fn a h f), v.ft, v.or⟩
  obtain ⟨h1, f1⟩ := w.kp a o h f
  exact v.kp a o h1 f1
theorem World.ofNone {R : Orc} {p : Option Addr} {F0 H0 F H F' H' : Hp} (w : World R p F0 H0 F H) (v : World R none F H F' H') : World R p F H F' H' := by
  have all : ∀ a, H a ≠ none → H' a = H a := fun a h => by
    cases e : H a with
    | none => exact absurd e h
    | some o => exact (v.kp a o e (fun z => z)).1
  have al : ∀ a, Foot R.T p H a → H a ≠ none := fun a h => by
    cases p with
    | none => exact h.elim
    | some q => exact R.al q H a (w.or q rfl) h
  have hq : ∀ q, p = some q → H' q = H q := fun q e => all q (al q (by subst e; exact .inl (.inl rfl)))
  have ff : ∀ a, Foot R.T p H' a ↔ Foot R.T p H a := Foot.eqv hq fun hp t ht => all t.1 (al t.1 (by
    cases p with
    | none => exact absurd rfl hp
    | some q => exact .inr ⟨t, ht, .inl rfl⟩))
  refine ⟨v.ff, v.fh, fun a o h f => ⟨(v.kp a o h (fun z => z)).1, fun z => f ((ff a).mp z)⟩, v.dom, v.fn, fun a h z => ?_, fun q e => ?_⟩
  · have z' := (ff a).mp z
    cases e : F a with
    | some o => exact w.ft a (by rw [e]; exact Option.some_ne_none o) z'
    | none => exact h (v.fn a (al a z') e)
  · subst e
    exact R.st q H H' (w.or q rfl) fun a h => all a (al a h)
theorem World.foot_al {R : Orc} {p : Option Addr} {F0 H0 F H : Hp} (w : World R p F0 H0 F H) {a : Addr} (h : Foot R.T p H a) : H a ≠ none := by
  cases p with
  | none => exact h.elim
  | some q => exact R.al q H a (w.or q rfl) h
/-- a new object that is known from then on -/
theorem World.newF {R : Orc} {p : Option Addr} {F0 H0 F H : Hp} (w : World R p F0 H0 F H) {q : Addr} (o : HO) (hq : H q = none) : World R none F H (upd F q o) (upd H q o) := by
  refine ⟨?_, ?_, ?_, ?_, ?_, fun _ _ z => z, fun _ e => nomatch e⟩
  · intro a u e
    have : a ≠ q := fun z => by
      have := w.fh a u e
      rw [z, hq] at this
      cases this
    rw [upd_ne this]
    exact e
  · intro a u e
    by_cases h : a = q
    · subst h
      rw [upd_same] at e ⊢
      exact e
    · rw [upd_ne h] at e ⊢
      exact w.fh a u e
  · exact fun a u e _ => ⟨Ex.new hq a u e, fun z => z⟩
  · intro a h
    by_cases e : a = q
    · subst e
      exact absurd hq h
    · rw [upd_ne e]
      exact h
  · intro a h e
    by_cases z : a = q
    · subst z
      exact absurd hq h
    · rw [upd_ne z]
      exact e
/-- a new object that may change -/
theorem World.newO {R : Orc} {p : Option Addr} {F0 H0 F H : Hp} (w : World R p F0 H0 F H) {q : Addr} (o : HO) (hq : H q = none) : World R none F H F (upd H q o) := by
  refine ⟨Ex.refl F, fun a u e => Ex.new hq a u (w.fh a u e), fun a u e _ => ⟨Ex.new hq a u e, fun z => z⟩, fun a h => ?_, fun _ _ e => e, fun _ _ z => z, fun _ e => nomatch e⟩
  by_cases e : a = q
  · subst e
    exact absurd hq h
  · rw [upd_ne e]
    exact h
inductive Sl where
  | no | im (d : D) | ow (d : D) | ora (n : Nat)
structure Cn where
  K : PySem.W.Frag
  R : Orc
  p : Option Addr
  F0 : Hp
  H0 : Hp
/-- an object on the side: a datum's, or just this one -/
inductive XO where
  | d (d : D) | o (o : HO)
instance : Coe D XO := ⟨XO.d⟩
abbrev XX := List (Addr × XO)
/-- a list or dict that nobody else holds -/
def OwnO (K : PySem.W.Frag) (F H : Hp) (a : Addr) : D → Prop
  | .list ds => ∃ vs, H a = some (.lst vs) ∧ AtAll K F vs ds
  | .dict kd => (∃ (ks : List Key) (vs : List V) (ds : List D), kd = (ks.map KD).zip ds ∧ ks ≠ [] ∧ ks.length = vs.length ∧ H a = some (.dK (ks.zip vs)) ∧ AtAll K F vs ds) ∨
      ∃ (ks : List (List Key)) (vs : List V) (ds : List D), kd = (ks.map fun k => PyData.tuple (k.map KD)).zip ds ∧ ks.length = vs.length ∧ H a = some (.dT (ks.zip vs)) ∧ AtAll K F vs ds
  | _ => False
def OwnO.mono {K : PySem.W.Frag} {F F' H H' : Hp} {a : Addr} (e : Ex F F') (h : H' a = H a) : ∀ {d : D}, OwnO K F H a d → OwnO K F' H' a d
  | .list ds, ⟨vs, h1, h2⟩ => ⟨vs, h.trans h1, h2.mono e⟩
  | .dict kd, .inl ⟨ks, vs, ds, h0, hn, hl, h1, h2⟩ => .inl ⟨ks, vs, ds, h0, hn, hl, h.trans h1, h2.mono e⟩
  | .dict kd, .inr ⟨ks, vs, ds, h0, hl, h1, h2⟩ => .inr ⟨ks, vs, ds, h0, hl, h.trans h1, h2.mono e⟩
theorem OwnO.at {K : PySem.W.Frag} {F H : Hp} {a : Addr} : ∀ {d : D}, OwnO K F H a d → ∃ o, H a = some o ∧ ∀ F', Ex F F' → F' a = some o → At K F' (.ref a) d
  | .list ds, ⟨vs, h1, h2⟩ => ⟨_, h1, fun F' e h => .lst (.inl (.inl h)) (h2.mono e)⟩
  | .dict kd, .inl ⟨ks, vs, ds, h0, hn, hl, h1, h2⟩ => ⟨_, h1, fun F' e h => by subst h0; exact .dk (.inl h) hn hl (h2.mono e)⟩
  | .dict kd, .inr ⟨ks, vs, ds, h0, hl, h1, h2⟩ => ⟨_, h1, fun F' e h => by subst h0; exact .dt h hl (h2.mono e)⟩
def OwnX (K : PySem.W.Frag) (F H : Hp) (a : Addr) : XO → Prop
  | .d d => OwnO K F H a d
  | .o o => H a = some o
theorem OwnX.mono {K : PySem.W.Frag} {F F' H H' : Hp} {a : Addr} (e : Ex F F') (h : H' a = H a) : ∀ {x : XO}, OwnX K F H a x → OwnX K F' H' a x
  | .d _, z => OwnO.mono e h z
  | .o _, z => h.trans z
theorem OwnX.some {K : PySem.W.Frag} {F H : Hp} {a : Addr} : ∀ {x : XO}, OwnX K F H a x → ∃ o, H a = some o
  | .d _, z => let ⟨o, h, _⟩ := OwnO.at z; ⟨o, h⟩
  | .o o, z => ⟨o, z⟩
theorem OwnX.at {K : PySem.W.Frag} {F H : Hp} {a : Addr} {d : D} (h : OwnX K F H a (.d d)) : ∃ o, H a = Option.some o ∧ ∀ F', Ex F F' → F' a = Option.some o → At K F' (.ref a) d := OwnO.at h
/-- as it stands at a, the address being younger than the entry -/
structure Own (c : Cn) (F H : Hp) (a : Addr) (d : XO) : Prop where
  o : OwnX c.K F H a d
  f : F a = none
  y : c.H0 a = none
  n : ¬ Foot c.R.T c.p H a
structure Slots (c : Cn) (F H : Hp) (σ : L2.St) (ρ : List Sl) (xx : XX) : Prop where
  len : ρ.length = σ.length
  im : ∀ (i : Nat) (d : D), ρ[i]? = some (.im d) → ∃ v, σ[i]? = some (some v) ∧ At c.K F v d
  ow : ∀ (i : Nat) (d : D), ρ[i]? = some (.ow d) → ∃ a, σ[i]? = some (some (.ref a)) ∧ Own c F H a d
  dj : ∀ (i j : Nat) (d e : D) (a : Addr), ρ[i]? = some (.ow d) → ρ[j]? = some (.ow e) → σ[i]? = some (some (.ref a)) → σ[j]? = some (some (.ref a)) → i = j
  or : ∀ (i n : Nat), ρ[i]? = some (.ora n) → ∃ q, c.p = some q ∧ σ[i]? = some (some (.ref q)) ∧ c.R.cnt q H ≤ n
  ou : ∀ (i j m n : Nat), ρ[i]? = some (.ora m) → ρ[j]? = some (.ora n) → i = j
  ex : ∀ p ∈ xx, Own c F H p.1 p.2 ∧ ∀ (i : Nat) (e : D), ρ[i]? = some (.ow e) → σ[i]? ≠ some (some (.ref p.1))
  xd : (xx.map (·.1)).Nodup
structure Rel (c : Cn) (F H : Hp) (σ : L2.St) (ρ : List Sl) (xx : XX) : Prop where
  w : World c.R c.p c.F0 c.H0 F H
  s : Slots c F H σ ρ xx
theorem Own.step {c : Cn} {F H F' H' : Hp} {a : Addr} {d : XO} (h : Own c F H a d) (v : World c.R c.p F H F' H') : Own c F' H' a d := by
  obtain ⟨o, ho⟩ := h.o.some
  obtain ⟨h1, h2⟩ := v.kp a o ho h.n
  exact ⟨h.o.mono v.ff (h1.trans ho.symm), v.fn a (by rw [ho]; exact Option.some_ne_none o) h.f, h.y, h2⟩
theorem Slots.step {c : Cn} {F H F' H' : Hp} {σ : L2.St} {ρ : List Sl} {xx : XX} (s : Slots c F H σ ρ xx) (v : World c.R c.p F H F' H') (hq : ∀ q, c.p = some q → c.R.cnt q H' ≤ c.R.cnt q H) : Slots c F' H' σ ρ xx := by
  refine ⟨s.len, fun i d e => ?_, fun i d e => ?_, s.dj, fun i n e => ?_, s.ou, fun p hp => ⟨(s.ex p hp).1.step v, (s.ex p hp).2⟩, s.xd⟩
  · obtain ⟨u, h1, h2⟩ := s.im i d e
    exact ⟨u, h1, h2.mono v.ff⟩
  · obtain ⟨a, h1, h2⟩ := s.ow i d e
    exact ⟨a, h1, h2.step v⟩
  · obtain ⟨q, h1, h2, h3⟩ := s.or i n e
    exact ⟨q, h1, h2, Nat.le_trans (hq q h1) h3⟩
theorem Rel.step {c : Cn} {F H F' H' : Hp} {σ : L2.St} {ρ : List Sl} {xx : XX} (r : Rel c F H σ ρ xx) (v : World c.R c.p F H F' H') (hq : ∀ q, c.p = some q → c.R.cnt q H' ≤ c.R.cnt q H) : Rel c F' H' σ ρ xx := ⟨r.w.trans v, r.s.step v hq⟩
theorem Rel.stepN {c : Cn} {F H F' H' : Hp} {σ : L2.St} {ρ : List Sl} {xx : XX} (r : Rel c F H σ ρ xx) (v : World c.R none F H F' H') : Rel c F' H' σ ρ xx := r.step (r.w.ofNone v) fun q e => by
  refine Nat.le_of_eq (c.R.sc q H H' (r.w.or q e) fun a ha => ?_)
  have al := c.R.al q H a (r.w.or q e) ha
  cases z : H a with
  | none => exact absurd z al
  | some o => exact (v.kp a o z fun y => y).1
theorem ora_back {ρ : List Sl} {k : Nat} {x : Sl} (hx : ∀ m, x ≠ .ora m) {i m : Nat} (q : (ρ.set k x)[i]? = some (.ora m)) : ρ[i]? = some (.ora m) := by
  rw [List.getElem?_set] at q
  by_cases z : k = i
  · rw [if_pos z] at q
    split at q
    · exact absurd (Option.some.inj q) (hx m)
    · cases q
  · rw [if_neg z] at q
    exact q
theorem ou_set {ρ : List Sl} {k : Nat} {x : Sl} (hx : ∀ m, x ≠ .ora m) (h : ∀ (i j m n : Nat), ρ[i]? = some (.ora m) → ρ[j]? = some (.ora n) → i = j) : ∀ (i j m n : Nat), (ρ.set k x)[i]? = some (.ora m) → (ρ.set k x)[j]? = some (.ora n) → i = j :=
  fun i j m n a b => h i j m n (ora_back hx a) (ora_back hx b)
theorem Rel.apart {c : Cn} {F H : Hp} {σ : L2.St} {ρ : List Sl} {xx : XX} (r : Rel c F H σ ρ xx) {a : Addr} {o : HO} (n : ¬ Foot c.R.T c.p H a) : ∀ (i n : Nat), ρ[i]? = some (.ora n) → ∃ q, c.p = some q ∧ σ[i]? = some (some (.ref q)) ∧ c.R.cnt q (upd H a o) ≤ n := by
  intro i m e
  obtain ⟨q, h1, h2, h3⟩ := r.s.or i m e
  refine ⟨q, h1, h2, ?_⟩
  rw [c.R.sc q H _ (r.w.or q h1) fun b hb => ?_]
  · exact h3
  · rw [upd_ne]
    intro z
    subst z
    exact n (by rw [h1]; exact hb)
/-- an own object becomes known -/
theorem Rel.freeze {c : Cn} {F H : Hp} {σ : L2.St} {ρ : List Sl} {xx : XX} (r : Rel c F H σ ρ xx) {i : Nat} {d : D} (e : ρ[i]? = some (.ow d)) :
    ∃ F' v, σ[i]? = some (some v) ∧ Ex F F' ∧ At c.K F' v d ∧ Rel c F' H σ (ρ.set i (.im d)) xx := by
  obtain ⟨a, h1, h2⟩ := r.s.ow i d e
  obtain ⟨o, ho, at_⟩ := h2.o.at
  have ef : Ex F (upd F a o) := Ex.new h2.f
  have hi : i < ρ.length := (List.getElem?_eq_some_iff.mp e).1
  refine ⟨upd F a o, .ref a, h1, ef, at_ _ ef upd_same, ⟨?_, ?_⟩⟩
  · refine ⟨r.w.ff.trans ef, fun b u q => ?_, r.w.kp, r.w.dom, fun b h f => ?_, fun b h => ?_, r.w.or⟩
    · by_cases z : b = a
      · subst z
        rw [upd_same] at q
        cases q
        exact ho
      · rw [upd_ne z] at q
        exact r.w.fh b u q
    · by_cases z : b = a
      · subst z
        exact absurd h2.y h
      · rw [upd_ne z]
        exact r.w.fn b h f
    · by_cases z : b = a
      · subst z
        exact h2.n
      · rw [upd_ne z] at h
        exact r.w.ft b h
  · refine ⟨by simpa using r.s.len, fun j x q => ?_, fun j x q => ?_, fun j k x y b q1 q2 s1 s2 => ?_, fun j n q => r.s.or j n (ora_back (by intro m z; cases z) q), ou_set (by intro m z; cases z) r.s.ou, fun p hp => ?_, r.s.xd⟩
    · rw [List.getElem?_set] at q
      by_cases z : i = j
      · subst z
        rw [if_pos rfl, if_pos hi] at q
        cases q
        exact ⟨.ref a, h1, at_ _ ef upd_same⟩
      · rw [if_neg z] at q
        obtain ⟨v, g1, g2⟩ := r.s.im j x q
        exact ⟨v, g1, g2.mono ef⟩
    · rw [List.getElem?_set] at q
      by_cases z : i = j
      · subst z
        rw [if_pos rfl, if_pos hi] at q
        cases q
      · rw [if_neg z] at q
        obtain ⟨b, g1, g2⟩ := r.s.ow j x q
        have hb : b ≠ a := fun zz => by
          subst zz
          exact z (r.s.dj i j d x b e q h1 g1)
        exact ⟨b, g1, ⟨g2.o.mono ef rfl, by rw [upd_ne hb]; exact g2.f, g2.y, g2.n⟩⟩
    · rw [List.getElem?_set] at q1 q2
      by_cases z : i = j
      · subst z
        rw [if_pos rfl, if_pos hi] at q1
        cases q1
      · rw [if_neg z] at q1
        by_cases z2 : i = k
        · subst z2
          rw [if_pos rfl, if_pos hi] at q2
          cases q2
        · rw [if_neg z2] at q2
          exact r.s.dj j k x y b q1 q2 s1 s2
    · obtain ⟨g2, gn⟩ := r.s.ex p hp
      have hb : p.1 ≠ a := fun zz => gn i d e (by rw [zz]; exact h1)
      refine ⟨⟨g2.o.mono ef rfl, by rw [upd_ne hb]; exact g2.f, g2.y, g2.n⟩, fun j x q => ?_⟩
      rw [List.getElem?_set] at q
      by_cases z : i = j
      · subst z
        rw [if_pos rfl, if_pos hi] at q
        cases q
      · rw [if_neg z] at q
        exact gn j x q
/-- an own object changes -/
theorem Rel.mut {c : Cn} {F H : Hp} {σ : L2.St} {ρ : List Sl} {xx : XX} (r : Rel c F H σ ρ xx) {i : Nat} {d d' : D} {a : Addr} {o : HO} (e : ρ[i]? = some (.ow d)) (h1 : σ[i]? = some (some (.ref a)))
    (hn : OwnO c.K F (upd H a o) a d') : Rel c F (upd H a o) σ (ρ.set i (.ow d')) xx := by
  obtain ⟨a', h1', h2⟩ := r.s.ow i d e
  rw [h1] at h1'
  cases h1'
  obtain ⟨o0, ho, _⟩ := h2.o.at
  have hi : i < ρ.length := (List.getElem?_eq_some_iff.mp e).1
  have hq : ∀ q, c.p = some q → upd H a o q = H q := fun q ep => by
    rw [upd_ne]
    intro z
    subst z
    exact h2.n (by rw [ep]; exact .inl (.inl rfl))
  have ff : ∀ b, Foot c.R.T c.p (upd H a o) b ↔ Foot c.R.T c.p H b := Foot.eqv hq fun hp t ht => by
    rw [upd_ne]
    intro z
    cases e : c.p with
    | none => exact absurd e hp
    | some q => exact h2.n (by rw [e]; exact .inr ⟨t, ht, .inl z.symm⟩)
  refine ⟨⟨r.w.ff, fun b u q => ?_, fun b u q f => ?_, fun b h => ?_, r.w.fn, fun b h z => r.w.ft b h ((ff b).mp z), fun q ep => ?_⟩, ?_⟩
  · rw [upd_ne (fun z => by subst z; rw [h2.f] at q; cases q)]
    exact r.w.fh b u q
  · obtain ⟨g1, g2⟩ := r.w.kp b u q f
    refine ⟨?_, fun z => g2 ((ff b).mp z)⟩
    rw [upd_ne (fun z => by subst z; rw [h2.y] at q; cases q)]
    exact g1
  · by_cases z : b = a
    · subst z
      rw [upd_same]
      exact Option.some_ne_none o
    · rw [upd_ne z]
      exact r.w.dom b h
  · refine c.R.st q H _ (r.w.or q ep) fun b hb => ?_
    rw [upd_ne]
    intro z
    subst z
    exact h2.n (by rw [ep]; exact hb)
  · refine ⟨by simpa using r.s.len, fun j x q => ?_, fun j x q => ?_, fun j k x y b q1 q2 s1 s2 => ?_, fun j n q => r.apart h2.n j n (ora_back (by intro m z; cases z) q), ou_set (by intro m z; cases z) r.s.ou, fun p hp => ?_, r.s.xd⟩
    · rw [List.getElem?_set] at q
      by_cases z : i = j
      · subst z
        rw [if_pos rfl, if_pos hi] at q
        cases q
      · rw [if_neg z] at q
        exact r.s.im j x q
    · rw [List.getElem?_set] at q
      by_cases z : i = j
      · subst z
        rw [if_pos rfl, if_pos hi] at q
        cases q
        exact ⟨a, h1, ⟨hn, h2.f, h2.y, fun z => h2.n ((ff a).mp z)⟩⟩
      · rw [if_neg z] at q
        obtain ⟨b, g1, g2⟩ := r.s.ow j x q
        have hb : b ≠ a := fun zz => by
          subst zz
          exact z (r.s.dj i j d x b e q h1 g1)
        exact ⟨b, g1, ⟨g2.o.mono (Ex.refl F) (upd_ne hb), g2.f, g2.y, fun z => g2.n ((ff b).mp z)⟩⟩
    · have back : ∀ (k : Nat) (y : D), (ρ.set i (.ow d'))[k]? = some (.ow y) → ∃ y', ρ[k]? = some (.ow y') := fun k y q => by
        rw [List.getElem?_set] at q
        by_cases z : i = k
        · subst z
          exact ⟨d, e⟩
        · rw [if_neg z] at q
          exact ⟨y, q⟩
      obtain ⟨x', q1'⟩ := back j x q1
      obtain ⟨y', q2'⟩ := back k y q2
      exact r.s.dj j k x' y' b q1' q2' s1 s2
    · obtain ⟨g2, gn⟩ := r.s.ex p hp
      have hb : p.1 ≠ a := fun zz => gn i d e (by rw [zz]; exact h1)
      refine ⟨⟨g2.o.mono (Ex.refl F) (upd_ne hb), g2.f, g2.y, fun z => g2.n ((ff p.1).mp z)⟩, fun j x q => ?_⟩
      rw [List.getElem?_set] at q
      by_cases z : i = j
      · subst z
        exact gn i d e
      · rw [if_neg z] at q
        exact gn j x q
/-- a new object, held by nobody -/
structure Fresh (c : Cn) (F H : Hp) (σ : L2.St) (ρ : List Sl) (xx : XX) (a : Addr) (d : XO) : Prop where
  own : Own c F H a d
  ne : ∀ (i : Nat) (e : D), ρ[i]? = some (.ow e) → σ[i]? ≠ some (some (.ref a))
  nx : ∀ p ∈ xx, p.1 ≠ a
theorem set_lt {α : Type} {ρ : List α} {i j : Nat} {x y : α} (h : (ρ.set i x)[j]? = some y) : (i = j ∧ i < ρ.length ∧ x = y) ∨ (i ≠ j ∧ ρ[j]? = some y) := by
  rw [List.getElem?_set] at h
  by_cases z : i = j
  · rw [if_pos z] at h
    by_cases hl : i < ρ.length
    · rw [if_pos hl] at h
      exact .inl ⟨z, hl, Option.some.inj h⟩
    · rw [if_neg hl] at h
      cases h
  · rw [if_neg z] at h
    exact .inr ⟨z, h⟩
theorem get_set_ne {α : Type} {ρ : List α} {i j : Nat} {x : α} (h : i ≠ j) : (ρ.set i x)[j]? = ρ[j]? := by rw [List.getElem?_set, if_neg h]
theorem get_set_eq {α : Type} {ρ : List α} {i : Nat} {x : α} (h : i < ρ.length) : (ρ.set i x)[i]? = some x := by rw [List.getElem?_set, if_pos rfl, if_pos h]
theorem Slots.put {c : Cn} {F H : Hp} {σ : L2.St} {ρ : List Sl} {xx : XX} (s : Slots c F H σ ρ xx) {v : V} {x : Sl} (i : Nat)
    (him : ∀ d, x = .im d → At c.K F v d) (how : ∀ d, x = .ow d → ∃ a, v = .ref a ∧ Fresh c F H σ ρ xx a d) (hor : ∀ n, x ≠ .ora n) : Slots c F H (σ.set i (some v)) (ρ.set i x) xx := by
  refine ⟨by simpa using s.len, fun j d q => ?_, fun j d q => ?_, fun j k d e b q1 q2 s1 s2 => ?_, fun j n q => ?_, ou_set hor s.ou, fun p hp => ⟨(s.ex p hp).1, fun j d q => ?_⟩, s.xd⟩
  · rcases set_lt q with ⟨rfl, hl, e⟩ | ⟨z, q⟩
    · exact ⟨v, get_set_eq (by rw [← s.len]; exact hl), him d e⟩
    · obtain ⟨u, g1, g2⟩ := s.im j d q
      exact ⟨u, by rw [get_set_ne z]; exact g1, g2⟩
  · rcases set_lt q with ⟨rfl, hl, e⟩ | ⟨z, q⟩
    · obtain ⟨a, ev, fr⟩ := how d e
      subst ev
      exact ⟨a, get_set_eq (by rw [← s.len]; exact hl), fr.own⟩
    · obtain ⟨u, g1, g2⟩ := s.ow j d q
      exact ⟨u, by rw [get_set_ne z]; exact g1, g2⟩
  · rcases set_lt q1 with ⟨rfl, hl, e1⟩ | ⟨z, q1⟩
    · rcases set_lt q2 with ⟨rfl, _, _⟩ | ⟨z2, q2⟩
      · rfl
      · exfalso
        obtain ⟨a, ev, fr⟩ := how d e1
        rw [get_set_eq (by rw [← s.len]; exact hl)] at s1
        rw [get_set_ne z2] at s2
        cases s1
        cases ev
        exact fr.ne k e q2 s2
    · rcases set_lt q2 with ⟨rfl, hl, e2⟩ | ⟨z2, q2⟩
      · exfalso
        obtain ⟨a, ev, fr⟩ := how e e2
        rw [get_set_eq (by rw [← s.len]; exact hl)] at s2
        rw [get_set_ne z] at s1
        cases s2
        cases ev
        exact fr.ne j d q1 s1
      · rw [get_set_ne z] at s1
        rw [get_set_ne z2] at s2
        exact s.dj j k d e b q1 q2 s1 s2
  · rcases set_lt q with ⟨rfl, hl, e⟩ | ⟨z, q⟩
    · exact absurd e (hor n)
    · obtain ⟨u, g1, g2, g3⟩ := s.or j n q
      exact ⟨u, g1, by rw [get_set_ne z]; exact g2, g3⟩
  · rcases set_lt q with ⟨rfl, hl, e⟩ | ⟨z, q⟩
    · obtain ⟨a, ev, fr⟩ := how d e
      subst ev
      rw [get_set_eq (by rw [← s.len]; exact hl)]
      intro zz
      cases zz
      exact fr.nx p hp rfl
    · rw [get_set_ne z]
      exact (s.ex p hp).2 j d q
theorem Rel.putI {c : Cn} {F H : Hp} {σ : L2.St} {ρ : List Sl} {xx : XX} (r : Rel c F H σ ρ xx) {v : V} {d : D} (i : Nat) (h : At c.K F v d) : Rel c F H (σ.set i (some v)) (ρ.set i (.im d)) xx :=
  ⟨r.w, r.s.put i (fun _ e => by cases e; exact h) (fun _ e => by cases e) (by intro m z; cases z)⟩
theorem Rel.putO {c : Cn} {F H : Hp} {σ : L2.St} {ρ : List Sl} {xx : XX} (r : Rel c F H σ ρ xx) {a : Addr} {d : D} (i : Nat) (h : Fresh c F H σ ρ xx a d) : Rel c F H (σ.set i (some (.ref a))) (ρ.set i (.ow d)) xx :=
  ⟨r.w, r.s.put i (fun _ e => by cases e) (fun _ e => by cases e; exact ⟨a, rfl, h⟩) (by intro m z; cases z)⟩
/-- what an own slot holds becomes known, as a value -/
theorem Fresh.freeze {c : Cn} {F H : Hp} {σ : L2.St} {ρ : List Sl} {xx : XX} {a : Addr} {d : D} (r : Rel c F H σ ρ xx) (h : Fresh c F H σ ρ xx a d) : ∃ F', Ex F F' ∧ At c.K F' (.ref a) d ∧ Rel c F' H σ ρ xx := by
  obtain ⟨o, ho, at_⟩ := h.own.o.at
  have ef : Ex F (upd F a o) := Ex.new h.own.f
  refine ⟨upd F a o, ef, at_ _ ef upd_same, ⟨⟨r.w.ff.trans ef, fun b u q => ?_, r.w.kp, r.w.dom, fun b g f => ?_, fun b g => ?_, r.w.or⟩, ⟨r.s.len, fun j x q => ?_, fun j x q => ?_, r.s.dj, r.s.or, r.s.ou, fun p hp => ?_, r.s.xd⟩⟩⟩
  · by_cases z : b = a
    · subst z
      rw [upd_same] at q
      cases q
      exact ho
    · rw [upd_ne z] at q
      exact r.w.fh b u q
  · by_cases z : b = a
    · subst z
      exact absurd h.own.y g
    · rw [upd_ne z]
      exact r.w.fn b g f
  · by_cases z : b = a
    · subst z
      exact h.own.n
    · rw [upd_ne z] at g
      exact r.w.ft b g
  · obtain ⟨v, g1, g2⟩ := r.s.im j x q
    exact ⟨v, g1, g2.mono ef⟩
  · obtain ⟨b, g1, g2⟩ := r.s.ow j x q
    have hb : b ≠ a := fun zz => by
      subst zz
      exact h.ne j x q g1
    exact ⟨b, g1, ⟨g2.o.mono ef rfl, by rw [upd_ne hb]; exact g2.f, g2.y, g2.n⟩⟩
  · obtain ⟨g2, gn⟩ := r.s.ex p hp
    exact ⟨⟨g2.o.mono ef rfl, by rw [upd_ne (h.nx p hp)]; exact g2.f, g2.y, g2.n⟩, gn⟩
theorem Fresh.new {c : Cn} {F H : Hp} {σ : L2.St} {ρ : List Sl} {xx : XX} (r : Rel c F H σ ρ xx) {q : Addr} {o : HO} {d : XO} (hq : H q = none) (h : OwnX c.K F (upd H q o) q d) :
    Rel c F (upd H q o) σ ρ xx ∧ Fresh c F (upd H q o) σ ρ xx q d := by
  have w := r.w.newO o hq
  refine ⟨r.stepN w, ⟨⟨h, ?_, ?_, fun z => ?_⟩, fun i e q1 q2 => ?_, fun p hp z => ?_⟩⟩
  · cases e : F q with
    | none => rfl
    | some u =>
      have := r.w.fh q u e
      rw [hq] at this
      cases this
  · cases e : c.H0 q with
    | none => rfl
    | some u => exact absurd hq (r.w.dom q (by rw [e]; exact Option.some_ne_none u))
  · have e : ∀ u, c.p = some u → upd H q o u = H u := fun u ep => by
      rw [upd_ne]
      intro zz
      subst zz
      exact r.w.foot_al (a := u) (by rw [ep]; exact .inl (.inl rfl)) hq
    have e2 : c.p ≠ none → ∀ t ∈ c.R.T, upd H q o t.1 = H t.1 := fun hp t ht => by
      rw [upd_ne]
      intro zz
      cases ep : c.p with
      | none => exact absurd ep hp
      | some u => exact r.w.foot_al (a := q) (by rw [ep]; exact .inr ⟨t, ht, .inl zz.symm⟩) hq
    exact r.w.foot_al ((Foot.eqv e e2 q).mp z) hq
  · obtain ⟨a, g1, g2⟩ := r.s.ow i e q1
    rw [q2] at g1
    cases g1
    obtain ⟨u, hu⟩ := g2.o.some
    rw [hq] at hu
    cases hu
  · obtain ⟨u, hu⟩ := (r.s.ex p hp).1.o.some
    rw [z, hq] at hu
    cases hu
/-- one more object on the side, and off again -/
theorem Rel.pushX {c : Cn} {F H : Hp} {σ : L2.St} {ρ : List Sl} {xx : XX} {a : Addr} {d : XO} (r : Rel c F H σ ρ xx) (h : Fresh c F H σ ρ xx a d) : Rel c F H σ ρ ((a, d) :: xx) := by
  refine ⟨r.w, ⟨r.s.len, r.s.im, r.s.ow, r.s.dj, r.s.or, r.s.ou, fun p hp => ?_, ?_⟩⟩
  · (rcases List.mem_cons.mp hp with rfl | hp)
    · exact ⟨h.own, h.ne⟩
    · exact r.s.ex p hp
  · rw [List.map_cons, List.nodup_cons]
    refine ⟨fun z => ?_, r.s.xd⟩
    obtain ⟨p, hp, e⟩ := List.mem_map.mp z
    exact h.nx p hp e
theorem Rel.popX {c : Cn} {F H : Hp} {σ : L2.St} {ρ : List Sl} {xx : XX} {a : Addr} {d : XO} (r : Rel c F H σ ρ ((a, d) :: xx)) : Rel c F H σ ρ xx ∧ Fresh c F H σ ρ xx a d := by
  have hx := r.s.xd
  rw [List.map_cons, List.nodup_cons] at hx
  have h0 := r.s.ex (a, d) (List.mem_cons_self ..)
  exact ⟨⟨r.w, ⟨r.s.len, r.s.im, r.s.ow, r.s.dj, r.s.or, r.s.ou, fun p hp => r.s.ex p (List.mem_cons_of_mem _ hp), hx.2⟩⟩, ⟨h0.1, h0.2, fun p hp e => hx.1 (List.mem_map.mpr ⟨p, hp, e⟩)⟩⟩
theorem Rel.mutX {c : Cn} {F H : Hp} {σ : L2.St} {ρ : List Sl} {xx : XX} {a : Addr} {d d' : XO} {o : HO} (r : Rel c F H σ ρ ((a, d) :: xx)) (hn : OwnX c.K F (upd H a o) a d') : Rel c F (upd H a o) σ ρ ((a, d') :: xx) := by
  obtain ⟨r0, h2⟩ := r.popX
  have hq : ∀ q, c.p = some q → upd H a o q = H q := fun q ep => by
    rw [upd_ne]
    intro z
    subst z
    exact h2.own.n (by rw [ep]; exact .inl (.inl rfl))
  have ff : ∀ b, Foot c.R.T c.p (upd H a o) b ↔ Foot c.R.T c.p H b := Foot.eqv hq fun hp t ht => by
    rw [upd_ne]
    intro z
    cases e : c.p with
    | none => exact absurd e hp
    | some q => exact h2.own.n (by rw [e]; exact .inr ⟨t, ht, .inl z.symm⟩)
  have r1 : Rel c F (upd H a o) σ ρ xx := by
    refine ⟨⟨r0.w.ff, fun b u q => ?_, fun b u q f => ?_, fun b h => ?_, r0.w.fn, fun b h z => r0.w.ft b h ((ff b).mp z), fun q ep => ?_⟩, ⟨r0.s.len, r0.s.im, fun i x q => ?_, r0.s.dj, r0.apart h2.own.n, r0.s.ou, fun p hp => ?_, r0.s.xd⟩⟩
    · rw [upd_ne (fun z => by subst z; rw [h2.own.f] at q; cases q)]
      exact r0.w.fh b u q
    · obtain ⟨g1, g2⟩ := r0.w.kp b u q f
      refine ⟨?_, fun z => g2 ((ff b).mp z)⟩
      rw [upd_ne (fun z => by subst z; rw [h2.own.y] at q; cases q)]
      exact g1
    · by_cases z : b = a
      · subst z
        rw [upd_same]
        exact Option.some_ne_none o
      · rw [upd_ne z]
        exact r0.w.dom b h
    · refine c.R.st q H _ (r0.w.or q ep) fun b hb => ?_
      rw [upd_ne]
      intro z
      subst z
      exact h2.own.n (by rw [ep]; exact hb)
    · obtain ⟨b, g1, g2⟩ := r0.s.ow i x q
      have hb : b ≠ a := fun zz => by
        subst zz
        exact h2.ne i x q g1
      exact ⟨b, g1, ⟨g2.o.mono (Ex.refl F) (upd_ne hb), g2.f, g2.y, fun z => g2.n ((ff b).mp z)⟩⟩
    · obtain ⟨g2, gn⟩ := r0.s.ex p hp
      exact ⟨⟨g2.o.mono (Ex.refl F) (upd_ne (h2.nx p hp)), g2.f, g2.y, fun z => g2.n ((ff p.1).mp z)⟩, gn⟩
  exact r1.pushX ⟨⟨hn, h2.own.f, h2.own.y, fun z => h2.own.n ((ff a).mp z)⟩, h2.ne, h2.nx⟩
theorem Rel.newF {c : Cn} {F H : Hp} {σ : L2.St} {ρ : List Sl} {xx : XX} (r : Rel c F H σ ρ xx) {q : Addr} (o : HO) (hq : H q = none) : Rel c (upd F q o) (upd H q o) σ ρ xx := r.stepN (r.w.newF o hq)
theorem Rel.efF {c : Cn} {F H : Hp} {σ : L2.St} {ρ : List Sl} {xx : XX} (r : Rel c F H σ ρ xx) {q : Addr} (o : HO) (hq : H q = none) : Ex F (upd F q o) := (r.w.newF o hq).ff
end DL
namespace DL
open PySem L2
/-- the count of a source behind a call of a def that draws -/
theorem Rel.drew {c : Cn} {F H F' H' : Hp} {σ : L2.St} {ρ : List Sl} {xx : XX} (r : Rel c F H σ ρ xx) (v : World c.R c.p F H F' H') {i m n : Nat} (e : ρ[i]? = some (.ora m)) (hn : ∀ q, c.p = some q → c.R.cnt q H' ≤ n) : Rel c F' H' σ (ρ.set i (.ora n)) xx := by
  have nr : ∀ {j : Nat} {x : Sl}, (ρ.set i (.ora n))[j]? = some x → (∀ k, x ≠ .ora k) → ρ[j]? = some x := by
    intro j x q hx
    rcases set_lt q with ⟨_, _, z⟩ | ⟨_, q⟩
    · exact absurd z.symm (hx n)
    · exact q
  refine ⟨r.w.trans v, ⟨by simpa using r.s.len, fun j d q => ?_, fun j d q => ?_, fun j k d e' b q1 q2 => ?_, fun j k q => ?_, fun j k a b q1 q2 => ?_, fun p hp => ⟨(r.s.ex p hp).1.step v, fun j d q => (r.s.ex p hp).2 j d (nr q fun _ z => by cases z)⟩, r.s.xd⟩⟩
  · obtain ⟨u, h1, h2⟩ := r.s.im j d (nr q fun _ z => by cases z)
    exact ⟨u, h1, h2.mono v.ff⟩
  · obtain ⟨a, h1, h2⟩ := r.s.ow j d (nr q fun _ z => by cases z)
    exact ⟨a, h1, h2.step v⟩
  · exact r.s.dj j k d e' b (nr q1 fun _ z => by cases z) (nr q2 fun _ z => by cases z)
  · rcases set_lt q with ⟨z, _, y⟩ | ⟨z, q⟩
    · subst z
      cases y
      obtain ⟨p, h1, h2, _⟩ := r.s.or i m e
      exact ⟨p, h1, h2, hn p h1⟩
    · exact absurd (r.s.ou i j m k e q) z
  · have one : ∀ {j a : Nat}, (ρ.set i (.ora n))[j]? = some (.ora a) → i = j := by
      intro j a q
      rcases set_lt q with ⟨z, _, _⟩ | ⟨_, q⟩
      · exact z
      · exact r.s.ou i j m a e q
    exact (one q1).symm.trans (one q2)
end DL
namespace DL
open PySem L2
abbrev Env := List Sl
abbrev DM := Env → (D → Env → Prop) → Prop
abbrev BM := Env → (Bool → Env → Prop) → Prop
inductive Ar where
  | d (x : D) | ora
abbrev LM := Env → (List D → Env → Prop) → Prop
abbrev AM := Env → (List Ar → Env → Prop) → Prop
/-- a value, or what stands in a slot by the time it is wanted -/
inductive Hd where
  | val (d : D) | slot (i : Nat)
abbrev HM := Env → (Hd → Env → Prop) → Prop
def see (ρ : Env) (h : Hd) (k : D → Prop) : Prop := match h with
  | .val d => k d
  | .slot i => match ρ[i]? with
    | some (.im d) => k d
    | some (.ow d) => k d
    | _ => False
def HdAt (c : Cn) (F : Hp) (σ : L2.St) : Hd → V → Prop
  | .val d, v => At c.K F v d
  | .slot i, v => σ[i]? = some (some v)
def tD (c : Cn) (f : DM) : TE := fun σ H Q => ∃ F ρ xx P, Rel c F H σ ρ xx ∧ f ρ P ∧ ∀ d ρ' v F' H', P d ρ' → Ex F F' → Rel c F' H' σ ρ' xx → At c.K F' v d → Q v H'
/-- a new object, held by nobody -/
def tN (c : Cn) (f : DM) : TE := fun σ H Q => ∃ F ρ xx P, Rel c F H σ ρ xx ∧ f ρ P ∧ ∀ d ρ' a F' H', P d ρ' → Ex F F' → Rel c F' H' σ ρ' xx → Fresh c F' H' σ ρ' xx a d → Q (.ref a) H'
def tH (c : Cn) (f : HM) : TE := fun σ H Q => ∃ F ρ xx P, Rel c F H σ ρ xx ∧ f ρ P ∧ ∀ d ρ' v F' H', P d ρ' → Ex F F' → Rel c F' H' σ ρ' xx → HdAt c F' σ d v → Q v H'
def tT (c : Cn) (f : BM) : TT := fun σ H Q => ∃ F ρ xx P, Rel c F H σ ρ xx ∧ f ρ P ∧ ∀ b ρ' F' H', P b ρ' → Ex F F' → Rel c F' H' σ ρ' xx → Q b H'
def tL (c : Cn) (f : LM) : TA := fun σ H Q => ∃ F ρ xx P, Rel c F H σ ρ xx ∧ f ρ P ∧ ∀ ds ρ' vs F' H', P ds ρ' → Ex F F' → Rel c F' H' σ ρ' xx → AtAll c.K F' vs ds → Q vs H'
def ArAt (c : Cn) (F : Hp) : V → Ar → Prop
  | v, .d x => At c.K F v x
  | v, .ora => ∃ q, c.p = some q ∧ v = .ref q
def tAr (c : Cn) (f : AM) : TA := fun σ H Q => ∃ F ρ xx P, Rel c F H σ ρ xx ∧ f ρ P ∧ ∀ ds ρ' vs F' H', P ds ρ' → Ex F F' → Rel c F' H' σ ρ' xx → Paired (ArAt c F') vs ds → Q vs H'
theorem PE.to {X : Cx} {e : Expr} {t t' : TE} (h : PE X e t) (w : ∀ σ H Q, t' σ H Q → t σ H Q) : PE X e t' := ⟨fun pins s σ H Q I q => h.run pins s σ H Q I (w σ H Q q)⟩
theorem PT.to {X : Cx} {e : Expr} {t t' : TT} (h : PT X e t) (w : ∀ σ H Q, t' σ H Q → t σ H Q) : PT X e t' := ⟨fun pins s σ H Q I q => h.run pins s σ H Q I (w σ H Q q)⟩
theorem PA.to {X : Cx} {e : List Expr} {t t' : TA} (h : PA X e t) (w : ∀ σ H Q, t' σ H Q → t σ H Q) : PA X e t' := ⟨fun pos pins s σ H Q I q => h.run pos pins s σ H Q I (w σ H Q q)⟩
/-- what is to be read of a value: known, or the own object of a slot -/
def Bo (c : Cn) (F H : Hp) (v : V) (d : D) : Prop := At c.K F v d ∨ ∃ a, v = .ref a ∧ OwnO c.K F H a d
theorem Bo.at {c : Cn} {F H : Hp} {v : V} {d : D} (e : Ex F H) (h : Bo c F H v d) : At c.K H v d := by
  rcases h with h | ⟨a, rfl, h⟩
  · exact h.mono e
  · obtain ⟨o, ho, k⟩ := h.at
    exact k H e ho
theorem see_bo {c : Cn} {F H : Hp} {σ : L2.St} {ρ : Env} {xx : XX} (r : Rel c F H σ ρ xx) {h : Hd} {v : V} (hv : HdAt c F σ h v) {k : D → Prop} (hs : see ρ h k) : ∃ d, Bo c F H v d ∧ k d := by
  cases h with
  | val d => exact ⟨d, .inl hv, hs⟩
  | slot i =>
    unfold see at hs
    have hv' : σ[i]? = some (some v) := hv
    simp only at hs
    split at hs
    · rename_i d e
      obtain ⟨u, g1, g2⟩ := r.s.im i d e
      rw [hv'] at g1
      cases g1
      exact ⟨d, .inl g2, hs⟩
    · rename_i d e
      obtain ⟨u, g1, g2⟩ := r.s.ow i d e
      rw [hv'] at g1
      cases g1
      exact ⟨d, .inr ⟨u, rfl, g2.o⟩, hs⟩
    · exact hs.elim
theorem HdAt.mono {c : Cn} {F F' : Hp} (e : Ex F F') {σ : L2.St} {h : Hd} {v : V} (x : HdAt c F σ h v) : HdAt c F' σ h v := by
  cases h with
  | val d => exact At.mono e x
  | slot i => exact x
section
variable {X : Cx} {c : Cn} {e a b : Expr} {pos : Pos}
def dC (d : D) : DM := fun ρ P => P d ρ
theorem de_c {t : V} {d : D} (h : PE X e (tC t)) (hd : ∀ F, At c.K F t d) : PE X e (tD c (dC d)) := PE.to h fun σ H Q ⟨F, ρ, xx, P, r, q, k⟩ => k d ρ t F H q (Ex.refl F) r (hd F)
theorem de_int {i : Int} {j : Nat} : PE X (.Constant (.int i) j pos) (tD c (dC (.int i))) := de_c pe_int fun _ => .int i
theorem de_bl {i : Bool} {j : Nat} : PE X (.Constant (.bool i) j pos) (tD c (dC (.bool i))) := de_c pe_bl fun _ => .bl i
theorem de_non {j : Nat} : PE X (.Constant .none j pos) (tD c (dC .none)) := de_c pe_non fun _ => .non
theorem de_str {x : Str} {j : Nat} : PE X (.Constant (.str x) j pos) (tD c (dC (.str x))) := de_c pe_str fun _ => .str x
/-- a name of the module that holds a number, a text -/
theorem de_gint {x : Str} {i : Int} (hg : Gl X x) (hm : ∃ t, X.mg x = some (.int i t)) (hd : (x == ("__debug__" : Str)) = false := by decide) : PE X (.Name x pos) (tD c (dC (.int i))) := by
  obtain ⟨t, hm⟩ := hm
  exact de_c (pe_glob (v := .int i) hg hm ⟨t, rfl⟩ hd) fun _ => .int i
/-- the slot's value, which is known from then on -/
def dV (i : Nat) : DM := fun ρ P => match ρ[i]? with
  | some (.im d) => P d ρ
  | some (.ow d) => P d (ρ.set i (.im d))
  | _ => False
theorem de_v {i : Nat} (h : PE X e (tVar i)) : PE X e (tD c (dV i)) := PE.to h fun σ H Q ⟨F, ρ, xx, P, r, q, k⟩ => by
  unfold dV at q
  split at q
  · rename_i d e
    obtain ⟨v, g1, g2⟩ := r.s.im i d e
    exact ⟨v, g1, k d ρ v F H q (Ex.refl F) r g2⟩
  · rename_i d e
    obtain ⟨F', v, g1, g2, g3, g4⟩ := r.freeze e
    exact ⟨v, g1, k d _ v F' H q g2 g4 g3⟩
  · exact q.elim
def hS (i : Nat) : HM := fun ρ P => (match ρ[i]? with
  | some (.im _) => True
  | some (.ow _) => True
  | _ => False) ∧ P (.slot i) ρ
theorem dh_v {i : Nat} (h : PE X e (tVar i)) : PE X e (tH c (hS i)) := PE.to h fun σ H Q ⟨F, ρ, xx, P, r, ⟨q0, q⟩, k⟩ => by
  split at q0
  · rename_i d e
    obtain ⟨v, g1, g2⟩ := r.s.im i d e
    exact ⟨v, g1, k _ ρ v F H q (Ex.refl F) r g1⟩
  · rename_i d e
    obtain ⟨v, g1, g2⟩ := r.s.ow i d e
    exact ⟨.ref v, g1, k _ ρ _ F H q (Ex.refl F) r g1⟩
  · exact q0.elim
def hV (f : DM) : HM := fun ρ P => f ρ fun d ρ' => P (.val d) ρ'
theorem dh_of {f : DM} (h : PE X e (tD c f)) : PE X e (tH c (hV f)) := PE.to h fun σ H Q ⟨F, ρ, xx, P, r, q, k⟩ => ⟨F, ρ, xx, _, r, q, fun d ρ' v F' H' p e r' at_ => k (.val d) ρ' v F' H' p e r' at_⟩
theorem de_n {f : DM} (h : PE X e (tN c f)) : PE X e (tD c f) := PE.to h fun σ H Q ⟨F, ρ, xx, P, r, q, k⟩ => ⟨F, ρ, xx, P, r, q, fun d ρ' a F' H' p e r' fr => by
  obtain ⟨F2, e2, at_, r2⟩ := fr.freeze r'
  exact k d ρ' (.ref a) F2 H' p (e.trans e2) r2 at_⟩
abbrev G2 := D → D → (D → Prop) → Prop
/-- f does on values what g tells of data -/
def Sem2 (X : Cx) (c : Cn) (f : Value → Value → Sem Value) (g : G2) : Prop := ∃ r : R2, OpR X f r ∧ ∀ (F H : Hp) (σ : L2.St) (ρ : Env) (xx : XX) (x y : D) (vx vy : V) (P : D → Prop) (Q : VK), Rel c F H σ ρ xx → Bo c F H vx x → Bo c F H vy y → g x y P →
  (∀ z v F' H', P z → Ex F F' → Rel c F' H' σ ρ xx → At c.K F' v z → Q v H') → r vx vy H Q
def d2 (g : G2) (fa fb : HM) : DM := fun ρ P => fa ρ fun x ρ1 => fb ρ1 fun y ρ2 => see ρ2 x fun dx => see ρ2 y fun dy => g dx dy fun z => P z ρ2
theorem d2_use {r : R2} {g : G2} {fa fb : HM} {ta tb : TE} (hr : ∀ (F H : Hp) (σ : L2.St) (ρ : Env) (xx : XX) (x y : D) (vx vy : V) (P : D → Prop) (Q : VK), Rel c F H σ ρ xx → Bo c F H vx x → Bo c F H vy y → g x y P →
    (∀ z v F' H', P z → Ex F F' → Rel c F' H' σ ρ xx → At c.K F' v z → Q v H') → r vx vy H Q) (ea : ta = tH c fa) (eb : tb = tH c fb) : ∀ σ H Q, tD c (d2 g fa fb) σ H Q → tOp r ta tb σ H Q := by
  rintro σ H Q ⟨F, ρ, xx, P, rel, q, k⟩
  subst ea eb
  refine ⟨F, ρ, xx, _, rel, q, fun x ρ1 v F1 H1 q1 e1 r1 h1 => ?_⟩
  refine ⟨F1, ρ1, xx, _, r1, q1, fun y ρ2 u F2 H2 q2 e2 r2 h2 => ?_⟩
  obtain ⟨dx, bx, q2⟩ := see_bo r2 (h1.mono e2) q2
  obtain ⟨dy, by_, q2⟩ := see_bo r2 h2 q2
  exact hr F2 H2 σ ρ2 xx dx dy v u _ Q r2 bx by_ q2 fun z w F' H' pz ez rz az => k z ρ2 w F' H' pz ((e1.trans e2).trans ez) rz az
theorem de_bin {op : Operator} {g : G2} {fa fb : HM} (hs : Sem2 X c (binaryOp op) g) (ha : PE X a (tH c fa)) (hb : PE X b (tH c fb)) : PE X (.BinOp a op b pos) (tD c (d2 g fa fb)) := by
  obtain ⟨r, ho, hr⟩ := hs
  exact PE.to (pe_op ho ha hb) (d2_use hr rfl rfl)
theorem de_cmp {op : CmpOp} {g : G2} {fa fb : HM} (hs : Sem2 X c (compareOp op) g) (ha : PE X a (tH c fa)) (hb : PE X b (tH c fb)) (hm : behindInMarks op b = false) : PE X (.Compare a [op] [b] pos) (tD c (d2 g fa fb)) := by
  obtain ⟨r, ho, hr⟩ := hs
  exact PE.to (pe_cmpR ho ha hb hm) (d2_use hr rfl rfl)
/-- a test: what is a bool -/
def bD (f : DM) : BM := fun ρ P => f ρ fun d ρ' => match d with
  | .bool b => P b ρ'
  | _ => False
theorem bD_use {f : DM} {t : TE} (et : t = tD c f) : ∀ σ H Q, tT c (bD f) σ H Q → (t σ H fun x H' => ∃ k, x = .bl k ∧ Q k H') := by
  rintro σ H Q ⟨F, ρ, xx, P, rel, q, k⟩
  subst et
  refine ⟨F, ρ, xx, _, rel, q, fun d ρ' v F' H' p e r at_ => ?_⟩
  cases d <;> first | exact p.elim | (cases at_; exact ⟨_, rfl, k _ ρ' F' H' p e r⟩)
theorem dt_cmp {op : CmpOp} {g : G2} {fa fb : HM} (hs : Sem2 X c (compareOp op) g) (ha : PE X a (tH c fa)) (hb : PE X b (tH c fb)) (hm : behindInMarks op b = false) : PT X (.Compare a [op] [b] pos) (tT c (bD (d2 g fa fb))) := by
  obtain ⟨r, ho, hr⟩ := hs
  refine PT.to (pt_cmpR ho ha hb hm) fun σ H Q h => d2_use hr rfl rfl σ H _ ?_
  exact bD_use rfl σ H Q h
/-- a < b < e -/
def dChain (g g' : G2) (fa fb fc : HM) : DM := fun ρ P => fa ρ fun x ρ1 => fb ρ1 fun y ρ2 => see ρ2 x fun dx => see ρ2 y fun dy => g dx dy fun z => match z with
  | .bool true => fc ρ2 fun w ρ3 => see ρ3 y fun dy' => see ρ3 w fun dw => g' dy' dw fun z' => P z' ρ3
  | .bool false => P (.bool false) ρ2
  | _ => False
theorem dChain_use {r r' : R2} {g g' : G2} {fa fb fc : HM} {ta tb tc : TE} (hr : ∀ (F H : Hp) (σ : L2.St) (ρ : Env) (xx : XX) (x y : D) (vx vy : V) (P : D → Prop) (Q : VK), Rel c F H σ ρ xx → Bo c F H vx x → Bo c F H vy y → g x y P →
    (∀ z v F' H', P z → Ex F F' → Rel c F' H' σ ρ xx → At c.K F' v z → Q v H') → r vx vy H Q)
    (hr' : ∀ (F H : Hp) (σ : L2.St) (ρ : Env) (xx : XX) (x y : D) (vx vy : V) (P : D → Prop) (Q : VK), Rel c F H σ ρ xx → Bo c F H vx x → Bo c F H vy y → g' x y P →
    (∀ z v F' H', P z → Ex F F' → Rel c F' H' σ ρ xx → At c.K F' v z → Q v H') → r' vx vy H Q) (ea : ta = tH c fa) (eb : tb = tH c fb) (ec : tc = tH c fc) : ∀ σ H Q, tD c (dChain g g' fa fb fc) σ H Q → tChain r r' ta tb tc σ H Q := by
  rintro σ H Q ⟨F, ρ, xx, P, rel, q, k⟩
  subst ea eb ec
  refine ⟨F, ρ, xx, _, rel, q, fun x ρ1 v F1 H1 q1 e1 r1 h1 => ?_⟩
  refine ⟨F1, ρ1, xx, _, r1, q1, fun y ρ2 u F2 H2 q2 e2 r2 h2 => ?_⟩
  obtain ⟨dx, bx, q2⟩ := see_bo r2 (h1.mono e2) q2
  obtain ⟨dy, by_, q2⟩ := see_bo r2 h2 q2
  refine hr F2 H2 σ ρ2 xx dx dy v u _ _ r2 bx by_ q2 fun z w F' H' pz ez rz az => ?_
  split at pz
  · cases az
    refine ⟨true, rfl, ?_⟩
    rw [if_pos rfl]
    refine ⟨F', ρ2, xx, _, rz, pz, fun t ρ3 s F3 H3 q3 e3 r3 h3 => ?_⟩
    obtain ⟨dy', by', q3⟩ := see_bo r3 (h2.mono (ez.trans e3)) q3
    obtain ⟨dw, bw, q3⟩ := see_bo r3 h3 q3
    exact hr' F3 H3 σ ρ3 xx dy' dw u s _ Q r3 by' bw q3 fun z' w' F4 H4 p4 e4 r4 a4 => k z' ρ3 w' F4 H4 p4 ((((e1.trans e2).trans ez).trans e3).trans e4) r4 a4
  · cases az
    refine ⟨false, rfl, ?_⟩
    (rw [if_neg Bool.false_ne_true])
    exact k _ ρ2 _ F' H' pz ((e1.trans e2).trans ez) rz (.bl false)
  · exact pz.elim
theorem de_chain {e3 : Expr} {op op' : CmpOp} {g g' : G2} {fa fb fc : HM} (hs : Sem2 X c (compareOp op) g) (hs' : Sem2 X c (compareOp op') g') (ha : PE X a (tH c fa)) (hb : PE X b (tH c fb)) (hc : PE X e3 (tH c fc)) (hm : lastMarks [op, op'] [b, e3] = false) :
    PE X (.Compare a [op, op'] [b, e3] pos) (tD c (dChain g g' fa fb fc)) := by
  obtain ⟨r, ho, hr⟩ := hs
  obtain ⟨r', ho', hr'⟩ := hs'
  exact PE.to (pe_chain ho ho' ha hb hc hm) (dChain_use hr hr' rfl rfl rfl)
theorem dt_chain {e3 : Expr} {op op' : CmpOp} {g g' : G2} {fa fb fc : HM} (hs : Sem2 X c (compareOp op) g) (hs' : Sem2 X c (compareOp op') g') (ha : PE X a (tH c fa)) (hb : PE X b (tH c fb)) (hc : PE X e3 (tH c fc)) (hm : lastMarks [op, op'] [b, e3] = false) :
    PT X (.Compare a [op, op'] [b, e3] pos) (tT c (bD (dChain g g' fa fb fc))) := by
  obtain ⟨r, ho, hr⟩ := hs
  obtain ⟨r', ho', hr'⟩ := hs'
  refine PT.to (pt_chain ho ho' ha hb hc hm) fun σ H Q h => dChain_use hr hr' rfl rfl rfl σ H _ (bD_use rfl σ H Q h)
def bAnd (f g : BM) : BM := fun ρ P => f ρ fun b ρ1 => if b = true then g ρ1 P else P false ρ1
def bOr (f g : BM) : BM := fun ρ P => f ρ fun b ρ1 => if b = true then P true ρ1 else g ρ1 P
def bNot (f : BM) : BM := fun ρ P => f ρ fun b ρ1 => P (!b) ρ1
variable {rest : List Expr}
theorem dw_and {f g : BM} (ha : PT X a (tT c f)) (hb : PW X (.BoolOp .And (b :: rest) pos) (tT c g)) : PW X (.BoolOp .And (a :: b :: rest) pos) (tT c (bAnd f g)) := by
  have h := pw_and ha hb
  refine ⟨fun wh pins s σ H Q I q => h.run wh pins s σ H Q I ?_⟩
  obtain ⟨F, ρ, xx, P, rel, q, k⟩ := q
  refine ⟨F, ρ, xx, _, rel, q, fun t ρ1 F1 H1 q1 e1 r1 => ?_⟩
  cases t with
  | true => exact ⟨F1, ρ1, xx, P, r1, q1, fun t' ρ2 F2 H2 q2 e2 r2 => k t' ρ2 F2 H2 q2 (e1.trans e2) r2⟩
  | false => exact k false ρ1 F1 H1 q1 e1 r1
theorem dw_or {f g : BM} (ha : PT X a (tT c f)) (hb : PW X (.BoolOp .Or (b :: rest) pos) (tT c g)) : PW X (.BoolOp .Or (a :: b :: rest) pos) (tT c (bOr f g)) := by
  have h := pw_or ha hb
  refine ⟨fun wh pins s σ H Q I q => h.run wh pins s σ H Q I ?_⟩
  obtain ⟨F, ρ, xx, P, rel, q, k⟩ := q
  refine ⟨F, ρ, xx, _, rel, q, fun t ρ1 F1 H1 q1 e1 r1 => ?_⟩
  cases t with
  | true => exact k true ρ1 F1 H1 q1 e1 r1
  | false => exact ⟨F1, ρ1, xx, P, r1, q1, fun t' ρ2 F2 H2 q2 e2 r2 => k t' ρ2 F2 H2 q2 (e1.trans e2) r2⟩
theorem dt_not {f : BM} (ha : PT X a (tT c f)) : PT X (.UnaryOp .Not a pos) (tT c (bNot f)) :=
  PT.to (pt_not ha) fun σ H Q ⟨F, ρ, xx, P, rel, q, k⟩ => ⟨F, ρ, xx, _, rel, q, fun t ρ1 F1 H1 q1 e1 r1 => k _ ρ1 F1 H1 q1 e1 r1⟩
/-- the same as values, of bools -/
def dAnd (f g : DM) : DM := fun ρ P => f ρ fun d ρ1 => match d with
  | .bool true => g ρ1 P
  | .bool false => P (.bool false) ρ1
  | _ => False
def dOr (f g : DM) : DM := fun ρ P => f ρ fun d ρ1 => match d with
  | .bool true => P (.bool true) ρ1
  | .bool false => g ρ1 P
  | _ => False
def dNot (f : DM) : DM := fun ρ P => f ρ fun d ρ1 => match d with
  | .bool b => P (.bool (!b)) ρ1
  | _ => False
theorem de_and {f g : DM} (ha : PE X a (tD c f)) (hb : PE X (.BoolOp .And (b :: rest) pos) (tD c g)) : PE X (.BoolOp .And (a :: b :: rest) pos) (tD c (dAnd f g)) :=
  PE.to (pe_and ha hb) fun σ H Q ⟨F, ρ, xx, P, rel, q, k⟩ => ⟨F, ρ, xx, _, rel, q, fun d ρ1 v F1 H1 q1 e1 r1 a1 => by
    split at q1
    · cases a1
      exact ⟨true, rfl, F1, ρ1, xx, P, r1, q1, fun t' ρ2 v2 F2 H2 q2 e2 r2 a2 => k t' ρ2 v2 F2 H2 q2 (e1.trans e2) r2 a2⟩
    · cases a1
      exact ⟨false, rfl, k _ ρ1 _ F1 H1 q1 e1 r1 (.bl false)⟩
    · exact q1.elim⟩
theorem de_not {f : DM} (ha : PE X a (tD c f)) : PE X (.UnaryOp .Not a pos) (tD c (dNot f)) :=
  PE.to (pe_not ha) fun σ H Q ⟨F, ρ, xx, P, rel, q, k⟩ => ⟨F, ρ, xx, _, rel, q, fun d ρ1 v F1 H1 q1 e1 r1 a1 => by
    cases d <;> first | exact q1.elim | (cases a1; exact ⟨_, rfl, k _ ρ1 _ F1 H1 q1 e1 r1 (.bl _)⟩)⟩
def dIf (t : BM) (f g : DM) : DM := fun ρ P => t ρ fun b ρ1 => if b = true then f ρ1 P else g ρ1 P
/-- by truth -/
def truD : D → Bool
  | .none => false
  | .bool b => b
  | .int i => i != 0
  | .str x => x.length != 0
  | .list xs => !xs.isEmpty
  | .tuple xs => !xs.isEmpty
  | .dict xs => !xs.isEmpty
def lNil : LM := fun ρ P => P [] ρ
def lCons (f : DM) (g : LM) : LM := fun ρ P => f ρ fun d ρ1 => g ρ1 fun ds ρ2 => P (d :: ds) ρ2
theorem dl_nil : PA X [] (tL c lNil) := PA.to pa_nil fun σ H Q ⟨F, ρ, xx, P, rel, q, k⟩ => k [] ρ [] F H q (Ex.refl F) rel .nil
theorem dl_cons {es : List Expr} {f : DM} {g : LM} (ha : PE X e (tD c f)) (hr : PA X es (tL c g)) (hs : starEach (e :: es) X.env = (false, eval e X.env) :: starEach es X.env := by rfl) : PA X (e :: es) (tL c (lCons f g)) :=
  PA.to (pa_cons ha hr hs) fun σ H Q ⟨F, ρ, xx, P, rel, q, k⟩ => ⟨F, ρ, xx, _, rel, q, fun d ρ1 v F1 H1 q1 e1 r1 a1 => ⟨F1, ρ1, xx, _, r1, q1, fun ds ρ2 vs F2 H2 q2 e2 r2 a2 =>
    k (d :: ds) ρ2 (v :: vs) F2 H2 q2 (e1.trans e2) r2 (.cons (a1.mono e2) a2)⟩⟩
def dTup (f : LM) : DM := fun ρ P => f ρ fun ds ρ1 => ds.length ≤ 1000000 ∧ P (.tuple ds) ρ1
def dLst (f : LM) : DM := fun ρ P => f ρ fun ds ρ1 => ds.length ≤ 1000000 ∧ P (.list ds) ρ1
theorem sz {n : Nat} (h : n ≤ 1000000) : n ≤ sizeLine := Nat.le_trans h (by rw [sizeLine_eq]; decide)
theorem szl {n : Nat} (h : n ≤ 1000000) : n < sizeLine := Nat.lt_of_le_of_lt h (by rw [sizeLine_eq]; decide)
theorem de_tup {es : List Expr} {x1 : Nat} {f : LM} (h : PA X es (tL c f)) : PE X (.Tuple es x1 pos) (tD c (dTup f)) :=
  PE.to (pe_tup h) fun σ H Q ⟨F, ρ, xx, P, rel, q, k⟩ => ⟨F, ρ, xx, _, rel, q, fun ds ρ1 vs F1 H1 q1 e1 r1 a1 => ⟨sz (by rw [a1.length]; exact q1.1), fun p hp => by
    have e2 := r1.efF (.tup vs) hp
    exact k _ ρ1 _ _ _ q1.2 (e1.trans e2) (r1.newF _ hp) (.tup (.inl (.inl upd_same)) (a1.mono e2))⟩⟩
theorem dn_lst {es : List Expr} {f : LM} (h : PA X es (tL c f)) : PE X (.List es pos) (tN c (dLst f)) :=
  PE.to (pe_lst h) fun σ H Q ⟨F, ρ, xx, P, rel, q, k⟩ => ⟨F, ρ, xx, _, rel, q, fun ds ρ1 vs F1 H1 q1 e1 r1 a1 => ⟨sz (by rw [a1.length]; exact q1.1), fun p hp => by
    obtain ⟨r2, fr⟩ := Fresh.new (o := .lst vs) (d := .d <| .list ds) r1 hp ⟨vs, upd_same, a1⟩
    exact k _ ρ1 _ _ _ q1.2 e1 r2 fr⟩⟩
/-- arguments of a call of an own def: the source of numbers may be among them -/
def aNil : AM := fun ρ P => P [] ρ
def aCons (f : DM) (g : AM) : AM := fun ρ P => f ρ fun d ρ1 => g ρ1 fun ds ρ2 => P (.d d :: ds) ρ2
def aOra (i : Nat) (g : AM) : AM := fun ρ P => (match ρ[i]? with
  | some (.ora _) => True
  | _ => False) ∧ g ρ fun ds ρ2 => P (.ora :: ds) ρ2
theorem ArAt.mono {F F' : Hp} (e : Ex F F') {v : V} {x : Ar} (h : ArAt c F v x) : ArAt c F' v x := by
  cases x with
  | d x => exact At.mono e h
  | ora => exact h
theorem da_nil : PA X [] (tAr c aNil) := PA.to pa_nil fun σ H Q ⟨F, ρ, xx, P, rel, q, k⟩ => k [] ρ [] F H q (Ex.refl F) rel .nil
theorem da_cons {es : List Expr} {f : DM} {g : AM} (ha : PE X e (tD c f)) (hr : PA X es (tAr c g)) (hs : starEach (e :: es) X.env = (false, eval e X.env) :: starEach es X.env := by rfl) : PA X (e :: es) (tAr c (aCons f g)) :=
  PA.to (pa_cons ha hr hs) fun σ H Q ⟨F, ρ, xx, P, rel, q, k⟩ => ⟨F, ρ, xx, _, rel, q, fun d ρ1 v F1 H1 q1 e1 r1 a1 => ⟨F1, ρ1, xx, _, r1, q1, fun ds ρ2 vs F2 H2 q2 e2 r2 a2 =>
    k (.d d :: ds) ρ2 (v :: vs) F2 H2 q2 (e1.trans e2) r2 (.cons (show ArAt c F2 v (.d d) from a1.mono e2) a2)⟩⟩
theorem da_ora {es : List Expr} {i : Nat} {g : AM} (ha : PE X e (tVar i)) (hr : PA X es (tAr c g)) (hs : starEach (e :: es) X.env = (false, eval e X.env) :: starEach es X.env := by rfl) : PA X (e :: es) (tAr c (aOra i g)) :=
  PA.to (pa_cons ha hr hs) fun σ H Q ⟨F, ρ, xx, P, rel, ⟨q0, q⟩, k⟩ => by
    split at q0
    · rename_i e0
      obtain ⟨p, h1, h2, _⟩ := rel.s.or i _ e0
      exact ⟨.ref p, h2, F, ρ, xx, _, rel, q, fun ds ρ2 vs F2 H2 q2 e2 r2 a2 => k (.ora :: ds) ρ2 (.ref p :: vs) F2 H2 q2 e2 r2 (.cons (show ArAt c F2 (.ref p) .ora from ⟨p, h1, rfl⟩) a2)⟩
    · exact q0.elim
end
end DL
namespace DL
open PySem L2
open PyProof.Rows in
theorem op_catLL {X : Cx} : OpR X (binaryOp .Add) (fun x y H Q => ∃ l b xs zs, x = .ref l ∧ y = .ref b ∧ SqL X.K H l xs ∧ SqL X.K H b zs ∧ xs.length + zs.length ≤ sizeLine ∧ ∀ p, H p = none → Q (.ref p) (upd H p (.lst (xs ++ zs)))) := by
  (intro pins s σ H x y v u Q I rx ry h)
  (obtain ⟨l, b, xs, zs, rfl, rfl, hH, hB, hz, q⟩ := h)
  cases rx
  cases ry
  obtain ⟨its, r, pl, _⟩ := I.list hH
  obtain ⟨its2, r2, pl2, _⟩ := I.list hB
  obtain ⟨⟨cls, dd, data, sl⟩, n, ho, hc, hd0, hd⟩ := id pl
  obtain ⟨⟨cls2, dd2, data2, sl2⟩, n2, ho2, hc2, hd02, hd2⟩ := id pl2
  simp only at hc hd hc2 hd2 hd0 hd02
  subst hc hd hc2 hd2
  have e : its.toArray ++ its2.toArray = (its ++ its2).toArray := by simp
  have h1 := r.length
  have h2 := r2.length
  refine concat_meets ⟨_, ho, rfl⟩ ⟨_, ho2, rfl⟩ noFill_list_add seq_list_add PySem.F.slot_list_add PySem.F.entry_list_add (PySem.F.args_list_add_2 _ _) (list_addW l b its.toArray its2.toArray n n2 dd dd2 sl sl2 (by simp only [List.size_toArray]; omega)) ⟨ho, ho2, ?_⟩
  rw [e]
  (exact ⟨.ref _, _, I.lnew (t' := s.toks) (r.append r2) (by rw [List.length_append]; omega), rfl, q _ I.fresh⟩)
section
variable {c : Cn} {F H : Hp} {v : V}
theorem bo_int {i : Int} (h : Bo c F H v (.int i)) : v = .int i := by
  rcases h with h | ⟨a, _, h⟩
  · cases h; rfl
  · exact h.elim
theorem bo_bl {i : Bool} (h : Bo c F H v (.bool i)) : v = .bl i := by
  rcases h with h | ⟨a, _, h⟩
  · cases h; rfl
  · exact h.elim
theorem bo_str {i : Str} (h : Bo c F H v (.str i)) : v = .str i := by
  rcases h with h | ⟨a, _, h⟩
  · cases h; rfl
  · exact h.elim
theorem bo_non (h : Bo c F H v .none) : v = .non := by
  rcases h with h | ⟨a, _, h⟩
  · cases h; rfl
  · exact h.elim
theorem bo_lst {ds : List D} (e : Ex F H) (h : Bo c F H v (.list ds)) : ∃ a xs, v = .ref a ∧ SqL c.K H a xs ∧ AtAll c.K F xs ds := by
  rcases h with h | ⟨a, rfl, vs, h1, h2⟩
  · cases h with
    | lst s t => exact ⟨_, _, rfl, e.sl s, t⟩
  · exact ⟨a, vs, rfl, SqL.of h1, h2⟩
theorem bo_tup {ds : List D} (e : Ex F H) (h : Bo c F H v (.tuple ds)) : ∃ a xs, v = .ref a ∧ SqT c.K F a xs ∧ SqT c.K H a xs ∧ AtAll c.K F xs ds := by
  rcases h with h | ⟨a, rfl, h⟩
  · cases h with
    | tup s t => exact ⟨_, _, rfl, s, e.st s, t⟩
  · exact h.elim
end
def gAdd : G2 := fun x y P => match x, y with
  | .int i, .int j => P (.int (i + j))
  | .str a, .str b => a.length + b.length ≤ 1000000 ∧ P (.str (a ++ b))
  | .list xs, .list ys => xs.length + ys.length ≤ 1000000 ∧ P (.list (xs ++ ys))
  | .tuple xs, .tuple ys => xs.length + ys.length ≤ 1000000 ∧ P (.tuple (xs ++ ys))
  | _, _ => False
def gSub : G2 := fun x y P => match x, y with
  | .int i, .int j => P (.int (i - j))
  | _, _ => False
def gPow : G2 := fun x y P => match x, y with
  | .int i, .int j => (0 ≤ j ∧ j ≤ 1000000 ∧ i.natAbs < 2 ^ 64) ∧ P (.int (i ^ j.toNat))
  | _, _ => False
theorem AtAll.nil_iff {K : PySem.W.Frag} {H : Hp} {vs : List V} {ds : List D} (h : AtAll K H vs ds) : vs = [] ↔ ds = [] := by cases h <;> simp
section
variable {X : Cx} {c : Cn}
theorem sem_add (hK : X.K = c.K) : Sem2 X c (binaryOp .Add) gAdd := by
  refine ⟨_, (op_add.or op_add_str).or (op_catLL.or L2.op_catA), fun F H σ ρ xx x y vx vy P Q r bx by_ g k => ?_⟩
  have e := r.w.fh
  unfold gAdd at g
  split at g
  · cases bo_int bx; cases bo_int by_
    exact .inl (.inl ⟨_, _, rfl, rfl, k _ _ F H g (Ex.refl F) r (.int _)⟩)
  · cases bo_str bx; cases bo_str by_
    exact .inl (.inr ⟨_, _, rfl, rfl, sz g.1, k _ _ F H g.2 (Ex.refl F) r (.str _)⟩)
  · obtain ⟨a, xs, rfl, s1, t1⟩ := bo_lst e bx
    obtain ⟨b, ys, rfl, s2, t2⟩ := bo_lst e by_
    refine .inr (.inl ⟨a, b, xs, ys, rfl, rfl, by rw [hK]; exact s1, by rw [hK]; exact s2, sz (by rw [t1.length, t2.length]; exact g.1), fun p hp => ?_⟩)
    have e2 := r.efF (.lst (xs ++ ys)) hp
    exact k _ _ _ _ g.2 e2 (r.newF _ hp) (.lst (.inl (.inl upd_same)) ((t1.append t2).mono e2))
  · obtain ⟨a, xs, rfl, f1, s1, t1⟩ := bo_tup e bx
    obtain ⟨b, ys, rfl, f2, s2, t2⟩ := bo_tup e by_
    refine .inr (.inr ⟨a, b, xs, ys, rfl, rfl, by rw [hK]; exact s1, by rw [hK]; exact s2, sz (by rw [t1.length, t2.length]; exact g.1), fun z => ?_, fun _ z => ?_, fun _ _ p hp => ?_⟩)
    · refine k _ _ F H g.2 (Ex.refl F) r ?_
      rw [t1.nil_iff.mp z, List.nil_append]
      exact .tup f2 t2
    · refine k _ _ F H g.2 (Ex.refl F) r ?_
      rw [t2.nil_iff.mp z, List.append_nil]
      exact .tup f1 t1
    · have e2 := r.efF (.tup (xs ++ ys)) hp
      exact k _ _ _ _ g.2 e2 (r.newF _ hp) (.tup (.inl (.inl upd_same)) ((t1.append t2).mono e2))
  · exact g.elim
theorem sem_sub : Sem2 X c (binaryOp .Sub) gSub := by
  refine ⟨_, op_sub, fun F H σ ρ xx x y vx vy P Q r bx by_ g k => ?_⟩
  unfold gSub at g
  split at g
  · cases bo_int bx; cases bo_int by_
    exact ⟨_, _, rfl, rfl, k _ _ F H g (Ex.refl F) r (.int _)⟩
  · exact g.elim
theorem sem_pow : Sem2 X c (binaryOp .Pow) gPow := by
  refine ⟨_, op_pow, fun F H σ ρ xx x y vx vy P Q r bx by_ g k => ?_⟩
  unfold gPow at g
  split at g
  · cases bo_int bx; cases bo_int by_
    exact ⟨_, _, rfl, rfl, g.1, k _ _ F H g.2 (Ex.refl F) r (.int _)⟩
  · exact g.elim
def gCmp (p : Int → Int → Bool) : G2 := fun x y P => match x, y with
  | .int i, .int j => P (.bool (p i j))
  | _, _ => False
theorem sem_cmp {op : CmpOp} {p : Int → Int → Bool} (h : OpR X (compareOp op) (rI0 fun i j => .bl (p i j))) : Sem2 X c (compareOp op) (gCmp p) := by
  refine ⟨_, h, fun F H σ ρ xx x y vx vy P Q r bx by_ g k => ?_⟩
  unfold gCmp at g
  split at g
  · cases bo_int bx; cases bo_int by_
    exact ⟨_, _, rfl, rfl, k _ _ F H g (Ex.refl F) r (.bl _)⟩
  · exact g.elim
abbrev gLt : G2 := gCmp fun i j => decide (i < j)
abbrev gLe : G2 := gCmp fun i j => decide (i ≤ j)
abbrev gGt : G2 := gCmp fun i j => decide (j < i)
abbrev gGe : G2 := gCmp fun i j => decide (j ≤ i)
theorem sem_lt : Sem2 X c (compareOp .Lt) gLt := sem_cmp op_lt
theorem sem_le : Sem2 X c (compareOp .LtE) gLe := sem_cmp op_le
theorem sem_gt : Sem2 X c (compareOp .Gt) gGt := sem_cmp op_gt
theorem sem_ge : Sem2 X c (compareOp .GtE) gGe := sem_cmp op_ge
def isN : D → Bool
  | .none => true
  | _ => false
def gIs : G2 := fun x y P => match y with
  | .none => P (.bool (isN x))
  | _ => False
def gIsNot : G2 := fun x y P => match y with
  | .none => P (.bool (!isN x))
  | _ => False
theorem isN_dec {F H : Hp} {v : V} {d : D} (h : Bo c F H v d) : decide (v = .non) = isN d := by
  rcases h with h | ⟨a, rfl, _⟩
  · cases h <;> rfl
  · cases d <;> first | rfl | (rename_i h; exact h.elim)
/-- == of data: texts of signs, no dicts, not too deep -/
def okD (d : D) : Prop := SeqAt.shaped d = true
theorem okD.nod {d : D} (h : okD d) : nod d = true := by
  have h1 : d.canLay0 = true := SeqAt.canLay_of_shaped h
  have all : ∀ d : D, d.canLay0 = true → DL.nod d = true := fun d => by
    refine PyData.rec (motive_1 := fun d => d.canLay0 = true → DL.nod d = true) (motive_2 := fun ds => PyData.canLayAll0 ds = true → DL.nodAll ds = true) (motive_3 := fun _ => True) (motive_4 := fun _ => True) ?_ ?_ ?_ ?_ ?_ ?_ ?_ ?_ ?_ ?_ ?_ ?_ d
    · exact fun _ => rfl
    · exact fun _ _ => rfl
    · exact fun _ _ => rfl
    · exact fun _ _ => rfl
    · exact fun xs ih h => by simp only [DL.nod]; exact ih (by simpa only [PyData.canLay0] using h)
    · exact fun xs ih h => by simp only [DL.nod]; exact ih (by simpa only [PyData.canLay0] using h)
    · exact fun _ _ h => by simp [PyData.canLay0] at h
    · exact fun _ => rfl
    · exact fun x xs i j h => by
        simp only [PyData.canLayAll0, Bool.and_eq_true] at h
        simp only [DL.nodAll, Bool.and_eq_true]
        exact ⟨i h.1, j h.2⟩
    all_goals (intros; trivial)
  exact all d h1
def gEq : G2 := fun x y P => okD x ∧ okD y ∧ P (.bool (PyData.eqv x y))
def gNe : G2 := fun x y P => okD x ∧ okD y ∧ P (.bool (!PyData.eqv x y))
theorem sem_eq (hK : X.K = c.K) (hu : X.A.units + 64 < cLine) : Sem2 X c (compareOp .Eq) gEq := by
  refine ⟨_, op_eqD hu, fun F H σ ρ xx x y vx vy P Q r bx by_ g k => ?_⟩
  have e := r.w.fh
  refine ⟨x, y, by rw [hK]; exact (bx.at e).dp g.1.nod, by rw [hK]; exact (by_.at e).dp g.2.1.nod, g.1, g.2.1, k _ _ F H g.2.2 (Ex.refl F) r (.bl _)⟩
theorem sem_ne (hK : X.K = c.K) (hu : X.A.units + 64 < cLine) : Sem2 X c (compareOp .NotEq) gNe := by
  refine ⟨_, op_neD hu, fun F H σ ρ xx x y vx vy P Q r bx by_ g k => ?_⟩
  have e := r.w.fh
  refine ⟨x, y, by rw [hK]; exact (bx.at e).dp g.1.nod, by rw [hK]; exact (by_.at e).dp g.2.1.nod, g.1, g.2.1, k _ _ F H g.2.2 (Ex.refl F) r (.bl _)⟩
def gIx : G2 := fun x y P => match x, y with
  | .list xs, .int i => ∃ d, atI xs i = some d ∧ P d
  | .tuple xs, .int i => ∃ d, atI xs i = some d ∧ P d
  | .str z, .int i => z.length ≤ 1000000 ∧ ∃ n, atI z.cps.toList i = some n ∧ P (.str ⟨#[n]⟩)
  | _, _ => False
theorem atI_at {K : PySem.W.Frag} {F : Hp} {xs : List V} {ds : List D} (t : AtAll K F xs ds) {i : Int} {d : D} (h : atI ds i = some d) : ∃ v, atI xs i = some v ∧ At K F v d := by
  unfold atI at h ⊢
  rw [t.length]
  cases e : ixN ds.length i with
  | none => (rw [e] at h; cases h)
  | some j =>
    rw [e] at h
    exact t.get h
theorem ix_use (hK : X.K = c.K) : ∀ (F H : Hp) (σ : L2.St) (ρ : Env) (xx : XX) (x y : D) (vx vy : V) (P : D → Prop) (Q : VK), Rel c F H σ ρ xx → Bo c F H vx x → Bo c F H vy y → gIx x y P →
    (∀ z v F' H', P z → Ex F F' → Rel c F' H' σ ρ xx → At c.K F' v z → Q v H') → rIx X.K vx vy H Q := fun F H σ ρ xx x y vx vy P Q r bx by_ g k => by
  have e := r.w.fh
  unfold gIx at g
  split at g
  · obtain ⟨a, xs, rfl, s1, t1⟩ := bo_lst e bx
    cases bo_int by_
    obtain ⟨d, h1, h2⟩ := g
    obtain ⟨u, h3, h4⟩ := atI_at t1 h1
    exact .inl ⟨a, xs, _, u, rfl, rfl, by rw [hK]; exact s1, h3, k _ _ F H h2 (Ex.refl F) r h4⟩
  · obtain ⟨a, xs, rfl, _, s1, t1⟩ := bo_tup e bx
    cases bo_int by_
    obtain ⟨d, h1, h2⟩ := g
    obtain ⟨u, h3, h4⟩ := atI_at t1 h1
    exact .inr (.inl ⟨a, xs, _, u, rfl, rfl, by rw [hK]; exact s1, h3, k _ _ F H h2 (Ex.refl F) r h4⟩)
  · cases bo_str bx; cases bo_int by_
    obtain ⟨hz, n, h1, h2⟩ := g
    exact .inr (.inr ⟨_, _, n, rfl, rfl, sz hz, h1, k _ _ F H h2 (Ex.refl F) r (.str _)⟩)
  · exact g.elim
theorem de_ix {a b : Expr} {pos : Pos} {fa fb : HM} (hK : X.K = c.K) (ha : PE X a (tH c fa)) (hb : PE X b (tH c fb)) (hs : PlainIx b) : PE X (.Subscript a b pos) (tD c (d2 gIx fa fb)) :=
  PE.to (pe_ix ix_seq ha hb hs) (d2_use (ix_use hK) rfl rfl)
abbrev OM := Env → (Option Int → Env → Prop) → Prop
def tOI (c : Cn) (f : OM) : TO := fun σ H Q => ∃ F ρ xx P, Rel c F H σ ρ xx ∧ f ρ P ∧ ∀ o ρ' F' H', P o ρ' → Ex F F' → Rel c F' H' σ ρ' xx → Q o H'
def oNo : OM := fun ρ P => P none ρ
def oI (f : DM) : OM := fun ρ P => f ρ fun d ρ' => match d with
  | .int i => P (some i) ρ'
  | _ => False
theorem PO.to {e : Option Expr} {t t' : TO} (h : PO X e t) (w : ∀ σ H Q, t' σ H Q → t σ H Q) : PO X e t' := ⟨fun pins s σ H Q I q => h.run pins s σ H Q I (w σ H Q q)⟩
theorem do_no : PO X none (tOI c oNo) := PO.to po_none fun σ H Q ⟨F, ρ, xx, P, r, q, k⟩ => k none ρ F H q (Ex.refl F) r
theorem do_i {e : Expr} {f : DM} (h : PE X e (tD c f)) : PO X (some e) (tOI c (oI f)) := PO.to (po_some h) fun σ H Q ⟨F, ρ, xx, P, r, q, k⟩ => ⟨F, ρ, xx, _, r, q, fun d ρ' v F' H' p e r' a => by
  cases d <;> first | exact p.elim | (cases a; exact ⟨_, rfl, k _ ρ' F' H' p e r'⟩)⟩
/-- xs[lo:hi] -/
def cutD (xs : List D) (lo hi : Option Int) : List D := (xs.drop (HT.sIx xs.length 0 lo)).take (HT.sIx xs.length xs.length hi - HT.sIx xs.length 0 lo)
theorem cut_at {K : PySem.W.Frag} {F : Hp} {xs : List V} {ds : List D} (t : AtAll K F xs ds) (lo hi : Option Int) : AtAll K F (cutV xs lo hi) (cutD ds lo hi) := by
  unfold cutV cutD
  rw [t.length]
  exact (t.drop _).take _
def dSl (fa : HM) (fl fu : OM) : DM := fun ρ P => fa ρ fun h ρ1 => fl ρ1 fun lo ρ2 => fu ρ2 fun hi ρ3 => see ρ3 h fun d => match d with
  | .list xs => P (.list (cutD xs lo hi)) ρ3
  | .tuple xs => P (.tuple (cutD xs lo hi)) ρ3
  | .str z => z.length ≤ 1000000 ∧ P (.str (cutS z lo hi)) ρ3
  | _ => False
end
end DL
namespace DL
open PySem L2
section
variable {X : Cx} {c : Cn} {e : Expr} {pos : Pos}
theorem de_sl {lo hi : Option Expr} {p2 : Pos} {fa : HM} {fl fu : OM} (hK : X.K = c.K) (he : PE X e (tH c fa)) (hl : PO X lo (tOI c fl)) (hu : PO X hi (tOI c fu)) : PE X (.Subscript e (.Slice lo hi none p2) pos) (tD c (dSl fa fl fu)) := by
  refine PE.to (pe_slice ((sl_list.or sl_tupA).or sl_str) he hl hu) ?_
  rintro σ H Q ⟨F, ρ, xx, P, rel, q, k⟩
  refine ⟨F, ρ, xx, _, rel, q, fun h ρ1 v F1 H1 q1 e1 r1 h1 => ⟨F1, ρ1, xx, _, r1, q1, fun o ρ2 F2 H2 q2 e2 r2 => ⟨F2, ρ2, xx, _, r2, q2, fun u ρ3 F3 H3 q3 e3 r3 => ?_⟩⟩⟩
  obtain ⟨d, bd, q3⟩ := see_bo r3 (h1.mono (e2.trans e3)) q3
  have ex := r3.w.fh
  split at q3
  · obtain ⟨a, xs, rfl, s1, t1⟩ := bo_lst ex bd
    refine .inl (.inl ⟨a, xs, rfl, by rw [hK]; exact s1, fun p hp => ?_⟩)
    exact k _ ρ3 _ _ _ q3 (((e1.trans e2).trans e3).trans (r3.efF _ hp)) (r3.newF _ hp) (.lst (.inl (.inl upd_same)) ((cut_at t1 o u).mono (r3.efF _ hp)))
  · obtain ⟨a, xs, rfl, f1, s1, t1⟩ := bo_tup ex bd
    refine .inl (.inr ⟨a, xs, rfl, by rw [hK]; exact s1, fun hw => ?_, fun _ p hp => ?_⟩)
    · refine k _ ρ3 _ F3 H3 q3 ((e1.trans e2).trans e3) r3 ?_
      have hc := cut_at t1 o u
      have hz : cutV xs o u = xs := by
        unfold cutV
        rw [hw.1, hw.2]
        simp
      rw [hz] at hc
      exact .tup f1 hc
    · exact k _ ρ3 _ _ _ q3 (((e1.trans e2).trans e3).trans (r3.efF _ hp)) (r3.newF _ hp) (.tup (.inl (.inl upd_same)) ((cut_at t1 o u).mono (r3.efF _ hp)))
  · cases bo_str bd
    exact .inr ⟨_, rfl, sz q3.1, k _ ρ3 _ F3 H3 q3.2 ((e1.trans e2).trans e3) r3 (.str _)⟩
  · exact q3.elim
theorem tru_of {F H : Hp} {v : V} {d : D} (r : Ex F H) (b : Bo c F H v d) (hd : ∀ s, d = .str s → s.length ≤ 1000000) (hn : ∀ kd, d ≠ .dict kd) : TruV c.K v H (truD d) := by
  cases d with
  | none => cases bo_non b; rfl
  | bool x => cases bo_bl b; rfl
  | int i => cases bo_int b; rfl
  | str s =>
    cases bo_str b
    refine ⟨sz (hd s rfl), ?_⟩
    show (s.length != 0) = ((s.length : Int) != 0)
    cases h : s.length with
    | zero => rfl
    | succ n =>
      have h1 : (n + 1 != 0) = true := by simp
      have h2 : (((n + 1 : Nat) : Int) != 0) = true := by simp only [bne_iff_ne, ne_eq]; omega
      rw [h1, h2]
  | list xs =>
    obtain ⟨a, ys, rfl, s1, t1⟩ := bo_lst r b
    refine .inl ⟨ys, s1, ?_⟩
    cases t1 <;> rfl
  | tuple xs =>
    obtain ⟨a, ys, rfl, _, s1, t1⟩ := bo_tup r b
    refine .inr (.inl ⟨ys, s1, ?_⟩)
    cases t1 <;> rfl
  | dict kd => exact absurd rfl (hn kd)
def bTruth (f : HM) : BM := fun ρ P => f ρ fun h ρ1 => see ρ1 h fun d => match d with
  | .str s => s.length ≤ 1000000 ∧ P (truD (.str s)) ρ1
  | .dict _ => False
  | d => P (truD d) ρ1
theorem dt_truth {f : HM} (hK : X.K = c.K) (ha : PE X e (tH c f)) (he : ∀ whole, isTrue e X.env whole = (do let v ← whole; standAt e.pos; holding [v] (truthy v)) := by intro _; rfl) : PT X e (tT c (bTruth f)) := by
  refine PT.to (pt_truth ha he) ?_
  rintro σ H Q ⟨F, ρ, xx, P, rel, q, k⟩
  refine ⟨F, ρ, xx, _, rel, q, fun h ρ1 v F1 H1 q1 e1 r1 h1 => ?_⟩
  obtain ⟨d, bd, q1⟩ := see_bo r1 h1 q1
  rw [hK]
  cases d with
  | str s => exact ⟨_, tru_of r1.w.fh bd (fun t ht => by cases ht; exact q1.1) (fun _ z => by cases z), k _ ρ1 F1 H1 q1.2 e1 r1⟩
  | dict kd => exact q1.elim
  | _ => exact ⟨_, tru_of r1.w.fh bd (fun t ht => by cases ht) (fun _ z => by cases z), k _ ρ1 F1 H1 q1 e1 r1⟩
abbrev HLM := Env → (List Hd → Env → Prop) → Prop
def tHL (c : Cn) (f : HLM) : TA := fun σ H Q => ∃ F ρ xx P, Rel c F H σ ρ xx ∧ f ρ P ∧ ∀ hs ρ' vs F' H', P hs ρ' → Ex F F' → Rel c F' H' σ ρ' xx → Paired (fun v h => HdAt c F' σ h v) vs hs → Q vs H'
def gNil : HLM := fun ρ P => P [] ρ
def gCons (f : HM) (g : HLM) : HLM := fun ρ P => f ρ fun h ρ1 => g ρ1 fun hs ρ2 => P (h :: hs) ρ2
theorem dg_nil : PA X [] (tHL c gNil) := PA.to pa_nil fun σ H Q ⟨F, ρ, xx, P, rel, q, k⟩ => k [] ρ [] F H q (Ex.refl F) rel .nil
theorem dg_cons {es : List Expr} {f : HM} {g : HLM} (ha : PE X e (tH c f)) (hr : PA X es (tHL c g)) (hs : starEach (e :: es) X.env = (false, eval e X.env) :: starEach es X.env := by rfl) : PA X (e :: es) (tHL c (gCons f g)) :=
  PA.to (pa_cons ha hr hs) fun σ H Q ⟨F, ρ, xx, P, rel, q, k⟩ => ⟨F, ρ, xx, _, rel, q, fun d ρ1 v F1 H1 q1 e1 r1 a1 => ⟨F1, ρ1, xx, _, r1, q1, fun ds ρ2 vs F2 H2 q2 e2 r2 a2 =>
    k (d :: ds) ρ2 (v :: vs) F2 H2 q2 (e1.trans e2) r2 (.cons (a1.mono e2) a2)⟩⟩
def seeAll (ρ : Env) : List Hd → (List D → Prop) → Prop
  | [], k => k []
  | h :: hs, k => see ρ h fun d => seeAll ρ hs fun ds => k (d :: ds)
theorem seeAll_bo {F H : Hp} {σ : L2.St} {ρ : Env} {xx : XX} (r : Rel c F H σ ρ xx) : ∀ {vs : List V} {hs : List Hd}, Paired (fun v h => HdAt c F σ h v) vs hs → ∀ {k : List D → Prop}, seeAll ρ hs k → ∃ ds, Paired (Bo c F H) vs ds ∧ k ds
  | _, _, .nil, k, h => ⟨[], .nil, h⟩
  | _, _, .cons h t, k, q => by
    obtain ⟨d, b, q⟩ := see_bo r h q
    obtain ⟨ds, bs, q⟩ := seeAll_bo r t q
    exact ⟨d :: ds, .cons b bs, q⟩
abbrev GC := List D → (D → Prop) → Prop
def SemC (X : Cx) (c : Cn) (f : Value) (g : GC) : Prop := ∃ r : List V → Hp → VK → Prop, CallR X f r ∧ ∀ (F H : Hp) (σ : L2.St) (ρ : Env) (xx : XX) (ds : List D) (vs : List V) (P : D → Prop) (Q : VK), Rel c F H σ ρ xx → Paired (Bo c F H) vs ds → g ds P →
  (∀ z v F' H', P z → Ex F F' → Rel c F' H' σ ρ xx → At c.K F' v z → Q v H') → r vs H Q
def dCB (g : GC) (f : HLM) : DM := fun ρ P => f ρ fun hs ρ1 => seeAll ρ1 hs fun ds => g ds fun z => P z ρ1
theorem dCB_use {f : Value} {g : GC} {fh : HLM} {r : List V → Hp → VK → Prop} (hr : ∀ (F H : Hp) (σ : L2.St) (ρ : Env) (xx : XX) (ds : List D) (vs : List V) (P : D → Prop) (Q : VK), Rel c F H σ ρ xx → Paired (Bo c F H) vs ds → g ds P →
    (∀ z v F' H', P z → Ex F F' → Rel c F' H' σ ρ xx → At c.K F' v z → Q v H') → r vs H Q) : ∀ σ H Q, tD c (dCB g fh) σ H Q → tCB r (tHL c fh) σ H Q := by
  rintro σ H Q ⟨F, ρ, xx, P, rel, q, k⟩
  refine ⟨F, ρ, xx, _, rel, q, fun hs ρ1 vs F1 H1 q1 e1 r1 h1 => ?_⟩
  obtain ⟨ds, bs, q1⟩ := seeAll_bo r1 h1 q1
  exact hr F1 H1 σ ρ1 xx ds vs _ Q r1 bs q1 fun z v F' H' pz ez rz az => k z ρ1 v F' H' pz (e1.trans ez) rz az
variable {x : Str} {p : Pos} {es : List Expr} {fh : HLM} {g : GC}
theorem de_cb {id : String} (hs : SemC X c (.builtin id) g) (hg : Gl X x) (hm : X.mg x = none) (hv : bootBuiltins x = some (.builtin id)) (ha : PA X (e :: es) (tHL c fh)) (hn : x ≠ "__name__" := by decide) (hdb : (x == ("__debug__" : Str)) = false := by decide)
    (he : starEach (e :: es) X.env = (false, eval e X.env) :: starEach es X.env := by rfl) (hpl : (backTo pos (starEach es X.env)).any (·.1) = false := by rfl) : PE X (.Call (.Name x p) (e :: es) [] pos) (tD c (dCB g fh)) := by
  obtain ⟨r, ho, hr⟩ := hs
  exact PE.to (pe_callB ho hg hm hv ha hn hdb he hpl) (dCB_use (f := .none) hr)
theorem de_ct {T : String} (hs : SemC X c (.type T) g) (hg : Gl X x) (hm : X.mg x = none) (hv : bootBuiltins x = some (.type T)) (ha : PA X (e :: es) (tHL c fh)) (hn : x ≠ "__name__" := by decide) (hdb : (x == ("__debug__" : Str)) = false := by decide)
    (he : starEach (e :: es) X.env = (false, eval e X.env) :: starEach es X.env := by rfl) (hpl : (backTo pos (starEach es X.env)).any (·.1) = false := by rfl) : PE X (.Call (.Name x p) (e :: es) [] pos) (tD c (dCB g fh)) := by
  obtain ⟨r, ho, hr⟩ := hs
  exact PE.to (pe_callTy ho hg hm hv ha hn hdb he hpl) (dCB_use (f := .none) hr)
theorem pr1 {R : V → D → Prop} {vs : List V} {d : D} (h : Paired R vs [d]) : ∃ v, vs = [v] ∧ R v d := by
  cases h with
  | cons a t => cases t; exact ⟨_, rfl, a⟩
theorem pr2 {R : V → D → Prop} {vs : List V} {d d' : D} (h : Paired R vs [d, d']) : ∃ v u, vs = [v, u] ∧ R v d ∧ R u d' := by
  cases h with
  | cons a t => cases t with
    | cons b t => cases t; exact ⟨_, _, rfl, a, b⟩
def gLen : GC := fun ds P => match ds with
  | [.list xs] => P (.int xs.length)
  | [.tuple xs] => P (.int xs.length)
  | [.str s] => s.length ≤ 1000000 ∧ P (.int s.length)
  | _ => False
theorem sem_len (hK : X.K = c.K) : SemC X c (.builtin "len") gLen := by
  refine ⟨_, call_len, fun F H σ ρ xx ds vs P Q r bs g k => ?_⟩
  unfold gLen at g
  split at g
  · obtain ⟨v, rfl, b⟩ := pr1 bs
    obtain ⟨a, ys, rfl, s1, t1⟩ := bo_lst r.w.fh b
    exact ⟨_, _, rfl, .inl ⟨ys, by rw [hK]; exact s1, rfl⟩, by rw [t1.length]; exact k _ _ F H g (Ex.refl F) r (.int _)⟩
  · obtain ⟨v, rfl, b⟩ := pr1 bs
    obtain ⟨a, ys, rfl, _, s1, t1⟩ := bo_tup r.w.fh b
    exact ⟨_, _, rfl, .inr ⟨ys, by rw [hK]; exact s1, rfl⟩, by rw [t1.length]; exact k _ _ F H g (Ex.refl F) r (.int _)⟩
  · obtain ⟨v, rfl, b⟩ := pr1 bs
    cases bo_str b
    exact ⟨_, _, rfl, ⟨sz g.1, rfl⟩, k _ _ F H g.2 (Ex.refl F) r (.int _)⟩
  · exact g.elim
/-- a list of numbers, of truths -/
def ofInts : List D → Option (List Int)
  | [] => some []
  | .int i :: ds => (ofInts ds).map (i :: ·)
  | _ :: _ => none
theorem ofInts_eq : ∀ {ds : List D} {ns : List Int}, ofInts ds = some ns → ds = ns.map PyData.int
  | [], ns, h => by cases h; rfl
  | .int i :: ds, ns, h => by
    unfold ofInts at h
    cases e : ofInts ds with
    | none => (rw [e] at h; cases h)
    | some ms =>
      rw [e] at h
      cases h
      rw [ofInts_eq e]
      rfl
  | .none :: _, _, h => nomatch h
  | .bool _ :: _, _, h => nomatch h
  | .str _ :: _, _, h => nomatch h
  | .list _ :: _, _, h => nomatch h
  | .tuple _ :: _, _, h => nomatch h
  | .dict _ :: _, _, h => nomatch h
theorem ofInts_map : ∀ (ns : List Int), ofInts (ns.map PyData.int) = some ns
  | [] => rfl
  | n :: ns => by
    show (ofInts (ns.map PyData.int)).map (n :: ·) = some (n :: ns)
    rw [ofInts_map ns]
    rfl
/-- a built-in over one list of numbers -/
def gIL (k : List Int → (D → Prop) → Prop) : GC := fun ds P => match ds with
  | [.list xs] => ∃ ns, ofInts xs = some ns ∧ k ns P
  | _ => False
theorem gil_use {k0 : List Int → (D → Prop) → Prop} {F H : Hp} {σ : L2.St} {ρ : Env} {xx : XX} {ds : List D} {vs : List V} {P : D → Prop} (r : Rel c F H σ ρ xx) (bs : Paired (Bo c F H) vs ds) (g : gIL k0 ds P) : ∃ a ns, vs = [V.ref a] ∧ SqL c.K H a (ns.map V.int) ∧ k0 ns P := by
  unfold gIL at g
  split at g
  · obtain ⟨v, rfl, b⟩ := pr1 bs
    obtain ⟨ns, hn, g⟩ := g
    obtain ⟨a, ys, rfl, s1, t1⟩ := bo_lst r.w.fh b
    rw [ofInts_eq hn] at t1
    rw [t1.ints] at s1
    exact ⟨a, ns, rfl, s1, g⟩
  · exact g.elim
def gSum : GC := gIL fun ns P => P (.int ns.sum)
def gMin : GC := fun ds P => match ds with
  | [.int i, .int j] => P (.int (min i j))
  | ds => gIL (fun ns P => ns ≠ [] ∧ ∀ m, m ∈ ns → (∀ y, y ∈ ns → m ≤ y) → P (.int m)) ds P
theorem sem_min (hK : X.K = c.K) (hc : X.calm = true) : SemC X c (.builtin "min") gMin :=
  ⟨_, CallR.or (call_min2 hc) (cr_min hc), fun F H σ ρ xx ds vs P Q r bs g k => by
    unfold gMin at g
    split at g
    · obtain ⟨v, u, rfl, b1, b2⟩ := pr2 bs
      cases bo_int b1; cases bo_int b2
      rename_i i j
      refine .inl ⟨i, j, rfl, ?_⟩
      have e : (if j < i then j else i) = min i j := by split <;> omega
      rw [e]
      exact k _ _ F H g (Ex.refl F) r (.int _)
    · obtain ⟨a, ns, rfl, s1, hne, g⟩ := gil_use r bs g
      exact .inr ⟨a, ns, rfl, by rw [hK]; exact s1, List.length_pos_iff.mpr hne, fun m h1 h2 => k _ _ F H (g m h1 h2) (Ex.refl F) r (.int _)⟩⟩
def gTuple : GC := fun ds P => match ds with
  | [.list xs] => P (.tuple xs)
  | [.tuple xs] => P (.tuple xs)
  | _ => False
theorem sem_tuple (hK : X.K = c.K) : SemC X c (.type "tuple") gTuple := by
  refine ⟨_, call_tuple_of, fun F H σ ρ xx ds vs P Q r bs g k => ?_⟩
  unfold gTuple at g
  split at g
  · obtain ⟨v, rfl, b⟩ := pr1 bs
    obtain ⟨a, ys, rfl, s1, t1⟩ := bo_lst r.w.fh b
    exact ⟨a, ys, rfl, .inl ⟨by rw [hK]; exact s1, fun q hq => k _ _ _ _ g (r.efF _ hq) (r.newF _ hq) (.tup (.inl (.inl upd_same)) (t1.mono (r.efF _ hq)))⟩⟩
  · obtain ⟨v, rfl, b⟩ := pr1 bs
    obtain ⟨a, ys, rfl, f1, s1, t1⟩ := bo_tup r.w.fh b
    exact ⟨a, ys, rfl, .inr ⟨by rw [hK]; exact s1, k _ _ F H g (Ex.refl F) r (.tup f1 t1)⟩⟩
  · exact g.elim
def gList : GC := fun ds P => match ds with
  | [.list xs] => P (.list xs)
  | [.tuple xs] => P (.list xs)
  | _ => False
/-- list(..): a new one -/
theorem dn_list (hK : X.K = c.K) (hg : Gl X "list") (hm : X.mg "list" = none) (ha : PA X [e] (tHL c fh)) (he : starEach [e] X.env = (false, eval e X.env) :: starEach [] X.env := by rfl) (hpl : (backTo pos (starEach [] X.env)).any (·.1) = false := by rfl) :
    PE X (.Call (.Name "list" p) [e] [] pos) (tN c (dCB gList fh)) := by
  refine PE.to (pe_callTy call_list_of hg hm (by decide +kernel) ha (by decide) (by decide) he hpl) ?_
  rintro σ H Q ⟨F, ρ, xx, P, rel, q, k⟩
  refine ⟨F, ρ, xx, _, rel, q, fun hs ρ1 vs F1 H1 q1 e1 r1 h1 => ?_⟩
  obtain ⟨ds, bs, q1⟩ := seeAll_bo r1 h1 q1
  unfold gList at q1
  split at q1
  · obtain ⟨v, rfl, b⟩ := pr1 bs
    obtain ⟨a, ys, rfl, s1, t1⟩ := bo_lst r1.w.fh b
    refine ⟨a, ys, rfl, .inl (by rw [hK]; exact s1), fun l hl => ?_⟩
    obtain ⟨r2, fr⟩ := Fresh.new (o := .lst ys) r1 hl (d := .d <| .list _) ⟨ys, upd_same, t1⟩
    exact k _ ρ1 _ _ _ q1 e1 r2 fr
  · obtain ⟨v, rfl, b⟩ := pr1 bs
    obtain ⟨a, ys, rfl, _, s1, t1⟩ := bo_tup r1.w.fh b
    refine ⟨a, ys, rfl, .inr (by rw [hK]; exact s1), fun l hl => ?_⟩
    obtain ⟨r2, fr⟩ := Fresh.new (o := .lst ys) r1 hl (d := .d <| .list _) ⟨ys, upd_same, t1⟩
    exact k _ ρ1 _ _ _ q1 e1 r2 fr
  · exact q1.elim
end
end DL
namespace DL
open PySem L2
structure DE where
  nx : Env → Prop
  rt : D → Env → Prop
  bk : Env → Prop
  ct : Env → Prop
abbrev SM := DE → Env → Prop
def tS (c : Cn) (g : SM) : TS := fun Z σ H => ∃ F ρ xx E, Rel c F H σ ρ xx ∧ g E ρ ∧ (∀ ρ' σ' F' H', E.nx ρ' → Ex F F' → Rel c F' H' σ' ρ' xx → Z.nx σ' H') ∧ (∀ d v ρ' σ' F' H', E.rt d ρ' → Rel c F' H' σ' ρ' xx → At c.K F' v d → Z.rt v H') ∧
  (∀ ρ' σ' F' H', E.bk ρ' → Ex F F' → Rel c F' H' σ' ρ' xx → Z.bk σ' H') ∧ (∀ ρ' σ' F' H', E.ct ρ' → Ex F F' → Rel c F' H' σ' ρ' xx → Z.ct σ' H')
theorem PS.to {X : Cx} {st : Stmt} {t t' : TS} (h : PS X st t) (w : ∀ Z σ H, t' Z σ H → t Z σ H) : PS X st t' := ⟨fun pins s σ H Z I q => h.run pins s σ H Z I (w Z σ H q)⟩
theorem PSs.to {X : Cx} {st : List Stmt} {t t' : TS} (h : PSs X st t) (w : ∀ Z σ H, t' Z σ H → t Z σ H) : PSs X st t' := ⟨fun pins s σ H Z I q => h.run pins s σ H Z I (w Z σ H q)⟩
section
variable {X : Cx} {c : Cn} {st : Stmt} {rest : List Stmt} {e : Expr} {pos : Pos}
def sSeq (g h : SM) : SM := fun E ρ => g { E with nx := h E } ρ
def sNo : SM := fun E ρ => E.nx ρ
theorem ds_cons {g h : SM} (h1 : PS X st (tS c g)) (h2 : PSs X rest (tS c h)) : PSs X (st :: rest) (tS c (sSeq g h)) :=
  PSs.to (pss_cons h1 h2) fun Z σ H ⟨F, ρ, xx, E, rel, q, n, r, b, t⟩ => ⟨F, ρ, xx, _, rel, q, fun ρ' σ' F' H' p e rel' => ⟨F', ρ', xx, E, rel', p, fun ρ2 σ2 F2 H2 p2 e2 => n ρ2 σ2 F2 H2 p2 (e.trans e2), r,
    fun ρ2 σ2 F2 H2 p2 e2 => b ρ2 σ2 F2 H2 p2 (e.trans e2), fun ρ2 σ2 F2 H2 p2 e2 => t ρ2 σ2 F2 H2 p2 (e.trans e2)⟩, r, b, t⟩
theorem ds_one {g : SM} (h1 : PS X st (tS c g)) : PSs X [st] (tS c g) := pss_one h1
theorem ds_nil : PSs X [] (tS c sNo) := PSs.to pss_nil fun Z σ H ⟨F, ρ, xx, E, rel, q, n, r, b, t⟩ => n ρ σ F H q (Ex.refl F) rel
def sNever : SM := fun _ _ => False
theorem ds_never : PSs X rest (tS c sNever) := PSs.to pss_never fun Z σ H ⟨F, ρ, xx, E, rel, q, n, r, b, t⟩ => q.elim
def sRet (f : DM) : SM := fun E ρ => f ρ fun d ρ1 => E.rt d ρ1
theorem dp_ret {f : DM} (h : PE X e (tD c f)) : PS X (.Return (some e) pos) (tS c (sRet f)) :=
  PS.to (ps_ret h) fun Z σ H ⟨F, ρ, xx, E, rel, q, n, r, b, t⟩ => ⟨F, ρ, xx, _, rel, q, fun d ρ' v F' H' p e r' a => r d v ρ' σ F' H' p r' a⟩
def sRetN : SM := fun E ρ => E.rt .none ρ
def sIf (t : BM) (g h : SM) : SM := fun E ρ => t ρ fun b ρ1 => if b = true then g E ρ1 else h E ρ1
theorem dp_if {t : BM} {a b : List Stmt} {g h : SM} (hc : PT X e (tT c t)) (ha : PSs X a (tS c g)) (hb : PSs X b (tS c h)) : PS X (.If e a b pos) (tS c (sIf t g h)) :=
  PS.to (ps_if hc ha hb) fun Z σ H ⟨F, ρ, xx, E, rel, q, n, r, b, t⟩ => ⟨F, ρ, xx, _, rel, q, fun d ρ1 F1 H1 q1 e1 r1 => by
    have go : ∀ {g : SM}, g E ρ1 → tS c g Z σ H1 := fun q => ⟨F1, ρ1, xx, E, r1, q, fun ρ2 σ2 F2 H2 p2 e2 => n ρ2 σ2 F2 H2 p2 (e1.trans e2), r,
      fun ρ2 σ2 F2 H2 p2 e2 => b ρ2 σ2 F2 H2 p2 (e1.trans e2), fun ρ2 σ2 F2 H2 p2 e2 => t ρ2 σ2 F2 H2 p2 (e1.trans e2)⟩
    cases d with
    | true => exact go q1
    | false => exact go q1⟩
def sExpr (f : DM) : SM := fun E ρ => f ρ fun _ ρ1 => E.nx ρ1
theorem dp_expr {f : DM} (h : PE X e (tD c f)) (hs : swapsWith e none pos.line X.env = pure false := by rfl) : PS X (.Expr e pos) (tS c (sExpr f)) :=
  PS.to (ps_expr h hs) fun Z σ H ⟨F, ρ, xx, E, rel, q, n, r, b, t⟩ => ⟨F, ρ, xx, _, rel, q, fun d ρ' v F' H' p e r' a => n ρ' σ F' H' p e r'⟩
abbrev TM := D → Env → (Env → Prop) → Prop
def Only (js : List Nat) (σ σ' : L2.St) : Prop := ∀ vs : List Nat, (∀ j ∈ js, j ∈ vs) → wipe σ' vs = wipe σ vs
def tG (c : Cn) (js : List Nat) (t : TM) : TG := fun v σ H Q => ∃ F ρ xx d P, Rel c F H σ ρ xx ∧ At c.K F v d ∧ t d ρ P ∧ ∀ ρ' σ' F' H', P ρ' → Only js σ σ' → Ex F F' → Rel c F' H' σ' ρ' xx → Q σ' H'
abbrev TMs := List D → Env → (Env → Prop) → Prop
def tGs (c : Cn) (js : List Nat) (t : TMs) : TGs := fun vs σ H Q => ∃ F ρ xx ds P, Rel c F H σ ρ xx ∧ AtAll c.K F vs ds ∧ t ds ρ P ∧ ∀ ρ' σ' F' H', P ρ' → Only js σ σ' → Ex F F' → Rel c F' H' σ' ρ' xx → Q σ' H'
theorem PG.to {tg : Expr} {t t' : TG} (h : PG X tg t) (w : ∀ v σ H Q, t' v σ H Q → t v σ H Q) : PG X tg t' := ⟨fun pins s σ H v u Q I r q => h.run pins s σ H v u Q I r (w v σ H Q q)⟩
theorem PGs.to {ts : List Expr} {t t' : TGs} (h : PGs X ts t) (w : ∀ v σ H Q, t' v σ H Q → t v σ H Q) : PGs X ts t' := ⟨fun pins s σ H v u Q I r q => h.run pins s σ H v u Q I r (w v σ H Q q)⟩
theorem only_set (i : Nat) (σ : L2.St) (v : V) : Only [i] σ (σ.set i (some v)) := fun vs h => by
  have hi : i ∈ vs := h i (List.mem_singleton.mpr rfl)
  clear h
  induction vs with
  | nil => cases hi
  | cons w ws ih =>
    show (wipe (σ.set i (some v)) ws).set w none = (wipe σ ws).set w none
    by_cases hw : i ∈ ws
    · rw [ih hw]
    · have e : w = i := by
        rcases List.mem_cons.mp hi with h | h
        · exact h.symm
        · exact absurd h hw
      subst e
      have z : ∀ ws : List Nat, wipe (σ.set w (some v)) ws = (wipe σ ws).set w (some v) ∨ w ∈ ws := fun ws => by
        induction ws with
        | nil => exact .inl rfl
        | cons y ys ih2 =>
          by_cases h1 : w = y
          · exact .inr (by rw [h1]; exact List.mem_cons_self ..)
          · rcases ih2 with h2 | h2
            · left
              show (wipe (σ.set w (some v)) ys).set y none = ((wipe σ ys).set y none).set w (some v)
              rw [h2, List.set_comm _ _ h1]
            · exact .inr (List.mem_cons_of_mem _ h2)
      rcases z ws with h2 | h2
      · rw [h2, List.set_set]
      · exact absurd h2 hw
theorem Only.trans {js ks : List Nat} {σ σ' σ'' : L2.St} (a : Only js σ σ') (b : Only ks σ' σ'') : Only (js ++ ks) σ σ'' := fun vs h =>
  (b vs fun j hj => h j (List.mem_append_right _ hj)).trans (a vs fun j hj => h j (List.mem_append_left _ hj))
def gN (i : Nat) : TM := fun d ρ P => P (ρ.set i (.im d))
theorem dg_name {i : Nat} {x : Str} (hN : X.N.Nodup) (hi : X.N[i]? = some x) (hx : Loc X.env.scope x) (hf : X.fn x = true ∨ X.env.scope.names.lookup x = some .local := by first | exact .inl rfl | exact .inr rfl | assumption) : PG X (.Name x pos) (tG c [i] (gN i)) :=
  PG.to (pg_name hN hi hx hf) fun v σ H Q ⟨F, ρ, xx, d, P, rel, a, q, k⟩ => k _ _ F H q (only_set i σ v) (Ex.refl F) (rel.putI i a)
def gNoT : TMs := fun ds ρ P => ds = [] ∧ P ρ
def gConsT (t : TM) (u : TMs) : TMs := fun ds ρ P => match ds with
  | d :: ds => t d ρ fun ρ1 => u ds ρ1 P
  | [] => False
theorem dgs_nil : PGs X [] (tGs c [] gNoT) := PGs.to pgs_nil fun v σ H Q ⟨F, ρ, xx, ds, P, rel, a, ⟨e, q⟩, k⟩ => by
  subst e
  cases a
  exact ⟨rfl, k _ _ F H q (fun _ _ => rfl) (Ex.refl F) rel⟩
theorem dgs_cons {tg : Expr} {ts : List Expr} {js ks : List Nat} {t : TM} {u : TMs} (h1 : PG X tg (tG c js t)) (h2 : PGs X ts (tGs c ks u))
    (hs : (assignEach (tg :: ts) X.env).map (·.2) = assign tg X.env :: (assignEach ts X.env).map (·.2) := by rfl) : PGs X (tg :: ts) (tGs c (js ++ ks) (gConsT t u)) :=
  PGs.to (pgs_cons h1 h2 hs) fun v σ H Q ⟨F, ρ, xx, ds, P, rel, a, q, k⟩ => by
    cases a with
    | nil => exact False.elim q
    | cons a1 a2 => exact ⟨_, _, rfl, F, ρ, xx, _, _, rel, a1, q, fun ρ1 σ1 F1 H1 q1 o1 e1 r1 => ⟨F1, ρ1, xx, _, P, r1, a2.mono e1, q1, fun ρ2 σ2 F2 H2 q2 o2 e2 r2 => k ρ2 σ2 F2 H2 q2 (o1.trans o2) (e1.trans e2) r2⟩⟩
def gTupT (n : Nat) (t : TMs) : TM := fun d ρ P => match d with
  | .tuple ds => ds.length = n ∧ t ds ρ P
  | _ => False
theorem dg_tup {es : List Expr} {k : Nat} {js : List Nat} {t : TMs} {n : Nat} (hK : X.K = c.K) (hc : X.calm = true) (h : PGs X es (tGs c js t))
    (hn : (assignEach es X.env).length = n := by rfl) (hst : (assignEach es X.env).findIdx? (·.1) = none := by rfl) : PG X (.Tuple es k pos) (tG c js (gTupT n t)) :=
  PG.to (pg_tup hc h hn hst) fun v σ H Q ⟨F, ρ, xx, d, P, rel, a, q, k⟩ => by
    cases a with
    | tup s1 a1 => exact ⟨_, _, rfl, by rw [hK]; exact rel.w.fh.st s1, by rw [a1.length]; exact q.1, F, ρ, xx, _, P, rel, a1, q.2, k⟩
    | _ => exact False.elim q
def sAsg (f : DM) (t : TM) : SM := fun E ρ => f ρ fun d ρ1 => t d ρ1 E.nx
theorem dp_asg {tg : Expr} {f : DM} {js : List Nat} {t : TM} (he : PE X e (tD c f)) (hg : PG X tg (tG c js t)) (hs : swapsWithSole [tg] e pos.line X.env = pure false := by rfl) (hw : swappedStores [tg] e X.env = pure none := by rfl)
    (h1 : (assignEach [tg] X.env).map (·.2) = [assign tg X.env] := by rfl) : PS X (.Assign [tg] e pos) (tS c (sAsg f t)) :=
  PS.to (ps_asg he hg hs hw h1) fun Z σ H ⟨F, ρ, xx, E, rel, q, n, r, b, t⟩ => ⟨F, ρ, xx, _, rel, q, fun d ρ' v F' H' p e r' a => ⟨F', ρ', xx, d, _, r', a, p, fun ρ2 σ2 F2 H2 p2 _ e2 r2 => n ρ2 σ2 F2 H2 p2 (e.trans e2) r2⟩⟩
def sSet (i : Nat) (f : DM) : SM := fun E ρ => f ρ fun d ρ1 => E.nx (ρ1.set i (.im d))
def sSetN (i : Nat) (f : DM) : SM := fun E ρ => f ρ fun d ρ1 => E.nx (ρ1.set i (.ow d))
theorem set_use {i : Nat} {f : DM} {te : TE} (et : te = tD c f) : ∀ Z σ H, tS c (sSet i f) Z σ H → tAsg te (gName i) Z σ H := by
  subst et
  exact fun Z σ H ⟨F, ρ, xx, E, rel, q, n, r, b, t⟩ => ⟨F, ρ, xx, _, rel, q, fun d ρ' v F' H' p e r' a => n _ _ F' H' p e (r'.putI i a)⟩
theorem setN_use {i : Nat} {f : DM} {te : TE} (et : te = tN c f) : ∀ Z σ H, tS c (sSetN i f) Z σ H → tAsg te (gName i) Z σ H := by
  subst et
  exact fun Z σ H ⟨F, ρ, xx, E, rel, q, n, r, b, t⟩ => ⟨F, ρ, xx, _, rel, q, fun d ρ' v F' H' p e r' a => n _ _ F' H' p e (r'.putO i a)⟩
variable {x : Str} {i : Nat} {pos' : Pos}
theorem dp_set {f : DM} (hN : X.N.Nodup) (hi : X.N[i]? = some x) (hx : Loc X.env.scope x) (he : PE X e (tD c f)) (hs : swapsWith e (some (.Name x pos')) pos.line X.env = pure false := by rfl)
    (hf : X.fn x = true ∨ X.env.scope.names.lookup x = some .local := by first | exact .inl rfl | exact .inr rfl | assumption) : PS X (.Assign [.Name x pos'] e pos) (tS c (sSet i f)) := PS.to (ps_set hN hi hx he hs hf) (set_use rfl)
theorem dp_setN {f : DM} (hN : X.N.Nodup) (hi : X.N[i]? = some x) (hx : Loc X.env.scope x) (he : PE X e (tN c f)) (hs : swapsWith e (some (.Name x pos')) pos.line X.env = pure false := by rfl)
    (hf : X.fn x = true ∨ X.env.scope.names.lookup x = some .local := by first | exact .inl rfl | exact .inr rfl | assumption) : PS X (.Assign [.Name x pos'] e pos) (tS c (sSetN i f)) := PS.to (ps_set hN hi hx he hs hf) (setN_use rfl)
/-- x += e -/
def sAug (i : Nat) (g : G2) (f : HM) : SM := fun E ρ => (match ρ[i]? with
  | some (.im _) => True
  | _ => False) ∧ f ρ fun h ρ1 => match ρ1[i]? with
  | some (.im d) => see ρ1 h fun dy => g d dy fun z => E.nx (ρ1.set i (.im z))
  | _ => False
def ipG (r : R2) : TIp := fun x y H Q => r x y H Q
theorem dp_aug {op : Operator} {g : G2} {f : HM} (hN : X.N.Nodup) (hi : X.N[i]? = some x) (hx : Loc X.env.scope x) (he : PE X e (tH c f)) (hs : Sem2 X c (inplaceOp op) g)
    (hf : X.fn x = true ∨ X.env.scope.names.lookup x = some .local := by first | exact .inl rfl | exact .inr rfl | assumption) : PS X (.AugAssign (.Name x pos') op e pos) (tS c (sAug i g f)) := by
  obtain ⟨r, ho, hr⟩ := hs
  refine PS.to (ps_aug (ti := ipG r) hN hi hx he ho hf) ?_
  rintro Z σ H ⟨F, ρ, xx, E, rel, ⟨q0, q⟩, n, rr, b, t⟩
  split at q0
  · rename_i d e0
    obtain ⟨v, g1, g2⟩ := rel.s.im i d e0
    refine ⟨v, g1, F, ρ, xx, _, rel, q, fun h ρ1 u F1 H1 q1 e1 r1 h1 => ?_⟩
    split at q1
    · rename_i d1 e2
      obtain ⟨v', g1', g2'⟩ := r1.s.im i d1 e2
      rw [g1] at g1'
      cases g1'
      obtain ⟨dy, by_, q1⟩ := see_bo r1 h1 q1
      exact hr F1 H1 σ ρ1 xx d1 dy v u _ _ r1 (.inl g2') by_ q1 fun z w F2 H2 pz ez rz az => n _ _ F2 H2 pz (e1.trans ez) (rz.putI i az)
    · exact q1.elim
  · exact q0.elim
abbrev IM := Env → (List D → Env → Prop) → Prop
def ItOk (c : Cn) (J : It) (ds : List D) (F : Hp) : Prop := ∀ (i : Nat) (F' H : Hp) (σ : L2.St) (ρ : Env) (xx : XX), Ex F F' → Rel c F' H σ ρ xx →
  (∀ d, ds[i]? = some d → J.go i H ∧ ∀ x H', J.yld i H x H' → ∃ F2, Ex F' F2 ∧ Rel c F2 H' σ ρ xx ∧ At c.K F2 x d) ∧ (ds.length = i → J.stop i H)
def tI (c : Cn) (f : IM) : TI := fun σ H R => ∃ F ρ xx P, Rel c F H σ ρ xx ∧ f ρ P ∧ ∀ ds ρ' J F' H', P ds ρ' → Ex F F' → Rel c F' H' σ ρ' xx → ItOk c J ds F' → R J H'
theorem PI.to {tg iter : Expr} {t t' : TI} (h : PI X tg iter t) (w : ∀ σ H Q, t' σ H Q → t σ H Q) : PI X tg iter t' := ⟨fun pins s σ H Q I q => h.run pins s σ H Q I (w σ H Q q)⟩
def forL (t : TM) (body : SM) (E : DE) : List D → Env → Prop
  | [], ρ => E.nx ρ
  | d :: ds, ρ => t d ρ fun ρ1 => body ⟨forL t body E ds, E.rt, E.nx, forL t body E ds⟩ ρ1
def sFor (f : IM) (t : TM) (body : SM) : SM := fun E ρ => f ρ fun ds ρ1 => forL t body E ds ρ1
theorem dp_for {tg iter : Expr} {body : List Stmt} {f : IM} {js : List Nat} {t : TM} {g : SM} (hp : PassesOwn (model X.prog X.w) X.A X.env X.xe) (hc : X.calm = true) (hi : PI X tg iter (tI c f)) (hg : PG X tg (tG c js t)) (hb : PSs X body (tS c g))
    (hs : ∀ x, foldedSetIterable iter X.env x = pure x := by intro _; rfl) : PS X (.For tg iter body [] pos) (tS c (sFor f t g)) := by
  refine PS.to (ps_for hp hc hi hg hb hs) ?_
  rintro Z σ H ⟨F, ρ, xx, E, rel, q, n, r, b, ct⟩
  refine ⟨F, ρ, xx, _, rel, q, fun ds ρ1 J F1 H1 q1 e1 r1 ok => ?_⟩
  refine ⟨fun i m σ' H' => ∃ F' ρ', Ex F1 F' ∧ Rel c F' H' σ' ρ' xx ∧ m = ds.length - i ∧ i ≤ ds.length ∧ forL t g E (ds.drop i) ρ', ⟨ds.length, F1, ρ1, Ex.refl F1, r1, by omega, Nat.zero_le _, by rw [List.drop_zero]; exact q1⟩, ?_⟩
  rintro i m σ' H' ⟨F', ρ', e2, r2, rfl, hi, q2⟩
  obtain ⟨o1, o2⟩ := ok i F' H' σ' ρ' xx e2 r2
  by_cases hlt : i < ds.length
  · have hd : ds[i]? = some ds[i] := List.getElem?_eq_getElem hlt
    obtain ⟨go, yl⟩ := o1 _ hd
    rw [List.drop_eq_getElem_cons hlt] at q2
    have q2 : t ds[i] ρ' fun ρ1 => g ⟨forL t g E (ds.drop (i + 1)), E.rt, E.nx, forL t g E (ds.drop (i + 1))⟩ ρ1 := q2
    refine .inr ⟨go, fun σ2 H2 => ∃ F2 ρ2, Ex F1 F2 ∧ Rel c F2 H2 σ2 ρ2 xx ∧ forL t g E (ds.drop (i + 1)) ρ2, fun σ2 H2 ⟨F2, ρ2, a1, a2, a3⟩ => ⟨ds.length - (i + 1), by omega, F2, ρ2, a1, a2, rfl, by omega, a3⟩, fun v H2 y => ?_⟩
    obtain ⟨F2, e3, r3, a3⟩ := yl v H2 y
    refine ⟨F2, ρ', xx, _, _, r3, a3, q2, fun ρ4 σ4 F4 H4 q4 _ e4 r4 => ?_⟩
    exact ⟨F4, ρ4, xx, _, r4, q4, fun ρ5 σ5 F5 H5 q5 e5 r5 => ⟨F5, ρ5, ((e2.trans e3).trans e4).trans e5, r5, q5⟩, r, fun ρ5 σ5 F5 H5 q5 e5 r5 => n ρ5 σ5 F5 H5 q5 ((((e1.trans e2).trans e3).trans e4).trans e5) r5, fun ρ5 σ5 F5 H5 q5 e5 r5 => ⟨F5, ρ5, ((e2.trans e3).trans e4).trans e5, r5, q5⟩⟩
  · have e : i = ds.length := by omega
    subst e
    rw [List.drop_length] at q2
    exact .inl ⟨o2 rfl, n ρ' σ' F' H' q2 (e1.trans e2) r2⟩
theorem itOk_list {a : Addr} {F : Hp} {ds : List D} {ys : List V} {K : PySem.W.Frag} (hK : K = c.K) (s : SqL c.K F a ys) (t : AtAll c.K F ys ds) : ItOk c (Itl K a) ds F := by
  subst hK
  intro i F' H σ ρ xx e r
  have sq := r.w.fh.sl (e.sl s)
  refine ⟨fun d hd => ?_, fun hl => ⟨ys, sq, by rw [t.length]; exact Nat.le_of_eq hl⟩⟩
  obtain ⟨v, hv, av⟩ := t.get hd
  refine ⟨⟨ys, v, sq, hv⟩, fun x H' ⟨eh, y⟩ => ?_⟩
  subst eh
  have := y ys sq
  rw [hv] at this
  cases this
  exact ⟨F', Ex.refl _, r, av.mono e⟩
theorem itOk_tup {a : Addr} {F : Hp} {ds : List D} {ys : List V} {K : PySem.W.Frag} (hK : K = c.K) (s : SqT c.K F a ys) (t : AtAll c.K F ys ds) : ItOk c (Itt K a) ds F := by
  subst hK
  intro i F' H σ ρ xx e r
  have sq := r.w.fh.st (e.st s)
  refine ⟨fun d hd => ?_, fun hl => ⟨ys, sq, by rw [t.length]; exact Nat.le_of_eq hl⟩⟩
  obtain ⟨v, hv, av⟩ := t.get hd
  refine ⟨⟨ys, v, sq, hv⟩, fun x H' ⟨eh, y⟩ => ?_⟩
  subst eh
  have := y ys sq
  rw [hv] at this
  cases this
  exact ⟨F', Ex.refl _, r, av.mono e⟩
/-- an iterator over a list, a tuple, a text: by what the value is -/
def iAny (K : PySem.W.Frag) (tl : TE) : TI := fun σ H R => tl σ H fun x H1 => (∃ a, x = .ref a ∧ (((∃ xs, SqL K H1 a xs) ∧ R (Itl K a) H1) ∨ ((∃ xs, SqT K H1 a xs) ∧ R (Itt K a) H1))) ∨ ∃ z, x = .str z ∧ R (Its z) H1
theorem pi_any {tg l : Expr} {tl : TE} (hl : PE X l tl) : PI X tg l (iAny X.K tl) := by
  (refine ⟨fun pins s σ H R I h => ?_⟩)
  refine thn (hl.run pins s σ H _ I h) fun v s1 ⟨x, H1, I1, r1, q⟩ => ?_
  have fin : ∀ b, b ∈ [s1.heap.objs.size] → FpOk X pins H1 b := fun b hb => by
    obtain rfl := List.mem_singleton.mp hb
    (exact I1.fpOk (Nat.le_refl _) (I1.hok.fresh (Nat.le_refl _)))
  rcases q with ⟨a, ex, q⟩ | ⟨z, ex, q⟩
  · subst ex
    cases r1
    rcases q with ⟨⟨xs, hs⟩, q⟩ | ⟨⟨xs, hs⟩, q⟩
    · obtain ⟨its, rv, pl, hz⟩ := I1.list hs
      exact wpAny_pyIter_list pl.isList ⟨_, [s1.heap.objs.size], _, _, H1, rfl, I1.kept (t' := s1.toks) fun b o q => Heap.get?_push_of_some _ q, turn_list a _,
        ⟨_, Heap.get?_push_size _ rfl, rfl, rfl⟩, fin, q⟩
    · obtain ⟨its, rv, pl, hz⟩ := I1.tuple hs
      exact wpAny_pyIter_tuple (show s1.heap.IsTuple a its.toArray from pl) ⟨_, [s1.heap.objs.size], _, _, H1, rfl, I1.kept (t' := s1.toks) fun b o q => Heap.get?_push_of_some _ q, turn_tuple a _,
        ⟨_, Heap.get?_push_size _ rfl, rfl, rfl⟩, fin, q⟩
  · subst ex
    obtain ⟨t, rfl⟩ := r1
    cases ha : z.cps.all (· < 128)
    · exact wpAny_pyIter_wide ha (pi_one (tk := s1.toks) I1 _ (turn_str _ z t "str_iterator" (.inr rfl)) ⟨_, Heap.get?_push_size _ rfl, rfl, rfl⟩ q)
    · exact wpAny_pyIter_ascii ha (pi_one (tk := s1.toks) I1 _ (turn_str _ z t "str_ascii_iterator" (.inl rfl)) ⟨_, Heap.get?_push_size _ rfl, rfl, rfl⟩ q)
def signs (z : Str) : List D := z.cps.toList.map fun n => .str ⟨#[n]⟩
theorem itOk_str {z : Str} {F : Hp} : ItOk c (Its z) (signs z) F := by
  intro i F' H σ ρ xx e r
  refine ⟨fun d hd => ?_, fun hl => ?_⟩
  · unfold signs at hd
    rw [List.getElem?_map] at hd
    cases hn : z.cps.toList[i]? with
    | none => rw [hn] at hd; cases hd
    | some n =>
      rw [hn] at hd
      cases hd
      have hi : z.cps[i]? = some n := by simpa using hn
      refine ⟨?_, fun x H' ⟨eh, m, y, ev⟩ => ?_⟩
      · have := (Array.getElem?_eq_some_iff.mp hi).1
        exact this
      · subst eh ev
        rw [hi] at y
        cases y
        exact ⟨F', Ex.refl _, r, .str _⟩
  · unfold signs at hl
    rw [List.length_map, Array.length_toList] at hl
    exact Nat.le_of_eq hl
def iSeq (f : DM) : IM := fun ρ P => f ρ fun d ρ1 => match d with
  | .list ds => P ds ρ1
  | .tuple ds => P ds ρ1
  | .str z => P (signs z) ρ1
  | _ => False
theorem di_seq {tg l : Expr} {f : DM} (hK : X.K = c.K) (hl : PE X l (tD c f)) : PI X tg l (tI c (iSeq f)) := by
  refine PI.to (pi_any hl) ?_
  rintro σ H R ⟨F, ρ, xx, P, rel, q, k⟩
  refine ⟨F, ρ, xx, _, rel, q, fun d ρ1 v F1 H1 q1 e1 r1 a1 => ?_⟩
  split at q1
  · cases a1 with
    | lst s1 t1 => exact .inl ⟨_, rfl, .inl ⟨⟨_, by rw [hK]; exact r1.w.fh.sl s1⟩, k _ ρ1 _ F1 H1 q1 e1 r1 (itOk_list hK s1 t1)⟩⟩
  · cases a1 with
    | tup s1 t1 => exact .inl ⟨_, rfl, .inr ⟨⟨_, by rw [hK]; exact r1.w.fh.st s1⟩, k _ ρ1 _ F1 H1 q1 e1 r1 (itOk_tup hK s1 t1)⟩⟩
  · cases a1
    exact .inr ⟨_, rfl, k _ ρ1 _ F1 H1 q1 e1 r1 itOk_str⟩
  · exact q1.elim
/-- range(n), range(a, b) -/
def rgD (lo hi : Int) : List D := (List.range (hi - lo).toNat).map fun i => .int (lo + (i : Nat))
theorem itOk_range {lo : Int} {n : Nat} {F : Hp} : ItOk c (Itr lo n) ((List.range n).map fun i => .int (lo + (i : Nat))) F := by
  intro i F' H σ ρ xx e r
  refine ⟨fun d hd => ?_, fun hl => show n ≤ i by simp at hl; omega⟩
  rw [List.getElem?_map] at hd
  cases hn : (List.range n)[i]? with
  | none => rw [hn] at hd; cases hd
  | some j =>
    rw [hn] at hd
    cases hd
    obtain ⟨hi, ej⟩ := List.getElem?_eq_some_iff.mp hn
    rw [List.getElem_range] at ej
    subst ej
    refine ⟨show i < n by simpa using hi, fun x H' ⟨eh, y⟩ => ?_⟩
    subst eh y
    exact ⟨F', Ex.refl _, r, .int _⟩
def iRange1 (f : LM) : IM := fun ρ P => f ρ fun ds ρ1 => match ds with
  | [.int n] => (-(2 ^ 62) ≤ n ∧ n < 2 ^ 62) ∧ P (rgD 0 n) ρ1
  | _ => False
theorem di_range1 {tg a : Expr} {f : LM} {p : Pos} (hg : Gl X "range") (hm : X.mg "range" = none) (ha : PA X [a] (tL c f)) (hs : starEach [a] X.env = [(false, eval a X.env)] := by rfl) : PI X tg (.Call (.Name "range" p) [a] [] pos) (tI c (iRange1 f)) := by
  refine PI.to (pi_range1 hg hm ha hs) ?_
  rintro σ H R ⟨F, ρ, xx, P, rel, q, k⟩
  refine ⟨F, ρ, xx, _, rel, q, fun ds ρ1 vs F1 H1 q1 e1 r1 a1 => ?_⟩
  split at q1
  · rename_i n
    cases a1 with
    | cons a b =>
      cases b
      cases a
      have hr : rgD 0 n = (List.range n.toNat).map fun i => PyData.int (0 + (i : Nat)) := by
        unfold rgD
        rw [Int.sub_zero]
      rw [hr] at q1
      exact ⟨n, rfl, q1.1.1, q1.1.2, k _ ρ1 _ F1 H1 q1.2 e1 r1 itOk_range⟩
  · exact q1.elim
/-- while -/
def sWhile (t : BM) (body : SM) : SM := fun E ρ => ∃ W : Nat → Env → Prop, (∃ m, W m ρ) ∧ ∀ m ρ, W m ρ → t ρ fun b ρ1 => if b = true then body ⟨fun ρ' => ∃ m', m' < m ∧ W m' ρ', E.rt, E.nx, fun ρ' => ∃ m', m' < m ∧ W m' ρ'⟩ ρ1 else E.nx ρ1
theorem dp_while {t : BM} {body : List Stmt} {g : SM} (hp : PassesOwn (model X.prog X.w) X.A X.env X.xe) (hc : PT X e (tT c t)) (hb : PSs X body (tS c g)) : PS X (.While e body [] pos) (tS c (sWhile t g)) := by
  refine PS.to (ps_while hp hc hb) ?_
  rintro Z σ H ⟨F, ρ, xx, E, rel, ⟨W, ⟨m0, w0⟩, turn⟩, n, r, b, ct⟩
  refine ⟨fun m σ' H' => ∃ F' ρ', Ex F F' ∧ Rel c F' H' σ' ρ' xx ∧ W m ρ', ⟨m0, F, ρ, Ex.refl F, rel, w0⟩, ?_⟩
  rintro m σ' H' ⟨F', ρ', e1, r1, w1⟩
  refine ⟨F', ρ', xx, _, r1, turn m ρ' w1, fun bb ρ2 F2 H2 q2 e2 r2 => ?_⟩
  cases bb with
  | true =>
    refine ⟨fun σ3 H3 => ∃ F3 ρ3, Ex F F3 ∧ Rel c F3 H3 σ3 ρ3 xx ∧ ∃ m', m' < m ∧ W m' ρ3, fun σ3 H3 ⟨F3, ρ3, a1, a2, m', a3, a4⟩ => ⟨m', a3, F3, ρ3, a1, a2, a4⟩, ?_⟩
    exact ⟨F2, ρ2, xx, _, r2, q2, fun ρ3 σ3 F3 H3 q3 e3 r3 => ⟨F3, ρ3, (e1.trans e2).trans e3, r3, q3⟩, r, fun ρ3 σ3 F3 H3 q3 e3 r3 => n ρ3 σ3 F3 H3 q3 ((e1.trans e2).trans e3) r3, fun ρ3 σ3 F3 H3 q3 e3 r3 => ⟨F3, ρ3, (e1.trans e2).trans e3, r3, q3⟩⟩
  | false => exact n ρ2 σ' F2 H2 q2 (e1.trans e2) r2
end
end DL
namespace DL
open PySem L2
section
open PyProof.Rows
variable {prog : Program} {w : PySem.World} {A : Around} {E : Value → Shared → Prop} {s : Shared}
/-- enumerate(v), where iter(v) begins with the object o -/
theorem enum_one {v : Value} {o : Obj} {Z : Heap → Prop} {Q : Value → Shared → Prop} (B : Begins v o Z) (f : Z s.heap)
    (h : ∀ h2 : Heap, h2.get? s.heap.objs.size = some o → IsEnum h2 (s.heap.objs.size + 1) s.heap.objs.size 0 .none → (∀ b z, s.heap.get? b = some z → h2.get? b = some z) → Q (.ref (s.heap.objs.size + 1)) { s with heap := h2 }) :
    wpAny (model prog w) A (call (.type "enumerate") [v]) Q E s := by
  have new : Meets (Builtin.«enumerate.__new__» ⟨[.type "enumerate", v], []⟩) (fun _ R s1 => Z s1.heap ∧ R (.ok (.ret (.ref (s1.heap.push o).objs.size))) { s1 with heap := (s1.heap.push o).push { cls := .type "enumerate", data := .fields #[.none, .bool false, .ref s1.heap.objs.size, rawInt 0, .none, .none] } }) := by
    refine .of_wp fun prog w A R s1 z => ?_
    have begins : ∀ {A' : Around} {E : Value → Shared → Prop} {Q : Value → Shared → Prop}, Q (.ref s1.heap.objs.size) { s1 with heap := s1.heap.push o } → wpAny (model prog w) A' (pyIter v) Q E s1 := fun q => B.iter prog w _ _ s1 _ z.1 q
    have isa := sub_enumerate
    have fin := z.2
    clear z
    cases s1
    wp_walk using begins
    apply wpAny_stack_any
    intro st
    apply wpAny_pure
    split
    case _ c _ _ _ _ _ =>
      rcases c == Value.type "enumerate" with _ | _ <;> (wp_walk using begins) <;> exact ⟨_, rfl, fin⟩
    case _ =>
      wp_walk using begins
      exact ⟨_, rfl, fin⟩
  have at1 : (s.heap.push o).objs.size = s.heap.objs.size + 1 := Heap.size_push ..
  refine callType_new F.called_enumerate (by decide) (F.typeCall_enumerate_1 v) (F.newCall_enumerate_1 v) (F.args_object_init_2 · v) F.entry_enumerate_new new ?_
  rw [at1]
  have made := Heap.get?_push_size (s.heap.push o) (o := { cls := .type "enumerate", data := .fields #[.none, .bool false, .ref s.heap.objs.size, rawInt 0, .none, .none] }) rfl
  rw [at1] at made
  exact ⟨f, ⟨_, made, rfl⟩, h _ (Heap.get?_push_of_some _ (Heap.get?_push_size _ B.free)) made fun b z q => Heap.get?_push_of_some _ (Heap.get?_push_of_some _ q)⟩
/-- where an enumerate over the tuple a stands: e the enumerate, it the tuple's iterator -/
structure EnT (a e it : Addr) (i : Nat) (h : Heap) : Prop where
  en : ∃ old, IsEnum h e it ((i : Nat) : Int) old
  ti : h.IsTupleIter it a i
  e_it : e ≠ it
  a_it : a ≠ it
  a_e : a ≠ e
theorem EnT.move {a e it : Addr} {i : Nat} {h h' : Heap} (x : EnT a e it i h) (ke : ∀ o, h.get? e = some o → h'.get? e = some o) (ki : ∀ o, h.get? it = some o → h'.get? it = some o) : EnT a e it i h' :=
  ⟨x.en.imp fun _ q => ke _ q, x.ti.at ki, x.e_it, x.a_it, x.a_e⟩
/-- its next item, over the heap alone -/
theorem EnT.step {a e it : Addr} {i : Nat} {its : List Value} {u : Value} {R : Shared → Prop} {elts : List Expr} {kk : Nat} {tpos : Pos} (x : EnT a e it i s.heap) (calm : A.in1.handled = none) (p : s.heap.IsTuple a its.toArray) (hu : its[i]? = some u)
    (h : ∀ (h2 : Heap) (tk : Nat), EnT a e it (i + 1) h2 → h2.get? s.heap.objs.size = some { cls := .type "tuple", data := .seq #[.int i tk, u] } → (∀ b o, b ≠ e → b ≠ it → s.heap.get? b = some o → h2.get? b = some o) → R { s with heap := h2, toks := tk + 1 }) :
    wpAny (model prog w) A (pyNext (.ref e)) (fun r s1 => r = some (.ref s.heap.objs.size) ∧ wpAny (model prog w) A (letOwnedTupleGo (.Tuple elts kk tpos) (.ref e) (.ref s.heap.objs.size)) (fun _ s2 => R s2) E s1) E s := by
  obtain ⟨⟨old, en⟩, ti, n1, n2, n3⟩ := x
  have new : s.heap.objs.size ≠ e := Nat.ne_of_gt (Heap.lt_size en)
  have few : i < its.toArray.size := (List.getElem?_eq_some_iff.mp hu).1
  refine wpAny_pyNext_enum_itemD (Draws.tuple (prog := prog) (w := w) calm it a n2 its.toArray) en ⟨ti, p⟩ few n1 (List.not_mem_cons_of_ne_of_not_mem n1 (List.not_mem_cons_of_ne_of_not_mem (Ne.symm n3) List.not_mem_nil)) ?_
  rintro y h1 tk hy own st1 tup - kept
  have : y = u := Option.some.inj (Eq.trans (by simpa using hy.symm) hu)
  subst this
  refine ⟨rfl, wpAny_letOwnedTupleGo_enum (s := { s with heap := h1, toks := tk + 1 }) own fun h2 en2 sb => h h2 tk ⟨⟨_, by rw [Int.natCast_succ]; exact en2⟩, st1.1.at fun o q => (sb.2 it (Ne.symm n1)).trans q, n1, n2, n3⟩ ((sb.2 _ new).trans tup) ?_⟩
  exact fun b o be bi q => (sb.2 b be).trans (kept b o be bi q)
end
/-- each item of a sequence with its number, in a new pair -/
def numbered (S : Hp → List V → Prop) : It where
  go i H := ∃ xs x, S H xs ∧ xs[i]? = some x
  yld i H v H' := ∃ T x, v = .ref T ∧ H T = none ∧ H' = upd H T (.tup [.int (i : Nat), x]) ∧ ∀ xs, S H xs → xs[i]? = some x
  stop i H := ∃ xs, S H xs ∧ xs.length = i
abbrev IteT (K : PySem.W.Frag) (a : Addr) : It := numbered fun H xs => SqT K H a xs
open PyProof.Rows in
theorem turn_enumT {P : Program} {w : PySem.World} {K : PySem.W.Frag} {elts : List Expr} {kk : Nat} {tpos : Pos} (a e it : Addr) : Turn P w K (.Tuple elts kk tpos) (IteT K a) [e, it] e (EnT a e it) := by
  have two : ∀ {p : Addr → Prop}, p e → p it → ∀ b ∈ [e, it], p b := fun pe pi => List.forall_mem_cons.mpr ⟨pe, List.forall_mem_cons.mpr ⟨pi, fun _ z => nomatch z⟩⟩
  constructor
  · exact List.mem_cons_self
  · rintro i h ⟨⟨old, en⟩, ⟨o, ho, -, hd⟩, -⟩
    exact two ⟨_, en, fun v q => nomatch q⟩ ⟨o, ho, fun v q => by rw [hd] at q; exact nomatch q⟩
  · exact fun i h h' x k => x.move (k e List.mem_cons_self) (k it (List.mem_cons_of_mem _ List.mem_cons_self))
  · rintro X rfl rfl rfl calm i pins s σ H E I away x ⟨xs, y, sq, hy⟩
    obtain ⟨its, rv, p, -⟩ := I.tuple sq
    obtain ⟨u, hu, ru⟩ := rv.get hy
    have le : e < s.heap.objs.size := x.en.elim fun _ q => Heap.lt_size q
    have li : it < s.heap.objs.size := x.ti.elim fun _ q => Heap.lt_size q.1
    refine wpAny_mono (x.step (R := fun s2 => ∃ y' H', Inv X pins σ H' s2 ∧ RelV y' (.ref s.heap.objs.size) ∧ (IteT X.K a).yld i H y' H' ∧ EnT a e it (i + 1) s2.heap ∧ ∀ b ∈ [e, it], H' b = none) (I.ok.hd calm) p hu ?_) (fun r s1 q => ⟨_, q⟩) fun _ _ q => q
    intro h2 tk x2 tup kept
    refine ⟨.ref s.heap.objs.size, upd H s.heap.objs.size (.tup [.int (i : Nat), y]), ?_, rfl, ⟨_, y, rfl, I.hok.fresh (Nat.le_refl _), rfl, fun ys q => by rw [I.tuple_inj q sq]; exact hy⟩, x2, two ?_ ?_⟩
    · refine I.turnedNew (ch := [e, it]) (t' := tk + 1) (fun b ob nb q => kept b ob (fun z => nb (z ▸ List.mem_cons_self)) (fun z => nb (z ▸ List.mem_cons_of_mem _ List.mem_cons_self)) q) away (Nat.le_refl _) ?_
      exact ⟨by show 2 ≤ sizeLine; decide, _, .cons ⟨tk, rfl⟩ (.cons ru .nil), _, tup, rfl, _, rfl⟩
    · exact (upd_ne (Nat.ne_of_lt le)).trans (away e List.mem_cons_self).1
    · exact (upd_ne (Nat.ne_of_lt li)).trans (away it (List.mem_cons_of_mem _ List.mem_cons_self)).1
  · rintro X rfl rfl rfl calm i pins s σ H E I away x ⟨xs, sq, hi⟩
    obtain ⟨its, rv, p, -⟩ := I.tuple sq
    obtain ⟨old, en⟩ := x.en
    have at_end : s.heap.IsTupleIter it a its.toArray.size := by
      have : its.toArray.size = i := by rw [List.size_toArray, ← rv.length, hi]
      rw [this]
      exact x.ti
    obtain ⟨-, f1, f2, f3, f4, f5⟩ := away it (List.mem_cons_of_mem _ List.mem_cons_self)
    have quiet : X.A.in1.handled = none := I.ok.hd calm
    exact wpAny_pyNext_enum_endD (Draws.tuple (prog := X.prog) (w := X.w) quiet it a x.a_it its.toArray) en ⟨at_end, p⟩ fun h2 kept =>
      ⟨rfl, I.turned (t' := s.toks) (fun b o nb q => kept b o nb q) (away it (List.mem_cons_of_mem _ List.mem_cons_self)).1 f1 f3 f4 f5⟩
  · exact fun A i s Q E x q => x.en.elim fun _ en => wpAny_pyIter_enum en q
section
variable {X : Cx} {c : Cn}
/-- enumerate(x), of a list or a tuple -/
def iEnumA (K : PySem.W.Frag) (ta : TA) : TI := fun σ H R => ta σ H fun vs H1 => ∃ a xs, vs = [.ref a] ∧ ((SqL K H1 a xs ∧ R (Ite K a) H1) ∨ (SqT K H1 a xs ∧ R (IteT K a) H1))
open PyProof.Rows in
theorem pi_enumA {e : Expr} {ta : TA} {p pos tpos : Pos} {elts : List Expr} {kk : Nat} (hg : Gl X "enumerate") (hm : X.mg "enumerate" = none) (ha : PA X [e] ta) (hs : starEach [e] X.env = [(false, eval e X.env)] := by rfl) :
    PI X (.Tuple elts kk tpos) (.Call (.Name "enumerate" p) [e] [] pos) (iEnumA X.K ta) := by
  constructor
  intro pins s σ H R I h
  refine Call_ (ld_blt I hg hm boot_enumerate (PyProof.Rows.callWith_type1 (thn (ha.run pos pins s σ H _ I h) ?_) hs rfl))
  rintro us s1 ⟨vs, H1, I1, r1, a, xs, rfl, q⟩
  obtain _ | ⟨r, _ | _⟩ := r1
  cases r
  have new : ∀ b, s1.heap.objs.size ≤ b → FpOk X pins H1 b := fun b le => I1.fpOk le (I1.hok.fresh le)
  have news : ∀ b ∈ [s1.heap.objs.size + 1, s1.heap.objs.size], FpOk X pins H1 b := fun b hb => new b (by
    (simp only [List.mem_cons, List.not_mem_nil, or_false] at hb)
    omega)
  refine q.elim (fun ⟨sq, q⟩ => ?_) fun ⟨sq, q⟩ => ?_
  · obtain ⟨its, -, p1, -⟩ := I1.list sq
    refine enum_one (begins_list a its.toArray) p1.isList fun h2 hi he kept => wpAny_pyIter_enum he ?_
    exact ⟨_, _, _, _, H1, rfl, I1.kept (t' := s1.toks) kept, turn_enum a _ s1.heap.objs.size, ⟨⟨_, he⟩, ⟨_, hi, rfl, rfl⟩, Nat.succ_ne_self _⟩, news, q⟩
  · obtain ⟨its, -, p1, -⟩ := I1.tuple sq
    have lt : a < s1.heap.objs.size := p1.elim fun _ z => Heap.lt_size z.1
    refine enum_one (begins_tuple a its.toArray) p1 fun h2 hi he kept => wpAny_pyIter_enum he ?_
    exact ⟨_, _, _, _, H1, rfl, I1.kept (t' := s1.toks) kept, turn_enumT a _ s1.heap.objs.size, ⟨⟨_, he⟩, ⟨_, hi, rfl, rfl⟩, Nat.succ_ne_self _, Nat.ne_of_lt lt, Nat.ne_of_lt (Nat.lt_succ_of_lt lt)⟩, news, q⟩
def enD (ds : List D) : List D := ds.mapIdx fun i d => .tuple [.int (i : Nat), d]
theorem enD_get {ds : List D} {i : Nat} {d : D} (h : (enD ds)[i]? = some d) : ∃ e, ds[i]? = some e ∧ d = .tuple [.int (i : Nat), e] := by
  unfold enD at h
  rw [List.getElem?_mapIdx] at h
  cases e : ds[i]? with
  | none => (rw [e] at h; cases h)
  | some x => rw [e] at h; cases h; exact ⟨x, rfl, rfl⟩
theorem enD_length (ds : List D) : (enD ds).length = ds.length := by unfold enD; simp
theorem pair_new {F H : Hp} {σ : L2.St} {ρ : Env} {xx : XX} (r : Rel c F H σ ρ xx) {T : Addr} {x y : V} {d e : D} (hT : H T = none) (hx : At c.K F x d) (hy : At c.K F y e) :
    ∃ F2, Ex F F2 ∧ Rel c F2 (upd H T (.tup [x, y])) σ ρ xx ∧ At c.K F2 (.ref T) (.tuple [d, e]) :=
  ⟨_, r.efF _ hT, r.newF _ hT, .tup (.inl (.inl upd_same)) (.cons (hx.mono (r.efF _ hT)) (.cons (hy.mono (r.efF _ hT)) .nil))⟩
theorem itOk_enum {K : PySem.W.Frag} (hK : K = c.K) {a : Addr} {F : Hp} {ds : List D} {ys : List V} (s : SqL c.K F a ys) (t : AtAll c.K F ys ds) : ItOk c (Ite K a) (enD ds) F := by
  subst hK
  intro i F' H σ ρ xx e r
  have sq := r.w.fh.sl (e.sl s)
  refine ⟨fun d hd => ?_, fun hl => ⟨ys, sq, by rw [t.length, ← enD_length]; exact Nat.le_of_eq hl⟩⟩
  obtain ⟨d0, h0, ed⟩ := enD_get hd
  subst ed
  obtain ⟨v, hv, av⟩ := t.get h0
  refine ⟨⟨ys, v, sq, hv⟩, fun x H' ⟨T, y, ex, hT, eh, hy⟩ => ?_⟩
  subst ex eh
  have := hy ys sq
  rw [hv] at this
  cases this
  exact pair_new r hT (.int _) (av.mono e)
theorem itOk_enumT {K : PySem.W.Frag} (hK : K = c.K) {a : Addr} {F : Hp} {ds : List D} {ys : List V} (s : SqT c.K F a ys) (t : AtAll c.K F ys ds) : ItOk c (IteT K a) (enD ds) F := by
  subst hK
  intro i F' H σ ρ xx e r
  have sq := r.w.fh.st (e.st s)
  refine ⟨fun d hd => ?_, fun hl => ⟨ys, sq, by rw [t.length, ← enD_length]; exact hl⟩⟩
  obtain ⟨d0, h0, ed⟩ := enD_get hd
  subst ed
  obtain ⟨v, hv, av⟩ := t.get h0
  refine ⟨⟨ys, v, sq, hv⟩, fun x H' ⟨T, y, ex, hT, eh, hy⟩ => ?_⟩
  subst ex eh
  have := hy ys sq
  rw [hv] at this
  cases this
  exact pair_new r hT (.int _) (av.mono e)
def iEn (f : LM) : IM := fun ρ P => f ρ fun ds ρ1 => match ds with
  | [.list xs] => P (enD xs) ρ1
  | [.tuple xs] => P (enD xs) ρ1
  | _ => False
theorem di_enum {e : Expr} {f : LM} {p pos tpos : Pos} {elts : List Expr} {kk : Nat} (hK : X.K = c.K) (hg : Gl X "enumerate") (hm : X.mg "enumerate" = none) (ha : PA X [e] (tL c f)) (hs : starEach [e] X.env = [(false, eval e X.env)] := by rfl) :
    PI X (.Tuple elts kk tpos) (.Call (.Name "enumerate" p) [e] [] pos) (tI c (iEn f)) := by
  refine PI.to (pi_enumA hg hm ha hs) ?_
  rintro σ H R ⟨F, ρ, xx, P, rel, q, k⟩
  refine ⟨F, ρ, xx, _, rel, q, fun ds ρ1 vs F1 H1 q1 e1 r1 a1 => ?_⟩
  split at q1
  · cases a1 with
    | cons a t =>
      cases t
      cases a with
      | lst s1 t1 => exact ⟨_, _, rfl, .inl ⟨by rw [hK]; exact r1.w.fh.sl s1, k _ ρ1 _ F1 H1 q1 e1 r1 (itOk_enum hK s1 t1)⟩⟩
  · cases a1 with
    | cons a t =>
      cases t
      cases a with
      | tup s1 t1 => exact ⟨_, _, rfl, .inr ⟨by rw [hK]; exact r1.w.fh.st s1, k _ ρ1 _ F1 H1 q1 e1 r1 (itOk_enumT hK s1 t1)⟩⟩
  · exact q1.elim
/-- zip of two lists, of two tuples -/
def zipD (xs ys : List D) : List D := List.zipWith (fun x y => .tuple [x, y]) xs ys
end
end DL
namespace DL
open PySem L2
section
variable {c : Cn}
def wipeE (ρ : Env) : List Nat → Env
  | [] => ρ
  | v :: vs => (wipeE ρ vs).set v .no
def backE (ρ0 : Env) (ρ : Env) : List Nat → Env
  | [] => ρ
  | v :: vs => backE ρ0 (ρ.set v (ρ0.getD v .no)) vs
def plainS : Sl → Bool
  | .no => true
  | .im _ => true
  | _ => false
def okV (ρ : Env) (vs : List Nat) : Prop := vs.Nodup ∧ ∀ j ∈ vs, plainS (ρ.getD j .no) = true
theorem Slots.forget {F H : Hp} {σ : L2.St} {ρ : Env} {xx : XX} (s : Slots c F H σ ρ xx) (i : Nat) : Slots c F H (σ.set i none) (ρ.set i .no) xx := by
  have sg : ∀ {j : Nat}, i ≠ j → (σ.set i none)[j]? = σ[j]? := fun h => by rw [List.getElem?_set, if_neg h]
  refine ⟨by simpa using s.len, fun j d q => ?_, fun j d q => ?_, fun j k d e b q1 q2 s1 s2 => ?_, fun j n q => ?_, ou_set (by intro m z; cases z) s.ou, fun p hp => ⟨(s.ex p hp).1, fun j d q => ?_⟩, s.xd⟩
  · rcases set_lt q with ⟨_, _, e⟩ | ⟨z, q⟩
    · cases e
    · rw [sg z]
      exact s.im j d q
  · rcases set_lt q with ⟨_, _, e⟩ | ⟨z, q⟩
    · cases e
    · rw [sg z]
      exact s.ow j d q
  · rcases set_lt q1 with ⟨_, _, e⟩ | ⟨z, q1⟩
    · cases e
    · rcases set_lt q2 with ⟨_, _, e⟩ | ⟨z2, q2⟩
      · cases e
      · rw [sg z] at s1
        rw [sg z2] at s2
        exact s.dj j k d _ b q1 q2 s1 s2
  · rcases set_lt q with ⟨_, _, e⟩ | ⟨z, q⟩
    · cases e
    · rw [sg z]
      exact s.or j n q
  · rcases set_lt q with ⟨_, _, e⟩ | ⟨z, q⟩
    · cases e
    · rw [sg z]
      exact (s.ex p hp).2 j d q
theorem Rel.wipe {F H : Hp} {σ : L2.St} {ρ : Env} {xx : XX} (r : Rel c F H σ ρ xx) : ∀ vs : List Nat, Rel c F H (wipe σ vs) (wipeE ρ vs) xx
  | [] => r
  | v :: vs => ⟨r.w, (Rel.wipe r vs).s.forget v⟩
/-- a plain slot comes back -/
theorem Slots.recall {F H : Hp} {σ : L2.St} {ρ : Env} {xx : XX} {i : Nat} {x : Sl} (s : Slots c F H (σ.set i none) ρ xx) (hp : plainS x = true) (hx : ∀ d, x = .im d → ∃ v, σ[i]? = some (some v) ∧ At c.K F v d) : Slots c F H σ (ρ.set i x) xx := by
  have sg : ∀ {j : Nat}, i ≠ j → (σ.set i none)[j]? = σ[j]? := fun h => by rw [List.getElem?_set, if_neg h]
  refine ⟨by simpa using s.len, fun j d q => ?_, fun j d q => ?_, fun j k d e b q1 q2 s1 s2 => ?_, fun j n q => ?_, ou_set (by intro m z; subst z; cases hp) s.ou, fun p hpx => ⟨(s.ex p hpx).1, fun j d q => ?_⟩, s.xd⟩
  · rcases set_lt q with ⟨z, _, e⟩ | ⟨z, q⟩
    · rw [← z]
      exact hx d e
    · rw [← sg z]
      exact s.im j d q
  · rcases set_lt q with ⟨_, _, e⟩ | ⟨z, q⟩
    · subst e
      cases hp
    · rw [← sg z]
      exact s.ow j d q
  · rcases set_lt q1 with ⟨_, _, e⟩ | ⟨z, q1⟩
    · subst e
      cases hp
    · rcases set_lt q2 with ⟨_, _, e⟩ | ⟨z2, q2⟩
      · subst e
        cases hp
      · rw [← sg z] at s1
        rw [← sg z2] at s2
        exact s.dj j k d _ b q1 q2 s1 s2
  · rcases set_lt q with ⟨_, _, e⟩ | ⟨z, q⟩
    · subst e
      cases hp
    · rw [← sg z]
      exact s.or j n q
  · rcases set_lt q with ⟨_, _, e⟩ | ⟨z, q⟩
    · subst e
      cases hp
    · rw [← sg z]
      exact (s.ex p hpx).2 j d q
theorem wipe_get {σ : L2.St} {i : Nat} : ∀ {vs : List Nat}, i ∉ vs → (wipe σ vs)[i]? = σ[i]?
  | [], _ => rfl
  | v :: vs, h => by
    show ((wipe σ vs).set v none)[i]? = σ[i]?
    rw [List.getElem?_set, if_neg (fun z => h (by rw [z]; exact List.mem_cons_self ..)), wipe_get (fun z => h (List.mem_cons_of_mem _ z))]
theorem Rel.back {F H F' H' : Hp} {σ : L2.St} {ρ0 : Env} {xx yy : XX} (r0 : Rel c F H σ ρ0 yy) (e : Ex F F') : ∀ (vs : List Nat) (ρ : Env), okV ρ0 vs → Rel c F' H' (L2.wipe σ vs) ρ xx → Rel c F' H' σ (backE ρ0 ρ vs) xx
  | [], ρ, _, r => r
  | v :: vs, ρ, ok, r => by
    obtain ⟨nd, pl⟩ := ok
    rw [List.nodup_cons] at nd
    have hv := pl v (List.mem_cons_self ..)
    refine Rel.back r0 e vs _ ⟨nd.2, fun j hj => pl j (List.mem_cons_of_mem _ hj)⟩ ⟨r.w, Slots.recall (σ := L2.wipe σ vs) r.s hv fun d ed => ?_⟩
    have g : ρ0[v]? = some (.im d) := by
      rw [List.getD_eq_getElem?_getD] at ed
      cases q : ρ0[v]? with
      | none => rw [q] at ed; cases ed
      | some x => rw [q] at ed; exact congrArg some ed
    obtain ⟨u, h1, h2⟩ := r0.s.im v d g
    exact ⟨u, by rw [wipe_get nd.1]; exact h1, h2.mono e⟩
def lcL (t : TM) (b : BM) (f : DM) (vs : List Nat) (K : List D → Env → Prop) : List D → List D → Env → Prop
  | [], acc, ρ => K acc ρ
  | d :: ds, acc, ρ => t d ρ fun ρ1 => b ρ1 fun k ρ2 => if k = true then f ρ2 fun y ρ3 => lcL t b f vs K ds (acc ++ [y]) (wipeE ρ3 vs) else lcL t b f vs K ds acc (wipeE ρ2 vs)
def dLc (i : IM) (t : TM) (b : BM) (f : DM) (vs : List Nat) : DM := fun ρ P => i ρ fun ds ρ1 => ds.length ≤ 1000000 ∧ okV ρ1 vs ∧ lcL t b f vs (fun acc ρ' => P (.list acc) (backE ρ1 ρ' vs)) ds [] (wipeE ρ1 vs)
theorem lc_use {i : IM} {t : TM} {b : BM} {f : DM} {vs js : List Nat} (hj : ∀ j ∈ js, j ∈ vs) {wi : TI} {g : TG} {tt : TT} {te : TE} (e1 : wi = tI c i) (e2 : g = tG c js t) (e3 : tt = tT c b) (e4 : te = tD c f) :
    ∀ σ H Q, tN c (dLc i t b f vs) σ H Q → tLc wi g tt te vs σ H Q := by
  subst e1 e2 e3 e4
  rintro σ H Q ⟨F, ρ, xx, P, rel, q, k⟩
  refine ⟨F, ρ, xx, _, rel, q, fun ds ρ1 J F1 H1 ⟨hlen, hok, q1⟩ e1 r1 ok A hA => ?_⟩
  obtain ⟨rA, frA⟩ := Fresh.new (o := .lst []) (d := .d (.list [])) r1 hA ⟨[], upd_same, .nil⟩
  refine ⟨fun n m H' => ∃ F' ρ' acc, Ex F1 F' ∧ Rel c F' H' (wipe σ vs) ρ' ((A, .d (.list acc)) :: xx) ∧ m = ds.length - n ∧ n ≤ ds.length ∧ acc.length ≤ n ∧ lcL t b f vs (fun acc ρ' => P (.list acc) (backE ρ1 ρ' vs)) (ds.drop n) acc ρ',
    ⟨ds.length, F1, _, [], Ex.refl F1, (rA.pushX frA).wipe vs, by omega, Nat.zero_le _, Nat.zero_le _, by rw [List.drop_zero]; exact q1⟩, ?_⟩
  rintro n m H' ⟨F', ρ', acc, e2, r2, rfl, hn, ha, q2⟩
  obtain ⟨o1, o2⟩ := ok n F' H' (wipe σ vs) ρ' _ e2 r2
  by_cases hlt : n < ds.length
  · have hd : ds[n]? = some ds[n] := List.getElem?_eq_getElem hlt
    obtain ⟨go, yl⟩ := o1 _ hd
    rw [List.drop_eq_getElem_cons hlt] at q2
    have q2 : t ds[n] ρ' fun ρ2 => b ρ2 fun k ρ3 => if k = true then f ρ3 fun y ρ4 => lcL t b f vs (fun acc ρ' => P (.list acc) (backE ρ1 ρ' vs)) (ds.drop (n + 1)) (acc ++ [y]) (wipeE ρ4 vs) else lcL t b f vs (fun acc ρ' => P (.list acc) (backE ρ1 ρ' vs)) (ds.drop (n + 1)) acc (wipeE ρ3 vs) := q2
    refine .inr ⟨go, fun H2 => ∃ F2 ρ2 acc2, Ex F1 F2 ∧ Rel c F2 H2 (wipe σ vs) ρ2 ((A, .d (.list acc2)) :: xx) ∧ acc2.length ≤ n + 1 ∧ lcL t b f vs (fun acc ρ' => P (.list acc) (backE ρ1 ρ' vs)) (ds.drop (n + 1)) acc2 ρ2,
      fun H2 ⟨F2, ρ2, acc2, a1, a2, a3, a4⟩ => ⟨ds.length - (n + 1), by omega, F2, ρ2, acc2, a1, a2, rfl, by omega, a3, a4⟩, fun v H2 y => ?_⟩
    obtain ⟨F2, e3, r3, a3⟩ := yl v H2 y
    refine ⟨F2, ρ', _, _, _, r3, a3, q2, fun ρ4 σ4 F4 H4 q4 on e4 r4 => ⟨?_, F4, ρ4, _, _, r4, q4, fun bb ρ5 F5 H5 q5 e5 r5 => ?_⟩⟩
    · have h := on vs hj
      rw [h]
      -- wiping twice
      have w2 : ∀ (us : List Nat) (σ : L2.St) (i : Nat), i ∈ us → (wipe σ us).set i none = wipe σ us := fun us => by
        induction us with
        | nil => intro σ i hi; cases hi
        | cons u us ih =>
          intro σ i hi
          show ((wipe σ us).set u none).set i none = (wipe σ us).set u none
          by_cases e : u = i
          · subst e
            rw [List.set_set]
          · rw [List.set_comm _ _ e, ih σ i ((List.mem_cons.mp hi).resolve_left fun z => e z.symm)]
      have w3 : ∀ (us ws : List Nat) (σ : L2.St), (∀ i ∈ us, i ∈ ws) → wipe (wipe σ ws) us = wipe σ ws := fun us => by
        induction us with
        | nil => intro ws σ _; rfl
        | cons u us ih =>
          intro ws σ hs
          show (wipe (wipe σ ws) us).set u none = wipe σ ws
          rw [ih ws σ fun i hi => hs i (List.mem_cons_of_mem _ hi)]
          exact w2 ws σ u (hs u (List.mem_cons_self ..))
      exact w3 vs vs σ fun _ h => h
    · have hw : wipe σ4 vs = wipe σ vs := by
        have h := on vs hj
        rw [h]
        have w2 : ∀ (us : List Nat) (σ : L2.St) (i : Nat), i ∈ us → (wipe σ us).set i none = wipe σ us := fun us => by
          induction us with
          | nil => intro σ i hi; cases hi
          | cons u us ih =>
            intro σ i hi
            show ((wipe σ us).set u none).set i none = (wipe σ us).set u none
            by_cases e : u = i
            · subst e
              rw [List.set_set]
            · rw [List.set_comm _ _ e, ih σ i ((List.mem_cons.mp hi).resolve_left fun z => e z.symm)]
        have w3 : ∀ (us ws : List Nat) (σ : L2.St), (∀ i ∈ us, i ∈ ws) → wipe (wipe σ ws) us = wipe σ ws := fun us => by
          induction us with
          | nil => intro ws σ _; rfl
          | cons u us ih =>
            intro ws σ hs
            show (wipe (wipe σ ws) us).set u none = wipe σ ws
            rw [ih ws σ fun i hi => hs i (List.mem_cons_of_mem _ hi)]
            exact w2 ws σ u (hs u (List.mem_cons_self ..))
        exact w3 vs vs σ fun _ h => h
      cases bb with
      | false =>
        rw [if_neg Bool.false_ne_true] at q5
        show ∃ F' ρ' acc2, _
        refine ⟨F5, wipeE ρ5 vs, acc, ((e2.trans e3).trans e4).trans e5, ?_, by omega, q5⟩
        have := r5.wipe vs
        rw [hw] at this
        exact this
      | true =>
        rw [if_pos rfl] at q5
        show tD c f σ4 H5 _
        refine ⟨F5, ρ5, _, _, r5, q5, fun y ρ6 u F6 H6 q6 e6 r6 a6 => ?_⟩
        obtain ⟨vv, g1, g2⟩ := (r6.s.ex (A, .d (.list acc)) (List.mem_cons_self ..)).1.o
        have r7 := r6.mutX (o := .lst (vv ++ [u])) (d' := .d (.list (acc ++ [y]))) ⟨_, upd_same, g2.append (.cons a6 .nil)⟩
        refine ⟨vv, g1, szl (by rw [g2.length]; omega), F6, wipeE ρ6 vs, acc ++ [y], (((e2.trans e3).trans e4).trans e5).trans e6, ?_, by rw [List.length_append]; simp only [List.length_singleton]; omega, q6⟩
        have := r7.wipe vs
        rw [hw] at this
        exact this
  · have en : n = ds.length := by omega
    subst en
    rw [List.drop_length] at q2
    have q2 : P (.list acc) (backE ρ1 ρ' vs) := q2
    obtain ⟨r5, fr⟩ := (Rel.back r1 e2 vs ρ' hok r2).popX
    exact .inl ⟨o2 rfl, k _ _ A F' H' q2 (e1.trans e2) r5 fr⟩
def bYes : BM := fun ρ P => P true ρ
theorem dts_nil {X : Cx} : PTs X [] (tT c bYes) := ⟨fun pins s σ H Q I ⟨F, ρ, xx, P, rel, q, k⟩ => pts_nil.run pins s σ H Q I (k true ρ F H q (Ex.refl F) rel)⟩
variable {X : Cx} {elt tg iter : Expr} {ifs : List Expr} {scope : Scope} {own : List (Str × Nat)} {pos : Pos} {i : IM} {t : TM} {js : List Nat} {b : BM} {f : DM}
theorem dn_lc (hc : X.calm = true) (hN : X.N.Nodup) (hi : PI X tg iter (tI c i)) (ok : BlkOk X.N X.env.scope scope own) (hj : ∀ j ∈ js, j ∈ own.map (·.2))
    (hg : ∀ (s : Shared) (H : Hp) (C : Addr) (cl : List (Str × Addr)) (fp : List Addr), PG (X.blk s H scope (compEnvC scope cl C X.env) fp) tg (tG c js t)) (ht : ∀ (s : Shared) (H : Hp) (C : Addr) (cl : List (Str × Addr)) (fp : List Addr), PTs (X.blk s H scope (compEnvC scope cl C X.env) fp) ifs (tT c b))
    (he : ∀ (s : Shared) (H : Hp) (C : Addr) (cl : List (Str × Addr)) (fp : List Addr), PE (X.blk s H scope (compEnvC scope cl C X.env) fp) elt (tD c f)) (hs : ∀ x, foldedSetIterable iter X.env x = pure x := by intro _; rfl) :
    PE X (.ListComp elt [⟨tg, iter, ifs, 0⟩] scope pos) (tN c (dLc i t b f (own.map (·.2)))) := PE.to (pe_lc hc hN hi ok hg ht he hs) (lc_use hj rfl rfl rfl rfl)
end
end DL
namespace DL
open PySem L2
structure FnG (pr : Program) (wd : PySem.World) (K : PySem.W.Frag) (gl : Str → Option Value) (bas : Heap) (k : Nat) (f : Addr) (fd : FuncData) (ps : List Str) (sp : Sp) : Prop where
  many : ∀ vs H Q E, sp vs H Q E → vs.length = ps.length
  go : ∀ (A : Around) (out : List PySem.Env) (sh : Shared) (H : Hp) (ar : Args) (us : List Value) (vs : List V) (Q : VK) (E : XK), A.guards = some [] → Room k A →
    Env0 pr wd K gl bas A out sh H → BindsTo sh fd ar (ps.zip us) → Vals vs us → sp vs H Q E → codeAny (model pr wd) A (.call (.ref f) ar) (CR CX0 out pr wd H sh Q E) sh
theorem FnG.more {pr : Program} {wd : PySem.World} {K : PySem.W.Frag} {gl : Str → Option Value} {bas : Heap} {j k : Nat} {f : Addr} {fd : FuncData} {ps : List Str} {sp : Sp} (F : FnG pr wd K gl bas j f fd ps sp) (h : j ≤ k) : FnG pr wd K gl bas k f fd ps sp :=
  ⟨F.many, fun A out sh H ar us vs Q E g r => F.go A out sh H ar us vs Q E g (r.mono h)⟩
theorem FnG.of {pr : Program} {wd : PySem.World} {K : PySem.W.Frag} {gl : Str → Option Value} {bas : Heap} {k : Nat} {f : Addr} {x qual : Str} {st : Stmt} {fd : FuncData} {N ps : List Str} {sp : Sp} (F : L2.Fun K x qual st f fd) (S : FnScope N ps (defScope st))
    (len : (∀ vs H Q E, sp vs H Q E → vs.length = ps.length))
    (body : ∀ (cdv : Value) (A : Around) (out : List PySem.Env) (sh : Shared) (H : Hp) (vs : List V) (Q : VK) (E : XK), A.guards = some [] → Room k (A.deeper (PyProof.Rows.envOfC qual (defScope st) sh.heap.objs.size f cdv)) → sp vs H Q E →
      ∃ t, PSs (cxOf CX0 pr wd K gl bas N qual (defScope st) f cdv A out sh H E).nox (defBody st) t ∧ t { nx := fun _ H' => Q .non H', rt := Q } (start N vs) H) : FnG pr wd K gl bas (k + 1) f fd ps sp := by
  obtain ⟨oc, od, kV, doc, pm, an, cdv, ct, osl, efd, lk, hc⟩ := F.ex
  refine ⟨len, fun A out sh H ar us vs Q E hg room env bnd vals says => ?_⟩
  have heapK : K.In sh.heap := PySem.W.Frag.In.keeps env.mod.kin fun b o e => (env.bs b o e).1
  have noLim : sh.heap.NoLimit := Heap.NoLimit.keeps env.mod.nolimit fun b o e => (env.bs b o e).1
  have kinds : ∀ y ∈ ps.zip us, (defScope st).names.lookup y.1 = some .local ∨ ((defScope st).names.lookup y.1 = some .cell ∧ ((cellsFrom (sh.heap.objs.size + 1) (defScope st).names []).lookup y.1).isSome = true) := by
    rintro ⟨n, v⟩ hy
    exact (S.par n (List.of_mem_zip hy).1).imp id fun q => ⟨q, PySem.W.cellsFrom_some _ _ _ (.inl q)⟩
  rw [efd] at lk bnd
  refine codeAny_call_function room.depth (heapK _ _ lk) rfl S.co S.gen rfl (PySem.W.codeRec_of heapK hc) (bnd _ _ _ _ (wpAny_newFunctionEnv_cells S.kind kinds ?_))
  intro env1 he s1 xc
  subst he
  refine ⟨noLim.keeps xc.toInCall.keep, codeAny_func ?_⟩
  obtain ⟨t, ht, hq⟩ := body cdv A out sh H vs Q E hg (room.deeper _) says
  have inv : Inv (cxOf CX0 pr wd K gl bas N qual (defScope st) f cdv A out sh H E) [] (start N vs) H s1 := inv_start S room.hd env (len _ _ _ _ says) vals xc
  refine wpAny_mono (ht.nox.run [] s1 (start N vs) H _ inv hq) ?_ fun _ _ z => z
  intro fl s2 hs
  cases fl with
  | ret u =>
    (obtain ⟨v, σ', H', J, rv, q⟩ := hs)
    exact ⟨v, H', J.os, J.bare, J.base, J.hok, rv, q⟩
  | next =>
    obtain ⟨σ', H', J, q⟩ := hs
    exact ⟨V.non, H', J.os, J.bare, J.base, J.hok, rfl, q⟩
  | brk => exact (hs.choose_spec.choose_spec.2 : False).elim
  | cont => exact (hs.choose_spec.choose_spec.2 : False).elim
section
variable {X : Cx} {k : Nat} {f : Addr} {fd : FuncData} {ps : List Str} {sp : Sp} {x : Str} {p pos : Pos} {e : Expr} {es : List Expr} {t : TA}
theorem pe_callG (F : FnG X.prog X.w X.K X.mg X.base k f fd ps sp) (hg : X.A.guards = some []) (hr : Room k X.A) (gx : Gl X x) (hm : X.mg x = some (.ref f)) (hk : PySem.W.keepIn X.K (.ref f) = true) (hb : Binds X.K fd ps [])
    (ha : PA X (e :: es) t) (hdb : (x == ("__debug__" : Str)) = false := by decide)
    (he : starEach (e :: es) X.env = (false, eval e X.env) :: starEach es X.env := by rfl)
    (hpl : (backTo pos (starEach es X.env)).any (·.1) = false := by rfl) :
    PE X (.Call (.Name x p) (e :: es) [] pos) (tCall sp [] (fun _ _ _ => False) t) := by
  constructor
  intro pins s σ H Q I h
  refine wpAny_Call_Name_kw (ld_glob I gx hm (PySem.W.callWith_K (h₀ := X.base) I.ok.mod.kin hk (thn (ha.run pos pins s σ H _ I h) ?_) he hpl) hdb)
  rintro us s1 ⟨vs, H1, I1, r, q⟩
  refine ⟨I1.kIn, ?_⟩
  rw [List.append_nil] at q
  have hl : us.length = ps.length := by rw [← r.length]; exact F.many _ _ _ _ q
  have bd := hb s1 us I1.kIn (by rw [List.append_nil]; exact hl)
  rw [List.append_nil] at bd
  refine wpAny_call (codeAny_mono (F.go X.A X.stack s1 H1 ⟨us, []⟩ us vs Q _ hg hr I1.env0 bd r q) ?_)
  intro res s' hq
  match res, hq with
  | .error _, z => exact (z : False).elim
  | .ok (.ret u), z => exact I1.after z
end
/-- what a def says of its arguments and of the count of the source: S as m P: from these some d comes back, the count being m' then, with P d m' -/
abbrev SpD := List Ar → Nat → (D → Nat → Prop) → Prop
/-- the source is passed as the first argument, if at all -/
def oraAt (as : List Ar) : Prop := ∀ i, as[i]? = some Ar.ora → i = 0
def spD (K : PySem.W.Frag) (R : Orc) (n : Nat) (S : SpD) : Sp := fun vs H Q _ => ∃ (q : Option Addr) (F : Hp) (as : List Ar) (m : Nat) (P : D → Nat → Prop), World R q F H F H ∧ Paired (ArAt ⟨K, R, q, F, H⟩ F) vs as ∧ as.length = n ∧ oraAt as ∧ (q = none ∨ as[0]? = some .ora) ∧ (∀ p, q = some p → R.cnt p H ≤ m) ∧ S as m P ∧
  ∀ d m' v F' H', P d m' → World R q F H F' H' → (∀ p, q = some p → R.cnt p H' ≤ m') → At K F' v d → Q v H'
theorem paired_len {α β : Type} {R : α → β → Prop} : ∀ {xs : List α} {ys : List β}, Paired R xs ys → xs.length = ys.length
  | _, _, .nil => rfl
  | _, _, .cons _ t => congrArg Nat.succ (paired_len t)
theorem paired_get {α β : Type} {R : α → β → Prop} : ∀ {xs : List α} {ys : List β} {i : Nat} {y : β}, Paired R xs ys → ys[i]? = some y → ∃ x, xs[i]? = some x ∧ R x y
  | _, _, 0, _, .cons h _, e => by cases e; exact ⟨_, rfl, h⟩
  | _, _, i + 1, _, .cons _ t, e => paired_get (i := i) t e
/-- a call that draws nothing -/
def isD : Ar → Bool
  | .d _ => true
  | .ora => false
def dCall (n : Nat) (S : SpD) (f : AM) : DM := fun ρ P => f ρ fun as ρ1 => as.length = n ∧ as.all isD = true ∧ S as 0 fun d _ => P d ρ1
/-- a call that draws, the source standing in slot i -/
def dCallO (i n : Nat) (S : SpD) (f : AM) : DM := fun ρ P => f ρ fun as ρ1 => as.length = n ∧ as.head?.map isD = some false ∧ as.tail.all isD = true ∧ match ρ1[i]? with
  | some (.ora m) => S as m fun d m' => P d (ρ1.set i (.ora m'))
  | _ => False
theorem all_isD {as : List Ar} (h : as.all isD = true) (i : Nat) : as[i]? ≠ some .ora := fun e => by
  have := List.all_eq_true.mp h _ (List.mem_of_getElem? e)
  cases this
section
variable {X : Cx} {c : Cn} {k : Nat} {f : Addr} {fd : FuncData} {ps : List Str} {S : SpD} {x : Str} {p pos : Pos} {e : Expr} {es : List Expr} {fa : AM} {n : Nat}
theorem de_call (hK : X.K = c.K) (F : FnG X.prog X.w X.K X.mg X.base k f fd ps (spD X.K c.R n S)) (hg : X.A.guards = some []) (hr : Room k X.A) (gx : Gl X x) (hm : X.mg x = some (.ref f)) (hk : PySem.W.keepIn X.K (.ref f) = true) (hb : Binds X.K fd ps [])
    (ha : PA X (e :: es) (tAr c fa)) (hdb : (x == ("__debug__" : Str)) = false := by decide) (he : starEach (e :: es) X.env = (false, eval e X.env) :: starEach es X.env := by rfl) (hpl : (backTo pos (starEach es X.env)).any (·.1) = false := by rfl) :
    PE X (.Call (.Name x p) (e :: es) [] pos) (tD c (dCall n S fa)) := by
  refine PE.to (pe_callG F hg hr gx hm hk hb ha hdb he hpl) ?_
  rintro σ H Q ⟨F0, ρ, xx, P, rel, q, k0⟩
  refine ⟨F0, ρ, xx, _, rel, q, ?_⟩
  rintro as ρ1 vs F1 H1 ⟨hl, hd, hs⟩ e1 r1 pr
  rw [List.append_nil]
  have w0 : World c.R none F1 H1 F1 H1 := World.start r1.w.fh (fun _ _ z => z) fun _ z => nomatch z
  have pr' : Paired (ArAt ⟨X.K, c.R, none, F1, H1⟩ F1) vs as := by
    clear hs hl
    induction pr with
    | nil => exact .nil
    | @cons v a vs' as' h1 h2 ih =>
      (simp only [List.all_cons, Bool.and_eq_true] at hd)
      cases a with
      | d y =>
        refine .cons ?_ (ih hd.2)
        show At X.K F1 v y
        rw [hK]
        exact h1
      | ora => cases hd.1
  refine ⟨none, F1, as, 0, _, w0, pr', hl, fun i z => absurd z (all_isD hd i), .inl rfl, (fun _ z => nomatch z), hs, ?_⟩
  intro d m' v F2 H2 pd wd _ at_
  rw [hK] at at_
  exact k0 d ρ1 v F2 H2 pd (e1.trans wd.ff) (r1.stepN wd) at_
theorem de_callO {i : Nat} (hK : X.K = c.K) (F : FnG X.prog X.w X.K X.mg X.base k f fd ps (spD X.K c.R n S)) (hg : X.A.guards = some []) (hr : Room k X.A) (gx : Gl X x) (hm : X.mg x = some (.ref f)) (hk : PySem.W.keepIn X.K (.ref f) = true) (hb : Binds X.K fd ps [])
    (ha : PA X (e :: es) (tAr c fa)) (hdb : (x == ("__debug__" : Str)) = false := by decide) (he : starEach (e :: es) X.env = (false, eval e X.env) :: starEach es X.env := by rfl) (hpl : (backTo pos (starEach es X.env)).any (·.1) = false := by rfl) :
    PE X (.Call (.Name x p) (e :: es) [] pos) (tD c (dCallO i n S fa)) := by
  refine PE.to (pe_callG F hg hr gx hm hk hb ha hdb he hpl) ?_
  rintro σ H Q ⟨F0, ρ, xx, P, rel, q, k0⟩
  refine ⟨F0, ρ, xx, _, rel, q, ?_⟩
  rintro as ρ1 vs F1 H1 ⟨hl, hh, hd, hs⟩ e1 r1 pr
  rw [List.append_nil]
  split at hs
  · rename_i m em
    obtain ⟨u, h1, h2, h3⟩ := r1.s.or i m em
    have h0 : as[0]? = some Ar.ora := by
      cases as with
      | nil => cases hh
      | cons a t =>
        cases a with
        | d y => cases hh
        | ora => rfl
    refine ⟨c.p, F1, as, m, _, r1.w.here, ?_, hl, fun j z => ?_, .inr h0, fun y z => ?_, hs, ?_⟩
    · rw [hK]
      exact pr
    · cases j with
      | zero => rfl
      | succ j =>
        cases as with
        | nil => cases z
        | cons a t => exact absurd z (all_isD hd j)
    · rw [h1] at z
      cases z
      exact h3
    · intro d m' v F2 H2 pd wd hc at_
      rw [hK] at at_
      exact k0 d _ v F2 H2 pd (e1.trans wd.ff) (r1.drew wd em hc) at_
  · exact hs.elim
end
def arSl (m : Nat) : Ar → Sl
  | .d x => .im x
  | .ora => .ora m
def startE (N : Nat) (as : List Ar) (m : Nat) : Env := as.map (arSl m) ++ List.replicate (N - as.length) .no
theorem rel_start {K : PySem.W.Frag} {R : Orc} {q : Option Addr} {F H : Hp} {vs : List V} {as : List Ar} {N : List Str} {m : Nat} (w : World R q F H F H) (h : Paired (ArAt ⟨K, R, q, F, H⟩ F) vs as) (ho : oraAt as) (hm : ∀ p, q = some p → R.cnt p H ≤ m) : Rel ⟨K, R, q, F, H⟩ F H (start N vs) (startE N.length as m) [] := by
  have hl := paired_len h
  have get : ∀ (i : Nat) (s : Sl), (startE N.length as m)[i]? = some s → s = .no ∨ ∃ a v, as[i]? = some a ∧ vs[i]? = some v ∧ s = arSl m a ∧ (start N vs)[i]? = some (some v) := by
    intro i s e
    unfold startE at e
    unfold L2.start
    by_cases hi : i < as.length
    · rw [List.getElem?_append_left (by simpa using hi), List.getElem?_map] at e
      rw [List.getElem?_append_left (by simpa [hl] using hi), List.getElem?_map]
      have e1 : as[i]? = some as[i] := List.getElem?_eq_getElem hi
      have e2 : vs[i]? = some (vs[i]'(by rw [hl]; exact hi)) := List.getElem?_eq_getElem _
      rw [e1] at e
      cases e
      exact .inr ⟨_, _, e1, e2, rfl, by rw [e2]; rfl⟩
    · rw [List.getElem?_append_right (by simpa using hi), List.getElem?_replicate] at e
      split at e
      · cases e
        exact .inl rfl
      · cases e
  have atOf : ∀ {i : Nat} {a : Ar} {v : V}, as[i]? = some a → vs[i]? = some v → ArAt ⟨K, R, q, F, H⟩ F v a := by
    intro i a v h1 h2
    obtain ⟨v', g1, g2⟩ := paired_get h h1
    rw [h2] at g1
    cases g1
    exact g2
  refine ⟨w, ?_, ?_, ?_, ?_, ?_, ?_, (fun p hp => nomatch hp), List.nodup_nil⟩
  · unfold startE L2.start
    simp [hl]
  · intro i d e
    rcases get i _ e with z | ⟨a, v, g1, g2, g3, g4⟩
    · cases z
    · cases a with
      | d x => cases g3; exact ⟨v, g4, atOf g1 g2⟩
      | ora => cases g3
  · intro i d e
    rcases get i _ e with z | ⟨a, v, g1, g2, g3, g4⟩
    · cases z
    · cases a <;> cases g3
  · intro i j d e b z
    rcases get i _ z with z | ⟨a, v, g1, g2, g3, g4⟩
    · cases z
    · cases a <;> cases g3
  · intro i n e
    rcases get i _ e with z | ⟨a, v, g1, g2, g3, g4⟩
    · cases z
    · cases a with
      | d x => cases g3
      | ora =>
        obtain ⟨q', e1, e2⟩ := atOf g1 g2
        cases g3
        cases e2
        exact ⟨q', e1, g4, hm q' e1⟩
  · have one : ∀ {i n : Nat}, (startE N.length as m)[i]? = some (.ora n) → i = 0 := by
      intro i n e
      rcases get i _ e with z | ⟨a, v, g1, g2, g3, g4⟩
      · cases z
      · cases a with
        | d x => cases g3
        | ora => exact ho i g1
    intro i j a b e1 e2
    exact (one e1).trans (one e2).symm
/-- what a body says, as a promise -/
def raw (g : SM) (N : Nat) : SpD := fun as m P =>
  g ⟨fun (ρ : DL.Env) => match ρ[0]? with
    | some (Sl.ora m') => P .none m'
    | _ => as.head?.map isD ≠ some false ∧ P .none 0,
  fun (d : D) (ρ : DL.Env) => match ρ[0]? with
    | some (Sl.ora m') => P d m'
    | _ => as.head?.map isD ≠ some false ∧ P d 0, fun _ => False, fun _ => False⟩ (startE N as m)
/-- a def by its body in data -/
theorem FnG.data {pr : Program} {wd : PySem.World} {K : PySem.W.Frag} {gl : Str → Option Value} {bas : Heap} {k n : Nat} {f : Addr} {x qual : Str} {st : Stmt} {fd : FuncData} {N ps : List Str} {R : Orc} {g : SM} (F : L2.Fun K x qual st f fd) (Sc : FnScope N ps (defScope st)) (hn : n = ps.length)
    (body : ∀ (cdv : Value) (A : Around) (out : List PySem.Env) (sh : Shared) (H : Hp) (E : XK) (q : Option Addr) (F : Hp), A.guards = some [] → Room k (A.deeper (PyProof.Rows.envOfC qual (defScope st) sh.heap.objs.size f cdv)) →
      PSs (cxOf CX0 pr wd K gl bas N qual (defScope st) f cdv A out sh H E).nox (defBody st) (tS ⟨K, R, q, F, H⟩ g)) : FnG pr wd K gl bas (k + 1) f fd ps (spD K R n (raw g N.length)) := by
  refine FnG.of F Sc (fun vs H Q E ⟨q, F0, as, m, P, w, pa, hl, _⟩ => by rw [paired_len pa, hl, hn]) fun cdv A out sh H vs Q E hg hr ⟨q, F0, as, m, P, w, pa, hl, ho, hq, hm, says, k0⟩ => ?_
  have fin : ∀ (d : D) (v : V) (ρ' : DL.Env) (σ' : L2.St) (F' H' : Hp), (match ρ'[0]? with
      | some (Sl.ora m') => P d m'
      | _ => as.head?.map isD ≠ some false ∧ P d 0) → Rel ⟨K, R, q, F0, H⟩ F' H' σ' ρ' [] → At K F' v d → Q v H' := by
    intro d v ρ' σ' F' H' p r a
    split at p
    · rename_i m' e
      obtain ⟨y, h1, _, h3⟩ := r.s.or 0 m' e
      exact k0 d m' v F' H' p r.w (fun z hz => by
        have hz' : q = some z := hz
        have h1' : q = some y := h1
        rw [hz'] at h1'
        cases h1'
        exact h3) a
    · obtain ⟨p1, p2⟩ := p
      have qn : q = none := hq.resolve_right fun z => p1 (by
        cases as with
        | nil => cases z
        | cons b t => cases z; rfl)
      exact k0 d 0 v F' H' p2 r.w (fun z hz => by rw [qn] at hz; cases hz) a
  refine ⟨_, body cdv A out sh H E q F0 hg hr, F0, _, [], _, rel_start w pa ho hm, says, ?_, ?_, ?_, ?_⟩
  · exact fun ρ' σ' F' H' p e r => fin .none .non ρ' σ' F' H' p r .non
  · exact fun d v ρ' σ' F' H' p r a => fin d v ρ' σ' F' H' p r a
  · exact fun ρ' σ' F' H' p => p.elim
  · exact fun ρ' σ' F' H' p => p.elim
theorem pss_some {X : Cx} {st : List Stmt} {ι : Type} {t : ι → TS} (h : ∀ i, PSs X st (t i)) : PSs X st (fun Z σ H => ∃ i, t i Z σ H) := ⟨fun pins s σ H Z I ⟨i, q⟩ => (h i).run pins s σ H Z I q⟩
end DL
namespace DL
open PySem L2
/-- a def under its name -/
def Cd (pr : Program) (wd : PySem.World) (K : PySem.W.Frag) (gl : Str → Option Value) (bas : Heap) (R : Orc) (k : Nat) (x : Str) (n : Nat) (S : SpD) : Prop :=
  ∃ (f : Addr) (fd : FuncData) (ps : List Str), FnG pr wd K gl bas k f fd ps (spD K R n S) ∧ gl x = some (.ref f) ∧ PySem.W.keepIn K (.ref f) = true ∧ Binds K fd ps []
theorem Cd.more {pr : Program} {wd : PySem.World} {K : PySem.W.Frag} {gl : Str → Option Value} {bas : Heap} {R : Orc} {j k : Nat} {x : Str} {n : Nat} {S : SpD} (C : Cd pr wd K gl bas R j x n S) (h : j ≤ k) : Cd pr wd K gl bas R k x n S := by
  obtain ⟨f, fd, ps, F, a, b, d⟩ := C
  exact ⟨f, fd, ps, F.more h, a, b, d⟩
theorem de_cd {X : Cx} {c : Cn} {k n : Nat} {S : SpD} {x : Str} {p pos : Pos} {e : Expr} {es : List Expr} {fa : AM} (C : Cd X.prog X.w X.K X.mg X.base c.R k x n S) (hK : X.K = c.K) (hg : X.A.guards = some []) (hr : Room k X.A) (gx : Gl X x)
    (ha : PA X (e :: es) (tAr c fa)) (hdb : (x == ("__debug__" : Str)) = false := by decide) (he : starEach (e :: es) X.env = (false, eval e X.env) :: starEach es X.env := by rfl) (hpl : (backTo pos (starEach es X.env)).any (·.1) = false := by rfl) :
    PE X (.Call (.Name x p) (e :: es) [] pos) (tD c (dCall n S fa)) := by
  obtain ⟨f, fd, ps, F, a, b, d⟩ := C
  exact de_call hK F hg hr gx a b d ha hdb he hpl
theorem hu64 {A : Around} {k : Nat} (hr : Room k A) : A.units + 64 < cLine := by have := hr.un; omega
theorem hu65 {A : Around} {k : Nat} (hr : Room k A) : A.units + 65 < cLine := by have := hr.un; omega
theorem de_cdO {X : Cx} {c : Cn} {k n i : Nat} {S : SpD} {x : Str} {p pos : Pos} {e : Expr} {es : List Expr} {fa : AM} (C : Cd X.prog X.w X.K X.mg X.base c.R k x n S) (hK : X.K = c.K) (hg : X.A.guards = some []) (hr : Room k X.A) (gx : Gl X x)
    (ha : PA X (e :: es) (tAr c fa)) (hdb : (x == ("__debug__" : Str)) = false := by decide) (he : starEach (e :: es) X.env = (false, eval e X.env) :: starEach es X.env := by rfl) (hpl : (backTo pos (starEach es X.env)).any (·.1) = false := by rfl) :
    PE X (.Call (.Name x p) (e :: es) [] pos) (tD c (dCallO i n S fa)) := by
  obtain ⟨f, fd, ps, F, a, b, d⟩ := C
  exact de_callO hK F hg hr gx a b d ha hdb he hpl
end DL
namespace DL
open PySem L2
section
variable {X : Cx} {c : Cn} {e a b : Expr} {pos : Pos}
def tyN : D → String
  | .none => "NoneType"
  | .bool _ => "bool"
  | .int _ => "int"
  | .str _ => "str"
  | .list _ => "list"
  | .tuple _ => "tuple"
  | .dict _ => "dict"
theorem tyx_of {F H : Hp} {v : V} {d : D} (e : Ex F H) (b : Bo c F H v d) : TyX c.K H v (.type (tyN d)) := by
  have a := b.at e
  have sq : ∀ {p : Addr} {o : HO} {T : String}, Rd H p o → (H p = some o → TyX c.K H (.ref p) (.type T)) → (∀ q, H p = some (.frz q o) → TyX c.K H (.ref p) (.type T)) → TyX c.K H (.ref p) (.type T) :=
    fun h k1 k2 => h.elim k1 fun ⟨q, z⟩ => k2 q z
  clear b
  cases a with
  | non => exact .base .non
  | bl b => exact .base (.bl b)
  | int i => exact .base (.int i)
  | str x => exact .base (.str x)
  | lst s t =>
    rcases s with h | ⟨o, its, n, h1, h2, _⟩
    · exact sq h (fun z => .base (.lst z)) fun q z => .base (.frz z)
    · exact .kList h1 h2
  | tup s t =>
    rcases s with h | ⟨o, its, n, h1, h2, _⟩
    · exact sq h (fun z => .base (.tup z)) fun q z => .fTuple z
    · exact .kTuple h1 h2
  | dk r n l t => exact sq r (fun z => .base (.dK z)) fun q z => .fDict z
  | dt r l t => exact .base (.dT r)
def dIsi (T : String) (f : HM) : DM := fun ρ P => f ρ fun h ρ1 => see ρ1 h fun d => ∃ k, kitB (tyN d) T = some k ∧ P (.bool k) ρ1
theorem de_isi {T : String} {y : Str} {p p2 : Pos} {f : HM} (hK : X.K = c.K) (hg : Gl X "isinstance") (hm : X.mg "isinstance" = none) (hy : Gl X y) (hmy : X.mg y = none) (hv : bootBuiltins y = some (.type T)) (ha : PE X e (tH c f))
    (hb : bootBuiltins "isinstance" = some (.builtin "isinstance") := by decide +kernel) (hn : y ≠ "__name__" := by decide) (hd : (y == ("__debug__" : Str)) = false := by decide)
    (s1 : starEach [e, .Name y p2] X.env = (false, eval e X.env) :: starEach [.Name y p2] X.env := by rfl) (s2 : starEach [.Name y p2] X.env = (false, eval (.Name y p2) X.env) :: starEach [] X.env := by rfl) (hpl : (backTo pos (starEach [.Name y p2] X.env)).any (·.1) = false := by rfl) :
    PE X (.Call (.Name "isinstance" p) [e, .Name y p2] [] pos) (tD c (dIsi T f)) := by
  refine PE.to (pe_callB call_isi hg hm hb (pa_cons ha (pa_cons (pe_bltn (v := .ty T) hy hmy hv rfl hn hd) pa_nil s2) s1) (by decide) (by decide) s1 hpl) ?_
  rintro σ H Q ⟨F, ρ, xx, P, rel, q, k⟩
  refine ⟨F, ρ, xx, _, rel, q, fun h ρ1 v F1 H1 q1 e1 r1 h1 => ?_⟩
  obtain ⟨d, bo, b, hk, q2⟩ := see_bo r1 h1 q1
  have ty := tyx_of r1.w.fh bo
  rw [← hK] at ty
  exact ⟨v, .ty T, _, _, b, rfl, .ty T, ty, kit_ty hk, k _ ρ1 _ F1 H1 q2 e1 r1 (.bl b)⟩
def gNotIn : G2 := fun x y P => match y with
  | .list ds => okD x ∧ okD y ∧ P (.bool (!ds.any fun z => PyData.eqv z x))
  | _ => False
theorem sem_notin (hK : X.K = c.K) (hu : X.A.units + 65 < cLine) : Sem2 X c (compareOp .NotIn) gNotIn := by
  refine ⟨_, op_notInD hu, fun F H σ ρ xx x y vx vy P Q r bx by_ g k => ?_⟩
  unfold gNotIn at g
  split at g
  · rename_i ds
    obtain ⟨ox, oy, q⟩ := g
    have a1 := (bx.at r.w.fh).dp ox.nod
    have a2 := (by_.at r.w.fh).dp oy.nod
    rw [← hK] at a1 a2
    exact ⟨x, ds, a1, a2, ox, oy, k _ _ F H q (Ex.refl F) r (.bl _)⟩
  · exact g.elim
def dNeg (f : DM) : DM := fun ρ P => f ρ fun d ρ1 => match d with
  | .int i => P (.int (-i)) ρ1
  | _ => False
theorem de_neg {f : DM} (ha : PE X a (tD c f)) : PE X (.UnaryOp .USub a pos) (tD c (dNeg f)) := PE.to (pe_un un_neg ha) fun σ H Q ⟨F, ρ, xx, P, rel, q, k⟩ => ⟨F, ρ, xx, _, rel, q, fun d ρ1 v F1 H1 q1 e1 r1 a1 => by
  split at q1
  · cases a1
    exact ⟨_, rfl, k _ ρ1 _ F1 H1 q1 e1 r1 (.int _)⟩
  · exact q1.elim⟩
def gIadd : G2 := fun x y P => match x, y with
  | .int i, .int j => P (.int (i + j))
  | _, _ => False
def gIsub : G2 := fun x y P => match x, y with
  | .int i, .int j => P (.int (i - j))
  | _, _ => False
theorem sem_iadd : Sem2 X c (inplaceOp .Add) gIadd := by
  refine ⟨_, iop_add, fun F H σ ρ xx x y vx vy P Q r bx by_ g k => ?_⟩
  unfold gIadd at g
  split at g
  · cases bo_int bx
    cases bo_int by_
    exact ⟨_, _, rfl, rfl, k _ _ F H g (Ex.refl F) r (.int _)⟩
  · exact g.elim
theorem sem_isub : Sem2 X c (inplaceOp .Sub) gIsub := by
  refine ⟨_, iop_sub, fun F H σ ρ xx x y vx vy P Q r bx by_ g k => ?_⟩
  unfold gIsub at g
  split at g
  · cases bo_int bx
    cases bo_int by_
    exact ⟨_, _, rfl, rfl, k _ _ F H g (Ex.refl F) r (.int _)⟩
  · exact g.elim
theorem ref_of_bo {F H : Hp} {v : V} {d : D} (b : Bo c F H v d) : (∃ a, v = .ref a) ∨ (d = .none ∧ v = .non) ∨ (∃ i, d = .int i ∧ v = .int i) ∨ (∃ i, d = .bool i ∧ v = .bl i) ∨ (∃ i, d = .str i ∧ v = .str i) := by
  rcases b with b | ⟨a, rfl, _⟩
  · cases b with
    | non => exact .inr (.inl ⟨rfl, rfl⟩)
    | bl b => exact .inr (.inr (.inr (.inl ⟨_, rfl, rfl⟩)))
    | int i => exact .inr (.inr (.inl ⟨_, rfl, rfl⟩))
    | str x => exact .inr (.inr (.inr (.inr ⟨_, rfl, rfl⟩)))
    | lst s t => exact .inl ⟨_, rfl⟩
    | tup s t => exact .inl ⟨_, rfl⟩
    | dk r n l t => exact .inl ⟨_, rfl⟩
    | dt r l t => exact .inl ⟨_, rfl⟩
  · exact .inl ⟨a, rfl⟩
def rRp (K : PySem.W.Frag) : List V → Hp → VK → Prop := fun vs H Q => ∃ a d, vs = [.ref a] ∧ Dp K H (.ref a) d ∧ nod d = true ∧ d.showable = true ∧ d.depth ≤ 60 ∧ d.shown.length ≤ 1000000 ∧ Q (.str d.shown) H
end
mutual
theorem nod_dict : ∀ d : D, nod d = true → d.hasDict = false
  | .none, _ => by simp [PyData.hasDict]
  | .bool _, _ => by simp [PyData.hasDict]
  | .int _, _ => by simp [PyData.hasDict]
  | .str _, _ => by simp [PyData.hasDict]
  | .list xs, h => by
    simp only [PyData.hasDict]
    exact nod_dictAll xs (by simpa [nod] using h)
  | .tuple xs, h => by
    simp only [PyData.hasDict]
    exact nod_dictAll xs (by simpa [nod] using h)
  | .dict _, h => by simp [nod] at h
theorem nod_dictAll : ∀ ds : List D, nodAll ds = true → PyData.hasDictAll ds = false
  | [], _ => by simp [PyData.hasDictAll]
  | x :: xs, h => by
    simp only [nodAll, Bool.and_eq_true] at h
    simp only [PyData.hasDictAll, Bool.or_eq_false_iff]
    exact ⟨nod_dict x h.1, nod_dictAll xs h.2⟩
end
section
variable {X : Cx} {c : Cn} {e a b : Expr} {pos : Pos}
theorem call_rp (hg : X.A.guards = some []) (hu : X.A.units + 64 < cLine) : CallR X (.builtin "repr") (rRp X.K) := by
  (intro pins s σ H xs us Q I r h)
  obtain ⟨a, d, rfl, hd, h1, h2, h3, h4, q⟩ := h
  obtain ⟨u, rfl, rv⟩ := vals1 r
  cases rv
  obtain ⟨as, rd⟩ := Dp.reads I d _ _ hd rfl
  refine repr_of_reads' rd h2 (PyData.noDict_hsm (nod_dict _ h1)) hg (by omega) (fun _ _ e => e) (fun h' u tk hk => ⟨.str d.shown, H, I.kept hk, ⟨u, rfl⟩, q⟩) (sz h4)
end
end DL
namespace DL
open PySem L2
section
variable {X : Cx} {c : Cn} {e a b : Expr} {pos : Pos}
def ownL (ρ : Env) (i : Nat) (k : List D → Prop) : Prop := match ρ[i]? with
  | some (.ow (.list ds)) => k ds
  | _ => False
theorem ownL_get {F H : Hp} {σ : L2.St} {ρ : Env} {xx : XX} (r : Rel c F H σ ρ xx) {i : Nat} {k : List D → Prop} (h : ownL ρ i k) : ∃ ds p vs, ρ[i]? = some (.ow (.list ds)) ∧ σ[i]? = some (some (.ref p)) ∧ H p = some (.lst vs) ∧ AtAll c.K F vs ds ∧ k ds := by
  unfold ownL at h
  split at h
  · rename_i ds e
    obtain ⟨p, g1, g2⟩ := r.s.ow i _ e
    obtain ⟨vs, h1, h2⟩ := g2.o
    exact ⟨ds, p, vs, e, g1, h1, h2, h⟩
  · exact h.elim
def sApp (i : Nat) (f : DM) : SM := fun E ρ => ownL ρ i (fun _ => True) ∧ f ρ fun d ρ1 => ownL ρ1 i fun ds => ds.length < 1000000 ∧ E.nx (ρ1.set i (.ow (.list (ds ++ [d]))))
theorem app_use {i : Nat} {f : DM} {te : TE} (et : te = tD c f) (hK : X.K = c.K) : ∀ Z σ H, tS c (sApp i f) Z σ H → tDrop (tBM X.K "list" rAppend (tVar i) (tCons te tNil)) Z σ H := by
  subst et
  rintro Z σ H ⟨F, ρ, xx, E, rel, ⟨q0, q⟩, n, rr, b, t⟩
  obtain ⟨ds0, p0, vs0, g1, g2, g3, g4, _⟩ := ownL_get rel q0
  refine ⟨.ref p0, g2, .inl ⟨rfl, vs0, SqL.of g3⟩, F, ρ, xx, _, rel, q, fun d ρ1 v F1 H1 q1 e1 r1 a1 => ?_⟩
  obtain ⟨ds, p, vs, h1, h2, h3, h4, hl, hn⟩ := ownL_get r1 q1
  have ep : p0 = p := by
    rw [g2] at h2
    cases h2
    rfl
  subst ep
  refine ⟨p0, vs, v, rfl, rfl, h3, szl (by rw [h4.length]; omega), ?_⟩
  exact n _ σ F1 _ hn e1 (r1.mut h1 h2 ⟨_, upd_same, h4.append (.cons a1 .nil)⟩)
theorem dp_app {x : Str} {i : Nat} {px apos cpos : Pos} {f : DM} (hK : X.K = c.K) (ho : PE X (.Name x px) (tVar i)) (ha : PE X e (tD c f))
    (hbase : attributeBase (.Name x px) "append" X.env (eval (.Name x px) X.env) = eval (.Name x px) X.env := by rfl)
    (hfew : ((backTo cpos (starEach [e] X.env)).all (fun x => !x.1)
        && (backToKw cpos (keywordEach [] X.env)).all (fun x => x.1.isSome)
      && decide (([e] : List Expr).length + ([] : List Keyword).length
          + (if ([] : List Keyword).isEmpty then 0 else 1) < 30)) = true := by rfl)
    (hline : (apos.endLine == cpos.line) = true := by rfl) (hs : starEach [e] X.env = (false, eval e X.env) :: starEach [] X.env := by rfl) (hplain : (backTo cpos (starEach [] X.env)).any (·.1) = false := by rfl)
    (hsw : swapsWith (.Call (.Attribute (.Name x px) "append" apos) [e] [] cpos) none pos.line X.env = pure false := by rfl) : PS X (.Expr (.Call (.Attribute (.Name x px) "append" apos) [e] [] cpos) pos) (tS c (sApp i f)) :=
  PS.to (ps_expr (pe_bm PySem.F.plainAttrs_list PySem.F.slot_list_append PySem.F.type_list_append mt_append ho (pa_cons ha pa_nil hs) hbase hfew hline hs hplain) hsw) (app_use rfl hK)
def sPut (i : Nat) (fi fe : DM) : SM := fun E ρ => fe ρ fun d ρ1 => ownL ρ1 i (fun _ => True) ∧ fi ρ1 fun k ρ2 => ownL ρ2 i fun ds => match k with
  | .int z => ∃ j, ixN ds.length z = some j ∧ E.nx (ρ2.set i (.ow (.list (ds.set j d))))
  | _ => False
theorem put_use {i : Nat} {fi fe : DM} {te ti : TE} (et : te = tD c fe) (ei : ti = tD c fi) : ∀ Z σ H, tS c (sPut i fi fe) Z σ H → tAsg te (L2.gSub (tVar i) ti rSetL) Z σ H := by
  subst et ei
  rintro Z σ H ⟨F, ρ, xx, E, rel, q, n, rr, b, t⟩
  refine ⟨F, ρ, xx, _, rel, q, fun d ρ1 v F1 H1 ⟨q0, q1⟩ e1 r1 a1 => ?_⟩
  obtain ⟨ds0, p0, vs0, g1, g2, g3, g4, _⟩ := ownL_get r1 q0
  refine ⟨.ref p0, g2, F1, ρ1, xx, _, r1, q1, fun k ρ2 u F2 H2 q2 e2 r2 a2 => ?_⟩
  obtain ⟨ds, p, vs, h1, h2, h3, h4, hk⟩ := ownL_get r2 q2
  have ep : p0 = p := by
    rw [g2] at h2
    cases h2
    rfl
  subst ep
  split at hk
  · rename_i z
    cases a2
    obtain ⟨j, hj, hn⟩ := hk
    refine ⟨p0, vs, z, j, rfl, rfl, h3, by rw [h4.length]; exact hj, ?_⟩
    exact n _ σ F2 _ hn (e1.trans e2) (r2.mut h1 h2 ⟨_, upd_same, h4.set (a1.mono e2) j⟩)
  · exact hk.elim
end
end DL
namespace DL
open PySem L2
section
variable {X : Cx} {c : Cn} {e a b : Expr} {pos : Pos}
theorem dp_put {x : Str} {i : Nat} {ix : Expr} {px tpos : Pos} {fi fe : DM} (ho : PE X (.Name x px) (tVar i)) (hi : PE X ix (tD c fi)) (he : PE X e (tD c fe))
    (hsub : ∀ v, assign (.Subscript (.Name x px) ix tpos) X.env v = (do
      let ov ← holding [v] (eval (.Name x px) X.env)
      let iv ← holding [v, ov] (eval ix X.env)
      standAt tpos
      (holding [v, ov, iv] (setItem ov iv v))
      release [v, ov, iv] []) := by intro _; rfl)
    (hs : swapsWithSole [.Subscript (.Name x px) ix tpos] e pos.line X.env = pure false := by rfl) (hw : swappedStores [.Subscript (.Name x px) ix tpos] e X.env = pure none := by rfl)
    (h1 : (assignEach [.Subscript (.Name x px) ix tpos] X.env).map (·.2) = [assign (.Subscript (.Name x px) ix tpos) X.env] := by rfl) : PS X (.Assign [.Subscript (.Name x px) ix tpos] e pos) (tS c (sPut i fi fe)) :=
  PS.to (ps_asg he (pg_sub ho hi set_list hsub) hs hw h1) (put_use rfl rfl)
end
end DL
namespace DL
open PySem L2
section
variable {X : Cx} {c : Cn} {e a b e3 : Expr} {pos : Pos}
theorem dts_one {b : BM} (h : PT X e (tT c b)) : PTs X [e] (tT c b) := pts_one h
end
end DL
namespace DL
open PySem L2
section
variable {X : Cx} {c : Cn}
/-- two texts -/
def gEqS : G2 := fun x y P => match x, y with
  | .str a, .str b => P (.bool (decide (a = b)))
  | _, _ => False
def gNeS : G2 := fun x y P => match x, y with
  | .str a, .str b => P (.bool (!decide (a = b)))
  | _, _ => False
theorem dec_strs {a b : Str} : decide (V.str a = V.str b) = decide (a = b) := by
  by_cases h : a = b
  · subst h
    simp
  · simp [h]
theorem sem_eqS : Sem2 X c (compareOp .Eq) gEqS := by
  refine ⟨_, op_eq, fun F H σ ρ xx x y vx vy P Q r bx by_ g k => ?_⟩
  unfold gEqS at g
  split at g
  · cases bo_str bx
    cases bo_str by_
    refine ⟨rfl, ?_⟩
    rw [dec_strs]
    exact k _ _ F H g (Ex.refl F) r (.bl _)
  · exact g.elim
theorem sem_neS : Sem2 X c (compareOp .NotEq) gNeS := by
  refine ⟨_, op_ne, fun F H σ ρ xx x y vx vy P Q r bx by_ g k => ?_⟩
  unfold gNeS at g
  split at g
  · cases bo_str bx
    cases bo_str by_
    refine ⟨rfl, ?_⟩
    rw [dec_strs]
    exact k _ _ F H g (Ex.refl F) r (.bl _)
  · exact g.elim
end
end DL
namespace DL
open PySem L2 PySem.Spec PyProof.Rows
section
variable {pr : Program} {wd : PySem.World} {A : Around} {cp tg nx src el : Expr} {fs : List Expr} {gens : List Comprehension} {sc0 : Scope} {ps0 : Pos} {l : Nat} {acc : Value} {ce : PySem.Env} {R : Result → Shared → Prop}
abbrev tests (ce : PySem.Env) (fs : List Expr) : Sem Bool := forIn fs true fun q r => if r = true then do let k ← isTrue q ce (eval q ce); pure (ForInStep.yield k) else pure (ForInStep.yield r)
/-- one turn: what is asked where an item comes, and where none -/
def TurnOk (pr : Program) (wd : PySem.World) (A : Around) (ce : PySem.Env) (tg : Expr) (fs : List Expr) (N : Value → Shared → Prop) (stop done : Shared → Prop) (inner : Shared → Prop) (it : Value) (s : Shared) : Prop :=
  wpAny (model pr wd) A (pyNext it) (fun r s1 => match r with
    | none => stop s1
    | some v => wpAny (model pr wd) A (letOwnedTupleGo tg it v) (fun _ s2 => wpAny (model pr wd) A (assign tg ce v) (fun _ s3 =>
        wpAny (model pr wd) A (tests ce fs) (fun k s4 => if k = true then inner s4 else done s4) N s3) N s2) N s1) N s
/-- behind the tests: the next clause's own loop -/
def nestW (pr : Program) (wd : PySem.World) (A : Around) (ce : PySem.Env) (N : Value → Shared → Prop) (cp nx : Expr) (l : Nat) (acc : Value) (done : Shared → Prop) (s : Shared) : Prop :=
  wpAny (model pr wd) A (eval nx ce) (fun x s1 => wpAny (model pr wd) A (pyIter x) (fun j s2 => codeAny (model pr wd) A (.compStart cp (l + 1) j acc ce) (fun r s' => match r with
    | .ok _ => done s'
    | .error _ => False) s2) N s1) N s
/-- behind the tests: the element is put in -/
def addW (pr : Program) (wd : PySem.World) (A : Around) (ce : PySem.Env) (N : Value → Shared → Prop) (el : Expr) (acc : Value) (done : Shared → Prop) (s : Shared) : Prop :=
  wpAny (model pr wd) A (eval el ce) (fun x s1 => wpAny (model pr wd) A (call (.builtin "set.add") [acc, x]) (fun _ s2 => done s2) N s1) N s
theorem loop_nest (hf : ∀ x, foldedSetIterable nx ce x = pure x)
    (eqn : ∀ it, compTurn (.SetComp el gens sc0 ps0) l it acc ce = (do
      standAt src.pos
      match ← pyNext it with
      | none => pure (.done .next)
      | some v =>
        letOwnedTupleGo tg it v
        assign tg ce v
        let mut ok := true
        for q in fs do
          if ok then ok ← isTrue q ce (eval q ce)
        if ok then
          let x ← eval nx ce
          standAt nx.pos
          let x ← foldedSetIterable nx ce x
          let _ ← runOwn (.compStart (.SetComp el gens sc0 ps0) (l + 1) (← holding [x] (pyIter x)) acc ce) ce
        again (.compLoop (.SetComp el gens sc0 ps0) l it acc ce)))
    (V : Nat → Shared → Prop) {it : Value} {s : Shared} (turn : ∀ n s, V n s → TurnOk pr wd A ce tg fs (notedBy (model pr wd) A ce fun e s' => R (.error e) s') (R (.ok .next)) (fun s' => ∃ m, m < n ∧ V m s') (nestW pr wd A ce (notedBy (model pr wd) A ce fun e s' => R (.error e) s') (.SetComp el gens sc0 ps0) nx l acc fun s' => ∃ m, m < n ∧ V m s') it s)
    (n : Nat) (h : V n s) : codeAny (model pr wd) A (.compLoop (.SetComp el gens sc0 ps0) l it acc ce) R s := by
  refine codeAny_loop rfl V ?_ n h
  intro n s hv
  show wpAny _ A ((compTurn (.SetComp el gens sc0 ps0) l it acc ce).onRaise (fun e => do noteFrame e ce; theTreesLotGoes e)) _ _ s
  refine wpAny_noted ?_
  rw [eqn]
  refine wpAny_bind (wpAny_standAt (wpAny_bind (wpAny_mono (turn n s hv) ?_ fun _ _ z => z)))
  intro r s1 h1
  match r, h1 with
  | none, h1 => exact wpAny_pure h1
  | some v, h1 =>
    refine wpAny_bind (wpAny_mono h1 ?_ fun _ _ z => z)
    intro _ s2 h2
    refine wpAny_bind (wpAny_mono h2 ?_ fun _ _ z => z)
    intro _ s3 h3
    refine wpAny_bind (wpAny_mono h3 ?_ fun _ _ z => z)
    intro k s4 h4
    cases k with
    | false => exact wpAny_pure ⟨rfl, h4⟩
    | true =>
      refine wpAny_bind (wpAny_mono h4 ?_ fun _ _ z => z)
      intro x s5 h5
      refine wpAny_bind (wpAny_standAt (wpAny_bind (wpAny_of_eq (hf x) (wpAny_bind (wpAny_holding (wpAny_mono h5 ?_ fun _ _ z => z))))))
      intro j s6 h6
      (refine wpAny_bind (wpAny_runOwn ?_))
      rw [Around.mark_none]
      refine codeAny_mono h6 ?_
      intro r s7 h7
      match r, h7 with
      | .ok f, h7 => first | exact wpAny_pure ⟨rfl, h7⟩ | exact wpAny_bind (wpAny_pure (wpAny_pure ⟨rfl, h7⟩))
      | .error e, h7 => exact h7.elim
theorem loop_add
    (eqn : ∀ it, compTurn (.SetComp el gens sc0 ps0) l it acc ce = (do
      standAt src.pos
      match ← pyNext it with
      | none => pure (.done .next)
      | some v =>
        letOwnedTupleGo tg it v
        assign tg ce v
        let mut ok := true
        for q in fs do
          if ok then ok ← isTrue q ce (eval q ce)
        if ok then
          (do let v ← eval el ce; standAt el.pos; let _ ← call (.builtin "set.add") [acc, v])
        again (.compLoop (.SetComp el gens sc0 ps0) l it acc ce)))
    (V : Nat → Shared → Prop) {it : Value} {s : Shared} (turn : ∀ n s, V n s → TurnOk pr wd A ce tg fs (notedBy (model pr wd) A ce fun e s' => R (.error e) s') (R (.ok .next)) (fun s' => ∃ m, m < n ∧ V m s') (addW pr wd A ce (notedBy (model pr wd) A ce fun e s' => R (.error e) s') el acc fun s' => ∃ m, m < n ∧ V m s') it s)
    (n : Nat) (h : V n s) : codeAny (model pr wd) A (.compLoop (.SetComp el gens sc0 ps0) l it acc ce) R s := by
  refine codeAny_loop rfl V ?_ n h
  intro n s hv
  show wpAny _ A ((compTurn (.SetComp el gens sc0 ps0) l it acc ce).onRaise (fun e => do noteFrame e ce; theTreesLotGoes e)) _ _ s
  refine wpAny_noted ?_
  rw [eqn]
  refine wpAny_bind (wpAny_standAt (wpAny_bind (wpAny_mono (turn n s hv) ?_ fun _ _ z => z)))
  intro r s1 h1
  match r, h1 with
  | none, h1 => exact wpAny_pure h1
  | some v, h1 =>
    refine wpAny_bind (wpAny_mono h1 ?_ fun _ _ z => z)
    intro _ s2 h2
    refine wpAny_bind (wpAny_mono h2 ?_ fun _ _ z => z)
    intro _ s3 h3
    refine wpAny_bind (wpAny_mono h3 ?_ fun _ _ z => z)
    intro k s4 h4
    cases k with
    | false => exact wpAny_pure ⟨rfl, h4⟩
    | true =>
      refine wpAny_bind (wpAny_bind (wpAny_mono h4 ?_ fun _ _ z => z))
      intro x s5 h5
      refine wpAny_bind (wpAny_standAt (wpAny_bind (wpAny_mono h5 ?_ fun _ _ z => z)))
      exact fun _ s6 h6 => wpAny_pure (wpAny_pure ⟨rfl, h6⟩)
theorem start_any {s : Shared} {it : Value} (plain : ((clausesOf (.SetComp el gens sc0 ps0))[l]?).elim false (·.is_async != 0) = false) (h0 : codeAny (model pr wd) A (.compLoop (.SetComp el gens sc0 ps0) l it acc ce) R s)
    (h : wpAny (model pr wd) A (pyIter it) (fun j s' => codeAny (model pr wd) A (.compLoop (.SetComp el gens sc0 ps0) l j acc ce) R s') (notedBy (model pr wd) A ce fun e s' => R (.error e) s') s) : codeAny (model pr wd) A (.compStart (.SetComp el gens sc0 ps0) l it acc ce) R s := by
  refine codeAny_of_tree ?_
  show wpAny _ _ ((compStart (.SetComp el gens sc0 ps0) l it acc ce).onRaise (fun e => do noteFrame e ce; standAt theWindowsPlace)) _ _ s
  refine wpAny_notedAt ?_
  unfold compStart
  rw [plain]
  (rw [if_neg Bool.false_ne_true])
  (show wpAny _ _ (ask >>= _) _ _ s)
  (refine wpAny_bind (wpAny_askSetting (wpAny_ite ?_)))
  split
  · first
      | (exact wpAny_bind (wpAny_pure (wpAny_pure (And.intro rfl h0))))
      | (exact wpAny_pure (And.intro rfl h0))
  · (refine wpAny_bind (wpAny_rule ?_))
    split
    · exact wpAny_bind (wpAny_standAt (wpAny_bind (wpAny_mono h (fun j s' z => wpAny_pure (And.intro rfl z)) fun _ _ z => z)))
    · first
        | exact wpAny_bind (wpAny_pure (wpAny_bind (wpAny_mono h (fun j s' z => wpAny_pure (And.intro rfl z)) fun _ _ z => z)))
        | exact wpAny_bind (wpAny_mono h (fun j s' z => wpAny_pure (And.intro rfl z)) fun _ _ z => z)
end
end DL
namespace DL
open PySem L2 PySem.Spec PyProof.Rows
abbrev noE : Value → Shared → Prop := fun _ _ => False
/-- what stands behind a clause's tests -/
abbrev LvU := L2.St → Hp → (Hp → Prop) → Prop
/-- it keeps the block's context, and reaches Nx -/
def InOk (B : Cx) (inner : (Shared → Prop) → Shared → Prop) (t : LvU) (own : List Nat) : Prop := ∀ (pins : List (Addr × Obj)) (s : Shared) (σ : L2.St) (H : Hp) (Nx : Hp → Prop) (done : Shared → Prop), Inv B pins σ H s → t σ H Nx →
  (∀ (σ' : L2.St) (H' : Hp) (s' : Shared), Inv B pins σ' H' s' → (L2.wipe σ own).length = σ'.length → (∀ (j : Nat) v, (L2.wipe σ own)[j]? = some (some v) → σ'[j]? = some (some v)) → Nx H' → done s') → inner done s
/-- a clause's turns -/
abbrev Turns (J : It) (g : TG) (tt : TT) (vs : List Nat) (σ : L2.St) (U : LvU) (Fin : Hp → Prop) (W : Nat → Nat → Hp → Prop) : Prop := ∀ i m H, W i m H →
  (J.stop i H ∧ Fin H) ∨ (J.go i H ∧ ∃ Nx : Hp → Prop, (∀ G, Nx G → ∃ m', m' < m ∧ W (i + 1) m' G) ∧ ∀ x G, J.yld i H x G → g x (L2.wipe σ vs) G fun σ2 H2 => L2.wipe σ2 vs = L2.wipe σ vs ∧ tt σ2 H2 fun b H3 => if b = true then U σ2 H3 Nx else Nx H3)
/-- slots that know what the block's own slots knew -/
structure Knows (σ σ' : L2.St) (vs : List Nat) : Prop where
  l : (L2.wipe σ vs).length = σ'.length
  k : ∀ (j : Nat) v, (L2.wipe σ vs)[j]? = some (some v) → σ'[j]? = some (some v)
theorem wipe_off {σ : L2.St} {i : Nat} : ∀ {vs : List Nat}, i ∉ vs → (L2.wipe σ vs)[i]? = σ[i]?
  | [], _ => rfl
  | v :: vs, h => (List.getElem?_set_ne fun e => h (by rw [e]; exact List.mem_cons_self)).trans (wipe_off fun m => h (List.mem_cons_of_mem _ m))
theorem Knows.of_eq {σ σ' : L2.St} {vs : List Nat} (e : L2.wipe σ' vs = L2.wipe σ vs) : Knows σ σ' vs := ⟨by rw [← e, wipe_length], fun j v q => (L2.wipe_some (show (L2.wipe σ' vs)[j]? = _ from e ▸ q)).1⟩
theorem Knows.within {σ σ1 σ2 : L2.St} {vs own : List Nat} (a : L2.wipe σ1 vs = L2.wipe σ vs) (hv : ∀ i ∈ own, i ∈ vs) (hl : (L2.wipe σ1 own).length = σ2.length) (hk : ∀ (j : Nat) v, (L2.wipe σ1 own)[j]? = some (some v) → σ2[j]? = some (some v)) : Knows σ σ2 vs where
  l := by rw [← a, wipe_length, ← hl, wipe_length]
  k j v q := by
    have z := L2.wipe_some (show (L2.wipe σ1 vs)[j]? = _ from a ▸ q)
    exact hk j v ((wipe_off fun m => z.2 (hv j m)).trans z.1)
section
variable {Y : Cx} {pins : List (Addr × Obj)} {tg : Expr} {fs : List Expr} {g : TG} {tt : TT} {vs own : List Nat} {σ : L2.St} {it : Addr} {fp : List Addr} {tn : Nat → Heap → Prop} {J : It} {W : Nat → Nat → Hp → Prop} {Fin : Hp → Prop} {U : LvU} {act : (Shared → Prop) → Shared → Prop}
theorem wpF {α : Type} {t : Sem α} {Q Q' : α → Shared → Prop} {M : Model} {A : Around} {E : Value → Shared → Prop} {s : Shared} (h : wpAny M A t Q noE s) (q : ∀ a s, Q a s → Q' a s) : wpAny M A t Q' E s := wpAny_mono h q fun _ _ z => z.elim
/-- with no way out by an error -/
theorem wpX {α : Type} {t : Sem α} {Q Q' : α → Shared → Prop} {E : Value → Shared → Prop} {s : Shared} (hx : Y.xe = noE) (h : wpAny (model Y.prog Y.w) Y.A t Q Y.xe s) (q : ∀ a s, Q a s → Q' a s) : wpAny (model Y.prog Y.w) Y.A t Q' E s := wpF (by rw [hx] at h; exact h) q
/-- how things stand ahead of a turn -/
def Ahead (Y : Cx) (pins : List (Addr × Obj)) (σw : L2.St) (fp : List Addr) (tn : Nat → Heap → Prop) (W : Nat → Nat → Hp → Prop) (m : Nat) (s : Shared) : Prop := ∃ i G, Inv Y pins σw G s ∧ tn i s.heap ∧ (∀ b ∈ fp, G b = none) ∧ W i m G
/-- what the iterator stands on was held through a turn, and goes free -/
theorem Ahead.next {σ' : L2.St} {G : Hp} {s7 s : Shared} {i m : Nat} (T : Turn Y.prog Y.w Y.K tg J fp it tn) (I : Inv Y (pins ++ pinsAt fp s7.heap) σ' G s) (kn : Knows σ σ' vs) (st : tn i s7.heap) (w : W i m G) : Ahead Y pins (L2.wipe σ vs) fp tn W m s := by
  have held : ∀ b ∈ fp, ∀ o, s7.heap.get? b = some o → _ := fun b mb o e => I.pin (b, o) (List.mem_append_right _ (List.mem_append_right _ (mem_pinsAt mb e)))
  exact ⟨i, G, I.unpinned.weak kn.l kn.k, T.keep i _ _ st fun b mb o e => (held b mb o e).1, fun b mb => (T.obj i _ st b mb).elim fun o q => (held b mb o q.1).2.1, w⟩
/-- one turn -/
theorem turn_ok {N : Value → Shared → Prop} {stop : Shared → Prop} {n : Nat} {s : Shared} (hx : Y.xe = noE) (hc : Y.calm = true) (T : Turn Y.prog Y.w Y.K tg J fp it tn) (pg : PG Y tg g) (pt : PTs Y fs tt) (hv : ∀ i ∈ own, i ∈ vs)
    (still : ∀ (σ' : L2.St) (G : Hp) (s' : Shared), Inv Y pins σ' G s' → (∀ b ∈ fp, G b = none) → ∀ b ∈ fp, FpOk Y pins G b) (turns : Turns J g tt vs σ U Fin W) (hU : InOk Y act U own)
    (over : ∀ (G : Hp) (s' : Shared), Inv Y pins (L2.wipe σ vs) G s' → Fin G → stop s') (h : Ahead Y pins (L2.wipe σ vs) fp tn W n s) :
    TurnOk Y.prog Y.w Y.A Y.env tg fs N stop (fun s' => ∃ m, m < n ∧ Ahead Y pins (L2.wipe σ vs) fp tn W m s') (act fun s' => ∃ m, m < n ∧ Ahead Y pins (L2.wipe σ vs) fp tn W m s') (.ref it) s := by
  obtain ⟨i, G, I, st, no, w⟩ := h
  have free := still _ G s I no
  rcases turns i n G w with ⟨a, b⟩ | ⟨a, Nx, less, step⟩
  · exact wpF (T.done Y rfl rfl rfl hc i pins s _ G noE I free st a) fun r s' q => q.1 ▸ over G s' q.2 b
  · refine wpF (T.item Y rfl rfl rfl hc i pins s _ G noE I free st a) ?_
    rintro _ s1 ⟨u, rfl, q⟩
    refine wpF q ?_
    rintro _ s2 ⟨x, G2, I2, ru, y, st2, no2⟩
    have go : ∀ (σ' : L2.St) (G' : Hp) (s' : Shared), Inv Y (pins ++ pinsAt fp s2.heap) σ' G' s' → Knows σ σ' vs → Nx G' → ∃ m, m < n ∧ Ahead Y pins (L2.wipe σ vs) fp tn W m s' := fun σ' G' s' I' kn nx =>
      (less G' nx).elim fun m q => ⟨m, q.1, .next T I' kn st2 q.2⟩
    refine wpX hx (pg.run _ s2 _ G2 x u _ (I2.pinned (still _ G2 s2 I2 no2) (T.obj _ _ st2)) ru (step x G2 y)) ?_
    rintro _ s3 ⟨σ3, G3, I3, e3, q3⟩
    refine wpX hx (pt.run _ s3 σ3 G3 _ I3 q3) ?_
    rintro b s4 ⟨G4, I4, q4⟩
    match b, q4 with
    | false, q4 => exact go σ3 G4 s4 I4 (.of_eq e3) q4
    | true, q4 => exact hU _ s4 σ3 G4 Nx _ I4 q4 fun σ' G' s' I' l k nx => go σ' G' s' I' (.within e3 hv l k) nx
end
/-- a block stands open over a new container: what is known within, and what the end gives back -/
structure Opened (X : Cx) (pins : List (Addr × Obj)) (σ : L2.St) (own : List Nat) (Y : Cx) (fp : List Addr) (tn : Nat → Heap → Prop) (C : Addr) (G : Hp) (s : Shared) : Prop where
  inv : Inv Y [] (L2.wipe σ own) G s
  st : tn 0 s.heap
  no : ∀ b ∈ fp, G b = none
  still : ∀ (σ' : L2.St) (G' : Hp) (s' : Shared), Inv Y [] σ' G' s' → (∀ b ∈ fp, G' b = none) → ∀ b ∈ fp, FpOk Y [] G' b
  back : ∀ (σ' : L2.St) (G' : Hp) (s' : Shared), Inv Y [] σ' G' s' → Inv X pins σ G' s' ∧ (∃ m, s'.heap.Ns C m) ∧ FpOk X pins G' C
abbrev heapIn (h : Heap) (scope : Scope) : Heap := pushCells (h.push { cls := .type "dict", data := .dict #[] }) scope.names
abbrev envIn (X : Cx) (h : Heap) (scope : Scope) : PySem.Env := compEnvC scope (cellsFrom (h.objs.size + 1) scope.names (cloFrom X.env.cells scope.names [])) h.objs.size X.env
theorem Opened.of {X : Cx} {pins : List (Addr × Obj)} {σ : L2.St} {H : Hp} {s s3 : Shared} {tg : Expr} {J : It} {fp : List Addr} {it : Addr} {tn : Nat → Heap → Prop} {scope : Scope} {own : List (Str × Nat)} {o : HO} {ob : Obj} (hN : X.N.Nodup) (ok : BlkOk X.N X.env.scope scope own)
    (T : Turn X.prog X.w X.K tg J fp it tn) (st : tn 0 s.heap) (free : ∀ b ∈ fp, FpOk X pins H b) (e3 : s3.heap = s.heap.push ob) (I : Inv X pins σ (upd H s.heap.objs.size o) s3) :
    Opened X pins σ (own.map (·.2)) (X.blk s3 (upd H s.heap.objs.size o) scope (envIn X s3.heap scope) fp) fp tn s3.heap.objs.size (upd H s.heap.objs.size o) { s3 with heap := heapIn s3.heap scope } := by
  have lt : ∀ b ∈ fp, b < s.heap.objs.size := fun b mb => (T.obj 0 _ st b mb).elim fun _ q => Heap.lt_size q.1
  have free3 : ∀ b ∈ fp, FpOk X pins (upd H s.heap.objs.size o) b := fun b mb => ⟨(upd_ne (Nat.ne_of_lt (lt b mb))).trans (free b mb).1, (free b mb).2⟩
  have pushed : ∀ b z, s.heap.get? b = some z → s3.heap.get? b = some z := fun b z q => by rw [e3]; exact Heap.get?_push_of_some _ q
  exact {
    inv := block_start I ok hN fun b mb => ⟨free3 b mb, by rw [e3, Heap.size_push]; exact Nat.lt_succ_of_lt (lt b mb)⟩
    st := T.keep 0 _ _ st fun b _ z q => pushCells_keeps _ _ _ _ (Heap.get?_push_of_some _ (pushed b z q))
    no := fun b mb => (free3 b mb).1
    still := fun σ' G' s' J' n b mb =>
      have away := J'.ok.exf b mb
      ⟨n b mb, away.1, J'.ok.exfs b mb, .inl mb, away.2, fun p hp => (List.not_mem_nil hp).elim⟩
    back := fun σ' G' s' J' => by
      refine ⟨I.call' J'.os J'.base J'.hok J'.bare fun b mb => ?_, J'.loc.elim fun m q => ⟨m, q.1⟩, I.fpOk (Nat.le_refl _) J'.free⟩
      obtain ⟨-, f1, f2, f3, f4, f5⟩ := free3 b mb
      exact ⟨f3, f1, f4, f5⟩ }
/-- one turn of the block's outermost clause -/
theorem Opened.turn {X Y : Cx} {p0 : List (Addr × Obj)} {σ : L2.St} {vs own : List Nat} {fp : List Addr} {tn : Nat → Heap → Prop} {C it : Addr} {G0 : Hp} {s0 : Shared} (op : Opened X p0 σ vs Y fp tn C G0 s0) {tg : Expr} {fs : List Expr} {g : TG} {tt : TT} {J : It} {W : Nat → Nat → Hp → Prop} {Fin : Hp → Prop} {U : LvU} {act : (Shared → Prop) → Shared → Prop}
    {N : Value → Shared → Prop} {stop : Shared → Prop} {n : Nat} {s : Shared} (a : Ahead Y [] (L2.wipe σ vs) fp tn W n s) (hx : Y.xe = noE) (hc : Y.calm = true) (T : Turn Y.prog Y.w Y.K tg J fp it tn) (pg : PG Y tg g) (pt : PTs Y fs tt) (hv : ∀ i ∈ own, i ∈ vs) (turns : Turns J g tt vs σ U Fin W) (hU : InOk Y act U own)
    (over : ∀ (G : Hp) (s' : Shared) (m : Str → Option Value), Inv X p0 σ G s' → s'.heap.Ns C m → FpOk X p0 G C → Fin G → stop s') :
    TurnOk Y.prog Y.w Y.A Y.env tg fs N stop (fun s' => ∃ m, m < n ∧ Ahead Y [] (L2.wipe σ vs) fp tn W m s') (act fun s' => ∃ m, m < n ∧ Ahead Y [] (L2.wipe σ vs) fp tn W m s') (.ref it) s :=
  turn_ok hx hc T pg pt hv op.still turns hU (fun G s' J' z => (op.back _ G s' J').2.1.elim fun m q => over G s' m (op.back _ G s' J').1 q (op.back _ G s' J').2.2 z) a
/-- the names that a block takes from around it have their cells -/
theorem cells_there {X : Cx} {pins : List (Addr × Obj)} {σ : L2.St} {H : Hp} {s : Shared} {scope : Scope} {own : List (Str × Nat)} (I : Inv X pins σ H s) (ok : BlkOk X.N X.env.scope scope own) : ∀ y ∈ scope.names, y.2 = .free → ∃ c, X.env.cells.lookup y.1 = some c :=
  fun y my e => I.ok.has _ (ok.free y my e)
end DL
namespace DL
open PySem L2 PySem.Spec PyProof.Rows
/-- the reading of a clause's loop -/
def tLp (wi : TI) (g : TG) (tt : TT) (inner : L2.St → Hp → (Hp → Prop) → Prop) (vs : List Nat) : L2.St → Hp → (Hp → Prop) → Prop := fun σ H Nx => wi σ H fun J H1 => ∃ W : Nat → Nat → Hp → Prop, (∃ m, W 0 m H1) ∧ ∀ i m H, W i m H →
  (J.stop i H ∧ Nx H) ∨ (J.go i H ∧ ∃ Nx1 : Hp → Prop, (∀ H', Nx1 H' → ∃ m', m' < m ∧ W (i + 1) m' H') ∧ ∀ x H', J.yld i H x H' → g x (L2.wipe σ vs) H' fun σ2 H2 => L2.wipe σ2 vs = L2.wipe σ vs ∧ tt σ2 H2 fun b H3 => if b = true then inner σ2 H3 Nx1 else Nx1 H3)
/-- the reading of the element -/
def tPutS (w : PySem.World) (Sx : Addr) (te : TE) : L2.St → Hp → (Hp → Prop) → Prop := fun σ H Nx => te σ H fun y H4 => ∃ (k : Int) (S : Int → Bool) (n : Nat), y = .int k ∧ H4 Sx = some (SetO w Sx S n) ∧ n + 1 < scanBound ∧ Nx (upd H4 Sx (SetO w Sx (fun j => S j || decide (j = k)) (if S k = true then n else n + 1)))
section
variable {B : Cx}
theorem in_add {el : Expr} {te : TE} {Sx : Addr} {own : List Nat} {N : Value → Shared → Prop} (hx : B.xe = noE) (he : PE B el te) : InOk B (addW B.prog B.w B.A B.env N el (.ref Sx)) (tPutS B.w Sx te) own := by
  intro pins s σ H Nx done I h k
  have he' := he.run pins s σ H _ I h
  rw [hx] at he'
  refine wpF he' ?_
  rintro x s1 ⟨y, H1, I1, r1, kk, S, n, rfl, hS, hz, nx⟩
  have ad := mt_sadd (X := B) pins s1 σ H1 (.ref Sx) [.int kk] (.ref Sx) [x] (fun _ H' => Nx H') I1 rfl (.cons r1 .nil) ⟨Sx, kk, S, n, rfl, rfl, hS, hz, nx⟩
  rw [hx] at ad
  refine wpF ad ?_
  rintro _ s2 ⟨y2, H2, I2, _, q2⟩
  refine k σ H2 s2 I2 (wipe_length _ _) ?_ q2
  exact fun j v e => (L2.wipe_some e).1
/-- a clause within: its loop, from what stands behind its tests -/
theorem in_loop {tg1 it1 : Expr} {ifs1 : List Expr} {wi1 : TI} {g1 : TG} {tt1 : TT} {t2 : L2.St → Hp → (Hp → Prop) → Prop} {vs1 vs2 : List Nat} {cp : Expr} {l : Nat} {acc : Value} {N : Value → Shared → Prop} {inn : (Value → Shared → Prop) → (Shared → Prop) → Shared → Prop} (hx : B.xe = noE) (hc : B.calm = true) (hv : ∀ i ∈ vs2, i ∈ vs1)
    (hi : PI B tg1 it1 wi1) (hg : PG B tg1 g1) (ht : PTs B ifs1 tt1) (h2 : ∀ N, InOk B (inn N) t2 vs2)
    (plain : ((clausesOf cp)[l + 1]?).elim false (·.is_async != 0) = false)
    (start : ∀ {R : Result → Shared → Prop} {s : Shared} {it : Value}, codeAny (model B.prog B.w) B.A (.compLoop cp (l + 1) it acc B.env) R s → wpAny (model B.prog B.w) B.A (pyIter it) (fun j s' => codeAny (model B.prog B.w) B.A (.compLoop cp (l + 1) j acc B.env) R s') (notedBy (model B.prog B.w) B.A B.env fun e s' => R (.error e) s') s → codeAny (model B.prog B.w) B.A (.compStart cp (l + 1) it acc B.env) R s)
    (loop : ∀ {R : Result → Shared → Prop} (V : Nat → Shared → Prop) {it : Value} {s : Shared}, (∀ n s, V n s → TurnOk B.prog B.w B.A B.env tg1 ifs1 (notedBy (model B.prog B.w) B.A B.env fun e s' => R (.error e) s') (R (.ok .next)) (fun s' => ∃ m, m < n ∧ V m s') (inn (notedBy (model B.prog B.w) B.A B.env fun e s' => R (.error e) s') fun s' => ∃ m, m < n ∧ V m s') it s) → ∀ n, V n s → codeAny (model B.prog B.w) B.A (.compLoop cp (l + 1) it acc B.env) R s) :
    InOk B (nestW B.prog B.w B.A B.env N cp it1 l acc) (tLp wi1 g1 tt1 t2 vs1) vs1 := by
  intro pins s σ H Nx done I h k
  refine wpX hx (hi.run pins s σ H _ I h) fun x s1 q => wpF (by rw [hx] at q; exact q) ?_
  rintro _ s2 ⟨it, fp, tn, J, G, rfl, I2, T, st, free, W, ⟨m0, w0⟩, turns⟩
  have main : codeAny (model B.prog B.w) B.A (.compLoop cp (l + 1) (.ref it) acc B.env) (fun r s' => match r with
      | .ok _ => done s'
      | .error _ => False) s2 :=
    loop (Ahead B pins (L2.wipe σ vs1) fp tn W) (fun n s3 a => turn_ok hx hc T hg ht hv (fun _ _ _ _ no b mb => ⟨no b mb, (free b mb).2⟩) turns (h2 _) (fun G3 s4 I4 z => k _ G3 s4 I4 rfl (fun _ _ e => e) z) a) m0
      ⟨0, G, I2.weak (wipe_length _ _) (fun j v e => (L2.wipe_some e).1), st, fun b mb => (free b mb).1, w0⟩
  exact start main (T.self B.A 0 _ _ _ st main)
end
end DL
namespace DL
open PySem L2 PySem.Spec PyProof.Rows
/-- a set of ints: the outermost loop of its comprehension; t: what stands behind the tests -/
def tSetN (w : PySem.World) (wi : TI) (g : TG) (tt : TT) (t : Addr → L2.St → Hp → (Hp → Prop) → Prop) (vs : List Nat) : TE := fun σ H Q => wi σ H fun J H1 => ∀ D, H1 D = none → ∃ W : Nat → Nat → Hp → Prop, (∃ m, W 0 m (upd H1 D (SetO w D (fun _ => false) 0))) ∧ ∀ i m H, W i m H →
  (J.stop i H ∧ Q (.ref D) H) ∨ (J.go i H ∧ ∃ Nx : Hp → Prop, (∀ H', Nx H' → ∃ m', m' < m ∧ W (i + 1) m' H') ∧ ∀ x H', J.yld i H x H' → g x (L2.wipe σ vs) H' fun σ2 H2 => L2.wipe σ2 vs = L2.wipe σ vs ∧ tt σ2 H2 fun b H3 => if b = true then t D σ2 H3 Nx else Nx H3)
section
variable {X : Cx} {el tg iter nx : Expr} {ifs : List Expr} {gs : List Comprehension} {scope : Scope} {own : List (PySem.Str × Nat)} {pos : Pos} {wi : TI} {g : TG} {tt : TT} {t : Addr → L2.St → Hp → (Hp → Prop) → Prop} {vs2 : List Nat}
theorem pe_setN (hc : X.calm = true) (hN : X.N.Nodup) (hi : PI X tg iter wi) (ok : BlkOk X.N X.env.scope scope own) (hv : ∀ i ∈ vs2, i ∈ own.map (·.2))
    (hg : ∀ (s : Shared) (H : Hp) (C : Addr) (cl : List (PySem.Str × Addr)) (fp : List Addr), PG (X.blk s H scope (compEnvC scope cl C X.env) fp) tg g)
    (ht : ∀ (s : Shared) (H : Hp) (C : Addr) (cl : List (PySem.Str × Addr)) (fp : List Addr), PTs (X.blk s H scope (compEnvC scope cl C X.env) fp) ifs tt)
    (hin : ∀ (s : Shared) (H : Hp) (C : Addr) (cl : List (PySem.Str × Addr)) (fp : List Addr) (D : Addr) (N : Value → Shared → Prop), InOk (X.blk s H scope (compEnvC scope cl C X.env) fp) (nestW X.prog X.w X.A (compEnvC scope cl C X.env) N (.SetComp el (⟨tg, iter, ifs, 0⟩ :: gs) scope pos) nx 0 (.ref D)) (t D) vs2)
    (eqn : ∀ (acc it : Value) (ce : PySem.Env), compTurn (.SetComp el (⟨tg, iter, ifs, 0⟩ :: gs) scope pos) 0 it acc ce = (do
      standAt iter.pos
      match ← pyNext it with
      | none => pure (.done .next)
      | some v =>
        letOwnedTupleGo tg it v
        assign tg ce v
        let mut ok := true
        for q in ifs do
          if ok then ok ← isTrue q ce (eval q ce)
        if ok then
          let x ← eval nx ce
          standAt nx.pos
          let x ← foldedSetIterable nx ce x
          let _ ← runOwn (.compStart (.SetComp el (⟨tg, iter, ifs, 0⟩ :: gs) scope pos) (0 + 1) (← holding [x] (pyIter x)) acc ce) ce
        again (.compLoop (.SetComp el (⟨tg, iter, ifs, 0⟩ :: gs) scope pos) 0 it acc ce)))
    (hs : ∀ x, foldedSetIterable iter X.env x = pure x := by intro _; rfl) (hs1 : ∀ ce x, foldedSetIterable nx ce x = pure x := by intro _ _; rfl) :
    PE X (.SetComp el (⟨tg, iter, ifs, 0⟩ :: gs) scope pos) (tSetN X.w wi g tt t (own.map (·.2))) := by
  constructor
  intro pins s σ H Q I h
  rw [PpSet.eval_SetComp]
  show wpAny (model X.prog X.w) X.A (comprehension (.SetComp el (⟨tg, iter, ifs, 0⟩ :: gs) scope pos) scope X.env _ (newSet (.type "set")) false (eval iter X.env) none) _ X.xe s
  refine wpAny_comprehension_free (use := none) rfl hs (closure_ok (cells_there I ok)) ok.kind (fun y my e => (ok.uniq y my).trans (congrArg some e)) (thn (hi.run pins s σ H _ I h) fun xv s1 hx => thn hx ?_)
  rintro itv s2 ⟨it, fp, tn, J, H2, rfl, I2, T, st, free, q⟩
  refine PpSet.newSet_ok (newEnv_comp ?_)
  obtain ⟨W, ⟨m0, w0⟩, turns⟩ := q s2.heap.objs.size (I2.hok.fresh (Nat.le_refl _))
  have op := Opened.of hN ok T st free rfl (I2.laid (t' := s2.toks) (fun b o e => Heap.get?_push_of_some _ e) (Nat.le_refl _) (setO_new (setR_fresh X.w)))
  have main := loop_nest (pr := X.prog) (wd := X.w) (A := X.A) (R := compPost (model X.prog X.w) X.A X.xe none (EP X pins σ Q) (.ref s2.heap.objs.size) _) (src := iter) (nx := nx) (tg := tg) (fs := ifs) (it := .ref it) (hs1 _) (fun it => eqn _ it _) (Ahead _ [] _ fp tn W)
    (fun n s3 a => op.turn a rfl hc T (hg _ _ _ _ _) (ht _ _ _ _ _) hv turns (hin _ _ _ _ _ _ _) fun G s4 ns I5 hns fC z =>
      ⟨ns, hns, fun h2 sb => ⟨.ref s2.heap.objs.size, G, I5.turned (t' := s4.toks) (fun b o hb e => (sb.2 b hb).trans e) fC.1 fC.2.1 fC.2.2.2.1 fC.2.2.2.2.1 fC.2.2.2.2.2, rfl, z⟩⟩) m0 ⟨0, _, op.inv, op.st, op.no, w0⟩
  exact start_any rfl main (T.self X.A 0 _ _ _ op.st main)
end
end DL
namespace DL
open PySem L2 PySem.Spec PyProof.Rows
theorem wipe_in {σ : L2.St} {i : Nat} : ∀ {vs : List Nat}, i ∈ vs → (L2.wipe σ vs)[i]? = σ[i]?.map fun _ => none
  | v :: vs, h => by
    show ((L2.wipe σ vs).set v none)[i]? = _
    rw [List.getElem?_set]
    by_cases e : v = i
    · subst e
      rw [if_pos rfl, wipe_length]
      by_cases l : v < σ.length
      · rw [if_pos l, List.getElem?_eq_getElem l]
        rfl
      · rw [if_neg l, List.getElem?_eq_none (by omega)]
        rfl
    · rw [if_neg e]
      exact wipe_in ((List.mem_cons.mp h).resolve_left fun z => e z.symm)
theorem wipe_wipe {σ : L2.St} {us vs : List Nat} (h : ∀ i ∈ us, i ∈ vs) : L2.wipe (L2.wipe σ us) vs = L2.wipe σ vs := by
  refine List.ext_getElem? fun i => ?_
  by_cases hi : i ∈ vs
  · rw [wipe_in hi, wipe_in hi]
    by_cases hu : i ∈ us
    · rw [wipe_in hu]
      cases σ[i]? <;> rfl
    · rw [wipe_out hu]
  · rw [wipe_out hi, wipe_out hi, wipe_out fun z => hi (h i z)]
abbrev NM := Env → List Int → (List Int → Env → Prop) → Prop
def insI (k : Int) (acc : List Int) : List Int := if k ∈ acc then acc else acc ++ [k]
abbrev SetD (w : PySem.World) (a : Addr) (acc : List Int) : HO := SetO w a (fun j => decide (j ∈ acc)) acc.length
def nAdd (f : DM) : NM := fun ρ acc K => f ρ fun y ρ' => match y with
  | .int k => acc.length < 64 ∧ K (insI k acc) ρ'
  | _ => False
def lpI (t : TM) (b : BM) (inner : NM) (vs : List Nat) (K : List Int → Env → Prop) : List D → List Int → Env → Prop
  | [], acc, ρ => K acc ρ
  | d :: ds, acc, ρ => t d ρ fun ρ1 => b ρ1 fun k ρ2 => if k = true then inner ρ2 acc fun acc' ρ3 => lpI t b inner vs K ds acc' (wipeE ρ3 vs) else lpI t b inner vs K ds acc (wipeE ρ2 vs)
def nLoop (i : IM) (t : TM) (b : BM) (inner : NM) (vs : List Nat) : NM := fun ρ acc K => i ρ fun ds ρ1 => lpI t b inner vs K ds acc (wipeE ρ1 vs)
section
variable {c : Cn} {w : PySem.World}
def tIn (c : Cn) (w : PySem.World) (vsl : List Nat) (inner : NM) (D : Addr) : L2.St → Hp → (Hp → Prop) → Prop := fun σ H Nx => ∃ F ρ xx acc Kp, Rel c F H σ ρ ((D, .o (SetD w D acc)) :: xx) ∧ inner ρ acc Kp ∧
  ∀ acc' ρ' F' H', Kp acc' ρ' → Ex F F' → Rel c F' H' (L2.wipe σ vsl) ρ' ((D, .o (SetD w D acc')) :: xx) → Nx H'
theorem insI_set {a : Addr} {k : Int} {acc : List Int} : SetO w a (fun j => (fun j => decide (j ∈ acc)) j || decide (j = k)) (if (fun j => decide (j ∈ acc)) k = true then acc.length else acc.length + 1) = SetD w a (insI k acc) := by
  unfold insI
  by_cases h : k ∈ acc
  · rw [if_pos h]
    have e : (fun j => (fun j => decide (j ∈ acc)) j || decide (j = k)) = fun j => decide (j ∈ acc) := funext fun j => by
      by_cases z : j = k
      · subst z
        simp [h]
      · simp [z]
    rw [e, if_pos (by simpa using h)]
  · rw [if_neg h]
    have e : (fun j => (fun j => decide (j ∈ acc)) j || decide (j = k)) = fun j => decide (j ∈ acc ++ [k]) := funext fun j => by
      by_cases z : j = k
      · subst z
        simp
      · simp [z]
    rw [e, if_neg (by simpa using h)]
    unfold SetD
    rw [List.length_append]
    rfl
theorem scan_ok {n : Nat} (h : n < 64) : n + 1 < scanBound := by
  have : 64 < scanBound := by decide +kernel
  omega
theorem putS_use {f : DM} {te : TE} (et : te = tD c f) {D : Addr} : ∀ σ H Nx, tIn c w [] (nAdd f) D σ H Nx → tPutS w D te σ H Nx := by
  subst et
  rintro σ H Nx ⟨F, ρ, xx, acc, Kp, rel, q, k⟩
  refine ⟨F, ρ, _, _, rel, q, ?_⟩
  intro y ρ' v F' H' p e r' a
  cases y with
  | int z =>
    cases a
    obtain ⟨hl, hk⟩ := p
    have hD : H' D = some (SetD w D acc) := (r'.s.ex _ (List.mem_cons_self ..)).1.o
    refine ⟨z, _, _, rfl, hD, scan_ok hl, ?_⟩
    rw [insI_set]
    exact k _ ρ' F' _ hk e (r'.mutX (d' := .o (SetD w D (insI z acc))) upd_same)
  | none => exact p.elim
  | bool _ => exact p.elim
  | str _ => exact p.elim
  | list _ => exact p.elim
  | tuple _ => exact p.elim
  | dict _ => exact p.elim
/-- the loop over a walked list, from its reading in data -/
theorem lpI_use {t : TM} {b : BM} {inner : NM} {vs vs2 js : List Nat} (hj : ∀ j ∈ js, j ∈ vs) (h2 : ∀ j ∈ vs2, j ∈ vs) {Sx : Addr} {J : It} {ds : List D} {F1 H1 : Hp} {σ : L2.St} {xx : XX} {Kp : List Int → Env → Prop} {Stop : Hp → Prop} {ρ1 : Env} {acc1 : List Int}
    (ok : ItOk c J ds F1) (rel : Rel c F1 H1 (L2.wipe σ vs) ρ1 ((Sx, .o (SetD w Sx acc1)) :: xx)) (q : lpI t b inner vs Kp ds acc1 ρ1)
    (hs : ∀ acc' ρ' F' H', Kp acc' ρ' → Ex F1 F' → Rel c F' H' (L2.wipe σ vs) ρ' ((Sx, .o (SetD w Sx acc')) :: xx) → Stop H') :
    ∃ W : Nat → Nat → Hp → Prop, (∃ m, W 0 m H1) ∧ ∀ i m H, W i m H →
      (J.stop i H ∧ Stop H) ∨ (J.go i H ∧ ∃ Nx1 : Hp → Prop, (∀ H', Nx1 H' → ∃ m', m' < m ∧ W (i + 1) m' H') ∧ ∀ x H', J.yld i H x H' → tG c js t x (L2.wipe σ vs) H' fun σ2 H2 => L2.wipe σ2 vs = L2.wipe σ vs ∧ tT c b σ2 H2 fun b H3 => if b = true then tIn c w vs2 inner Sx σ2 H3 Nx1 else Nx1 H3) := by
  refine ⟨fun i m H' => ∃ F' ρ' acc, Ex F1 F' ∧ Rel c F' H' (L2.wipe σ vs) ρ' ((Sx, .o (SetD w Sx acc)) :: xx) ∧ m = ds.length - i ∧ i ≤ ds.length ∧ lpI t b inner vs Kp (ds.drop i) acc ρ', ⟨ds.length, F1, ρ1, acc1, Ex.refl F1, rel, by omega, Nat.zero_le _, by rw [List.drop_zero]; exact q⟩, ?_⟩
  rintro i m H' ⟨F', ρ', acc, e2, r2, rfl, hi, q2⟩
  obtain ⟨o1, o2⟩ := ok i F' H' _ ρ' _ e2 r2
  by_cases hlt : i < ds.length
  · have hd : ds[i]? = some ds[i] := List.getElem?_eq_getElem hlt
    obtain ⟨go, yl⟩ := o1 _ hd
    rw [List.drop_eq_getElem_cons hlt] at q2
    have q2 : t ds[i] ρ' fun ρ1 => b ρ1 fun k ρ2 => if k = true then inner ρ2 acc fun acc' ρ3 => lpI t b inner vs Kp (ds.drop (i + 1)) acc' (wipeE ρ3 vs) else lpI t b inner vs Kp (ds.drop (i + 1)) acc (wipeE ρ2 vs) := q2
    refine .inr ⟨go, fun H2 => ∃ F2 ρ2 acc2, Ex F1 F2 ∧ Rel c F2 H2 (L2.wipe σ vs) ρ2 ((Sx, .o (SetD w Sx acc2)) :: xx) ∧ lpI t b inner vs Kp (ds.drop (i + 1)) acc2 ρ2, fun H2 ⟨F2, ρ2, acc2, a1, a2, a3⟩ => ⟨ds.length - (i + 1), by omega, F2, ρ2, acc2, a1, a2, rfl, by omega, a3⟩, fun x H2 y => ?_⟩
    obtain ⟨F2, e3, r3, a3⟩ := yl x H2 y
    refine ⟨F2, ρ', _, ds[i], _, r3, a3, q2, fun ρ4 σ4 F4 H4 q4 on e4 r4 => ?_⟩
    have hw : L2.wipe σ4 vs = L2.wipe σ vs := by
      rw [on vs hj]
      exact wipe_wipe fun _ z => z
    refine ⟨hw, F4, ρ4, _, _, r4, q4, fun bb ρ5 F5 H5 q5 e5 r5 => ?_⟩
    cases bb with
    | false =>
      rw [if_neg Bool.false_ne_true] at q5
      (rw [if_neg Bool.false_ne_true])
      refine ⟨F5, wipeE ρ5 vs, acc, ((e2.trans e3).trans e4).trans e5, ?_, q5⟩
      have := r5.wipe vs
      rw [hw] at this
      exact this
    | true =>
      rw [if_pos rfl] at q5
      rw [if_pos rfl]
      refine ⟨F5, ρ5, xx, acc, _, r5, q5, fun acc' ρ6 F6 H6 q6 e6 r6 => ?_⟩
      refine ⟨F6, wipeE ρ6 vs, acc', (((e2.trans e3).trans e4).trans e5).trans e6, ?_, q6⟩
      have := r6.wipe vs
      rw [wipe_wipe h2, hw] at this
      exact this
  · have en : i = ds.length := by omega
    subst en
    rw [List.drop_length] at q2
    exact .inl ⟨o2 rfl, hs acc ρ' F' H' q2 e2 r2⟩
theorem nLoop_use {i : IM} {t : TM} {b : BM} {inner : NM} {vs vs2 js : List Nat} {wi : TI} {g : TG} {tt : TT} (hj : ∀ j ∈ js, j ∈ vs) (h2 : ∀ j ∈ vs2, j ∈ vs) (ei : wi = tI c i) (eg : g = tG c js t) (et : tt = tT c b) {D : Addr} :
    ∀ σ H Nx, tIn c w vs (nLoop i t b inner vs) D σ H Nx → tLp wi g tt (tIn c w vs2 inner D) vs σ H Nx := by
  subst ei eg et
  rintro σ H Nx ⟨F, ρ, xx, acc, Kp, rel, q, k⟩
  refine ⟨F, ρ, _, _, rel, q, fun ds ρ1 J F1 H1 q1 e1 r1 ok => ?_⟩
  exact lpI_use hj h2 ok (r1.wipe vs) q1 fun acc' ρ' F' H' a b c => k acc' ρ' F' H' a (e1.trans b) c
/-- sorted({..}) -/
def dSS (i : IM) (t : TM) (b : BM) (inner : NM) (vs : List Nat) : DM := fun ρ P => i ρ fun ds ρ1 => okV ρ1 vs ∧ lpI t b inner vs (fun acc ρ' => acc.length < 64 ∧ ∀ ns : List Int, ns.Pairwise (· < ·) → (∀ k : Int, k ∈ ns ↔ k ∈ acc) → P (.list (ns.map PyData.int)) (backE ρ1 ρ' vs)) ds [] (wipeE ρ1 vs)
theorem ss_use {i : IM} {t : TM} {b : BM} {inner : NM} {vs vs2 js : List Nat} {wi : TI} {g : TG} {tt : TT} (hj : ∀ j ∈ js, j ∈ vs) (h2 : ∀ j ∈ vs2, j ∈ vs) (ei : wi = tI c i) (eg : g = tG c js t) (et : tt = tT c b) :
    ∀ σ H Q, tN c (dSS i t b inner vs) σ H Q → tCB (rSortedSet w) (tCons (tSetN w wi g tt (tIn c w vs2 inner) vs) tNil) σ H Q := by
  subst ei eg et
  rintro σ H Q ⟨F, ρ, xx, P, rel, q, k⟩
  refine ⟨F, ρ, xx, _, rel, q, fun ds ρ1 J F1 H1 ⟨hok, q1⟩ e1 r1 ok D hD => ?_⟩
  obtain ⟨rD, fD⟩ := Fresh.new (o := SetD w D []) (d := .o (SetD w D [])) r1 hD upd_same
  have e0 : SetO w D (fun _ => false) 0 = SetD w D [] := by
    have : (fun _ : Int => false) = fun j => decide (j ∈ ([] : List Int)) := funext fun j => by simp
    rw [this]
    rfl
  rw [e0]
  refine lpI_use hj h2 ok ((rD.pushX fD).wipe vs) q1 ?_
  rintro acc ρ' F' H' ⟨hl, hp⟩ e2 r2
  obtain ⟨r3, f3⟩ := (Rel.back r1 e2 vs ρ' hok r2).popX
  refine ⟨D, _, _, rfl, f3.own.o, hl, fun ns p hs hm _ hpn => ?_⟩
  obtain ⟨r4, f4⟩ := Fresh.new (o := .lst (ns.map V.int)) (d := .d (.list (ns.map PyData.int))) r3 hpn ⟨_, upd_same, AtAll.ofInts ns⟩
  refine k _ _ p F' _ (hp ns hs fun z => ?_) (e1.trans e2) r4 f4
  rw [hm z]
  exact decide_eq_true_iff
end
end DL
namespace DL
open PySem L2 PySem.Spec PyProof.Rows
theorem tI_mono {c : Cn} {i : IM} {σ : L2.St} {H : Hp} {R R' : It → Hp → Prop} (h : ∀ J H, R J H → R' J H) : tI c i σ H R → tI c i σ H R' := fun ⟨F, ρ, xx, P, rel, q, k⟩ => ⟨F, ρ, xx, P, rel, q, fun ds ρ' J F' H' a b d e => h J H' (k ds ρ' J F' H' a b d e)⟩
theorem tG_mono {c : Cn} {js : List Nat} {t : TM} {v : V} {σ : L2.St} {H : Hp} {R R' : L2.St → Hp → Prop} (h : ∀ J H, R J H → R' J H) : tG c js t v σ H R → tG c js t v σ H R' := fun ⟨F, ρ, xx, d, P, rel, a, q, k⟩ => ⟨F, ρ, xx, d, P, rel, a, q, fun ρ' σ' F' H' a b e f => h σ' H' (k ρ' σ' F' H' a b e f)⟩
theorem tT_mono {c : Cn} {t : BM} {σ : L2.St} {H : Hp} {R R' : Bool → Hp → Prop} (h : ∀ J H, R J H → R' J H) : tT c t σ H R → tT c t σ H R' := fun ⟨F, ρ, xx, P, rel, q, k⟩ => ⟨F, ρ, xx, P, rel, q, fun b ρ' F' H' a e f => h b H' (k b ρ' F' H' a e f)⟩
theorem lp_mono {c : Cn} {i : IM} {t : TM} {b : BM} {js vs : List Nat} {u u' : L2.St → Hp → (Hp → Prop) → Prop} (h : ∀ σ H Nx, u σ H Nx → u' σ H Nx) : ∀ σ H Nx, tLp (tI c i) (tG c js t) (tT c b) u vs σ H Nx → tLp (tI c i) (tG c js t) (tT c b) u' vs σ H Nx := by
  intro σ H Nx
  refine tI_mono ?_
  rintro J H1 ⟨W, w0, step⟩
  refine ⟨W, w0, fun i m H w => (step i m H w).imp id ?_⟩
  rintro ⟨go, N1, hN, st⟩
  refine ⟨go, N1, hN, fun x H' y => tG_mono ?_ (st x H' y)⟩
  rintro σ2 H2 ⟨e, q⟩
  refine ⟨e, tT_mono ?_ q⟩
  intro k H3 q
  cases k with
  | false => exact q
  | true => exact h _ _ _ q
end DL
namespace DL
open PySem L2
theorem hd_d {x : D} {as : List Ar} : ((Ar.d x :: as).head?).map isD ≠ some false := by simp [isD]
theorem k_int : kitB "int" "int" = some true := by decide +kernel
theorem k_ib : kitB "int" "bool" = some false := by decide +kernel
theorem k_tt : kitB "tuple" "tuple" = some true := by decide +kernel
/-- a comprehension whose items are told by a function -/
theorem lcL_map {t : TM} {f : DM} {vs : List Nat} {K : List D → DL.Env → Prop} {ρ : DL.Env} (g : D → D) : ∀ (ds acc : List D), (∀ d ∈ ds, ∀ Q : D → DL.Env → Prop, (∀ ρ3, wipeE ρ3 vs = ρ → Q (g d) ρ3) → t d ρ fun ρ1 => f ρ1 Q) → K (acc ++ ds.map g) ρ → lcL t bYes f vs K ds acc ρ
  | [], acc, _, hk => by
    show K acc ρ
    simpa using hk
  | d :: ds, acc, h, hk => by
    refine h d (List.mem_cons_self ..) _ fun ρ3 e => ?_
    show lcL t bYes f vs K ds (acc ++ [g d]) (wipeE ρ3 vs)
    rw [e]
    exact lcL_map g ds (acc ++ [g d]) (fun d' hd => h d' (List.mem_cons_of_mem _ hd)) (by simpa using hk)
end DL
namespace DL
open PySem L2
end DL
namespace DL
open PySem L2
def kC : Key := .inr "cells"
def kL : Key := .inr "left"
def kS : Key := .inr "spot"
structure SrcAt (H : Hp) (q c l : Addr) (cs ls : List Int) (k : Nat) : Prop where
  dq : H q = some (.dK [(kC, .ref c), (kL, .ref l), (kS, .int k)])
  dc : H c = some (.lst (cs.map V.int))
  dl : H l = some (.lst (ls.map V.int))
  ne : c ≠ l
  nc : cs.length ≤ 100
  nl : ls.length ≤ 100
def spotOf : Option HO → Nat
  | some (.dK [_, _, (_, .int k)]) => k.toNat
  | _ => 0
theorem SrcAt.foot {H : Hp} {q c l : Addr} {cs ls : List Int} {k : Nat} (s : SrcAt H q c l cs ls k) {a : Addr} (h : Foot [] (some q) H a) : a = q ∨ a = c ∨ a = l := by
  rcases h with (h | ⟨kvs, y, h1, h2⟩) | ⟨t, ht, _⟩
  · exact .inl h
  · rw [s.dq] at h1
    cases h1
    simp only [List.mem_cons, Prod.mk.injEq, List.not_mem_nil, or_false] at h2
    rcases h2 with ⟨_, h⟩ | ⟨_, h⟩ | ⟨_, h⟩
    · cases h; exact .inr (.inl rfl)
    · cases h; exact .inr (.inr rfl)
    · cases h
  · cases ht
theorem SrcAt.fq {H : Hp} {q : Addr} : Foot [] (some q) H q := .inl (.inl rfl)
theorem SrcAt.fc {H : Hp} {q c l : Addr} {cs ls : List Int} {k : Nat} (s : SrcAt H q c l cs ls k) : Foot [] (some q) H c := .inl (.inr ⟨_, kC, s.dq, List.mem_cons_self ..⟩)
theorem SrcAt.fl {H : Hp} {q c l : Addr} {cs ls : List Int} {k : Nat} (s : SrcAt H q c l cs ls k) : Foot [] (some q) H l := .inl (.inr ⟨_, kL, s.dq, List.mem_cons_of_mem _ (List.mem_cons_self ..)⟩)
theorem foot_two {T : List (Addr × Str)} {H : Hp} {q a : Addr} (h : Foot [] (some q) H a) : Foot T (some q) H a := by
  rcases h with h | ⟨t, ht, _⟩
  · exact .inl h
  · cases ht
theorem foot_parts {T : List (Addr × Str)} {H : Hp} {q a : Addr} (h : Foot T (some q) H a) : Foot [] (some q) H a ∨ ∃ t ∈ T, a = t.1 ∨ ∃ (ps : Array Value) (pos : Pos), H t.1 = some (.tbl ps) ∧ codeAmong pos ps.toList = some (Value.ref a) := h.elim (fun z => .inl (.inl z)) .inr
/-- the tables of code objects, as they stand -/
theorem tabs_al {T : List (Addr × Str)} {H : Hp} {a : Addr} (t : LamX.Tabs T H) (h : ∃ t ∈ T, a = t.1 ∨ ∃ (ps : Array Value) (pos : Pos), H t.1 = some (.tbl ps) ∧ codeAmong pos ps.toList = some (Value.ref a)) : (∃ ps, H a = some (.tbl ps)) ∨ ∃ x, H a = some (LamX.CodeO a x) := by
  obtain ⟨p, hp, h⟩ := h
  obtain ⟨ps, h1, h2, h3⟩ := t p hp
  rcases h with rfl | ⟨ps', pos, h, hm⟩
  · exact .inl ⟨ps, h1⟩
  · rw [h1] at h
    cases h
    obtain ⟨c, e1, e2⟩ := h3 pos _ hm
    cases e1
    exact .inr ⟨_, e2⟩
theorem tabs_keep {T : List (Addr × Str)} {H H' : Hp} (t : LamX.Tabs T H) (k : ∀ a, (∃ t ∈ T, a = t.1 ∨ ∃ (ps : Array Value) (pos : Pos), H t.1 = some (.tbl ps) ∧ codeAmong pos ps.toList = some (Value.ref a)) → H' a = H a) : LamX.Tabs T H' := fun p hp => by
  obtain ⟨ps, h1, h2, h3⟩ := t p hp
  refine ⟨ps, (k p.1 ⟨p, hp, .inl rfl⟩).trans h1, h2, fun pos cv hc => ?_⟩
  (obtain ⟨c, e1, e2⟩ := h3 pos cv hc)
  subst e1
  exact ⟨c, rfl, (k c ⟨p, hp, .inr ⟨ps, pos, h1, hc⟩⟩).trans e2⟩
def srcOrcT (T : List (Addr × Str)) : Orc where
  T := T
  I q H := (∃ c l cs ls k, SrcAt H q c l cs ls k) ∧ LamX.Tabs T H
  cnt q H := spotOf (H q)
  al q H a h f := by
    obtain ⟨⟨c, l, cs, ls, k, s⟩, t⟩ := h
    rcases foot_parts f with f | f
    · rcases s.foot f with rfl | rfl | rfl
      · rw [s.dq]; exact Option.some_ne_none _
      · rw [s.dc]; exact Option.some_ne_none _
      · rw [s.dl]; exact Option.some_ne_none _
    · rcases tabs_al t f with ⟨_, e⟩ | ⟨_, e⟩
      · rw [e]; exact Option.some_ne_none _
      · rw [e]; exact Option.some_ne_none _
  st q H H' h e := by
    obtain ⟨⟨c, l, cs, ls, k, s⟩, t⟩ := h
    exact ⟨⟨c, l, cs, ls, k, ⟨(e q (foot_two SrcAt.fq)).trans s.dq, (e c (foot_two s.fc)).trans s.dc, (e l (foot_two s.fl)).trans s.dl, s.ne, s.nc, s.nl⟩⟩, tabs_keep t fun a h => e a (.inr h)⟩
  sc q H H' h e := by rw [e q (foot_two SrcAt.fq)]
abbrev srcOrc : Orc := srcOrcT []
/-- H' is H but for the source, which may have new parts -/
structure Tou (q : Addr) (H H' : Hp) : Prop where
  kp : ∀ a, H a ≠ none → ¬ Foot [] (some q) H a → H' a = H a
  dom : ∀ a, H a ≠ none → H' a ≠ none
  ft : ∀ a, Foot [] (some q) H' a → Foot [] (some q) H a ∨ H a = none
theorem Tou.refl {q : Addr} {H : Hp} : Tou q H H := ⟨fun _ _ _ => rfl, fun _ h => h, fun _ h => .inl h⟩
theorem Tou.trans {q : Addr} {H H' H'' : Hp} (a : Tou q H H') (b : Tou q H' H'') : Tou q H H'' := by
  refine ⟨fun x h f => ?_, fun x h => b.dom x (a.dom x h), fun x h => ?_⟩
  · rw [b.kp x (a.dom x h) fun z => (a.ft x z).elim f h, a.kp x h f]
  · rcases b.ft x h with h | h
    · exact a.ft x h
    · refine .inr ?_
      cases z : H x with
      | none => rfl
      | some o => exact absurd h (a.dom x (by rw [z]; exact Option.some_ne_none o))
/-- what is of the tables is not of the source -/
theorem tab_no {T : List (Addr × Str)} {H : Hp} {q c l a : Addr} {cs ls : List Int} {k : Nat} (s : SrcAt H q c l cs ls k) (t : LamX.Tabs T H) (h : ∃ t ∈ T, a = t.1 ∨ ∃ (ps : Array Value) (pos : Pos), H t.1 = some (.tbl ps) ∧ codeAmong pos ps.toList = some (Value.ref a)) : H a ≠ none ∧ ¬ Foot [] (some q) H a := by
  have tl := tabs_al t h
  refine ⟨fun z => ?_, fun f => ?_⟩
  · rcases tl with ⟨_, e⟩ | ⟨_, e⟩ <;> rw [e] at z <;> cases z
  · rcases s.foot f with rfl | rfl | rfl
    · rcases tl with ⟨_, e⟩ | ⟨_, e⟩ <;> rw [s.dq] at e <;> cases e
    · rcases tl with ⟨_, e⟩ | ⟨_, e⟩ <;> rw [s.dc] at e <;> cases e
    · rcases tl with ⟨_, e⟩ | ⟨_, e⟩ <;> rw [s.dl] at e <;> cases e
theorem Tou.world {T : List (Addr × Str)} {q : Addr} {F H H' : Hp} (t : Tou q H H') (w : World (srcOrcT T) (some q) F H F H) (i : ∃ c l cs ls k, SrcAt H' q c l cs ls k) : World (srcOrcT T) (some q) F H F H' := by
  have al : ∀ a, F a ≠ none → H a ≠ none := fun a h z => by
    cases e : F a with
    | none => exact h e
    | some o =>
      have := w.fh a o e
      rw [z] at this
      cases this
  obtain ⟨⟨c, l, cs, ls, k, s⟩, tb⟩ := w.or q rfl
  have same : ∀ a, (∃ t ∈ T, a = t.1 ∨ ∃ (ps : Array Value) (pos : Pos), H t.1 = some (.tbl ps) ∧ codeAmong pos ps.toList = some (Value.ref a)) → H' a = H a := fun a h => t.kp a (tab_no s tb h).1 (tab_no s tb h).2
  have ft : ∀ a, Foot T (some q) H' a → Foot T (some q) H a ∨ H a = none := fun a z => by
    rcases foot_parts z with z | ⟨y, hy, z⟩
    · exact (t.ft a z).imp foot_two id
    · rw [same y.1 ⟨y, hy, .inl rfl⟩] at z
      exact .inl (.inr ⟨y, hy, z⟩)
  have kp : ∀ a, H a ≠ none → ¬ Foot T (some q) H a → H' a = H a := fun a h f => t.kp a h fun z => f (foot_two z)
  refine ⟨Ex.refl F, fun a o e => ?_, fun a o e f => ⟨?_, fun z => ?_⟩, t.dom, fun _ _ e => e, fun a h z => ?_, fun y e => ?_⟩
  · have h0 : F a ≠ none := by rw [e]; exact Option.some_ne_none o
    rw [kp a (al a h0) (w.ft a h0)]
    exact w.fh a o e
  · rw [kp a (by rw [e]; exact Option.some_ne_none o) f]
    exact e
  · rcases ft a z with z | z
    · exact f z
    · rw [e] at z
      cases z
  · rcases ft a z with z | z
    · exact w.ft a h z
    · exact al a h z
  · cases e
    exact ⟨i, tabs_keep tb same⟩
/-- a new object -/
theorem Tou.new {q p : Addr} {o : HO} {H : Hp} (hp : H p = none) (hq : H q ≠ none) : Tou q H (upd H p o) := by
  have nq : q ≠ p := fun z => hq (by rw [z]; exact hp)
  refine ⟨fun a h _ => upd_ne fun z => h (by rw [z]; exact hp), fun a h => ?_, fun a h => .inl ?_⟩
  · by_cases z : a = p
    · exact absurd (by rw [z]; exact hp) h
    · rw [upd_ne z]
      exact h
  · exact (Foot.eqv (T := []) (p := some q) (fun y e => by cases e; exact upd_ne nq) (fun _ _ ht => nomatch ht) a).mp h
theorem SrcAt.new {H : Hp} {q c l p : Addr} {cs ls : List Int} {k : Nat} {o : HO} (s : SrcAt H q c l cs ls k) (hp : H p = none) : SrcAt (upd H p o) q c l cs ls k :=
  ⟨(upd_ne (ne_of_none s.dq hp)).trans s.dq, (upd_ne (ne_of_none s.dc hp)).trans s.dc, (upd_ne (ne_of_none s.dl hp)).trans s.dl, s.ne, s.nc, s.nl⟩
/-- the list of great ones is another -/
theorem SrcAt.setL {H : Hp} {q c l l' : Addr} {cs ls ls' : List Int} {k : Nat} (s : SrcAt H q c l cs ls k) (h : H l' = some (.lst (ls'.map V.int))) (n : c ≠ l') (z : ls'.length ≤ 100) : SrcAt (upd H q (.dK [(kC, .ref c), (kL, .ref l'), (kS, .int k)])) q c l' cs ls' k := by
  have qc : c ≠ q := fun e => by have := s.dc; rw [e, s.dq] at this; cases this
  have ql : l' ≠ q := fun e => by rw [e, s.dq] at h; cases h
  exact ⟨upd_same, (upd_ne qc).trans s.dc, (upd_ne ql).trans h, n, s.nc, z⟩
theorem SrcAt.setS {H : Hp} {q c l : Addr} {cs ls : List Int} {k : Nat} (s : SrcAt H q c l cs ls k) (k' : Nat) : SrcAt (upd H q (.dK [(kC, .ref c), (kL, .ref l), (kS, .int k')])) q c l cs ls k' := by
  have qc : c ≠ q := fun e => by have := s.dc; rw [e, s.dq] at this; cases this
  have ql : l ≠ q := fun e => by have := s.dl; rw [e, s.dq] at this; cases this
  exact ⟨upd_same, (upd_ne qc).trans s.dc, (upd_ne ql).trans s.dl, s.ne, s.nc, s.nl⟩
theorem SrcAt.setV {H : Hp} {q c l : Addr} {cs ls : List Int} {k : Nat} (s : SrcAt H q c l cs ls k) (ls' : List Int) (z : ls'.length ≤ 100) : SrcAt (upd H l (.lst (ls'.map V.int))) q c l cs ls' k := by
  have ql : q ≠ l := fun e => by have := s.dl; rw [← e, s.dq] at this; cases this
  exact ⟨(upd_ne ql).trans s.dq, (upd_ne s.ne).trans s.dc, upd_same, s.ne, s.nc, z⟩
/-- a store into the dict, or into its list -/
theorem Tou.putQ {H : Hp} {q c l l' : Addr} {cs ls : List Int} {k : Nat} {v : V} (s : SrcAt H q c l cs ls k) (hl : l' = l ∨ H l' = none) (nv : ∀ a, v ≠ .ref a) : Tou q H (upd H q (.dK [(kC, .ref c), (kL, .ref l'), (kS, v)])) := by
  refine ⟨fun a h f => upd_ne fun z => f (by rw [z]; exact SrcAt.fq), fun a h => ?_, fun a h => ?_⟩
  · by_cases z : a = q
    · rw [z, upd_same]; exact Option.some_ne_none _
    · rw [upd_ne z]; exact h
  · rcases h with (h | ⟨kvs, y, h1, h2⟩) | ⟨_, ht, _⟩
    · exact .inl (.inl (.inl h))
    · rw [upd_same] at h1
      cases h1
      simp only [List.mem_cons, Prod.mk.injEq, List.not_mem_nil, or_false] at h2
      rcases h2 with ⟨_, h⟩ | ⟨_, h⟩ | ⟨_, h⟩
      · cases h; exact .inl s.fc
      · cases h
        rcases hl with hl | hl
        · rw [hl]; exact .inl s.fl
        · exact .inr hl
      · exact absurd h.symm (nv a)
    · cases ht
theorem Tou.putL {H : Hp} {q c l : Addr} {cs ls : List Int} {k : Nat} {o : HO} (s : SrcAt H q c l cs ls k) : Tou q H (upd H l o) := by
  have ql : q ≠ l := fun e => by have := s.dl; rw [← e, s.dq] at this; cases this
  refine ⟨fun a h f => upd_ne fun z => f (by rw [z]; exact s.fl), fun a h => ?_, fun a h => .inl ?_⟩
  · by_cases z : a = l
    · rw [z, upd_same]; exact Option.some_ne_none _
    · rw [upd_ne z]; exact h
  · exact (Foot.eqv (T := []) (p := some q) (fun y e => by cases e; exact upd_ne ql) (fun _ _ ht => nomatch ht) a).mp h
theorem SrcAt.spot {T : List (Addr × Str)} {H : Hp} {q c l : Addr} {cs ls : List Int} {k : Nat} (s : SrcAt H q c l cs ls k) : (srcOrcT T).cnt q H = k := by
  show spotOf (H q) = k
  rw [s.dq]
  rfl
theorem okD_ints (ns : List Int) : okD (.list (ns.map PyData.int)) := by
  have h1 : ∀ ms : List Int, PyData.canLayAll0 (ms.map PyData.int) = true := fun ms => by
    induction ms with
    | nil => rfl
    | cons m r ih => exact Bool.and_eq_true_iff.mpr ⟨rfl, ih⟩
  have h2 : ∀ ms : List Int, PyData.depthAll (ms.map PyData.int) ≤ 1 := fun ms => by
    induction ms with
    | nil => simp [PyData.depthAll]
    | cons m r ih => simp only [List.map_cons, PyData.depthAll, PyData.depth]; omega
  show SeqAt.shaped _ = true
  unfold SeqAt.shaped
  rw [Bool.and_eq_true_iff]
  refine ⟨h1 ns, decide_eq_true ?_⟩
  simp only [PyData.depth]
  have := h2 ns
  omega
theorem dp_ints {K : PySem.W.Frag} {H : Hp} {a : Addr} {ns : List Int} (h : H a = some (.lst (ns.map V.int))) : Dp K H (.ref a) (.list (ns.map PyData.int)) :=
  (At.lst (.inl (.inl h)) (AtAll.ofInts ns)).dp (okD_ints ns).nod
theorem eqv_nil (ns : List Int) : PyData.eqv (.list (ns.map PyData.int)) (.list []) = decide (ns = []) := by
  cases ns <;> rfl
end DL
namespace DL
open PySem L2
section
variable {H : Hp} {q c l : Addr} {cs ls : List Int} {k : Nat} {σ : L2.St} {Q : VK}
theorem rdC (s : SrcAt H q c l cs ls k) (h0 : σ[0]? = some (some (.ref q))) (h : Q (.ref c) H) : tDGet (tVar 0) (tC (.str "cells")) σ H Q := ⟨_, h0, q, _, rfl, DGet.k (k := kC) s.dq, h⟩
theorem rdL (s : SrcAt H q c l cs ls k) (h0 : σ[0]? = some (some (.ref q))) (h : Q (.ref l) H) : tDGet (tVar 0) (tC (.str "left")) σ H Q := ⟨_, h0, q, _, rfl, DGet.k (k := kL) s.dq, h⟩
theorem rdS (s : SrcAt H q c l cs ls k) (h0 : σ[0]? = some (some (.ref q))) (h : Q (.int k) H) : tDGet (tVar 0) (tC (.str "spot")) σ H Q := ⟨_, h0, q, _, rfl, DGet.k (k := kS) s.dq, h⟩
end
end DL
namespace DL
open PySem L2
def leftLen (q : Addr) (H : Hp) : Nat := match H q with
  | some (.dK [_, (_, .ref l), _]) => (match H l with
    | some (.lst xs) => xs.length
    | _ => 0)
  | _ => 0
theorem SrcAt.len {H : Hp} {q c l : Addr} {cs ls : List Int} {k : Nat} (s : SrcAt H q c l cs ls k) : leftLen q H = ls.length := by
  unfold leftLen
  rw [s.dq]
  simp only
  rw [s.dl]
  simp
abbrev gtL : TE := tDGet (tVar 0) (tC (.str "left"))
abbrev gtC : TE := tDGet (tVar 0) (tC (.str "cells"))
section
variable {K : PySem.W.Frag} {q c l : Addr} {cs ls : List Int} {k : Nat} {H H0 : Hp} {σ : L2.St}
/-- d["left"] != [] -/
theorem ne_left {Q : Bool → Hp → Prop} (s : SrcAt H q c l cs ls k) (h0 : σ[0]? = some (some (.ref q))) (h : ∀ H', SrcAt H' q c l cs ls k → Tou q H H' → Q (decide (ls ≠ [])) H') : tTest (tOp (rNeD K) gtL (tLst tNil)) σ H Q := by
  refine rdL s h0 ⟨Nat.zero_le _, fun p hp => ?_⟩
  have s1 : SrcAt (upd H p (.lst [])) q c l cs ls k := s.new hp
  refine ⟨_, _, dp_ints s1.dl, dp_ints (ns := []) upd_same, okD_ints ls, okD_ints [], _, rfl, ?_⟩
  have e : (!PyData.eqv (.list (ls.map PyData.int)) (.list ([].map PyData.int))) = decide (ls ≠ []) := by
    cases ls <;> rfl
  rw [e]
  exact h _ s1 (Tou.new hp (by rw [s.dq]; exact Option.some_ne_none _))
theorem ne_cells {Q : Bool → Hp → Prop} (s : SrcAt H q c l cs ls k) (h0 : σ[0]? = some (some (.ref q))) (h : ∀ H', SrcAt H' q c l cs ls k → Tou q H H' → Q (decide (cs ≠ [])) H') : tTest (tOp (rNeD K) gtC (tLst tNil)) σ H Q := by
  refine rdC s h0 ⟨Nat.zero_le _, fun p hp => ?_⟩
  have s1 : SrcAt (upd H p (.lst [])) q c l cs ls k := s.new hp
  refine ⟨_, _, dp_ints s1.dc, dp_ints (ns := []) upd_same, okD_ints cs, okD_ints [], _, rfl, ?_⟩
  have e : (!PyData.eqv (.list (cs.map PyData.int)) (.list ([].map PyData.int))) = decide (cs ≠ []) := by
    cases cs <;> rfl
  rw [e]
  exact h _ s1 (Tou.new hp (by rw [s.dq]; exact Option.some_ne_none _))
theorem put_kS {c l : Addr} {k : Nat} {v : V} : putK [(kC, V.ref c), (kL, V.ref l), (kS, V.int k)] kS v = [(kC, V.ref c), (kL, V.ref l), (kS, v)] := rfl
theorem small3 : 3 < sizeLine := by decide +kernel
theorem next_while {U : TS} {D0 : Ends} (s : SrcAt H q c l cs ls k) (h0 : σ[0]? = some (some (.ref q))) (hU : ∀ l ls H', SrcAt H' q c l cs ls k → Tou q H H' → U D0 σ H') :
    tSeq (tWhile (tAnd (tTest (tOp (rNeD K) gtL (tLst tNil))) (tTest (tOp rEq (tOp (rIxL K) gtL (tC (.int 0))) (tC (.int 0))))) (sDPut (tVar 0) (tC (.str "left")) (tSl (rSlL K) gtL (tPart (tC (.int 1))) tNoPart))) U D0 σ H := by
  refine ⟨fun m σ' H' => σ' = σ ∧ ∃ l ls, SrcAt H' q c l cs ls k ∧ Tou q H H' ∧ m = ls.length, ⟨_, rfl, l, ls, s, .refl, rfl⟩, ?_⟩
  rintro m σ' H' ⟨rfl, l1, ls1, s1, t1, rfl⟩
  refine ne_left s1 h0 fun H2 s2 t2 => ?_
  cases ls1 with
  | nil => exact hU _ _ _ s2 (t1.trans t2)
  | cons x r =>
    show tTest (tOp rEq (tOp (rIxL K) gtL (tC (.int 0))) (tC (.int 0))) σ' H2 _
    refine rdL s2 h0 ⟨l1, _, 0, .int x, rfl, rfl, SqL.of s2.dl, by simp [atI, ixN], rfl, _, rfl, ?_⟩
    by_cases hx : x = 0
    · subst hx
      show if decide (V.int 0 = V.int 0) = true then _ else _
      rw [if_pos (decide_eq_true rfl)]
      refine ⟨fun σ3 H3 => σ3 = σ' ∧ ∃ l, SrcAt H3 q c l cs r k ∧ Tou q H H3, fun σ3 H3 ⟨e, l3, s3, t3⟩ => ⟨r.length, Nat.lt_succ_self _, e, l3, r, s3, t3, rfl⟩, ?_⟩
      refine rdL s2 h0 ⟨1, rfl, l1, _, rfl, SqL.of s2.dl, fun p hp => ?_⟩
      have ec : cutV ((0 :: r).map V.int) (some 1) none = r.map V.int := by
        have := s2.nl
        unfold cutV
        have e1 : HT.sIx ((0 :: r).map V.int).length 0 (some 1) = 1 := by
          unfold HT.sIx
          simp
        have e2 : HT.sIx ((0 :: r).map V.int).length ((0 :: r).map V.int).length none = ((0 :: r).map V.int).length := rfl
        rw [e1, e2]
        simp
        (exact List.take_of_length_le (by simp))
      rw [ec]
      have s3 : SrcAt (upd H2 p (.lst (r.map V.int))) q c l1 cs (0 :: r) k := s2.new hp
      have np : c ≠ p := ne_of_none s2.dc hp
      refine ⟨.ref q, h0, q, _, rfl, DPut.k (k := kL) s3.dq small3, rfl, p, s3.setL upd_same np (by have := s2.nl; simp at this; omega), ?_⟩
      have t3 : Tou q H2 (upd H2 p (.lst (r.map V.int))) := Tou.new hp (by rw [s2.dq]; exact Option.some_ne_none _)
      have t4 : Tou q H2 (upd (upd H2 p (.lst (r.map V.int))) q (.dK [(kC, .ref c), (kL, .ref p), (kS, .int k)])) := by
        have pq : p ≠ q := fun z => by rw [z, s2.dq] at hp; cases hp
        have ex : upd (upd H2 p (.lst (r.map V.int))) q (.dK [(kC, .ref c), (kL, .ref p), (kS, .int k)]) = upd (upd H2 q (.dK [(kC, .ref c), (kL, .ref p), (kS, .int k)])) p (.lst (r.map V.int)) := by
          funext a
          by_cases z : a = q
          · rw [z, upd_same, upd_ne pq.symm, upd_same]
          · rw [upd_ne z]
            by_cases y : a = p
            · rw [y, upd_same, upd_same]
            · rw [upd_ne y, upd_ne y, upd_ne z]
        rw [ex]
        exact (Tou.putQ (v := .int k) s2 (.inr hp) (fun _ z => by cases z)).trans (Tou.new (by rw [upd_ne pq]; exact hp) (by rw [upd_same]; exact Option.some_ne_none _))
      exact (t1.trans t2).trans t4
    · show if decide (V.int x = V.int 0) = true then _ else _
      rw [if_neg (by simpa using hx)]
      exact hU _ _ _ s2 (t1.trans t2)
end
end DL
namespace DL
open PySem L2
abbrev rIntT : List V → Hp → VK → Prop := fun xs H Q => (∃ i, xs = [.int i] ∧ Q (.int i) H) ∨ ∃ k, xs = [.bl k] ∧ Q (.int (if k then 1 else 0)) H
abbrev rLenS (K : PySem.W.Frag) : List V → Hp → VK → Prop := fun xs H Q => ∃ p ys, xs = [.ref p] ∧ (SqL K H p ys ∨ SqT K H p ys) ∧ Q (.int ys.length) H
theorem atI_some {cs : List Int} {j : Int} (h : cs ≠ []) : ∃ z, atI (cs.map V.int) (j % (((cs.map V.int).length : Nat) : Int)) = some (V.int z) := by
  have hp : 0 < cs.length := List.length_pos_iff.mpr h
  rw [List.length_map]
  have a := Int.emod_nonneg j (b := (cs.length : Int)) (by omega)
  have b := Int.emod_lt_of_pos j (b := (cs.length : Int)) (by omega)
  generalize j % (cs.length : Int) = i at a b
  have hi : i.toNat < cs.length := by omega
  refine ⟨cs[i.toNat], ?_⟩
  unfold atI ixN
  rw [if_pos a, if_pos (by rw [List.length_map]; exact b)]
  show (cs.map V.int)[i.toNat]? = _
  (rw [List.getElem?_map, List.getElem?_eq_getElem hi])
  rfl
section
variable {K : PySem.W.Frag} {q c l : Addr} {cs ls : List Int} {k : Nat} {H H0 : Hp} {σ : L2.St}
theorem cell_use {j : Int} {Q : VK} (s : SrcAt H q c l cs ls k) (h0 : σ[0]? = some (some (.ref q))) (h2 : σ[2]? = some (some (.int j))) (h : ∀ z H', SrcAt H' q c l cs ls k → Tou q H H' → Q (.int z) H') :
    tIf (tTest (tOp (rNeD K) gtC (tLst tNil))) (tOp (rIxL K) gtC (tOp (rI (fun _ j => 0 < j) fun i j => .int (i % j)) (tCB rIntT (tCons (tVar 2) tNil)) (tCB (rLenS K) (tCons gtC tNil)))) (tC (.int 23)) σ H Q := by
  refine ne_cells s h0 fun H1 s1 t1 => ?_
  by_cases e : cs = []
  · show if decide (cs ≠ []) = true then _ else _
    rw [if_neg (by simpa using e)]
    exact h 23 H1 s1 t1
  · show if decide (cs ≠ []) = true then _ else _
    (rw [if_pos (decide_eq_true e)])
    obtain ⟨z, hz⟩ := atI_some (j := j) e
    refine rdC s1 h0 ⟨_, h2, .inl ⟨_, rfl, ?_⟩⟩
    refine rdC s1 h0 ⟨c, _, rfl, .inl (SqL.of s1.dc), ?_⟩
    (refine ⟨_, _, rfl, rfl, ?_, ?_⟩)
    · show (0 : Int) < ((cs.map V.int).length : Nat)
      rw [List.length_map]
      have := List.length_pos_iff.mpr e
      omega
    · exact ⟨c, _, _, _, rfl, rfl, SqL.of s1.dc, hz, h z H1 s1 t1⟩
end
end DL
namespace DL
open PySem L2
def spBegun (K : PySem.W.Frag) : Sp := fun vs H Q _ => ∃ (a : Addr) (ns : List Int), vs = [.ref a] ∧ SqL K H a (ns.map V.int) ∧ ns.length ≤ 63 ∧
  ∀ q c l cs ls H', (∀ b o, H b = some o → H' b = some o) → H q = none → H c = none → H l = none → SrcAt H' q c l cs ls 0 → Q (.ref q) H'
theorem disp_use {K : PySem.W.Frag} {σ : L2.St} {ρ : Env} {H : Hp} {f1 f2 : DM} {te1 te2 : TE} {ns ms : List Int} {Q : VK} (r : Rel ⟨K, Orc.nil, none, H, H⟩ H H σ ρ []) (e1 : te1 = tN ⟨K, Orc.nil, none, H, H⟩ f1) (e2 : te2 = tN ⟨K, Orc.nil, none, H, H⟩ f2)
    (h1 : f1 ρ fun d ρ1 => d = .list (ns.map PyData.int) ∧ f2 ρ1 fun d2 _ => d2 = .list (ms.map PyData.int)) (hn : ns.length ≤ 100) (hm : ms.length ≤ 100)
    (k : ∀ q c l H', (∀ b o, H b = some o → H' b = some o) → H q = none → H c = none → H l = none → SrcAt H' q c l ns ms 0 → Q (.ref q) H') :
    tDisp [(tC (.str "cells"), te1), (tC (.str "left"), te2), (tC (.str "spot"), tC (.int 0))] σ H Q := by
  subst e1 e2
  intro p hp
  obtain ⟨r1, fp⟩ := Fresh.new (o := .dK []) (d := .o (.dK [])) r hp upd_same
  refine ⟨H, ρ, _, _, r1.pushX fp, h1, ?_⟩
  rintro d1 ρ1 a1 F1 H1 ⟨rfl, h2⟩ ex1 r2 f1'
  refine ⟨F1, ρ1, _, _, r2.pushX f1', h2, ?_⟩
  rintro d2 ρ2 a2 F2 H2 rfl ex2 r3 f2'
  have r4 := r3.pushX f2'
  have xp := r4.s.ex (p, .o (.dK [])) (by simp)
  have x1 := r4.s.ex (a1, .d (.list (ns.map PyData.int))) (by simp)
  have x2 := r4.s.ex (a2, .d (.list (ms.map PyData.int))) (by simp)
  have nd := r4.s.xd
  simp only [List.map_cons, List.map_nil, List.nodup_cons, List.mem_cons, List.not_mem_nil, or_false, not_or] at nd
  obtain ⟨v1, g1, t1⟩ := x1.1.o
  obtain ⟨v2, g2, t2⟩ := x2.1.o
  have q1 := t1.ints
  have q2 := t2.ints
  subst q1 q2
  refine ⟨xp.1.o, [(kC, .ref a1), (kL, .ref a2), (kS, .int 0)], rfl, (by show 3 ≤ 15; omega), ?_⟩
  have kp : ∀ b o, H b = some o → H2 b = some o := fun b o e => (r4.w.kp b o e fun z => z).1
  refine k p a1 a2 _ (fun b o e => ?_) hp x1.1.y x2.1.y ⟨?_, ?_, ?_, ?_, hn, hm⟩
  · rw [upd_ne (ne_of_none e hp)]
    exact kp b o e
  · rw [upd_same]
    rfl
  · rw [upd_ne (fun z => nd.2.1 z)]
    exact g1
  · rw [upd_ne (fun z => nd.1.2 z)]
    exact g2
  · exact fun z => nd.1.1 z.symm
/-- what stands in the two lists -/
def great (ns : List Int) : List Int := ns.filter fun x => decide (1000000000000000000 ≤ x)
theorem made_data (ns : List Int) (h : ns.length ≤ 63) : dCB gList (DL.gCons (hS 0) DL.gNil) [.im (.list (ns.map PyData.int)), .no] fun d ρ1 => d = .list (ns.map PyData.int) ∧
    dLc (iSeq (dV 0)) (gN 1) (bD (d2 gGe (hS 1) (hV (d2 gPow (hV (dC (.int 10))) (hV (dC (.int 18))))))) (dV 1) [1] ρ1 fun d2 _ => d2 = .list ((great ns).map PyData.int) := by
  refine ⟨trivial, rfl, ?_⟩
  have ew : (10 : Int) ^ (18 : Int).toNat = 1000000000000000000 := by decide
  have step : ∀ (ms : List Int) (acc : List D) (Kp : List D → Env → Prop), Kp (acc ++ (great ms).map PyData.int) [.im (.list (ns.map PyData.int)), .no] →
      lcL (gN 1) (bD (d2 gGe (hS 1) (hV (d2 gPow (hV (dC (.int 10))) (hV (dC (.int 18))))))) (dV 1) [1] Kp (ms.map PyData.int) acc [.im (.list (ns.map PyData.int)), .no] := by
    intro ms
    induction ms with
    | nil =>
      intro acc Kp h
      show Kp acc _
      simpa [great] using h
    | cons x r ih =>
      intro acc Kp h
      refine ⟨trivial, ⟨by decide, by decide, by decide⟩, ?_⟩
      show if decide ((10 : Int) ^ (18 : Int).toNat ≤ x) = true then _ else _
      rw [ew]
      by_cases hx : 1000000000000000000 ≤ x
      · rw [if_pos (decide_eq_true hx)]
        refine ih (acc ++ [.int x]) Kp ?_
        have : great (x :: r) = x :: great r := by simp [great, hx]
        rw [this] at h
        simpa using h
      · rw [if_neg (by simpa using hx)]
        refine ih acc Kp ?_
        have : great (x :: r) = great r := by simp [great, hx]
        rw [this] at h
        exact h
  refine ⟨by rw [List.length_map]; omega, ⟨by simp, fun j hj => ?_⟩, step ns [] _ ?_⟩
  · simp only [List.mem_singleton] at hj
    subst hj
    rfl
  · simp
theorem great_len (ns : List Int) : (great ns).length ≤ ns.length := List.length_filter_le _ _
end DL
namespace DL
open PySem L2
end DL
namespace DL
open PySem L2
end DL
namespace DL
open PySem L2
end DL
namespace DL
open PySem L2
section
variable {X : Cx} {c : Cn}
theorem atAll_dp {K : PySem.W.Frag} {H : Hp} : ∀ {vs : List V} {ds : List D}, AtAll K H vs ds → nodAll ds = true → DpAll K H vs ds
  | _, _, .nil, _ => .nil
  | _, _, .cons h t, e => by
    simp only [nodAll, Bool.and_eq_true] at e
    exact .cons (h.dp e.1) (atAll_dp t e.2)
def rSumT (K : PySem.W.Frag) : List V → Hp → VK → Prop := fun vs H Q => ∃ (a : Addr) (ns : List Int), vs = [V.ref a] ∧ SqT K H a (ns.map V.int) ∧ Q (.int ns.sum) H
open PyProof.Rows in
theorem call_sumT (hc : X.calm = true) : CallR X (.builtin "sum") (rSumT X.K) := by
  (intro pins s σ H vs us Q I r h)
  (obtain ⟨a, ns, rfl, hs, q⟩ := h)
  obtain ⟨its, rv, ⟨o, ho, hoc, n, hd⟩, _⟩ := I.tuple hs
  rw [Vals.ref1 r]
  have hi := rv.ints
  have hl : s.heap.IsTuple a its.toArray := ⟨o, ho, hoc, n, hd⟩
  (obtain ⟨xs, e⟩ := hi.allInts.items)
  (have hn : numsOf (intItems xs).toList = ns := by rw [← e]; exact hi.numsOf)
  rw [nums_intItems] at hn
  rw [e] at hl
  refine PySem.W.ktm_sumG (I.ok.hd hc) hl fun h' tk t' hk => ?_
  refine ⟨.int _, H, I.kept hk, ⟨_, rfl⟩, ?_⟩
  (rw [preSum_eq, List.take_of_length_le (by simp), hn])
  exact q
def gSum2 : GC := fun ds P => match ds with
  | [.tuple xs] => ∃ ns, ofInts xs = some ns ∧ P (.int ns.sum)
  | ds => gSum ds P
theorem sem_sum2 (hK : X.K = c.K) (hc : X.calm = true) : SemC X c (.builtin "sum") gSum2 :=
  ⟨_, CallR.or (cr_sum hc) (call_sumT hc), fun F H σ ρ xx ds vs P Q r bs g k => by
    unfold gSum2 at g
    split at g
    · obtain ⟨v, rfl, b⟩ := pr1 bs
      obtain ⟨ns, hn, g⟩ := g
      obtain ⟨a, ys, rfl, _, s1, t1⟩ := bo_tup r.w.fh b
      rw [ofInts_eq hn] at t1
      rw [t1.ints] at s1
      exact .inr ⟨a, ns, rfl, by rw [hK]; exact s1, k _ _ F H g (Ex.refl F) r (.int _)⟩
    · obtain ⟨a, ns, rfl, s1, g⟩ := gil_use r bs g
      exact .inl ⟨a, ns, rfl, by rw [hK]; exact s1, k _ _ F H g (Ex.refl F) r (.int _)⟩⟩
end
end DL
namespace DL
open PySem L2
structure SrcB (H : Hp) (q c l : Addr) (cs ls : List Int) (k : Nat) : Prop extends SrcAt H q c l cs ls k where
  len : ls.length = cs.length
  nz : cs ≠ []
theorem tabs_nil {H : Hp} : LamX.Tabs [] H := fun p hp => nomatch hp
def srcOrcB : Orc where
  T := []
  I q H := ∃ c l cs ls k, SrcB H q c l cs ls k
  cnt q H := spotOf (H q)
  al q H a h f := by
    obtain ⟨c, l, cs, ls, k, s⟩ := h
    exact srcOrc.al q H a ⟨⟨c, l, cs, ls, k, s.toSrcAt⟩, tabs_nil⟩ f
  st q H H' h e := by
    obtain ⟨c, l, cs, ls, k, s⟩ := h
    exact ⟨c, l, cs, ls, k, ⟨⟨(e q SrcAt.fq).trans s.dq, (e c s.fc).trans s.dc, (e l s.fl).trans s.dl, s.ne, s.nc, s.nl⟩, s.len, s.nz⟩⟩
  sc q H H' h e := by rw [e q SrcAt.fq]
theorem SrcB.spot {H : Hp} {q c l : Addr} {cs ls : List Int} {k : Nat} (s : SrcB H q c l cs ls k) : srcOrcB.cnt q H = k := SrcAt.spot (T := []) s.toSrcAt
section
variable {X : Cx} {c : Cn} {a b : Expr} {pos : Pos}
theorem call_reprB : CallR X (.builtin "repr") (fun xs H Q => ∃ b, xs = [.bl b] ∧ Q (.str (if b then "True" else "False")) H) := by
  (intro pins s σ H xs us Q I r h)
  obtain ⟨b, rfl, q⟩ := h
  obtain ⟨u, rfl, rv⟩ := vals1 r
  cases (show u = Value.bool b from rv)
  exact P.repr_of_bool ⟨.str _, H, I.tok _, ⟨_, by cases b <;> rfl⟩, q⟩
end
end DL
namespace DL
open PySem L2
section
variable {X : Cx} {c : Cn}
theorem call_reprI : CallR X (.builtin "repr") (fun xs H Q => (∃ i : Int, xs = [.int i] ∧ i.natAbs.log2 < 1920 ∧ Q (.str (toString i)) H) ∨ (xs = [.non] ∧ Q (.str "None") H)) := by
  (intro pins s σ H xs us Q I r h)
  rcases h with ⟨i, rfl, hl, q⟩ | ⟨rfl, q⟩
  · obtain ⟨u, rfl, rv⟩ := vals1 r
    obtain ⟨t, rfl⟩ := (show ∃ t, u = Value.int i t from rv)
    exact P.repr_of_int hl ⟨.str _, H, I.tok _, ⟨_, rfl⟩, q⟩
  · obtain ⟨u, rfl, rv⟩ := vals1 r
    cases (show u = Value.none from rv)
    exact P.repr_of_none ⟨.str _, H, I.tok _, ⟨_, rfl⟩, q⟩
end
end DL
namespace DL
open PySem L2
section
variable {X : Cx} {c : Cn} {e a b : Expr} {pos : Pos}
def okR : D → Prop
  | .none => True
  | .bool _ => True
  | .int i => i.natAbs.log2 < 1920
  | .list xs => nod (.list xs) = true ∧ (PyData.list xs).showable = true ∧ (PyData.list xs).depth ≤ 60 ∧ (PyData.list xs).shown.length ≤ 1000000
  | .tuple xs => nod (.tuple xs) = true ∧ (PyData.tuple xs).showable = true ∧ (PyData.tuple xs).depth ≤ 60 ∧ (PyData.tuple xs).shown.length ≤ 1000000
  | _ => False
def shA : D → Str
  | .none => "None"
  | .bool b => (if b then "True" else "False")
  | .int i => toString i
  | d => d.shown
def gReprA : GC := fun ds P => match ds with
  | [d] => okR d ∧ P (.str (shA d))
  | _ => False
def rRa (K : PySem.W.Frag) : List V → Hp → VK → Prop := fun vs H Q => rRp K vs H Q ∨ ((∃ i : Int, vs = [.int i] ∧ i.natAbs.log2 < 1920 ∧ Q (.str (toString i)) H) ∨ (vs = [.non] ∧ Q (.str "None") H)) ∨ ∃ b, vs = [.bl b] ∧ Q (.str (if b then "True" else "False")) H
theorem call_ra (hg : X.A.guards = some []) (hu : X.A.units + 64 < cLine) : CallR X (.builtin "repr") (rRa X.K) := by
  (intro pins s σ H xs us Q I r h)
  rcases h with h | h | h
  · exact call_rp hg hu pins s σ H xs us Q I r h
  · exact call_reprI pins s σ H xs us Q I r h
  · exact call_reprB pins s σ H xs us Q I r h
theorem sem_reprA (hK : X.K = c.K) (hg : X.A.guards = some []) (hu : X.A.units + 64 < cLine) : SemC X c (.builtin "repr") gReprA := by
  refine ⟨_, call_ra hg hu, fun F H σ ρ xx ds vs P Q r bs g k => ?_⟩
  have key : ∀ d, ds = [d] → (∀ v, Bo c F H v d → ∃ a, v = .ref a) → (nod d = true ∧ d.showable = true ∧ d.depth ≤ 60 ∧ d.shown.length ≤ 1000000) → P (.str d.shown) → rRp X.K vs H Q := fun d hds hv gd gp => by
    subst hds
    obtain ⟨v, rfl, b⟩ := pr1 bs
    obtain ⟨a, rfl⟩ := hv v b
    obtain ⟨g1, g2, g3, g4⟩ := gd
    have a1 := (b.at r.w.fh).dp g1
    rw [← hK] at a1
    exact ⟨a, d, rfl, a1, g1, g2, g3, g4, k _ _ F H gp (Ex.refl F) r (.str _)⟩
  unfold gReprA at g
  split at g
  · rename_i d
    obtain ⟨g, gp⟩ := g
    cases d with
    | none =>
      obtain ⟨v, rfl, b⟩ := pr1 bs
      have e : v = .non := of_decide_eq_true (isN_dec b)
      subst e
      exact .inr (.inl (.inr ⟨rfl, k _ _ F H gp (Ex.refl F) r (.str _)⟩))
    | bool b =>
      obtain ⟨v, rfl, b⟩ := pr1 bs
      cases bo_bl b
      exact .inr (.inr ⟨_, rfl, k _ _ F H gp (Ex.refl F) r (.str _)⟩)
    | int i =>
      obtain ⟨v, rfl, b⟩ := pr1 bs
      cases bo_int b
      exact .inr (.inl (.inl ⟨_, rfl, g, k _ _ F H gp (Ex.refl F) r (.str _)⟩))
    | list xs =>
      refine .inl (key _ rfl (fun v b => ?_) g gp)
      rcases ref_of_bo b with z | ⟨z, _⟩ | ⟨_, z, _⟩ | ⟨_, z, _⟩ | ⟨_, z, _⟩
      · exact z
      all_goals cases z
    | tuple xs =>
      refine .inl (key _ rfl (fun v b => ?_) g gp)
      rcases ref_of_bo b with z | ⟨z, _⟩ | ⟨_, z, _⟩ | ⟨_, z, _⟩ | ⟨_, z, _⟩
      · exact z
      all_goals cases z
    | str x => exact g.elim
    | dict kd => exact g.elim
  · exact g.elim
end
end DL
namespace DL
open PySem L2 PySem.Spec PyProof.Rows
end DL
namespace DL
open PySem L2
structure FnX (pr : Program) (wd : PySem.World) (K : PySem.W.Frag) (gl : Str → Option Value) (bas : Heap) (k : Nat) (f : Addr) (fd : FuncData) (ps : List Str) (sp : Sp) : Prop where
  many : ∀ vs H Q E, sp vs H Q E → vs.length = ps.length
  go : ∀ (A : Around) (out : List PySem.Env) (sh : Shared) (H : Hp) (ar : Args) (us : List Value) (vs : List V) (Q : VK) (E : XK), A.guards = some [] → Room k A →
    Env0 pr wd K gl bas A out sh H → BindsTo sh fd ar (ps.zip us) → Vals vs us → sp vs H Q E → codeAny (model pr wd) A (.call (.ref f) ar) (CR (L2.CX pr wd) out pr wd H sh Q E) sh
theorem FnX.more {pr : Program} {wd : PySem.World} {K : PySem.W.Frag} {gl : Str → Option Value} {bas : Heap} {j k : Nat} {f : Addr} {fd : FuncData} {ps : List Str} {sp : Sp} (F : FnX pr wd K gl bas j f fd ps sp) (h : j ≤ k) : FnX pr wd K gl bas k f fd ps sp :=
  ⟨F.many, fun A out sh H ar us vs Q E g r => F.go A out sh H ar us vs Q E g (r.mono h)⟩
theorem FnX.of {pr : Program} {wd : PySem.World} {K : PySem.W.Frag} {gl : Str → Option Value} {bas : Heap} {k : Nat} {f : Addr} {x qual : Str} {st : Stmt} {fd : FuncData} {N ps : List Str} {sp : Sp} (F : L2.Fun K x qual st f fd) (S : FnScope N ps (defScope st))
    (len : (∀ vs H Q E, sp vs H Q E → vs.length = ps.length))
    (body : ∀ (cdv : Value) (A : Around) (out : List PySem.Env) (sh : Shared) (H : Hp) (vs : List V) (Q : VK) (E : XK), A.guards = some [] → Room k (A.deeper (PyProof.Rows.envOfC qual (defScope st) sh.heap.objs.size f cdv)) → sp vs H Q E →
      ∃ t, PSs (cxOf (L2.CX pr wd) pr wd K gl bas N qual (defScope st) f cdv A out sh H E) (defBody st) t ∧ t { nx := fun _ H' => Q .non H', rt := Q } (start N vs) H) : FnX pr wd K gl bas (k + 1) f fd ps sp := by
  obtain ⟨oc, od, kV, doc, pm, an, cdv, ct, osl, efd, lk, hc⟩ := F.ex
  refine ⟨len, fun A out sh H ar us vs Q E hg room env bnd vals says => ?_⟩
  have heapK : K.In sh.heap := PySem.W.Frag.In.keeps env.mod.kin fun b o e => (env.bs b o e).1
  have noLim : sh.heap.NoLimit := Heap.NoLimit.keeps env.mod.nolimit fun b o e => (env.bs b o e).1
  have kinds : ∀ y ∈ ps.zip us, (defScope st).names.lookup y.1 = some .local ∨ ((defScope st).names.lookup y.1 = some .cell ∧ ((cellsFrom (sh.heap.objs.size + 1) (defScope st).names []).lookup y.1).isSome = true) := by
    rintro ⟨n, v⟩ hy
    exact (S.par n (List.of_mem_zip hy).1).imp id fun q => ⟨q, PySem.W.cellsFrom_some _ _ _ (.inl q)⟩
  rw [efd] at lk bnd
  refine codeAny_call_function room.depth (heapK _ _ lk) rfl S.co S.gen rfl (PySem.W.codeRec_of heapK hc) (bnd _ _ _ _ (wpAny_newFunctionEnv_cells S.kind kinds ?_))
  intro env1 he s1 xc
  subst he
  refine ⟨noLim.keeps xc.toInCall.keep, codeAny_func ?_⟩
  obtain ⟨t, ht, hq⟩ := body cdv A out sh H vs Q E hg (room.deeper _) says
  have inv : Inv (cxOf (L2.CX pr wd) pr wd K gl bas N qual (defScope st) f cdv A out sh H E) [] (start N vs) H s1 := inv_start S room.hd env (len _ _ _ _ says) vals xc
  refine wpAny_mono (ht.run [] s1 (start N vs) H _ inv hq) ?_ fun _ _ z => z
  intro fl s2 hs
  cases fl with
  | ret u =>
    (obtain ⟨v, σ', H', J, rv, q⟩ := hs)
    exact ⟨v, H', J.os, J.bare, J.base, J.hok, rv, q⟩
  | next =>
    obtain ⟨σ', H', J, q⟩ := hs
    exact ⟨V.non, H', J.os, J.bare, J.base, J.hok, rfl, q⟩
  | brk => exact (hs.choose_spec.choose_spec.2 : False).elim
  | cont => exact (hs.choose_spec.choose_spec.2 : False).elim
section
variable {X : Cx} {k : Nat} {f : Addr} {fd : FuncData} {ps : List Str} {sp : Sp} {E : L2.St → XK} {x : Str} {p pos : Pos} {e : Expr} {es : List Expr} {t : TA}
theorem pe_callX (F : FnX X.prog X.w X.K X.mg X.base k f fd ps sp) (hg : X.A.guards = some []) (hr : Room k X.A) (gx : Gl X x) (hm : X.mg x = some (.ref f)) (hk : PySem.W.keepIn X.K (.ref f) = true) (hb : Binds X.K fd ps []) (hx : ∀ σ, PassesAt (L2.CX X.prog X.w) X σ (E σ))
    (ha : PA X (e :: es) t) (hdb : (x == ("__debug__" : Str)) = false := by decide)
    (he : starEach (e :: es) X.env = (false, eval e X.env) :: starEach es X.env
      := by rfl)
    (hpl : (backTo pos (starEach es X.env)).any (·.1) = false
      := by rfl) :
    PE X (.Call (.Name x p) (e :: es) [] pos)
      (tCallS sp E t) := by
  constructor
  intro pins s σ H Q I h
  refine wpAny_Call_Name_kw (ld_glob I gx hm (PySem.W.callWith_K (h₀ := X.base) I.ok.mod.kin hk (thn (ha.run pos pins s σ H _ I h) ?_) he hpl) hdb)
  rintro us s1 ⟨vs, H1, I1, r, q⟩
  refine ⟨I1.kIn, ?_⟩
  have hl : us.length = ps.length := by rw [← r.length]; exact F.many _ _ _ _ q
  have bd := hb s1 us I1.kIn (by rw [List.append_nil]; exact hl)
  rw [List.append_nil] at bd
  refine wpAny_call (codeAny_mono (F.go X.A X.stack s1 H1 ⟨us, []⟩ us vs Q _ hg hr I1.env0 bd r q) ?_)
  intro res s' hq
  match res, hq with
  | .error er, z => exact hx σ pins H1 s1 er s' I1 z
  | .ok (.ret u), z => exact I1.after z
end
structure Exn where
  c : Str
  v : Option (Str × D)
def ExAt (gl : Str → Option Value) (K : PySem.W.Frag) (F H : Hp) (x : Exn) (cls : Value) (d : Option Addr) : Prop :=
  ∃ C, gl x.c = some (.ref C) ∧ cls = .ref C ∧ match x.v with
    | none => d = none
    | some (f, y) => ∃ a v, d = some a ∧ H a = some (.xd [(f, v)]) ∧ At K F v y
abbrev SpX := List Ar → Nat → (D → Nat → Prop) → (Exn → Nat → Prop) → Prop
def spX (K : PySem.W.Frag) (gl : Str → Option Value) (R : Orc) (n : Nat) (S : SpX) : Sp := fun vs H Q E => ∃ (q : Option Addr) (F : Hp) (as : List Ar) (m : Nat) (P : D → Nat → Prop) (PX : Exn → Nat → Prop),
  World R q F H F H ∧ Paired (ArAt ⟨K, R, q, F, H⟩ F) vs as ∧ as.length = n ∧ oraAt as ∧ (q = none ∨ as[0]? = some .ora) ∧ (∀ p, q = some p → R.cnt p H ≤ m) ∧ S as m P PX ∧
  (∀ d m' v F' H', P d m' → World R q F H F' H' → (∀ p, q = some p → R.cnt p H' ≤ m') → At K F' v d → Q v H') ∧
  ∀ x m' cls dd F' H', PX x m' → World R q F H F' H' → (∀ p, q = some p → R.cnt p H' ≤ m') → ExAt gl K F' H' x cls dd → E cls dd H'
/-- the wish of a frame about exceptions -/
def wx (gl : Str → Option Value) (c : Cn) (px : Exn → Env → Prop) : WX := fun cls dd σ H => ∃ F ρ xx x, Rel c F H σ ρ xx ∧ px x ρ ∧ ExAt gl c.K F H x cls dd
def dCallX (n : Nat) (S : SpX) (px : Exn → Env → Prop) (f : AM) : DM := fun ρ P => f ρ fun as ρ1 => as.length = n ∧ as.all isD = true ∧ S as 0 (fun d _ => P d ρ1) (fun x _ => px x ρ1)
def CdX (pr : Program) (wd : PySem.World) (K : PySem.W.Frag) (gl : Str → Option Value) (bas : Heap) (R : Orc) (k : Nat) (x : Str) (n : Nat) (S : SpX) : Prop :=
  ∃ (f : Addr) (fd : FuncData) (ps : List Str), FnX pr wd K gl bas k f fd ps (spX K gl R n S) ∧ gl x = some (.ref f) ∧ PySem.W.keepIn K (.ref f) = true ∧ Binds K fd ps []
theorem CdX.more {pr : Program} {wd : PySem.World} {K : PySem.W.Frag} {gl : Str → Option Value} {bas : Heap} {R : Orc} {j k : Nat} {x : Str} {n : Nat} {S : SpX} (C : CdX pr wd K gl bas R j x n S) (h : j ≤ k) : CdX pr wd K gl bas R k x n S := by
  obtain ⟨f, fd, ps, F, a, b, d⟩ := C
  exact ⟨f, fd, ps, F.more h, a, b, d⟩
theorem de_cdX {X : Cx} {c : Cn} {k n : Nat} {S : SpX} {px : Exn → Env → Prop} {x : Str} {p pos : Pos} {e : Expr} {es : List Expr} {fa : AM} (tk : Takes X (wx X.mg c px)) (C : CdX X.prog X.w X.K X.mg X.base c.R k x n S) (hK : X.K = c.K) (hg : X.A.guards = some []) (hr : Room k X.A) (gx : Gl X x)
    (ha : PA X (e :: es) (tAr c fa)) (hdb : (x == ("__debug__" : Str)) = false := by decide) (he : starEach (e :: es) X.env = (false, eval e X.env) :: starEach es X.env := by rfl) (hpl : (backTo pos (starEach es X.env)).any (·.1) = false := by rfl) :
    PE X (.Call (.Name x p) (e :: es) [] pos) (tD c (dCallX n S px fa)) := by
  obtain ⟨f, fd, ps, F, hm, hk, hb⟩ := C
  refine PE.to (pe_callX F hg hr gx hm hk hb (fun σ => passAt tk σ) ha hdb he hpl) ?_
  rintro σ H Q ⟨F0, ρ, xx, P, rel, q, k0⟩
  refine ⟨F0, ρ, xx, _, rel, q, ?_⟩
  rintro as ρ1 vs F1 H1 ⟨hl, hd, hs⟩ e1 r1 pr
  have w0 : World c.R none F1 H1 F1 H1 := World.start r1.w.fh (fun _ _ z => z) fun _ z => nomatch z
  have pr' : Paired (ArAt ⟨X.K, c.R, none, F1, H1⟩ F1) vs as := by
    clear hs hl
    induction pr with
    | nil => exact .nil
    | @cons v a vs' as' h1 h2 ih =>
      (simp only [List.all_cons, Bool.and_eq_true] at hd)
      cases a with
      | d y =>
        refine .cons ?_ (ih hd.2)
        show At X.K F1 v y
        rw [hK]
        exact h1
      | ora => cases hd.1
  refine ⟨none, F1, as, 0, _, _, w0, pr', hl, fun i z => absurd z (all_isD hd i), .inl rfl, (fun _ z => nomatch z), hs, ?_, ?_⟩
  · intro d m' v F2 H2 pd wd _ at_
    rw [hK] at at_
    exact k0 d ρ1 v F2 H2 pd (e1.trans wd.ff) (r1.stepN wd) at_
  · intro x m' cls dd F2 H2 pd wd _ at_
    rw [hK] at at_
    exact ⟨F2, ρ1, xx, x, r1.stepN wd, pd, at_⟩
/-- what a body says, with its exceptions -/
def rawX (g : (Exn → Env → Prop) → SM) (N : Nat) : SpX := fun as m P PX =>
  g (fun x ρ => match ρ[0]? with
    | some (Sl.ora m') => PX x m'
    | _ => as.head?.map isD ≠ some false ∧ PX x 0)
  ⟨fun (ρ : DL.Env) => match ρ[0]? with
    | some (Sl.ora m') => P .none m'
    | _ => as.head?.map isD ≠ some false ∧ P .none 0,
  fun (d : D) (ρ : DL.Env) => match ρ[0]? with
    | some (Sl.ora m') => P d m'
    | _ => as.head?.map isD ≠ some false ∧ P d 0, fun _ => False, fun _ => False⟩ (startE N as m)
theorem FnX.data {pr : Program} {wd : PySem.World} {K : PySem.W.Frag} {gl : Str → Option Value} {bas : Heap} {k n : Nat} {f : Addr} {x qual : Str} {st : Stmt} {fd : FuncData} {N ps : List Str} {R : Orc} {g : (Exn → Env → Prop) → SM} (F : L2.Fun K x qual st f fd) (Sc : FnScope N ps (defScope st)) (hn : n = ps.length)
    (body : ∀ (cdv : Value) (A : Around) (out : List PySem.Env) (sh : Shared) (H : Hp) (E : XK) (q : Option Addr) (F : Hp) (px : Exn → Env → Prop), A.guards = some [] → Room k (A.deeper (PyProof.Rows.envOfC qual (defScope st) sh.heap.objs.size f cdv)) →
      Takes (cxOf (L2.CX pr wd) pr wd K gl bas N qual (defScope st) f cdv A out sh H E) (wx gl ⟨K, R, q, F, H⟩ px) →
      PSs (cxOf (L2.CX pr wd) pr wd K gl bas N qual (defScope st) f cdv A out sh H E) (defBody st) (tS ⟨K, R, q, F, H⟩ (g px))) : FnX pr wd K gl bas (k + 1) f fd ps (spX K gl R n (rawX g N.length)) := by
  refine FnX.of F Sc (fun vs H Q E ⟨q, F0, as, m, P, PX, w, pa, hl, _⟩ => by rw [paired_len pa, hl, hn]) fun cdv A out sh H vs Q E hg hr ⟨q, F0, as, m, P, PX, w, pa, hl, ho, hq, hm, says, k0, kx⟩ => ?_
  have cnt : ∀ {ρ' : DL.Env} {σ' : L2.St} {F' H' : Hp} {xx : XX} {PP : Nat → Prop}, (match ρ'[0]? with
      | some (Sl.ora m') => PP m'
      | _ => as.head?.map isD ≠ some false ∧ PP 0) → Rel ⟨K, R, q, F0, H⟩ F' H' σ' ρ' xx → ∃ m', PP m' ∧ ∀ z, q = some z → R.cnt z H' ≤ m' := by
    intro ρ' σ' F' H' xx PP p r
    split at p
    · rename_i m' e
      obtain ⟨y, h1, _, h3⟩ := r.s.or 0 m' e
      refine ⟨m', p, fun z hz => ?_⟩
      have h1' : q = some y := h1
      rw [hz] at h1'
      cases h1'
      exact h3
    · obtain ⟨p1, p2⟩ := p
      have qn : q = none := hq.resolve_right fun z => p1 (by
        cases as with
        | nil => cases z
        | cons b t => cases z; rfl)
      exact ⟨0, p2, fun z hz => by rw [qn] at hz; cases hz⟩
  have fin : ∀ (d : D) (v : V) (ρ' : DL.Env) (σ' : L2.St) (F' H' : Hp), (match ρ'[0]? with
      | some (Sl.ora m') => P d m'
      | _ => as.head?.map isD ≠ some false ∧ P d 0) → Rel ⟨K, R, q, F0, H⟩ F' H' σ' ρ' [] → At K F' v d → Q v H' := by
    intro d v ρ' σ' F' H' p r a
    obtain ⟨m', h1, h2⟩ := cnt (PP := P d) p r
    exact k0 d m' v F' H' h1 r.w h2 a
  refine ⟨_, body cdv A out sh H E q F0 (fun x ρ => match ρ[0]? with
    | some (Sl.ora m') => PX x m'
    | _ => as.head?.map isD ≠ some false ∧ PX x 0) hg hr ?_, F0, _, [], _, rel_start w pa ho hm, says, ?_, ?_, ?_, ?_⟩
  · refine (takes_of (E := E) rfl rfl rfl rfl).imp fun cls dd σ H' ⟨F', ρ', xx, x, r, p, a⟩ => ?_
    obtain ⟨m', h1, h2⟩ := cnt (PP := PX x) p r
    exact kx x m' cls dd F' H' h1 r.w h2 a
  · exact fun ρ' σ' F' H' p e r => fin .none .non ρ' σ' F' H' p r .non
  · exact fun d v ρ' σ' F' H' p r a => fin d v ρ' σ' F' H' p r a
  · exact fun ρ' σ' F' H' p => p.elim
  · exact fun ρ' σ' F' H' p => p.elim
section
variable {X : Cx} {C : Addr} {x : Str} {p pos : Pos} {e : Expr} {es : List Expr} {ta : TA}
/-- a heap without the object a -/
abbrev Less (a : Addr) (h g : Heap) : Prop := g.get? a = none ∧ ∀ b, b ≠ a → g.get? b = h.get? b
theorem less_of (h : Heap) (a : Addr) : ∃ g, Less a h g := (restrict h fun b => decide (b ≠ a)).imp fun _ q => ⟨q.2 a (decide_eq_false fun z => z rfl), fun b z => q.1 b (decide_eq_true z)⟩
/-- what changed, told without an object that was not there before -/
theorem un_less {fs : List Addr} {o : HO} {H1 H2 : Hp} {hp hp2 h2 g : Heap} {a : Addr} (l : Less a h2 g) (new : H1 a = none) (young : hp.objs.size ≤ a) (k : ∀ b o, hp.get? b = some o → hp2.get? b = some o) (u : Un fs [] (upd H1 a o) H2 hp2 h2) : Un fs [] H1 (del H2 a) hp g := by
  have ne : ∀ {b z}, hp.get? b = some z → b ≠ a := fun {b z} q e => absurd (Heap.lt_size q) (Nat.not_lt.mpr (e ▸ young))
  have up : ∀ {b}, b ≠ a → upd H1 a o b = H1 b := fun {b} z => upd_ne z
  have nn : ∀ {b u}, H1 b = some u → b ≠ a := fun {b u} q e => by
    rw [e, new] at q
    cases q
  constructor
  case keep => exact fun b z q n f x => (l.2 b (ne q)).trans (u.keep b z (k b z q) ((up (ne q)).trans n) f x)
  case slot => exact fun b z q n f x => (u.slot b z (k b z q) ((up (ne q)).trans n) f x).imp fun _ e => (l.2 b (ne q)).trans e
  case there => exact fun b z q x => (u.there b z (k b z q) x).imp fun _ e => (l.2 b (ne q)).trans e
  case free => exact fun b z q n x => (del_ne (ne q)).trans (u.free b z (k b z q) ((up (ne q)).trans n) x)
  case tups => exact fun b xs q => (del_ne (nn q)).trans (u.tups b xs ((up (nn q)).trans q))
  case frzs => exact fun b z v q => (del_ne (nn q)).trans (u.frzs b z v ((up (nn q)).trans q))
  case tbls =>
    intro b ps q
    rw [del_ne (nn q)]
    exact u.tbls b ps ((up (nn q)).trans q)
/-- and what is known of the objects, if none is this one's and it is no tuple -/
theorem hok_less {P : Program} {w : PySem.World} {H : Hp} {h g : Heap} {a : Addr} {o : HO} (l : Less a h g) (ea : H a = some o) (no : ∀ x, o ≠ .own x) (nt : ∀ xs, o ≠ .tup xs) (ok : HOk P w H h) : HOk P w (del H a) g := by
  intro b u q
  have ne : b ≠ a := fun e => by rw [e, del_same] at q; cases q
  have lend : ∀ {c v}, H c = some (.own v) → c ≠ a := fun z => at_ne ea z (no _)
  refine (ok b u ((del_ne ne).symm.trans q)).stay ?_ (fun c z => (del_ne (lend z)).trans z) fun c xs z => (del_ne (at_ne ea z (nt xs))).trans z
  rintro c v (rfl | z) e
  · exact (l.2 _ ne).trans e
  · exact (l.2 _ (lend z)).trans e
theorem mk_bare {pins : List (Addr × Obj)} {σ : L2.St} {H1 H2 : Hp} {Q : XK} {s1 s2 : Shared} {hp2 : Heap} {a : Addr} (T : Raises X (.ref C)) (I1 : Inv X pins σ H1 s1) (young : s1.heap.objs.size ≤ a) (k : ∀ b o, s1.heap.get? b = some o → hp2.get? b = some o)
    (un : Un (frs X.stack) [] (upd H1 a (exo a C none)) H2 hp2 s2.heap) (hok : HOk X.prog X.w H2 s2.heap) (ho : s2.os = s1.os) (hb : PyProof.Rows.AllBare s2.gens) (ea : H2 a = some (exo a C none)) (q : Q (.ref C) none (del H2 a)) : MkP X pins σ Q (.ref a) s2 := by
  obtain ⟨g, l⟩ := less_of s2.heap a
  obtain ⟨t, at_⟩ := exo_at hok ea
  have J : Inv X pins σ (del H2 a) { s2 with heap := g } := I1.call' (ch := []) ho (un_less l (I1.hok.fresh young) young k un) (hok_less l ea (fun _ => exo_own) (fun _ => exo_tup) hok) hb fun _ z => nomatch z
  refine ⟨a, _, _, { s2 with heap := g }, _, .ref C, none, rfl, J, fun b o z => ?_, l.1, at_, ⟨rfl, rfl⟩, rfl, rfl, del_same, rfl, hb, T, q⟩
  exact (l.2 b fun e => by rw [e, l.1] at z; cases z).symm.trans z
/-- a new exception with its arguments -/
abbrev exH (hp : Heap) (us : List Value) (C : Addr) : Heap := (hp.push (PySem.W.kdv_tup us)).push (PySem.HandSPX.excO C hp.objs.size)
/-- C(..) runs C's own __init__ on a new exception -/
def Makes (X : Cx) (C fI : Addr) : Prop := ∀ {A : Around} {R : Result → Shared → Prop} {s : Shared} {us : List Value}, X.K.In s.heap → us.length ≤ sizeLine →
  codeAny (model X.prog X.w) (A.under (.builtin "type.__call__" ⟨.ref C :: us, []⟩)) (.call (.ref fI) ⟨.ref (s.heap.objs.size + 1) :: us, []⟩) (PySem.W.InitBack (s.heap.objs.size + 1) R) { s with heap := exH s.heap us C } → codeAny (model X.prog X.w) A (.call (.ref C) ⟨us, []⟩) R s
/-- what __init__ is to do with it: it gets a dict, or it gets none -/
def tMk (C : Addr) (sp : Sp) (ta : TA) : L2.St → Hp → XK → Prop := fun σ H Q => ta σ H fun vs H1 => vs.length ≤ 1000 ∧ ∀ a, H1 a = none → sp (.ref a :: vs) (upd H1 a (exo a C none))
  (fun v H2 => v = .non ∧ ((∃ (d : Addr) (fs : List (Str × V)), H2 a = some (exo a C (some d)) ∧ H2 d = some (exd d fs) ∧ H1 d = none ∧ Q (.ref C) (some d) (upd (del H2 a) d (.xd fs))) ∨ (H2 a = some (exo a C none) ∧ Q (.ref C) none (del H2 a)))) (fun _ _ _ => False)
theorem pmk_by {fI : Addr} {k : Nat} {fd : FuncData} {ps : List Str} {sp : Sp} (makes : Makes X C fI) (T : Raises X (.ref C)) (kC : PySem.W.keepIn X.K (.ref C) = true)
    (F1 : FnOk X.prog X.w X.K X.mg X.base CX0 k fI fd ps sp) (hr : Room (k + 1) X.A) (hb : Binds X.K fd ps []) (hg : Gl X x) (hm : X.mg x = some (.ref C)) (ha : PA X (e :: es) ta)
    (hdb : (x == ("__debug__" : Str)) = false := by decide)
    (he : starEach (e :: es) X.env = (false, eval e X.env) :: starEach es X.env := by rfl)
    (hpl : (backTo pos (starEach es X.env)).any (·.1) = false := by rfl) : PMk X (.Call (.Name x p) (e :: es) [] pos) (tMk C sp ta) := by
  intro pins s σ H Q I h
  refine wpAny_Call_Name_kw (ld_glob I hg hm (PySem.W.callWith_K (h₀ := X.base) I.ok.mod.kin kC (thn (ha.run pos pins s σ H _ I h) ?_) he hpl) hdb)
  rintro us s1 ⟨vs, H1, I1, r, few, q⟩
  have young : s1.heap.objs.size ≤ s1.heap.objs.size + 1 := Nat.le_succ _
  have stays : ∀ b o, s1.heap.get? b = some o → (exH s1.heap us C).get? b = some o := fun b o z => Heap.get?_push_of_some _ (Heap.get?_push_of_some _ z)
  have J : Inv X pins σ (upd H1 (s1.heap.objs.size + 1) (exo (s1.heap.objs.size + 1) C none)) { s1 with heap := exH s1.heap us C } := I1.laid (t' := s1.toks) stays young (exo_ok (t1 := s1.heap.objs.size) (by heap_get))
  have says := q _ (I1.hok.fresh young)
  have vals : Vals (V.ref (s1.heap.objs.size + 1) :: vs) (Value.ref (s1.heap.objs.size + 1) :: us) := .cons rfl r
  have bd := hb { s1 with heap := exH s1.heap us C } _ J.kIn (by rw [List.append_nil, ← vals.length, F1.len _ _ _ _ says])
  rw [List.append_nil] at bd
  have fits : us.length ≤ sizeLine := by
    rw [sizeLine_eq, ← r.length]
    omega
  refine ⟨I1.kIn, wpAny_call (makes I1.kIn fits (codeAny_mono (F1.run _ X.stack _ _ ⟨_, []⟩ _ _ _ (fun _ _ _ => False) (hr.make C us []) (J.env0.make C us []) bd vals says) ?_))⟩
  intro res s2 back
  match res, back with
  | .ok (.ret _), ⟨_, H2, os2, bare2, un2, ok2, rv, rfl, .inl ⟨d, fs, e1, e2, e3, q⟩⟩ => exact ⟨rv, mk_end T I1 young stays un2 ok2 os2 bare2 e1 e2 e3 q⟩
  | .ok (.ret _), ⟨_, H2, os2, bare2, un2, ok2, rv, rfl, .inr ⟨e1, q⟩⟩ => exact ⟨rv, mk_bare T I1 young stays un2 ok2 os2 bare2 e1 q⟩
theorem makes_ve {fI : Addr} (T : OexC X.K C) (iC : PySem.W.findIn X.K (.ref C) "__init__" = some (some (.ref fI))) (tI : PySem.W.typeIn X.K (.ref fI) = some (.type "function")) : Makes X C fI := by
  intro A R s us kin few run
  obtain ⟨_, _, _, _, mro, _, _, _, _, _, _, _, _, _, _, at_, has⟩ := T.cls
  exact PySem.HandSPX.call_own F.excBase_ValueError (fun Y => PySem.HandSPX.refsVE_contains Y mro has) (kin _ _ at_) (PySem.W.looks_findIn kin iC) (fun self => PySem.W.bind_fn kin self tI) few run
end
def spInit (K : PySem.W.Frag) (C : Addr) (fld : Option Str) : Sp := fun vs H Q _ => ∃ a v, vs = [.ref a, v] ∧ H a = some (exo a C none) ∧ OexC K C ∧ match fld with
  | none => Q .non H
  | some f => ∀ dx, H dx = none → dx ≠ a → Q .non (upd (upd H dx (exd dx [(f, v)])) a (exo a C (some dx)))
def ClsAt (pr : Program) (wd : PySem.World) (K : PySem.W.Frag) (gl : Str → Option Value) (bas : Heap) (name : Str) (fld : Option Str) : Prop :=
  ∃ (C fI : Addr) (fd : FuncData) (ps : List Str), gl name = some (.ref C) ∧ OexC K C ∧ PySem.W.findIn K (.ref C) "__init__" = some (some (.ref fI)) ∧ PySem.W.typeIn K (.ref fI) = some (.type "function") ∧ FnOk pr wd K gl bas CX0 1 fI fd ps (spInit K C fld) ∧ Binds K fd ps [] ∧ PySem.W.exmOne K (.ref C) (.ref C) = some true
def sRaise (name : Str) (fld : Option Str) (fe : DM) (px : Exn → Env → Prop) : SM := fun _ ρ => fe ρ fun y ρ1 => px ⟨name, fld.map fun f => (f, y)⟩ ρ1
section
variable {X : Cx} {c : Cn} {k : Nat} {name : Str} {p pos pos' : Pos} {e : Expr} {fe : DM} {px : Exn → Env → Prop}
theorem dp_raise0 (Ck : ClsAt X.prog X.w X.K X.mg X.base name none) (tk : Takes X (wx X.mg c px)) (hK : X.K = c.K) (hc : X.calm = true) (hr : Room 2 X.A) (gx : Gl X name) (ha : PE X e (tD c fe))
    (hdb : (name == ("__debug__" : Str)) = false := by decide) (he : starEach [e] X.env = (false, eval e X.env) :: starEach [] X.env := by rfl) (hpl : (backTo pos' (starEach [] X.env)).any (·.1) = false := by rfl) :
    PS X (.Raise (some (.Call (.Name name p) [e] [] pos')) none pos) (tS c (sRaise name none fe px)) := by
  obtain ⟨C, fI, fd, ps, hm, T, iC, tI, F1, hb, _⟩ := Ck
  refine PS.to (ps_raise hc tk (pmk_by (makes_ve T iC tI) (raises_own T.exC T.tyC) T.kC F1 hr hb gx hm (pa_cons ha pa_nil he) hdb he hpl)) ?_
  rintro Z σ H ⟨F, ρ, xx, E, rel, q, n, r, b, t⟩
  refine ⟨F, ρ, xx, _, rel, q, fun y ρ1 v F1 H1 q1 e1 r1 a1 => ?_⟩
  refine ⟨by show 1 ≤ 1000; omega, fun a ha => ⟨a, v, rfl, upd_same, T, rfl, .inr ⟨upd_same, ?_⟩⟩⟩
  have eh : del (upd H1 a (exo a C none)) a = H1 := by
    funext b
    by_cases hb : b = a
    · rw [hb, del_same, ha]
    · rw [del_ne hb, upd_ne hb]
  rw [eh]
  exact ⟨F1, ρ1, xx, _, r1, q1, C, hm, rfl, rfl⟩
theorem dp_raise1 {f : Str} (Ck : ClsAt X.prog X.w X.K X.mg X.base name (some f)) (tk : Takes X (wx X.mg c px)) (hK : X.K = c.K) (hc : X.calm = true) (hr : Room 2 X.A) (gx : Gl X name) (ha : PE X e (tD c fe))
    (hdb : (name == ("__debug__" : Str)) = false := by decide) (he : starEach [e] X.env = (false, eval e X.env) :: starEach [] X.env := by rfl) (hpl : (backTo pos' (starEach [] X.env)).any (·.1) = false := by rfl) :
    PS X (.Raise (some (.Call (.Name name p) [e] [] pos')) none pos) (tS c (sRaise name (some f) fe px)) := by
  obtain ⟨C, fI, fd, ps, hm, T, iC, tI, F1, hb, _⟩ := Ck
  refine PS.to (ps_raise hc tk (pmk_oex T iC tI F1 hr hb .nil pass0 gx hm (pa_cons ha pa_nil he) hdb he hpl)) ?_
  rintro Z σ H ⟨F, ρ, xx, E, rel, q, n, r, b, t⟩
  refine ⟨F, ρ, xx, _, rel, q, fun y ρ1 v F1 H1 q1 e1 r1 a1 => ?_⟩
  refine ⟨by show 1 ≤ 1000; omega, fun a ha => ⟨a, v, rfl, upd_same, T, fun dx hd ne => ⟨rfl, dx, [(f, v)], upd_same, ?_, ?_, ?_⟩⟩⟩
  · rw [upd_ne ne, upd_same]
  · rw [upd_ne ne] at hd
    exact hd
  · have hd1 : H1 dx = none := by
      rw [upd_ne ne] at hd
      exact hd
    have eh : upd (del (upd (upd (upd H1 a (exo a C none)) dx (exd dx [(f, v)])) a (exo a C (some dx))) a) dx (.xd [(f, v)]) = upd H1 dx (.xd [(f, v)]) := by
      funext b
      by_cases hb : b = dx
      · rw [hb, upd_same, upd_same]
      · rw [upd_ne hb, upd_ne hb]
        by_cases hb2 : b = a
        · rw [hb2, del_same, ha]
        · rw [del_ne hb2, upd_ne hb2, upd_ne hb, upd_ne hb2]
    rw [eh]
    exact ⟨F1, ρ1, xx, _, r1.stepN (r1.w.newO (.xd [(f, v)]) hd1), q1, C, hm, rfl, dx, v, rfl, upd_same, a1⟩
end
theorem Rel.bare {c : Cn} {F H : Hp} {σ : L2.St} {ρ : List Sl} {xx : XX} (r : Rel c F H σ ρ xx) : Rel c F H σ ρ [] :=
  ⟨r.w, ⟨r.s.len, r.s.im, r.s.ow, r.s.dj, r.s.or, r.s.ou, (fun _ hp => nomatch hp), List.nodup_nil⟩⟩
end DL
namespace DL
theorem exm_own {K : PySem.W.Frag} {S : PySem.Addr} (h1 : PySem.W.subIn K (.ref S) (.type "BaseException") = some true) (h2 : PySem.W.isClsIn K S = true) (h3 : PySem.W.typeIn K (.ref S) = some (.type "type")) (h4 : PySem.W.subIn K (.ref S) (.ref S) = some true) : PySem.W.exmOne K (.ref S) (.ref S) = some true := by
  have h2 : (PySem.W.clsIn K S).isSome = true := h2
  unfold PySem.W.exmOne PySem.W.kitCls
  simp [h1, h2, h3, h4]
end DL
namespace DL
open PySem L2
end DL
namespace DL
open PySem PyProof.Rows L2 RZ
abbrev mH1 (h : Heap) (a : Addr) : Heap := h.push { cls := .type "tuple_iterator", data := .fields #[.ref a, .int 0 0] }
abbrev mH2 (h : Heap) (a b : Addr) : Heap := (mH1 h a).push { cls := .type "list_iterator", data := .fields #[.ref b, .int 0 0] }
abbrev mH3 (h : Heap) (a b : Addr) : Heap := (mH2 h a b).push { cls := .type "tuple", data := .seq #[.ref h.objs.size, .ref (mH1 h a).objs.size] }
abbrev mH4 (h : Heap) (a b : Addr) : Heap := (mH3 h a b).push { cls := .type "tuple", data := .seq #[.none, .none] }
abbrev mH5 (h : Heap) (a b : Addr) : Heap := (mH4 h a b).push { cls := .type "zip", data := .fields #[.none, .bool false, .bool false, .ref (mH2 h a b).objs.size, .ref (mH3 h a b).objs.size] }
theorem meets_mix (a b : Addr) (xs ys : Array Value) :
    Meets (Builtin.«zip.__new__» ⟨[.type "zip", .ref a, .ref b], []⟩) (fun _ R s => s.heap.IsTuple a xs ∧ s.heap.IsList b ys ∧
      R (.ok (.ret (.ref (mH4 s.heap a b).objs.size))) { s with heap := mH5 s.heap a b }) :=
  .of_wp fun prog w A R s h =>
    by
    obtain ⟨hp, g, d, tk, os⟩ := s; obtain ⟨k1, k2, h⟩ := h
    have hsub := sub_zip
    have K1 : Heap.IsTuple (Shared.heap ⟨hp, g, d, tk, os⟩) a xs := k1
    have K2 : Heap.IsList (Shared.heap ⟨hp.push { cls := .type "tuple_iterator", data := .fields #[.ref a, .int 0 0] }, g, d, tk, os⟩) b ys := Heap.IsList.push k2 _
    wp_walk using wpAny_pyIter_tuple K1, wpAny_pyIter_list K2
    exact ⟨_, rfl, h⟩
theorem mH5_old {h : Heap} {a b c : Addr} {o : Obj} (x : h.get? c = some o) : (mH5 h a b).get? c = some o := by
  unfold mH5 mH4 mH3 mH2 mH1
  iterate 5 refine Heap.get?_push_of_some _ ?_
  exact x
section
variable {prog : Program} {w : PySem.World} {A : Around} {E : Value → Shared → Prop} {s : Shared}
/-- what stands on the heap behind it: five new things from n on -/
structure MixAt (h h' : Heap) (a b : Addr) : Prop where
  zip : IsZip h' (h.objs.size + 4) (h.objs.size + 2) (h.objs.size + 3) .none
  its : IsPair h' (h.objs.size + 2) (.ref h.objs.size) (.ref (h.objs.size + 1))
  two : IsPair h' (h.objs.size + 3) .none .none
  fst : h'.IsTupleIter h.objs.size a 0
  snd : h'.IsListIter (h.objs.size + 1) b 0
  old : ∀ c o, h.get? c = some o → h'.get? c = some o
theorem mixAt (h : Heap) (a b : Addr) : MixAt h (mH5 h a b) a b := by
  have n1 : (mH1 h a).objs.size = h.objs.size + 1 := by simp only [mH1, Heap.size_push]
  have n2 : (mH2 h a b).objs.size = h.objs.size + 2 := by simp only [mH2, mH1, Heap.size_push]
  have n3 : (mH3 h a b).objs.size = h.objs.size + 3 := by simp only [mH3, mH2, mH1, Heap.size_push]
  have n4 : (mH4 h a b).objs.size = h.objs.size + 4 := by simp only [mH4, mH3, mH2, mH1, Heap.size_push]
  have up {h0 : Heap} {o o' : Obj} {c : Addr} (e : h0.get? c = some o) : (h0.push o').get? c = some o := Heap.get?_push_of_some _ e
  have at0 : (mH5 h a b).get? h.objs.size = some _ := up (up (up (up (Heap.get?_push_size _ rfl))))
  have at1 : (mH5 h a b).get? (mH1 h a).objs.size = some _ := up (up (up (Heap.get?_push_size _ rfl)))
  have at2 : (mH5 h a b).get? (mH2 h a b).objs.size = some _ := up (up (Heap.get?_push_size _ rfl))
  have at3 : (mH5 h a b).get? (mH3 h a b).objs.size = some _ := up (Heap.get?_push_size _ rfl)
  have at4 : (mH5 h a b).get? (mH4 h a b).objs.size = some _ := Heap.get?_push_size _ rfl
  rw [n1] at at1
  rw [n1, n2] at at2
  rw [n3] at at3
  rw [n2, n3, n4] at at4
  exact ⟨at4, at2, at3, ⟨_, at0, rfl, rfl⟩, ⟨_, at1, rfl, rfl⟩, fun _ _ => mH5_old⟩
theorem call_mix {a b : Addr} {xs ys : Array Value} {Q : Value → Shared → Prop} (k1 : s.heap.IsTuple a xs) (k2 : s.heap.IsList b ys)
    (go : ∀ h', MixAt s.heap h' a b → Q (.ref (s.heap.objs.size + 4)) { s with heap := h' }) :
    wpAny (model prog w) A (call (.type "zip") [.ref a, .ref b]) Q E s := by
  refine callType_new F.called_zip (by decide) (F.typeCall_zip_2 _ _) (F.newCall_zip_2 _ _)
    (fun _ => F.args_object_init_3 _ _ _) F.entry_zip_new (meets_mix a b xs ys) ⟨k1, k2, ?_⟩
  have m := mixAt s.heap a b
  have n4 : (mH4 s.heap a b).objs.size = s.heap.objs.size + 4 := by simp only [mH4, mH3, mH2, mH1, Heap.size_push]
  show _ ∧ _
  rw [n4]
  exact ⟨⟨_, m.zip, rfl⟩, go _ m⟩
end
/-- how far both are gone -/
structure MixGone (z t u p q a b : Addr) (n : Nat) (h : Heap) : Prop where
  zip : IsZip h z t u .none
  its : IsPair h t (.ref p) (.ref q)
  two : ∃ x y, IsPair h u x y
  fst : h.IsTupleIter p a n
  snd : h.IsListIter q b n
theorem five {z t u p q c : Addr} {P : Addr → Prop} (hc : c ∈ [z, t, u, p, q]) (h1 : P z) (h2 : P t) (h3 : P u) (h4 : P p) (h5 : P q) : P c := by
  simp only [List.mem_cons, List.not_mem_nil, or_false] at hc
  rcases hc with rfl | rfl | rfl | rfl | rfl <;> assumption
theorem MixGone.there {z t u p q a b : Addr} {n : Nat} {h : Heap} (m : MixGone z t u p q a b n h) {c : Addr} (hc : c ∈ [z, t, u, p, q]) :
    ∃ o, h.get? c = some o ∧ ∀ v, o.data ≠ .cell v := by
  obtain ⟨k1, k2, ⟨x, y, k3⟩, ⟨o4, e4, _, f4⟩, ⟨o5, e5, _, f5⟩⟩ := m
  refine five (P := fun c => ∃ o, h.get? c = some o ∧ ∀ v, o.data ≠ .cell v) hc ⟨_, k1, ?_⟩ ⟨_, k2, ?_⟩ ⟨_, k3, ?_⟩ ⟨o4, e4, ?_⟩ ⟨o5, e5, ?_⟩
  · exact fun v e => nomatch e
  · exact fun v e => nomatch e
  · exact fun v e => nomatch e
  · exact fun v e => by
      rw [f4] at e
      cases e
  · exact fun v e => by
      rw [f5] at e
      cases e
theorem MixGone.lt {z t u p q a b : Addr} {n : Nat} {h : Heap} (m : MixGone z t u p q a b n h) {c : Addr} (hc : c ∈ [z, t, u, p, q]) : c < h.objs.size := by
  obtain ⟨o, e, _⟩ := m.there hc
  exact Heap.lt_size e
theorem MixGone.keep {z t u p q a b : Addr} {n : Nat} {h h' : Heap} (m : MixGone z t u p q a b n h) (k : ∀ c, c ∈ [z, t, u, p, q] → ∀ o, h.get? c = some o → h'.get? c = some o) : MixGone z t u p q a b n h' := by
  obtain ⟨k1, k2, ⟨x, y, k3⟩, k4, k5⟩ := m
  have kz := k z (by simp)
  have kt := k t (by simp)
  have ku := k u (by simp)
  have kp := k p (by simp)
  have kq := k q (by simp)
  exact ⟨kz _ k1, kt _ k2, ⟨x, y, ku _ k3⟩, k4.at kp, k5.at kq⟩
end DL
namespace DL
open PySem L2
end DL
namespace DL
open PySem PyProof.Rows L2
theorem back_adj (n : Nat) : Builtin.Slice.sliceAdjust none none (-1) (n : Int) = ((n : Int) - 1, -1) := by
  simp [Builtin.Slice.sliceAdjust]
theorem back_n (n : Nat) : Builtin.Slice.slicePlaces ((n : Int) - 1) (-1) (-1) = n := by
  rw [Builtin.Slice.slicePlaces, if_neg (by decide)]
  by_cases z : (n : Int) - 1 > -1
  · rw [if_pos z]
    simp
  · rw [if_neg z]
    omega
theorem back_pick (its : Array Value) : ((List.range its.size).filterMap fun (k : Nat) => its[(((its.size : Int) - 1) + (k : Int) * (-1)).toNat]?) = its.toList.reverse := by
  have step : ∀ k ∈ List.range its.size, its[(((its.size : Int) - 1) + (k : Int) * (-1)).toNat]? = its.toList.reverse[k]? := fun k hk => by
    have hk := List.mem_range.mp hk
    have e : (((its.size : Int) - 1) + (k : Int) * (-1)).toNat = its.size - 1 - k := by omega
    rw [e, List.getElem?_reverse (by simpa using hk), Array.getElem?_toList, Array.length_toList]
  (refine List.ext_getElem? fun j => ?_)
  have some_ : ∀ k, k ∈ List.range its.size → ∃ v, its[(((its.size : Int) - 1) + (k : Int) * (-1)).toNat]? = some v := fun k hk => by
    rw [step k hk]
    have hk := List.mem_range.mp hk
    exact ⟨_, List.getElem?_eq_getElem (by simpa using hk)⟩
  have gen : ∀ (l : List Nat) (f : Nat → Option Value), (∀ k ∈ l, ∃ v, f k = some v) → (l.filterMap f)[j]? = l[j]?.bind f := by
    intro l f
    induction l generalizing j with | nil => intro _; rfl | cons a t ih =>
      intro h
      obtain ⟨v, hv⟩ := h a List.mem_cons_self
      rw [List.filterMap_cons, hv]
      cases j with
      | zero => simpa using hv.symm
      | succ j => simpa using ih j fun k hk => h k (List.mem_cons_of_mem _ hk)
  rw [gen _ _ some_]
  by_cases hj : j < its.size
  · rw [List.getElem?_range hj]
    exact step j (List.mem_range.mpr hj)
  · rw [List.getElem?_eq_none (by simpa using hj), List.getElem?_eq_none (by simpa using hj)]
    rfl
section
variable {prog : Program} {w : PySem.World} {A : Around} {E : Value → Shared → Prop} {s : Shared}
theorem applied_back {sl : Addr} {n : Nat} {u : Value} {Q : Int × Int × Nat → Shared → Prop} (hs : s.heap.IsSliceOf sl .none .none u) (pu : IsPart u (some (-1))) (k : Q ((n : Int) - 1, -1, n) s) :
    wpAny (model prog w) A (Builtin.Slice.sliceApplied (.ref sl) (pure (n : Int))) Q E s
      := by
  obtain ⟨ob, eo, _, ed⟩ := hs
  obtain ⟨t, rfl⟩ : ∃ t, u = .int (-1) t := by
    cases pu
    exact ⟨_, rfl⟩
  unfold Builtin.Slice.sliceApplied
  refine wpAny_bind ?_
  unfold Builtin.Slice.sliceFields
  refine wpAny_bind (wpAny_field eo ed (x := .none) rfl ?_)
  refine wpAny_bind (wpAny_field eo ed (x := .none) rfl ?_)
  refine wpAny_bind (wpAny_field eo ed (x := .int (-1) t) rfl (wpAny_pure ?_))
  refine wpAny_bind (slicePart_int ?_)
  show wpAny _ _ (if ((-1 : Int) == 0) = true then _ else _) _ _ s
  rw [if_neg (by decide)]
  refine wpAny_bind (slicePart_none (wpAny_bind (slicePart_none (wpAny_bind (wpAny_pure ?_)))))
  show wpAny _ _ (match Builtin.Slice.sliceAdjust none none (-1) (n : Int) with
    | (lo, hi) => pure (lo, (-1 : Int), Builtin.Slice.slicePlaces lo hi (-1))) _ _ s
  rw [back_adj]
  show wpAny _ _ (pure ((n : Int) - 1, (-1 : Int), Builtin.Slice.slicePlaces ((n : Int) - 1) (-1) (-1))) _ _ s
  rw [back_n]
  exact wpAny_pure k
theorem tuple_back {t sl : Addr} {its : Array Value} {u : Value} {Q : Value → Shared → Prop} (ht : IsTup s.heap t its) (hs : s.heap.IsSliceOf sl .none .none u) (pu : IsPart u (some (-1))) (hz : its.size ≤ sizeLine)
    (k : Q (.ref s.heap.objs.size) { s with heap := s.heap.push { cls := .type "tuple", data := .seq its.toList.reverse.toArray } }) : wpAny (model prog w) A (getItem (.ref t) (.ref sl)) Q E s := by
  have fits : sizeOk (.seq its.toList.reverse.toArray) := by
    show its.toList.reverse.toArray.size ≤ sizeLine
    simpa using hz
  have isSl : s.TypeIs (.ref sl) "slice" := by
    obtain ⟨ob, eo, ec, _⟩ := id hs
    exact ⟨ob, eo, ec⟩
  unfold getItem
  (try with_reducible (refine wpAny_holding ?_))
  (try (refine wpAny_bind (wpAny_pure ?_)))
  (refine wpAny_bind (wpAny_sequenceKey ht.typeIs (by decide) ?_))
  refine wpAny_bind (wpAny_callSpecial?_slot (name := Str.ofString "__getitem__") ht.typeIs slot_tuple_getitem ?_)
  refine wpAny_call_entry slot_tuple_getitem ht.typeIs entry_tuple_getitem ?_ (args_tuple_getitem _ _)
  (show wpAny _ _ (Builtin.Tuple.tupleItemsOf (.ref t) >>= _) _ _ s)
  refine wpAny_bind (tupleItemsOf_ ht (wpAny_bind (wpAny_typeOf isSl ?_)))
  rw [if_pos (by decide)]
  refine wpAny_bind (applied_back hs pu ?_)
  have odd : (((its.size : Int) - 1 == 0 && (-1 : Int) == 1) && its.size == its.size) = false := by
    have : ((-1 : Int) == 1) = false := rfl
    rw [this]
    simp
  show wpAny _ _ (if (((its.size : Int) - 1 == 0 && (-1 : Int) == 1) && its.size == its.size) = true then _ else _) _ _ s
  rw [odd, if_neg Bool.false_ne_true, back_pick]
  first
    | (exact wpAny_bind (m := Builtin.Tuple.tupleExact _) (wpAny_newObj_type (wpAny_pure ⟨_, rfl, wpAny_pure k⟩) fits))
    | (exact wpAny_bind (m := Builtin.Tuple.tupleExact _) (wpAny_newObj_type (wpAny_bind (wpAny_pure (wpAny_pure ⟨_, rfl, wpAny_pure k⟩))) fits))
    | (exact wpAny_bind (wpAny_bind (m := Builtin.Tuple.tupleExact _) (wpAny_newObj_type (wpAny_pure (wpAny_pure ⟨_, rfl, wpAny_pure k⟩)) fits)))
    | (exact wpAny_bind (wpAny_bind (m := Builtin.Tuple.tupleExact _) (wpAny_newObj_type (wpAny_pure ⟨_, rfl, wpAny_pure k⟩) fits)))
end
def tRevT (K : PySem.W.Frag) (te : TE) : TE := fun σ H Q => te σ H fun x H1 => ∃ a xs, x = .ref a ∧ SqT K H1 a xs ∧ ∀ p, H1 p = none → Q (.ref p) (upd H1 p (.tup xs.reverse))
theorem pe_revT {X : Cx} {e : Expr} {te : TE} {k : Nat} {p1 p2 p3 pos : Pos} (he : PE X e te) : PE X (.Subscript e (.Slice none none (some (.UnaryOp .USub (.Constant (.int 1) k p1) p2)) p3) pos) (tRevT X.K te) := by
  refine ⟨fun pins s σ H Q I h => Subscript_ (thn (he.run pins s σ H _ I h) ?_)⟩
  rintro v s1 ⟨x, H1, I1, r1, a, xs, rfl, hx, q⟩
  cases r1
  have part : PO X (some (.UnaryOp .USub (.Constant (.int 1) k p1) p2)) (tPart (tUn (rU fun i => .int (-i)) (tC (.int 1)))) := po_some (pe_un un_neg pe_int)
  refine wpAny_Slice (thn (po_none.run pins s1 σ H1 (fun o H2 => o = none ∧ H2 = H1) I1 ⟨rfl, rfl⟩) ?_)
  rintro vl s2 ⟨_, _, I2, pl, rfl, rfl⟩
  refine thn (po_none.run pins s2 σ _ (fun o H3 => o = none ∧ H3 = _) I2 ⟨rfl, rfl⟩) ?_
  rintro vu s3 ⟨_, _, I3, pu, rfl, rfl⟩
  refine thn (part.run pins s3 σ _ (fun o H4 => o = some (-1) ∧ H4 = _) I3 ⟨1, rfl, -1, rfl, rfl, rfl⟩) ?_
  rintro vs s4 ⟨_, _, I4, ps, rfl, rfl⟩
  cases pl
  cases pu
  have I5 := I4.kept (t' := s4.toks) (h' := s4.heap.push { cls := .type "slice", data := .fields #[.none, .none, vs] }) fun b ob => Heap.get?_push_of_some _
  obtain ⟨its, r, ht, hz⟩ := I5.tuple hx
  have len := r.length
  show wpAny (model X.prog X.w) X.A (subscriptTail e (.Slice none none (some (.UnaryOp .USub (.Constant (.int 1) k p1) p2)) p3) (.ref a) (.ref s4.heap.objs.size)) (EP X pins σ Q) X.xe
    { s4 with heap := s4.heap.push { cls := .type "slice", data := .fields #[.none, .none, vs] } }
  refine tail_any (ops := [.ref a, .ref s4.heap.objs.size]) ht.typeIs slot_tuple_getitem.lookup ?_ (by with_unfolding_all rfl)
  refine tuple_back ht (Heap.IsSliceOf.new ..) ps (by rw [List.size_toArray]; omega) ?_
  refine ⟨.ref _, _, I5.laid (t' := s4.toks) (o := .tup xs.reverse) (fun b ob => Heap.get?_push_of_some _) (Nat.le_refl _) ?_, rfl, q _ (I5.hok.fresh (Nat.le_refl _))⟩
  exact ⟨by rw [List.length_reverse]; exact hz, _, r.reverse, IsTup.new _ _⟩
def dRevT (fa : HM) : DM := fun ρ P => fa ρ fun h ρ1 => see ρ1 h fun d => match d with
  | .tuple xs => P (.tuple xs.reverse) ρ1
  | _ => False
theorem de_revT {X : Cx} {c : Cn} {e : Expr} {pos : Pos} {k0 : Nat} {p1 p2 p3 : Pos} {fa : HM} (hK : X.K = c.K) (he : PE X e (tH c fa)) : PE X (.Subscript e (.Slice none none (some (.UnaryOp .USub (.Constant (.int 1) k0 p1) p2)) p3) pos) (tD c (dRevT fa)) := by
  refine PE.to (pe_revT he) ?_
  rintro σ H Q ⟨F, ρ, xx, P, rel, q, k⟩
  refine ⟨F, ρ, xx, _, rel, q, fun h ρ1 v F1 H1 q1 e1 r1 h1 => ?_⟩
  obtain ⟨d, bd, q1⟩ := see_bo r1 h1 q1
  split at q1
  · obtain ⟨a, ys, rfl, f1, s1, t1⟩ := bo_tup r1.w.fh bd
    refine ⟨a, ys, rfl, by rw [hK]; exact s1, fun p hp => ?_⟩
    exact k _ ρ1 _ _ _ q1 (e1.trans (r1.efF _ hp)) (r1.newF _ hp) (.tup (.inl (.inl upd_same)) (t1.reverse.mono (r1.efF _ hp)))
  · exact q1.elim
end DL
namespace DL
open PySem PyProof.Rows L2
end DL
namespace DL
open PySem PyProof.Rows L2
def CdD (pr : Program) (wd : PySem.World) (K : PySem.W.Frag) (gl : Str → Option Value) (bas : Heap) (R : Orc) (k : Nat) (x : Str) (n : Nat) (dds : List D) (S : SpD) : Prop :=
  ∃ (f : Addr) (fd : FuncData) (ps : List Str) (ds : List Value) (dvs : List V), FnG pr wd K gl bas k f fd ps (spD K R (n + dds.length) S) ∧ gl x = some (.ref f) ∧ PySem.W.keepIn K (.ref f) = true ∧ Binds K fd ps ds ∧ Vals dvs ds ∧ ∀ F, AtAll K F dvs dds
theorem CdD.more {pr : Program} {wd : PySem.World} {K : PySem.W.Frag} {gl : Str → Option Value} {bas : Heap} {R : Orc} {j k : Nat} {x : Str} {n : Nat} {dds : List D} {S : SpD} (C : CdD pr wd K gl bas R j x n dds S) (h : j ≤ k) : CdD pr wd K gl bas R k x n dds S := by
  obtain ⟨f, fd, ps, ds, dvs, F, a, b, d, e, u⟩ := C
  exact ⟨f, fd, ps, ds, dvs, F.more h, a, b, d, e, u⟩
end DL
namespace DL
open PySem L2
end DL
namespace DL
open PySem L2
section
variable {c : Cn} {F H : Hp} {σ : L2.St} {ρ : DL.Env} {xx yy : XX}
/-- a list of lists at A, its rows at as -/
structure Nest (K : PySem.W.Frag) (F : Hp) (A : Addr) (as : List Addr) (rows : List (List D)) : Prop where
  o : F A = some (.lst (as.map V.ref))
  n : as.length = rows.length
  r : ∀ (k : Nat) (a : Addr) (r : List D), as[k]? = some a → rows[k]? = some r → ∃ vs, F a = some (.lst vs) ∧ AtAll K F vs r
theorem Nest.mono {K : PySem.W.Frag} {F F' : Hp} {A : Addr} {as : List Addr} {rows : List (List D)} (h : Nest K F A as rows) (e : Ex F F') : Nest K F' A as rows :=
  ⟨e _ _ h.o, h.n, fun k a r h1 h2 => let ⟨vs, q1, q2⟩ := h.r k a r h1 h2; ⟨vs, e _ _ q1, q2.mono e⟩⟩
theorem rows_at {K : PySem.W.Frag} {F : Hp} : ∀ (as : List Addr) (rows : List (List D)), as.length = rows.length → (∀ (k : Nat) (a : Addr) (r : List D), as[k]? = some a → rows[k]? = some r → ∃ vs, F a = some (.lst vs) ∧ AtAll K F vs r) → AtAll K F (as.map V.ref) (rows.map PyData.list)
  | [], [], _, _ => .nil
  | [], _ :: _, h, _ => (by simp at h)
  | _ :: _, [], h, _ => (by simp at h)
  | a :: as, r :: rows, h, k => by
    obtain ⟨vs, q1, q2⟩ := k 0 a r rfl rfl
    exact .cons (.lst (.inl (.inl q1)) q2) (rows_at as rows (by simpa using h) fun j a r h1 h2 => k (j + 1) a r h1 h2)
theorem Nest.at {K : PySem.W.Frag} {F : Hp} {A : Addr} {as : List Addr} {rows : List (List D)} (h : Nest K F A as rows) : At K F (.ref A) (.list (rows.map PyData.list)) := .lst (.inl (.inl h.o)) (rows_at as rows h.n h.r)
end
end DL
namespace DL
open PySem L2
section
variable {K : PySem.W.Frag} {R : Orc} {F H : Hp} {v0 vc : V} {i j r w : Int} {s : Str} {rest : List D}
/-- the row at a, and all else -/
structure WI (K : PySem.W.Frag) (R : Orc) (F G Hw : Hp) (a U : Addr) (as : List Addr) (e : DL.Env) (σ : L2.St) (ds : List D) (H' : Hp) : Prop where
  x : ∃ F' us', Ex G F' ∧ Rel ⟨K, R, none, F, Hw⟩ F' H' σ e [(a, .o (.lst us'))] ∧ AtAll K F' us' ds
  u : H' U = some (.lst (as.map V.ref))
theorem WI.row {G Hw H' : Hp} {a U : Addr} {as : List Addr} {e : DL.Env} {σ : L2.St} {ds : List D} (h : WI K R F G Hw a U as e σ ds H') : ∃ us', H' a = some (.lst us') ∧ us'.length = ds.length := by
  obtain ⟨F', us', _, r, at_⟩ := h.x
  exact ⟨us', (r.s.ex (a, .o (.lst us')) (List.mem_cons_self ..)).1.o, at_.length⟩
theorem WI.put {G Hw H' : Hp} {a U : Addr} {as : List Addr} {e : DL.Env} {σ : L2.St} {ds : List D} {F2 : Hp} {us' : List V} {v : V} {d : D} {k : Nat} (hU : a ≠ U) (ef : Ex G F2) (r : Rel ⟨K, R, none, F, Hw⟩ F2 H' σ e [(a, .o (.lst us'))]) (ha : AtAll K F2 us' ds) (hu : H' U = some (.lst (as.map V.ref))) (hv : At K F2 v d) :
    WI K R F G Hw a U as e σ (ds.set k d) (upd H' a (.lst (us'.set k v))) :=
  ⟨⟨F2, us'.set k v, ef, r.mutX (show upd H' a _ a = _ from upd_same), ha.set hv k⟩, by rw [upd_ne (Ne.symm hU)]; exact hu⟩
theorem at0 : atI (PyData.str s :: rest) 0 = some (.str s) := by simp [atI, ixN]
end
section
variable {K : PySem.W.Frag} {R : Orc} {F H : Hp} {v0 vc : V} {i j r w : Int} {s : Str} {rest : List D} {Hw : Hp} {a U : Addr} {as : List Addr} {x : Option V} {ds : List D} {Z : Ends}
theorem WI.step {G : Hp} {F2 H2 : Hp} {us : List V} {e : DL.Env} {σ : L2.St} (hw : Hw U = some (.lst (as.map V.ref))) (ef : Ex G F2) (r2 : Rel ⟨K, R, none, F, Hw⟩ F2 H2 σ e [(a, .o (.lst us))]) (ha : AtAll K F2 us ds) : WI K R F G Hw a U as e σ ds H2 :=
  ⟨⟨F2, us, ef, r2, ha⟩, (r2.w.kp U _ hw fun z => z).1⟩
end
end DL
namespace DL
open PySem L2
end DL
namespace DL
open PySem L2
end DL
namespace DL
open PySem L2
end DL
namespace DL
open PySem L2 PyProof.Rows
/-- p, of the class cls, has been caught where the slots are σ and the heap is H -/
structure Catch (X : Cx) (pins : List (Addr × Obj)) (p : Addr) (cls : Value) (d : Option Addr) (σ : L2.St) (H : Hp) (s : Shared) : Prop where
  ok : X.Ok
  new : H p = none
  air : ∃ (B : Heap) (sI : Shared), Inv X pins σ H sI ∧ (∀ b o, sI.heap.get? b = some o → b ∉ frs X.stack → B.get? b = some o) ∧ sI.heap.UpToSlots s.heap ∧ s.os = sI.os ∧ AllBare s.gens ∧ HandSPX.FlyingZ B X.stack p (Zc cls d) s.heap
theorem frs_local {X : Cx} (hs : X.stack = X.env :: X.outer) (hf : X.env.frame = some X.env.locals) : frs X.stack = X.env.locals :: X.fs := by
  rw [hs]
  exact List.filterMap_cons_some hf
section
variable {X : Cx} {pins : List (Addr × Obj)} {p : Addr} {cls : Value} {d : Option Addr} {σ : L2.St} {H : Hp} {s : Shared} {D : Ends}
namespace Catch
theorem inv (c : Catch X pins p cls d σ H s) : Inv X pins σ H s := c.air.elim fun _ q => q.elim fun _ ⟨I, nb, up, os, ag, fl⟩ => I.landed nb fl.1 up os ag
/-- it is no frame of the stack, and it is new to the heap ahead -/
theorem out (c : Catch X pins p cls d σ H s) : p ∉ frs X.stack := fun m => by
  obtain ⟨B, sI, I, nb, up, os, ag, fl⟩ := c.air
  obtain ⟨ob, vs, e, _, hd⟩ := fl.there
  obtain ⟨o', o2, e2, q⟩ := fl.2.2.1.mem m
  cases Option.some.inj (e.symm.trans e2)
  exact q vs hd
theorem fresh (c : Catch X pins p cls d σ H s) : X.ex = [] → X.s_0.heap.get? p = none ∧ ∀ q ∈ X.pn ++ pins, q.1 ≠ p := by
  intro hx
  have out := c.out
  obtain ⟨B, sI, I, nb, up, os, ag, fl⟩ := c.air
  have unseen : ∀ o, sI.heap.get? p ≠ some o := fun o e => by
    have z := (nb p o e out).symm.trans fl.2.1
    cases z
  constructor
  · refine Option.eq_none_iff_forall_not_mem.mpr fun o e => ?_
    obtain ⟨o2, q⟩ := I.base.there p o e (by rw [hx]; exact List.not_mem_nil)
    exact unseen o2 q
  · exact fun q m z => unseen q.2 (z ▸ (I.pin q m).1)
/-- the context in which a suite runs -/
theorem held (c : Catch X pins p cls d σ H s) (hs : X.stack = X.env :: X.outer) (hf : X.env.frame = some X.env.locals) : p ≠ X.env.locals ∧ p ∉ X.fs ∧ ∃ ob, s.heap.get? p = some ob ∧ Zc cls d ob ∧ (∃ vs, ob.data = .fields vs) ∧ Inv (X.suite p ((p, ob) :: (X.pn ++ pins))) [] σ H s := by
  have out := c.out
  rw [frs_local hs hf] at out
  obtain ⟨n1, n2⟩ := List.ne_and_not_mem_of_not_mem_cons out
  obtain ⟨B, sI, I, nb, up, os, ag, fl⟩ := id c.air
  obtain ⟨ob, vs, e, z, hd⟩ := fl.there
  exact ⟨n1, n2, ob, e, z, ⟨vs, hd⟩, c.inv.suite e hd c.new n1 n2⟩
theorem grown {h : Heap} (c : Catch X pins p cls d σ H s) (k : ∀ b o, s.heap.get? b = some o → h.get? b = some o) : Catch X pins p cls d σ H { s with heap := h } := by
  obtain ⟨B, sI, I, nb, up, os, ag, st, no, fr, oe, vs, T, oT, ts, e1, e2, e3, e4, e5, e6, e7, e8, e9⟩ := c.air
  exact ⟨c.ok, c.new, B, sI, I, nb, up.trans (Heap.UpToSlots.of_keeps k), os, ag, fun b o q => k b o (st b o q), no, fr.of_keeps fun b o q _ => ⟨o, k b o q, rfl⟩, oe, vs, T, oT, ts, k _ _ e1, e2, e3, e4, e5, e6, k _ _ e7, e8, e9⟩
theorem lands {M : Model} {A : Around} {E : Value → Shared → Prop} {Q : Unit → Shared → Prop} (c : Catch X pins p cls d σ H s) (h : ∀ h', Catch X pins p cls d σ H { s with heap := h' } → Q () { s with heap := h' }) : wpAny M A (setFlight (.ref p) none) Q E s := by
  obtain ⟨B, sI, I, nb, up, os, ag, fl⟩ := c.air
  exact HandSPX.lands_againZ fl fun h' fl' up' => h h' ⟨c.ok, c.new, B, sI, I, nb, up.trans up', os, ag, fl'⟩
theorem looks (c : Catch X pins p cls d σ H s) : PySem.W.Looks (model X.prog X.w) s.heap (typeOf (.ref p)) cls := by
  obtain ⟨B, sI, I, nb, up, os, ag, fl⟩ := c.air
  obtain ⟨ob, vs, e, z, hd⟩ := fl.there
  exact fun A Q E s' k q => wpAny_typeOf_ref (k _ _ e) (z.1.symm ▸ q)
/-- a clause's class is read -/
theorem reads {x : Str} {v : Value} {np : Pos} {Q E : Value → Shared → Prop} (c : Catch X pins p cls d σ H s) (hs : X.stack = X.env :: X.outer) (hf : X.env.frame = some X.env.locals) (hc : Names X x v) (q : Q v s) : wpAny (model X.prog X.w) (X.A.mark (some (.ref p))) (eval (.Name x np) X.env) Q E s := by
  obtain ⟨_, _, ob, _, _, _, S⟩ := c.held hs hf
  rcases hc with ⟨g, nd, m | ⟨m, b, nn⟩⟩
  · exact ld_glob (X := X.suite p ((p, ob) :: (X.pn ++ pins))) S g m q nd
  · exact ld_blt (X := X.suite p ((p, ob) :: (X.pn ++ pins))) S g m b q nn nd
end Catch
/-- the ways out of a block, told in another context -/
theorem sp_in {Y : Cx} {pn : List (Addr × Obj)} {f : Flow} (h : ∀ σ H s, Inv Y pn σ H s → Inv X pins σ H s) (q : SP Y pn D f s) : SP X pins D f s :=
  match f, q with
  | .next, ⟨σ, H, I, q⟩ => ⟨σ, H, h σ H s I, q⟩
  | .brk, ⟨σ, H, I, q⟩ => ⟨σ, H, h σ H s I, q⟩
  | .cont, ⟨σ, H, I, q⟩ => ⟨σ, H, h σ H s I, q⟩
  | .ret _, ⟨v, σ, H, I, r, q⟩ => ⟨v, σ, H, h σ H s I, r, q⟩
/-- a try, told by what its clauses do with what is caught -/
theorem try_by {body : List Stmt} {c1 : ExceptHandler} {cs : List ExceptHandler} {pos : Pos} {tb : WX → TS} {w : Ends → WX} (hs : X.stack = X.env :: X.outer) (hf : X.env.frame = some X.env.locals)
    (hb : ∀ (wish : WX) (held : List (Addr × Obj)) (out : Value → Shared → Prop), Takes (X.tr held out) wish → PassesOwn (model X.prog X.w) X.A X.env out → PSs (X.tr held out) body (tb wish))
    (hh : ∀ (pins : List (Addr × Obj)) (D : Ends) (p : Addr) (cls : Value) (d : Option Addr) (σ : L2.St) (H : Hp) (s : Shared), Catch X pins p cls d σ H s → w D cls d σ H → wpAny (model X.prog X.w) X.A (handleBy (.ref p) X.env (c1 :: cs)) (SP X pins D) X.xe s) :
    PS X (.Try body (c1 :: cs) [] [] pos) (fun D σ H => tb (w D) D σ H) := by
  (refine ⟨fun pins s σ H D I h => ?_⟩)
  have takes : Takes (X.tr (X.pn ++ pins) fun e s1 => wpAny (model X.prog X.w) X.A (noteFrame e X.env) (fun _ s2 => wpAny (model X.prog X.w) X.A (setFlight e none) (fun _ s3 => wpAny (model X.prog X.w) X.A (handleBy e X.env (c1 :: cs)) (SP X pins D) X.xe s3) X.xe s2) X.xe s1) (w D) := by
    rintro _ s1 ⟨p, B, sI, pn, σ1, H1, cls, d, rfl, J, nb, up, sky, new, os, ag, q⟩
    have sky : Sky B (X.env :: X.outer) p (Zc cls d) X.env.locals s1.heap := hs ▸ sky
    exact Sky.land Zc.steady (I.ok.frames.trans (congrArg some hs)) hf sky fun h3 fl up3 => hh pins D p cls d σ1 H1 _ ⟨I.ok, new, B, sI, J.ofTry I.ok, nb, up.trans up3, os, ag, by rw [hs]; exact fl⟩ q
  refine wpAny_Try_except (wpAny_mono ((hb (w D) (X.pn ++ pins) _ takes PassesOwn.looking).run [] s σ H D (I.toTry _) h) (fun f s1 q => ?_) fun _ _ q => q)
  have q := sp_in (fun _ _ _ J => J.ofTry I.ok) q
  exact match f, q with
  | .next, q => wpAny_execs_nil q
  | .brk, q => q
  | .cont, q => q
  | .ret _, q => q
end
end DL
namespace DL
open PySem L2 PyProof.Rows
end DL
namespace DL
open PySem L2 PyProof.Rows
end DL
namespace DL
open PySem L2
def CdXD (pr : Program) (wd : PySem.World) (K : PySem.W.Frag) (gl : Str → Option Value) (bas : Heap) (R : Orc) (k : Nat) (x : Str) (n : Nat) (dds : List D) (S : SpX) : Prop :=
  ∃ (f : Addr) (fd : FuncData) (ps : List Str) (ds : List Value) (dvs : List V), FnX pr wd K gl bas k f fd ps (spX K gl R (n + dds.length) S) ∧ gl x = some (.ref f) ∧ PySem.W.keepIn K (.ref f) = true ∧ Binds K fd ps ds ∧ Vals dvs ds ∧ ∀ F, AtAll K F dvs dds
theorem CdXD.more {pr : Program} {wd : PySem.World} {K : PySem.W.Frag} {gl : Str → Option Value} {bas : Heap} {R : Orc} {j k : Nat} {x : Str} {n : Nat} {dds : List D} {S : SpX} (C : CdXD pr wd K gl bas R j x n dds S) (h : j ≤ k) : CdXD pr wd K gl bas R k x n dds S := by
  obtain ⟨f, fd, ps, ds, dvs, F, a, b, d, e, u⟩ := C
  exact ⟨f, fd, ps, ds, dvs, F.more h, a, b, d, e, u⟩
end DL
namespace DL
open PySem L2
end DL
namespace DL
open PySem L2 PySem.Spec PyProof.Rows
mutual
def nkD : D → Option NestedKey
  | .none => some .none
  | .int i => some (.num i)
  | .str x => some (.text x)
  | .tuple ds => (nkAll ds).map .tup
  | _ => none
def nkAll : List D → Option (List NestedKey)
  | [] => some []
  | d :: ds => match nkD d, nkAll ds with
    | some k, some ks => some (k :: ks)
    | _, _ => none
end
theorem nkAll_cons {d : D} {ds : List D} {ks : List NestedKey} (h : nkAll (d :: ds) = some ks) : ∃ k ks', nkD d = some k ∧ nkAll ds = some ks' ∧ ks = k :: ks' := by
  unfold nkAll at h
  split at h
  · rename_i k ks' h1 h2
    cases h
    exact ⟨k, ks', h1, h2, rfl⟩
  · cases h
mutual
theorem nk_inj : ∀ (d e : D) (k : NestedKey), nkD d = some k → nkD e = some k → d = e
  | .none, e, k, h1, h2 => by
    cases (show some NestedKey.none = some k from h1)
    cases e with
    | none => rfl
    | bool b => cases (show (none : Option NestedKey) = some _ from h2)
    | int i => cases (show some (NestedKey.num i) = some .none from h2)
    | str x => cases (show some (NestedKey.text x) = some .none from h2)
    | list xs => cases (show (none : Option NestedKey) = some _ from h2)
    | dict xs => cases (show (none : Option NestedKey) = some _ from h2)
    | tuple xs =>
      obtain ⟨ks, _, z⟩ := Option.map_eq_some_iff.mp (show (nkAll xs).map NestedKey.tup = some _ from h2)
      cases z
  | .bool b, e, k, h1, h2 => by cases (show (none : Option NestedKey) = some _ from h1)
  | .list xs, e, k, h1, h2 => by cases (show (none : Option NestedKey) = some _ from h1)
  | .dict xs, e, k, h1, h2 => by cases (show (none : Option NestedKey) = some _ from h1)
  | .int i, e, k, h1, h2 => by
    cases (show some (NestedKey.num i) = some k from h1)
    cases e with
    | none => cases (show some NestedKey.none = some (.num i) from h2)
    | bool b => cases (show (none : Option NestedKey) = some _ from h2)
    | int j => cases (show some (NestedKey.num j) = some (.num i) from h2); rfl
    | str x => cases (show some (NestedKey.text x) = some (.num i) from h2)
    | list xs => cases (show (none : Option NestedKey) = some _ from h2)
    | dict xs => cases (show (none : Option NestedKey) = some _ from h2)
    | tuple xs =>
      obtain ⟨ks, _, z⟩ := Option.map_eq_some_iff.mp (show (nkAll xs).map NestedKey.tup = some _ from h2)
      cases z
  | .str x, e, k, h1, h2 => by
    cases (show some (NestedKey.text x) = some k from h1)
    cases e with
    | none => cases (show some NestedKey.none = some (.text x) from h2)
    | bool b => cases (show (none : Option NestedKey) = some _ from h2)
    | int j => cases (show some (NestedKey.num j) = some (.text x) from h2)
    | str y => cases (show some (NestedKey.text y) = some (.text x) from h2); rfl
    | list xs => cases (show (none : Option NestedKey) = some _ from h2)
    | dict xs => cases (show (none : Option NestedKey) = some _ from h2)
    | tuple xs =>
      obtain ⟨ks, _, z⟩ := Option.map_eq_some_iff.mp (show (nkAll xs).map NestedKey.tup = some _ from h2)
      cases z
  | .tuple xs, e, k, h1, h2 => by
    obtain ⟨ks, h1', rfl⟩ := Option.map_eq_some_iff.mp (show (nkAll xs).map NestedKey.tup = some _ from h1)
    cases e with
    | none => cases (show some NestedKey.none = some (.tup ks) from h2)
    | bool b => cases (show (none : Option NestedKey) = some _ from h2)
    | int j => cases (show some (NestedKey.num j) = some (.tup ks) from h2)
    | str y => cases (show some (NestedKey.text y) = some (.tup ks) from h2)
    | list xs => cases (show (none : Option NestedKey) = some _ from h2)
    | dict xs => cases (show (none : Option NestedKey) = some _ from h2)
    | tuple ys =>
      obtain ⟨ks', h2', z⟩ := Option.map_eq_some_iff.mp (show (nkAll ys).map NestedKey.tup = some _ from h2)
      cases z
      rw [nkAll_inj xs ys ks h1' h2']
theorem nkAll_inj : ∀ (ds es : List D) (ks : List NestedKey), nkAll ds = some ks → nkAll es = some ks → ds = es
  | [], [], _, _, _ => rfl
  | [], e :: es, ks, h1, h2 => by
    obtain ⟨_, _, _, _, rfl⟩ := nkAll_cons h2
    cases (show some ([] : List NestedKey) = some _ from h1)
  | d :: ds, [], ks, h1, h2 => by
    obtain ⟨_, _, _, _, rfl⟩ := nkAll_cons h1
    cases (show some ([] : List NestedKey) = some _ from h2)
  | d :: ds, e :: es, ks, h1, h2 => by
    obtain ⟨k, ks', a1, a2, rfl⟩ := nkAll_cons h1
    obtain ⟨k', ks'', b1, b2, z⟩ := nkAll_cons h2
    cases z
    rw [nk_inj d e k a1 b1, nkAll_inj ds es ks' a2 b2]
end
abbrev NE (β : Type) := NestedKey × Addr × β
/-- a datum whose object is a key -/
def KeyAt (K : PySem.W.Frag) (F : Hp) (b : Addr) (k : NestedKey) (d : D) : Prop := At K F (.ref b) d ∧ nkD d = some k ∧ k.depth ≤ 8
def valN (xs : List (NE V)) (k : NestedKey) : Option V := (xs.find? fun p => decide (p.1 = k)).map (·.2.2)
theorem valN_some {xs : List (NE V)} {k : NestedKey} {v : V} (h : valN xs k = some v) : ∃ p ∈ xs, p.1 = k ∧ p.2.2 = v := by
  obtain ⟨p, hp, rfl⟩ := Option.map_eq_some_iff.mp h
  exact ⟨p, List.mem_of_find?_eq_some hp, by simpa using List.find?_some hp, rfl⟩
end DL
namespace DL
open PySem L2
section
variable {rs : SpD} {c : Cn} {w : PySem.World} {F H : Hp} {v0 v1 v2 : V} {a : Addr} {sc co : D} {ths : List D} {g : D → D}
/-- what the dict tells -/
def ThOk (K : PySem.W.Frag) (F : Hp) (g : D → D) (xs : List (NE V)) : Prop := ∀ p ∈ xs, ∃ d, KeyAt K F p.2.1 p.1 d ∧ At K F p.2.2 (g d)
theorem ThOk.mono {K : PySem.W.Frag} {F' : Hp} {xs : List (NE V)} (e : Ex F F') (h : ThOk K F g xs) : ThOk K F' g xs := fun p hp => let ⟨d, ⟨a, b, c⟩, z⟩ := h p hp; ⟨d, ⟨a.mono e, b, c⟩, z.mono e⟩
theorem ThOk.val {K : PySem.W.Frag} {xs : List (NE V)} {k : NestedKey} {v : V} {d : D} (h : ThOk K F g xs) (e : valN xs k = some v) (hk : nkD d = some k) : At K F v (g d) := by
  obtain ⟨p, mp, rfl, rfl⟩ := valN_some e
  obtain ⟨d', ⟨_, q, _⟩, z⟩ := h p mp
  rw [nk_inj d d' _ hk q]
  exact z
end
end DL
namespace DL
open PySem L2 PySem.Spec PyProof.Rows
end DL
namespace DL
open PySem L2 PySem.Spec PyProof.Rows
end DL
namespace DL
open PySem L2
end DL
namespace DL
open PySem L2
def rgOk (a b : Int) : Prop := -1000000 ≤ a ∧ a ≤ 1000000 ∧ -1000000 ≤ b ∧ b ≤ 1000000
theorem rgOk.ok {a b : Int} (h : rgOk a b) : RgOk a b := by
  obtain ⟨h1, h2, h3, h4⟩ := h
  exact ⟨by omega, by omega, by omega, by omega, by omega⟩
theorem at_rg {K : PySem.W.Frag} {H : Hp} (a b : Int) : AtAll K H (rgV a b) (rgD a b) := by
  unfold rgV rgD
  induction List.range (b - a).toNat with
  | nil => exact .nil
  | cons i l ih => exact .cons (.int _) ih
def dLstRg2 (f g : DM) : DM := fun ρ P => f ρ fun d ρ1 => g ρ1 fun e ρ2 => match d, e with
  | .int m, .int n => rgOk m n ∧ P (.list (rgD m n)) ρ2
  | _, _ => False
section
variable {X : Cx} {c : Cn} {a b : PySem.Expr} {p p' pos pos' : Pos} {f g : DM}
theorem dn_lstRg2 (hc : X.calm = true) (hg : Gl X "list") (hm : X.mg "list" = none) (hg' : Gl X "range") (hm' : X.mg "range" = none) (ha : PE X a (tD c f)) (hb : PE X b (tD c g)) (na : starEach [a, b] X.env = (false, eval a X.env) :: starEach [b] X.env := by rfl) (nb : starEach [b] X.env = (false, eval b X.env) :: starEach [] X.env := by rfl)
    (nr : starEach [.Call (.Name "range" p') [a, b] [] pos'] X.env = (false, eval (.Call (.Name "range" p') [a, b] [] pos') X.env) :: starEach [] X.env := by rfl) (hp : (backTo pos' (starEach [b] X.env)).any (·.1) = false := by rfl) :
    PE X (.Call (.Name "list" p) [.Call (.Name "range" p') [a, b] [] pos'] [] pos) (tN c (dLstRg2 f g)) := by
  refine PE.to (pe_listRg hc hg hm (prg_2 hg' hm' ha hb na nb hp) nr) ?_
  rintro σ H Q ⟨F, ρ, xx, P, rel, q, k⟩
  refine ⟨F, ρ, xx, _, rel, q, fun d ρ1 v F1 H1 q1 e1 r1 a1 => ⟨F1, ρ1, xx, _, r1, q1, fun d2 ρ2 v2 F2 H2 q2 e2 r2 a2 => ?_⟩⟩
  split at q2
  · rename_i m n
    cases a1
    cases a2
    refine ⟨m, n, rfl, rfl, q2.1.ok, fun q hq => ?_⟩
    obtain ⟨r3, fr⟩ := Fresh.new (o := .lst (rgV m n)) (d := .d (.list (rgD m n))) r2 hq ⟨_, upd_same, at_rg m n⟩
    exact k _ ρ2 _ _ _ q2.2 (e1.trans e2) r3 fr
  · exact q2.elim
end
end DL
namespace DL
open PySem L2
end DL
namespace DL.Am
open PySem L2 DL
end DL.Am
namespace DL.Lz
open PySem Sem
section
variable {prog : Program} {w : PySem.World} {A : Around} {E : Value → Shared → Prop} {s : Shared} {z t u p q : Addr} {fa fb : List Addr} {na nb i : Nat} {Pa Pb : Nat → Value → Prop} {Sa Sb : Nat → Heap → Prop}
/-- the next pair, while the one that was told before is still held -/
theorem zh_next {T : Addr} {f : Bool} {oT : Obj} {Q : Value → Shared → Prop} (S : ZipSep2 z t u p q fa fb) (Da : Draws prog w A p fa na Pa Sa) (Db : Draws prog w A q fb nb Pb Sb)
    (hz : IsZipHeld s.heap z t u T f) (hT : s.heap.get? T = some oT) (ht : IsPair s.heap t (.ref p) (.ref q)) (sa : Sa i s.heap) (sb : Sb i s.heap) (la : i < na) (lb : i < nb)
    (go : ∀ x y h' tk, Pa i x → Pb i y → IsZipHeld h' z t u T true → Sa (i + 1) h' → Sb (i + 1) h' → IsPair h' s.heap.objs.size x y → h'.objs.size = s.heap.objs.size + 1 →
      (∀ c o, c ≠ z → c ≠ p → c ≠ q → s.heap.get? c = some o → h'.get? c = some o) → Q (.ref s.heap.objs.size) { s with heap := h', toks := tk }) :
    wpAny (model prog w) A (Builtin.«zip.__next__» ⟨[.ref z], []⟩) (fun r s' => ∃ v, r = .done (.ret v) ∧ Q v s') E s := by
  (obtain ⟨hp, g, d, tk0, os⟩ := s)
  (show wpAny _ _ (field (.ref z) 2 >>= _) _ _ _)
  (refine wpAny_bind (wpAny_field hz rfl (x := .bool false) rfl ?_))
  (show wpAny _ _ (field (.ref z) 3 >>= _) _ _ _)
  refine wpAny_bind (wpAny_field hz rfl (x := .ref t) rfl ?_)
  refine wpAny_bind (wpAny_seqItems ht rfl ?_)
  (show wpAny _ _ (Builtin.SmallTypes.ownedTupleIsFree (.ref z) >>= _) _ _ _)
  refine wpAny_bind (wpAny_tupleHeld_zip hz hT fun g0 hz0 hs0 => ?_)
  replace hs0 : Heap.SameBut z hp g0 := by exact hs0
  (simp only [Bool.false_eq_true, if_false])
  refine wpAny_bind ?_
  rw [← Array.forIn_toList]
  (simp only [List.forIn_cons, List.forIn_nil])
  (refine wpAny_bind (wpAny_bind (wpAny_holding ?_)))
  show wpAny _ _ (Builtin.SmallTypes.nextOf (.ref p) >>= _) _ _ ⟨g0, g, d, tk0, os⟩
  refine wpAny_bind (Da.item i _ _ _ la (Da.over sa hs0 S.zf1) fun x g1 tk1 hx sn1 hp1 => wpAny_pure ?_)
  replace hp1 : Heap.SameBut p g0 g1 := hp1
  refine wpAny_pure ?_
  (refine wpAny_bind (wpAny_bind (wpAny_holding ?_)))
  show wpAny _ _ (Builtin.SmallTypes.nextOf (.ref q) >>= _) _ _ ⟨g1, g, d, tk1, os⟩
  refine wpAny_bind (Db.item i _ _ _ lb (Db.over (Db.over sb hs0 S.zf2) hp1 S.sep1_2) fun y g2 tk2 hy sn2 hp2 => wpAny_pure ?_)
  replace hp2 : Heap.SameBut q g1 g2 := hp2
  (refine wpAny_pure (wpAny_pure ?_))
  show wpAny _ _ (newTuple [x, y] >>= _) _ _ ⟨g2, g, d, tk2, os⟩
  (refine wpAny_bind (wpAny_newTuple ?_))
  have hsz : g2.objs.size = hp.objs.size := by rw [hp2.1, hp1.1, hs0.1]
  have hz2 : IsZipHeld g2 z t u T true := hp2.extBut _ _ S.zi2 (hp1.extBut _ _ S.zi1 hz0)
  have hk : ∀ c o, c ≠ z → c ≠ p → c ≠ q → hp.get? c = some o → g2.get? c = some o := fun c o c1 c2 c3 e => hp2.extBut _ _ c3 (hp1.extBut _ _ c2 (hs0.extBut _ _ c1 e))
  have ja : Sa (i + 1) g2 := Da.over sn1 hp2 S.sep2_1
  (refine wpAny_pure ⟨_, rfl, ?_⟩)
  show Q (.ref g2.objs.size) _
  have pr : IsPair (g2.push { cls := .type "tuple", data := .seq #[x, y] }) g2.objs.size x y := Heap.get?_push_size _ rfl
  have ns : (g2.push { cls := .type "tuple", data := .seq #[x, y] }).objs.size = g2.objs.size + 1 := Heap.size_push ..
  rw [hsz] at pr ns ⊢
  exact go x y _ tk2 hx hy (Heap.get?_push_of_some _ hz2) (Da.frame _ _ _ ja fun b _ o e => Heap.get?_push_of_some _ e) (Db.frame _ _ _ sn2 fun b _ o e => Heap.get?_push_of_some _ e) pr ns fun c o c1 c2 c3 e => Heap.get?_push_of_some _ (hk c o c1 c2 c3 e)
theorem zh_stop {T : Addr} {f : Bool} {oT : Obj} {Q : Fin → Shared → Prop} (S : ZipSep2 z t u p q fa fb) (Da : Draws prog w A p fa na Pa Sa) (Db : Draws prog w A q fb nb Pb Sb)
    (hz : IsZipHeld s.heap z t u T f) (hT : s.heap.get? T = some oT) (ht : IsPair s.heap t (.ref p) (.ref q)) (sa : Sa i s.heap) (sb : Sb i s.heap) (la : i ≤ na) (lb : i ≤ nb) (hend : i = na ∨ i = nb)
    (hE : ∀ h' tk e, (∀ c o, c ≠ z → c ≠ p → c ≠ q → s.heap.get? c = some o → h'.get? c = some o) → (∃ o, h'.get? e = some o ∧ o.cls = .type "StopIteration") → E (.ref e) { s with heap := h', toks := tk }) :
    wpAny (model prog w) A (Builtin.«zip.__next__» ⟨[.ref z], []⟩) Q E s
      := by
  (obtain ⟨hp, g, d, tk0, os⟩ := s)
  (show wpAny _ _ (field (.ref z) 2 >>= _) _ _ _)
  (refine wpAny_bind (wpAny_field hz rfl (x := .bool false) rfl ?_))
  (show wpAny _ _ (field (.ref z) 3 >>= _) _ _ _)
  refine wpAny_bind (wpAny_field hz rfl (x := .ref t) rfl ?_)
  refine wpAny_bind (wpAny_seqItems ht rfl ?_)
  (show wpAny _ _ (Builtin.SmallTypes.ownedTupleIsFree (.ref z) >>= _) _ _ _)
  refine wpAny_bind (wpAny_tupleHeld_zip hz hT fun g0 hz0 hs0 => ?_)
  replace hs0 : Heap.SameBut z hp g0 := by exact hs0
  (simp only [Bool.false_eq_true, if_false])
  refine wpAny_bind ?_
  rw [← Array.forIn_toList]
  (simp only [List.forIn_cons, List.forIn_nil])
  (refine wpAny_bind (wpAny_bind (wpAny_holding ?_)))
  show wpAny _ _ (Builtin.SmallTypes.nextOf (.ref p) >>= _) _ _ ⟨g0, g, d, tk0, os⟩
  by_cases h1 : i = na
  · subst h1
    refine wpAny_bind (Da.done _ _ _ (Da.over sa hs0 S.zf1) fun g1 e hq he => ?_)
    replace hq : Heap.ExtBut p g0 g1 := hq
    exact hE g1 tk0 e (fun c o c1 c2 _ x => hq _ _ c2 (hs0.extBut _ _ c1 x)) he
  · refine wpAny_bind (Da.item i _ _ _ (by omega) (Da.over sa hs0 S.zf1) fun x g1 tk1 hx sn1 hp1 => wpAny_pure ?_)
    replace hp1 : Heap.SameBut p g0 g1 := hp1
    refine wpAny_pure ?_
    (refine wpAny_bind (wpAny_bind (wpAny_holding ?_)))
    show wpAny _ _ (Builtin.SmallTypes.nextOf (.ref q) >>= _) _ _ ⟨g1, g, d, tk1, os⟩
    have h2 : i = nb := by omega
    subst h2
    refine wpAny_bind (Db.done _ _ _ (Db.over (Db.over sb hs0 S.zf2) hp1 S.sep1_2) fun g2 e hq he => ?_)
    replace hq : Heap.ExtBut q g1 g2 := hq
    exact hE g2 tk1 e (fun c o c1 c2 c3 x => hq _ _ c3 (hp1.extBut _ _ c2 (hs0.extBut _ _ c1 x))) he
theorem zh_item {T : Addr} {f : Bool} {oT : Obj} {Q : Option Value → Shared → Prop} (S : ZipSep2 z t u p q fa fb) (Da : Draws prog w A.in1 p fa na Pa Sa) (Db : Draws prog w A.in1 q fb nb Pb Sb)
    (hz : IsZipHeld s.heap z t u T f) (hT : s.heap.get? T = some oT) (ht : IsPair s.heap t (.ref p) (.ref q)) (sa : Sa i s.heap) (sb : Sb i s.heap) (la : i < na) (lb : i < nb)
    (go : ∀ x y h' tk, Pa i x → Pb i y → IsZipHeld h' z t u T true → Sa (i + 1) h' → Sb (i + 1) h' → IsPair h' s.heap.objs.size x y → h'.objs.size = s.heap.objs.size + 1 →
      (∀ c o, c ≠ z → c ≠ p → c ≠ q → s.heap.get? c = some o → h'.get? c = some o) → Q (some (.ref s.heap.objs.size)) { s with heap := h', toks := tk }) : wpAny (model prog w) A (pyNext (.ref z)) Q E s := by
  have ty : s.TypeIs (.ref z) "zip" := ⟨_, hz, rfl⟩
  unfold pyNext
  exact wpAny_bind (wpAny_attempt (wpAny_callSpecial?_slot (name := Str.ofString "__next__") ty F.slot_zip_next
    (wpAny_call_entry F.slot_zip_next ty F.entry_zip_next (zh_next S Da Db hz hT ht sa sb la lb fun x y h' tk y1 y2 b1 b2 b3 b4 b5 b6 => wpAny_pure (go x y h' tk y1 y2 b1 b2 b3 b4 b5 b6)) (F.args_zip_next_1 _))))
theorem zh_end {T : Addr} {f : Bool} {oT : Obj} {Q : Option Value → Shared → Prop} (S : ZipSep2 z t u p q fa fb) (Da : Draws prog w A.in1 p fa na Pa Sa) (Db : Draws prog w A.in1 q fb nb Pb Sb)
    (hz : IsZipHeld s.heap z t u T f) (hT : s.heap.get? T = some oT) (ht : IsPair s.heap t (.ref p) (.ref q)) (sa : Sa i s.heap) (sb : Sb i s.heap) (la : i ≤ na) (lb : i ≤ nb) (hend : i = na ∨ i = nb)
    (go : ∀ h' tk, (∀ c o, c ≠ z → c ≠ p → c ≠ q → s.heap.get? c = some o → h'.get? c = some o) → Q none { s with heap := h', toks := tk }) : wpAny (model prog w) A (pyNext (.ref z)) Q E s := by
  have ty : s.TypeIs (.ref z) "zip" := ⟨_, hz, rfl⟩
  unfold pyNext
  refine wpAny_bind (wpAny_attempt (wpAny_callSpecial?_slot (name := Str.ofString "__next__") ty F.slot_zip_next
    (wpAny_call_entry F.slot_zip_next ty F.entry_zip_next (zh_stop S Da Db hz hT ht sa sb la lb hend fun h' tk e hk he => ?_) (F.args_zip_next_1 _))))
  obtain ⟨o, ho, hc⟩ := he
  (refine wpAny_bind (wpAny_isInstance (T := "StopIteration") (b := true) ⟨o, ho, hc⟩ isSubtype_stop ?_))
  exact wpAny_pure (go _ _ hk)
/-- where a zip stands: its parts, and no pair out or one that is alive -/
structure Zat (z t u p q L : Addr) (Sa Sb : Nat → Heap → Prop) (i : Nat) (h : Heap) : Prop where
  its : IsPair h t (.ref p) (.ref q)
  a : Sa i h
  b : Sb i h
  z : (IsZip h z t u .none ∧ ∃ x y, IsPair h u x y) ∨ ∃ (T : Addr) (f : Bool) (oT : Obj), IsZipHeld h z t u T f ∧ h.get? T = some oT ∧ T ≠ z ∧ T ≠ p ∧ T ≠ q ∧ T ≠ L
theorem zat_item {L : Addr} {Q : Option Value → Shared → Prop} (S : ZipSep2 z t u p q fa fb) (Da : Draws prog w A.in1 p fa na Pa Sa) (Db : Draws prog w A.in1 q fb nb Pb Sb) (hL : L < s.heap.objs.size) (st : Zat z t u p q L Sa Sb i s.heap) (la : i < na) (lb : i < nb)
    (go : ∀ x y h' tk, Pa i x → Pb i y → Zat z t u p q L Sa Sb (i + 1) h' → IsPair h' s.heap.objs.size x y → h'.objs.size = s.heap.objs.size + 1 →
      (∀ c o, c ≠ z → c ≠ u → c ≠ p → c ≠ q → s.heap.get? c = some o → h'.get? c = some o) → Q (some (.ref s.heap.objs.size)) { s with heap := h', toks := tk }) : wpAny (model prog w) A (pyNext (.ref z)) Q E s := by
  have lz : z < s.heap.objs.size := by
    rcases st.z with ⟨hz, _⟩ | ⟨T, f, oT, hz, _⟩
    · exact Heap.lt_size hz
    · exact Heap.lt_size hz
  have lp : p < s.heap.objs.size := by
    obtain ⟨o, ho⟩ := Da.live _ _ st.a
    exact Heap.lt_size ho
  have lq : q < s.heap.objs.size := by
    obtain ⟨o, ho⟩ := Db.live _ _ st.b
    exact Heap.lt_size ho
  rcases st.z with ⟨hz, x0, y0, hu⟩ | ⟨T, f, oT, hz, hT, t1, t2, t3, t4⟩
  · refine wpAny_pyNext_zipD2_item S Da Db hz st.its hu st.a st.b la lb fun x y h' tk hx hy c1 c2 c3 c4 c5 c6 c7 => go x y h' tk hx hy ⟨c7 t _ S.TIz S.TITO S.TIi1 S.TIi2 st.its, c3, c4, .inr ⟨s.heap.objs.size, false, _, c1, c5, Nat.ne_of_gt lz, Nat.ne_of_gt lp, Nat.ne_of_gt lq, Nat.ne_of_gt hL⟩⟩ c5 c6 fun c o d1 d2 d3 d4 e => c7 c o d1 d2 d3 d4 e
  · refine zh_item S Da Db hz hT st.its st.a st.b la lb fun x y h' tk hx hy c1 c2 c3 c4 c5 c6 => go x y h' tk hx hy ⟨c6 t _ S.TIz S.TIi1 S.TIi2 st.its, c2, c3, .inr ⟨T, true, oT, c1, c6 T _ t1 t2 t3 hT, t1, t2, t3, t4⟩⟩ c4 c5 fun c o d1 _ d3 d4 e => c6 c o d1 d3 d4 e
theorem zat_end {L : Addr} {Q : Option Value → Shared → Prop} (S : ZipSep2 z t u p q fa fb) (Da : Draws prog w A.in1 p fa na Pa Sa) (Db : Draws prog w A.in1 q fb nb Pb Sb) (st : Zat z t u p q L Sa Sb i s.heap) (la : i ≤ na) (lb : i ≤ nb) (hend : i = na ∨ i = nb)
    (go : ∀ h' tk, (∀ c o, c ≠ z → c ≠ u → c ≠ p → c ≠ q → s.heap.get? c = some o → h'.get? c = some o) → Q none { s with heap := h', toks := tk }) : wpAny (model prog w) A (pyNext (.ref z)) Q E s := by
  rcases st.z with ⟨hz, x0, y0, hu⟩ | ⟨T, f, oT, hz, hT, _⟩
  · exact wpAny_pyNext_zipD2_end S Da Db hz st.its hu st.a st.b la lb hend fun h' tk k => go h' tk k
  · exact zh_end S Da Db hz hT st.its st.a st.b la lb hend fun h' tk k => go h' tk fun c o d1 _ d3 d4 e => k c o d1 d3 d4 e
theorem Zat.keep {L : Addr} {h h' : Heap} {prog : Program} {w : PySem.World} {A : Around} (S : ZipSep2 z t u p q fa fb) (Da : Draws prog w A p fa na Pa Sa) (Db : Draws prog w A q fb nb Pb Sb) (st : Zat z t u p q L Sa Sb i h) (k : ∀ b o, b ≠ L → h.get? b = some o → h'.get? b = some o) (nz : L ≠ z) (nt : L ≠ t) (nu : L ≠ u) (na' : L ∉ fa) (nb' : L ∉ fb) : Zat z t u p q L Sa Sb i h' := by
  refine ⟨k _ _ (Ne.symm nt) st.its, Da.frame _ _ _ st.a fun b hb o e => k b o (fun x => na' (x ▸ hb)) e, Db.frame _ _ _ st.b fun b hb o e => k b o (fun x => nb' (x ▸ hb)) e, ?_⟩
  rcases st.z with ⟨hz, x0, y0, hu⟩ | ⟨T, f, oT, hz, hT, t1, t2, t3, t4⟩
  · exact .inl ⟨k _ _ (Ne.symm nz) hz, x0, y0, k _ _ (Ne.symm nu) hu⟩
  · exact .inr ⟨T, f, oT, k _ _ (Ne.symm nz) hz, k _ _ t4 hT, t1, t2, t3, t4⟩
end
/-- the pairs that have been told: at new places, one above the other -/
structure Zg (Pa Pb : Nat → Value → Prop) (L : Addr) (h : Heap) (as : List Addr) : Prop where
  rise : as.Pairwise (· < ·)
  up : ∀ a ∈ as, L < a ∧ a < h.objs.size
  prs : ∀ (k : Nat) (a : Addr), as[k]? = some a → ∃ x y, Pa k x ∧ Pb k y ∧ IsPair h a x y
section
variable {prog : Program} {w : PySem.World} {A : Around} {R : Result → Shared → Prop} {z t u p q L : Addr} {fa fb : List Addr} {na nb : Nat} {Pa Pb : Nat → Value → Prop} {Sa Sb : Nat → Heap → Prop}
theorem ez_loop (S : ZipSep2 z t u p q fa fb) (Da : Draws prog w A.in1.in1 p fa na Pa Sa) (Db : Draws prog w A.in1.in1 q fb nb Pb Sb) (res : Value) (nz : L ≠ z) (nt : L ≠ t) (nu : L ≠ u) (np : L ≠ p) (nq : L ≠ q) (na' : L ∉ fa) (nb' : L ∉ fb) (zL : z < L) (uL : u < L) (pL : p < L) (qL : q < L)
    (hn : min na nb ≤ 1000000) {h₀ : Heap} (h₀L : ∀ b o, h₀.get? b = some o → b ≠ z ∧ b ≠ u ∧ b ≠ p ∧ b ≠ q ∧ b ≠ L)
    {s₀ : Shared} (hR : ∀ h' tk acc c as, (∀ b o, h₀.get? b = some o → h'.get? b = some o) → h'.get? L = some { cls := .type "list", dict := none, data := .seq acc c, slots := #[] } → Zg Pa Pb L h' as → as.length = min na nb → acc.toList = as.map Value.ref → R (.ok (.ret res)) { s₀ with heap := h', toks := tk }) :
    ∀ (k i : Nat) (h : Heap) (tk : Nat) (acc : Array Value) (c : Nat) (as : List Addr), min na nb - i = k → i ≤ min na nb → Zat z t u p q L Sa Sb i h → h.get? L = some { cls := .type "list", dict := none, data := .seq acc c, slots := #[] } → Zg Pa Pb L h as → as.length = i → acc.toList = as.map Value.ref →
      (∀ b o, h₀.get? b = some o → h.get? b = some o) → codeAny (model prog w) A (.builtin "list.extend.loop" ⟨[.ref L, .ref z, res], []⟩) R { s₀ with heap := h, toks := tk } := by
  intro k
  induction k with
  | zero =>
    intro i h tk acc c as hk hi st hL hg hl ha k0
    have hin : i = min na nb := by omega
    (refine codeAny_builtin F.entry_extend_loop ?_)
    (rw [Around.under_plainId F.plain_extend_loop _])
    show wpAny _ A.in1 (pyNext (.ref z) >>= _) _ _ _
    refine wpAny_bind (zat_end (s := { s₀ with heap := h, toks := tk }) S Da Db st (by omega) (by omega) (by omega) fun h' tk' kp => ?_)
    replace kp : ∀ c o, c ≠ z → c ≠ u → c ≠ p → c ≠ q → h.get? c = some o → h'.get? c = some o := kp
    have bg : ∀ a, L < a → a ≠ z ∧ a ≠ u ∧ a ≠ p ∧ a ≠ q := fun a la => ⟨Nat.ne_of_gt (Nat.lt_trans zL la), Nat.ne_of_gt (Nat.lt_trans uL la), Nat.ne_of_gt (Nat.lt_trans pL la), Nat.ne_of_gt (Nat.lt_trans qL la)⟩
    have prs : ∀ (k : Nat) (a : Addr), as[k]? = some a → ∃ x y, Pa k x ∧ Pb k y ∧ IsPair h' a x y := fun k a e => by
      obtain ⟨x, y, h1, h2, h3⟩ := hg.prs k a e
      obtain ⟨b1, b2, b3, b4⟩ := bg a (hg.up a (List.mem_of_getElem? e)).1
      exact ⟨x, y, h1, h2, kp _ _ b1 b2 b3 b4 h3⟩
    refine wpAny_pure (hR h' tk' acc c as (fun b o e => ?_) (kp _ _ nz nu np nq hL) ⟨hg.rise, fun a m => ⟨(hg.up a m).1, ?_⟩, prs⟩ (by omega) ha)
    · obtain ⟨b1, b2, b3, b4, _⟩ := h₀L b o e
      exact kp b o b1 b2 b3 b4 (k0 b o e)
    · obtain ⟨n, e⟩ := List.mem_iff_getElem?.mp m
      obtain ⟨_, _, _, _, h3⟩ := prs n a e
      exact Heap.lt_size h3
  | succ k ih =>
    intro i h tk acc c as hk hi st hL hg hl ha k0
    (refine codeAny_builtin F.entry_extend_loop ?_)
    (rw [Around.under_plainId F.plain_extend_loop _])
    show wpAny _ A.in1 (pyNext (.ref z) >>= _) _ _ _
    refine wpAny_bind (zat_item (s := { s₀ with heap := h, toks := tk }) S Da Db (Heap.lt_size hL) st (by omega) (by omega) fun x y h' tk' hx hy st' hp hs kp => ?_)
    replace kp : ∀ c o, c ≠ z → c ≠ u → c ≠ p → c ≠ q → h.get? c = some o → h'.get? c = some o := kp
    replace hp : IsPair h' h.objs.size x y := hp
    replace hs : h'.objs.size = h.objs.size + 1 := hs
    have hL' := kp _ _ nz nu np nq hL
    show wpAny _ A.in1 (updateSeq L (·.push (.ref h.objs.size)) >>= _) _ _ _
    refine wpAny_bind ?_
    have sz1 : acc.size = i := by
      have := congrArg List.length ha
      rw [List.length_map, Array.length_toList] at this
      omega
    have big : i < sizeLine := by rw [sizeLine_eq]; omega
    have oth : ∀ b o, b ≠ L → h'.get? b = some o → (h'.update L (Obj.mapSeq (·.push (.ref h.objs.size)))).get? b = some o := fun b o hb e => (Heap.get?_update_other _ _ (Ne.symm hb)).trans e
    have bg : ∀ a, L < a → a ≠ z ∧ a ≠ u ∧ a ≠ p ∧ a ≠ q := fun a la => ⟨Nat.ne_of_gt (Nat.lt_trans zL la), Nat.ne_of_gt (Nat.lt_trans uL la), Nat.ne_of_gt (Nat.lt_trans pL la), Nat.ne_of_gt (Nat.lt_trans qL la)⟩
    have Lh : L < h.objs.size := Heap.lt_size hL
    refine wpAny_updateSeq (s := { s₀ with heap := h', toks := tk' }) hL' rfl (wpAny_pure ⟨plainId_quiet F.plain_extend_loop _, ih (i + 1) _ tk' (acc.push (.ref h.objs.size)) _ (as ++ [h.objs.size]) (by omega) (by omega) (st'.keep S Da Db oth nz nt nu na' nb') (Heap.get?_update_self _ hL' rfl) ⟨?_, ?_, ?_⟩ (by rw [List.length_append, List.length_singleton, hl]) (by rw [Array.toList_push, ha, List.map_append]; rfl) fun b o e => ?_⟩) (by rw [sz1]; omega) (by show (acc.push (.ref h.objs.size)).size ≤ sizeLine + 1; rw [Array.size_push, sz1]; omega)
    · rw [List.pairwise_append]
      refine ⟨hg.rise, List.pairwise_singleton .., fun a m b m2 => ?_⟩
      rw [List.mem_singleton.mp m2]
      exact (hg.up a m).2
    · intro a m
      have e0 : (h'.update L (Obj.mapSeq (·.push (.ref h.objs.size)))).objs.size = h'.objs.size := by simp [Heap.update]
      rcases List.mem_append.mp m with m | m
      · have := hg.up a m
        exact ⟨this.1, by rw [e0, hs]; exact Nat.lt_succ_of_lt this.2⟩
      · rw [List.mem_singleton.mp m]
        exact ⟨Lh, by rw [e0, hs]; exact Nat.lt_succ_self _⟩
    · intro n a e
      rw [List.getElem?_append] at e
      split at e
      · obtain ⟨x', y', h1, h2, h3⟩ := hg.prs n a e
        have al := (hg.up a (List.mem_of_getElem? e)).1
        obtain ⟨b1, b2, b3, b4⟩ := bg a al
        exact ⟨x', y', h1, h2, oth _ _ (Nat.ne_of_gt al) (kp _ _ b1 b2 b3 b4 h3)⟩
      · rename_i hge
        have hn : n = i := by
          have := (List.getElem?_eq_some_iff.mp e).1
          rw [List.length_singleton] at this
          omega
        subst hn
        rw [hl, Nat.sub_self] at e
        have e : h.objs.size = a := Option.some.inj e
        subst e
        exact ⟨x, y, hx, hy, oth _ _ (Nat.ne_of_gt Lh) hp⟩
    · obtain ⟨b1, b2, b3, b4, b5⟩ := h₀L b o e
      exact oth b o b5 (kp b o b1 b2 b3 b4 (k0 b o e))
end
theorem zip_no_len : typeLookup (.type "zip") "__len__" = pure none := am_miss_of_fast (by decide +kernel)
theorem zip_no_hint : typeLookup (.type "zip") "__length_hint__" = pure none := am_miss_of_fast (by decide +kernel)
section
variable {prog : Program} {w : PySem.World} {A : Around} {R : Result → Shared → Prop} {z t u p q L : Addr} {fa fb : List Addr} {na nb : Nat} {Pa Pb : Nat → Value → Prop} {Sa Sb : Nat → Heap → Prop} {s : Shared}
theorem ez_extend (S : ZipSep2 z t u p q fa fb) (Da : Draws prog w A.in1.in1 p fa na Pa Sa) (Db : Draws prog w A.in1.in1 q fb nb Pb Sb) (res : Value) (nz : L ≠ z) (nt : L ≠ t) (nu : L ≠ u) (np : L ≠ p) (nq : L ≠ q) (na' : L ∉ fa) (nb' : L ∉ fb) (zL : z < L) (uL : u < L) (pL : p < L) (qL : q < L)
    (hn : min na nb ≤ 1000000) {h₀ : Heap} (h₀L : ∀ b o, h₀.get? b = some o → b ≠ z ∧ b ≠ u ∧ b ≠ p ∧ b ≠ q ∧ b ≠ L) (k0 : ∀ b o, h₀.get? b = some o → s.heap.get? b = some o)
    (st : Zat z t u p q L Sa Sb 0 s.heap) (hz : IsZip s.heap z t u .none) {c : Nat} (hL : s.heap.get? L = some { cls := .type "list", dict := none, data := .seq #[] c, slots := #[] })
    (hR : ∀ h' tk acc c as, (∀ b o, h₀.get? b = some o → h'.get? b = some o) → h'.get? L = some { cls := .type "list", dict := none, data := .seq acc c, slots := #[] } → Zg Pa Pb L h' as → as.length = min na nb → acc.toList = as.map Value.ref → R (.ok (.ret res)) { s with heap := h', toks := tk }) :
    wpAny (model prog w) A.in1 (Builtin.List.listExtendWith (.ref L) (.ref z) res)
      (fun r s' => match r with | .done f => R (.ok f) s' | .again c' => c'.quiet = true ∧ codeAny (model prog w) A c' R s') (fun e s' => R (.error e) s') s := by
  have ty : s.TypeIs (.ref z) "zip" := ⟨_, hz, rfl⟩
  (unfold Builtin.List.listExtendWith)
  refine wpAny_bind (wpAny_typeOf ty ?_)
  have h1 : Builtin.List.listSameRef (.ref L) (.ref z) = false := by simp [Builtin.List.listSameRef, nz]
  have h2 : (Value.type "zip" == Value.type "list") = false := by decide
  have h3 : (Value.type "zip" == Value.type "tuple") = false := by decide
  (simp only [h1, h2, h3, Bool.or_false, Bool.false_eq_true, if_false])
  refine wpAny_bind (wpAny_pyIter_zip hz ?_)
  (refine wpAny_bind (wpAny_holding ?_))
  (unfold Builtin.List.listLengthHint)
  refine wpAny_bind (wpAny_specialOf ty zip_no_len ?_)
  show wpAny _ A.in1 (specialOf (Value.ref z) (Str.ofString "__length_hint__") >>= _) _ _ _
  refine wpAny_bind (wpAny_specialOf ty zip_no_hint ?_)
  refine wpAny_pure ?_
  show wpAny _ A.in1 (rule "list.extend.makes-room" >>= fun _ => Builtin.List.listTouch (.ref L) >>= fun _ =>
    again (.builtin "list.extend.loop" ⟨[.ref L, .ref z, res], []⟩)) _ _ _
  (refine wpAny_bind (wpAny_rule ?_))
  refine wpAny_bind ?_
  show wpAny _ A.in1 (updateSeq L (·.push .none) >>= fun _ => updateSeq L (·.pop)) _ _ _
  refine wpAny_bind (wpAny_updateSeq hL rfl ?_)
  have g1 := Heap.get?_update_self (Obj.mapSeq (·.push Value.none)) hL rfl
  refine wpAny_updateSeq (hz := by seq_fits) g1 rfl ?_
  have g2 := Heap.get?_update_self (Obj.mapSeq (·.pop)) g1 rfl
  have oth : ∀ b o, b ≠ L → s.heap.get? b = some o → ((s.heap.update L (Obj.mapSeq (·.push Value.none))).update L (Obj.mapSeq (·.pop))).get? b = some o :=
    fun b o hb e => by exact (Heap.get?_update_other _ _ (Ne.symm hb)).trans ((Heap.get?_update_other _ _ (Ne.symm hb)).trans e)
  (refine wpAny_pure ⟨plainId_quiet F.plain_extend_loop _, ?_⟩)
  exact ez_loop (s₀ := s) S Da Db res nz nt nu np nq na' nb' zL uL pL qL hn h₀L hR (min na nb) 0 _ s.toks #[] _ [] (by omega) (Nat.zero_le _) (st.keep S Da Db oth nz nt nu na' nb') g2 ⟨.nil, fun a m => (nomatch m), fun n a e => by cases e⟩ rfl rfl fun b o e => oth b o (h₀L b o e).2.2.2.2 (k0 b o e)
theorem ez_init (S : ZipSep2 z t u p q fa fb) (Da : Draws prog w A.in1.in1 p fa na Pa Sa) (Db : Draws prog w A.in1.in1 q fb nb Pb Sb) (nz : L ≠ z) (nt : L ≠ t) (nu : L ≠ u) (np : L ≠ p) (nq : L ≠ q) (na' : L ∉ fa) (nb' : L ∉ fb) (zL : z < L) (uL : u < L) (pL : p < L) (qL : q < L)
    (hn : min na nb ≤ 1000000) {h₀ : Heap} (h₀L : ∀ b o, h₀.get? b = some o → b ≠ z ∧ b ≠ u ∧ b ≠ p ∧ b ≠ q ∧ b ≠ L) (k0 : ∀ b o, h₀.get? b = some o → s.heap.get? b = some o)
    (st : Zat z t u p q L Sa Sb 0 s.heap) (hz : IsZip s.heap z t u .none) (hL : s.heap.get? L = some { cls := .type "list", data := .seq #[] })
    (hR : ∀ h' tk acc c as, (∀ b o, h₀.get? b = some o → h'.get? b = some o) → h'.get? L = some { cls := .type "list", dict := none, data := .seq acc c, slots := #[] } → Zg Pa Pb L h' as → as.length = min na nb → acc.toList = as.map Value.ref → R (.ok (.ret .none)) { s with heap := h', toks := tk }) :
    wpAny (model prog w) A.in1 (Builtin.«list.__init__» ⟨[.ref L, .ref z], []⟩)
      (fun r s' => match r with | .done f => R (.ok f) s' | .again c' => c'.quiet = true ∧ codeAny (model prog w) A c' R s') (fun e s' => R (.error e) s') s := by
  show wpAny _ A.in1 (do let old ← Builtin.List.listItems (.ref L); Builtin.List.listUpdate (.ref L) (fun _ => #[]); letGo old.toList.reverse; Builtin.List.listExtendWith (.ref L) (.ref z) .none) _ _ s
  refine wpAny_bind ?_
  unfold Builtin.List.listItems
  refine wpAny_bind (wpAny_seqItems hL rfl (wpAny_pure ?_))
  show wpAny _ A.in1 (updateSeq L (fun _ => #[]) >>= fun _ => letGo (#[] : Array Value).toList.reverse >>= fun _ => Builtin.List.listExtendWith (.ref L) (.ref z) .none) _ _ s
  refine wpAny_bind (wpAny_updateSeq hL rfl ?_)
  have g2 := Heap.get?_update_self (Obj.mapSeq (fun _ => (#[] : Array Value))) hL rfl
  have oth : ∀ b o, b ≠ L → s.heap.get? b = some o → (s.heap.update L (Obj.mapSeq (fun _ => (#[] : Array Value)))).get? b = some o :=
    fun b o hb e => by exact (Heap.get?_update_other _ _ (Ne.symm hb)).trans e
  (refine wpAny_bind (wpAny_letGo ?_))
  exact ez_extend (s := { s with heap := s.heap.update L (Obj.mapSeq (fun _ => (#[] : Array Value))) }) S Da Db .none nz nt nu np nq na' nb' zL uL pL qL hn h₀L (fun b o e => oth b o (h₀L b o e).2.2.2.2 (k0 b o e)) (st.keep S Da Db oth nz nt nu na' nb') (oth _ _ (Ne.symm nz) hz) g2 fun h' tk acc c as a1 a2 a3 a4 a5 => hR h' tk acc c as a1 a2 a3 a4 a5
theorem ez_call {E : Value → Shared → Prop} {Q : Value → Shared → Prop} (S : ZipSep2 z t u p q fa fb) (Da : Draws prog w A.in1.in1.in1 p fa na Pa Sa) (Db : Draws prog w A.in1.in1.in1 q fb nb Pb Sb) (hfa : ∀ b ∈ fa, b < s.heap.objs.size) (hfb : ∀ b ∈ fb, b < s.heap.objs.size)
    (hn : min na nb ≤ 1000000) {h₀ : Heap} (h₀L : ∀ b o, h₀.get? b = some o → b ≠ z ∧ b ≠ u ∧ b ≠ p ∧ b ≠ q) (k0 : ∀ b o, h₀.get? b = some o → s.heap.get? b = some o)
    (its : IsPair s.heap t (.ref p) (.ref q)) (sa : Sa 0 s.heap) (sb : Sb 0 s.heap) (hz : IsZip s.heap z t u .none) {x0 y0 : Value} (hu : IsPair s.heap u x0 y0)
    (hQ : ∀ h' tk acc c as, (∀ b o, h₀.get? b = some o → h'.get? b = some o) → h'.get? s.heap.objs.size = some { cls := .type "list", dict := none, data := .seq acc c, slots := #[] } → Zg Pa Pb s.heap.objs.size h' as → as.length = min na nb → acc.toList = as.map Value.ref → Q (.ref s.heap.objs.size) { s with heap := h', toks := tk }) :
    wpAny (model prog w) A (call (.type "list") [.ref z]) Q E s := by
  have lt : ∀ {b : Addr} {o : Obj}, s.heap.get? b = some o → b < s.heap.objs.size := fun e => Heap.lt_size e
  have ne : ∀ {b : Addr}, b < s.heap.objs.size → s.heap.objs.size ≠ b := fun h => Nat.ne_of_gt h
  have lp := hfa p S.mem1
  have lq := hfb q S.mem2
  refine callType_codes (Q₁ := fun obj s₁ => obj = .ref s.heap.objs.size ∧ s₁ = { s with heap := s.heap.push { cls := .type "list", data := .seq #[] } }) F.called_list (F.typeCall_list_1 _) F.entry_list_init (code_list_new _ ⟨rfl, rfl⟩) fun obj s₁ h₁ => ?_
  obtain ⟨rfl, rfl⟩ := h₁
  have up : ∀ b o, s.heap.get? b = some o → (s.heap.push { cls := .type "list", data := .seq #[] }).get? b = some o := fun b o e => Heap.get?_push_of_some _ e
  have hL : (s.heap.push { cls := .type "list", data := .seq #[] }).get? s.heap.objs.size = some { cls := .type "list", data := .seq #[] } := Heap.get?_push_size _ rfl
  refine ⟨⟨_, hL, rfl⟩, F.args_list_init_2 _ _, ez_init (A := A.in1) (s := { s with heap := s.heap.push { cls := .type "list", data := .seq #[] } }) (h₀ := h₀) S Da Db (ne (lt hz)) (ne (lt its)) (ne (lt hu)) (ne lp) (ne lq) (fun m => Nat.lt_irrefl _ (hfa _ m)) (fun m => Nat.lt_irrefl _ (hfb _ m)) (lt hz) (lt hu) lp lq hn (fun b o e => ?_) (fun b o e => up b o (k0 b o e)) ⟨up _ _ its, Da.frame _ _ _ sa fun b _ o e => up b o e, Db.frame _ _ _ sb fun b _ o e => up b o e, .inl ⟨up _ _ hz, x0, y0, up _ _ hu⟩⟩ (up _ _ hz) hL fun h' tk acc c as a1 a2 a3 a4 a5 => ?_⟩
  · obtain ⟨b1, b2, b3, b4⟩ := h₀L b o e
    exact ⟨b1, b2, b3, b4, Nat.ne_of_lt (lt (k0 b o e))⟩
  · exact ⟨rfl, hQ h' tk acc c as a1 a2 a3 a4 a5⟩
end
end DL.Lz
namespace DL.Lz
open PySem PyProof.Rows L2 RZ
/-- the pairs of two lists of values, tracked at the places that are told -/
def putZ : Hp → List Addr → List V → List V → Hp
  | H, a :: as, x :: xs, y :: ys => putZ (upd H a (.tup [x, y])) as xs ys
  | H, _, _, _ => H
theorem putZ_ne {b : Addr} : ∀ (as : List Addr) (xs ys : List V) (H : Hp), b ∉ as → putZ H as xs ys b = H b
  | [], _, _, _, _ => by simp only [putZ]
  | _ :: _, [], _, _, _ => by simp only [putZ]
  | _ :: _, _ :: _, [], _, _ => by simp only [putZ]
  | a :: as, x :: xs, y :: ys, H, m => by
    rw [List.mem_cons, not_or] at m
    simp only [putZ]
    rw [putZ_ne as xs ys _ m.2, upd_ne m.1]
theorem putZ_in : ∀ (as : List Addr) (xs ys : List V) (H : Hp) (b : Addr), as.length = min xs.length ys.length → as.Nodup → b ∈ as → ∃ (k : Nat) (x y : V), as[k]? = some b ∧ xs[k]? = some x ∧ ys[k]? = some y ∧ putZ H as xs ys b = some (.tup [x, y])
  | [], _, _, _, _, _, _, m => nomatch m
  | _ :: _, [], _, _, _, l, _, _ => by simp at l
  | _ :: _, _ :: _, [], _, _, l, _, _ => by simp at l
  | a :: as, x :: xs, y :: ys, H, b, l, nd, m => by
    have nd2 := List.nodup_cons.mp nd
    simp only [putZ]
    rcases List.mem_cons.mp m with e | m
    · subst e
      refine ⟨0, x, y, rfl, rfl, rfl, ?_⟩
      rw [putZ_ne as xs ys _ nd2.1, upd_same]
    · obtain ⟨k, x', y', h⟩ := putZ_in as xs ys (upd H a (.tup [x, y])) b (by simp only [List.length_cons] at l; omega) nd2.2 m
      exact ⟨k + 1, x', y', h⟩
/-- where a list of pairs was made: what is tracked then -/
def putL (H : Hp) (L : Addr) (as : List Addr) (xs ys : List V) : Hp := upd (putZ H as xs ys) L (.lst (as.map V.ref))
theorem vals_map : ∀ as : List Addr, Vals (as.map V.ref) (as.map Value.ref)
  | [] => .nil
  | a :: as => .cons rfl (vals_map as)
structure Fz (H : Hp) (L : Addr) (as : List Addr) (xs ys : List V) : Prop where
  len : as.length = min xs.length ys.length
  nd : as.Nodup
  nm : L ∉ as
  nl : H L = none
  nw : ∀ a ∈ as, H a = none
theorem zip_laid {X : Cx} {pins : List (Addr × Obj)} {σ : L2.St} {H : Hp} {s : Shared} {h' : Heap} {tk : Nat} {xs ys : List V} {us vs : List Value} {acc : Array Value} {c : Nat} {as : List Addr} {L : Addr} (I : Inv X pins σ H s) (rx : Vals xs us) (ry : Vals ys vs)
    (hL : s.heap.objs.size ≤ L) (hn : min xs.length ys.length ≤ 1000000) (hk : ∀ b o, s.heap.get? b = some o → h'.get? b = some o) (hS : h'.get? L = some { cls := .type "list", dict := none, data := .seq acc c, slots := #[] })
    (hG : Zg (fun i x => us.toArray[i]? = some x) (fun i y => vs.toArray[i]? = some y) L h' as) (hl : as.length = min us.toArray.size vs.toArray.size) (ha : acc.toList = as.map Value.ref) :
    Fz H L as xs ys ∧ Inv X pins σ (putL H L as xs ys) { s with heap := h', toks := tk } := by
  have lx : xs.length = us.length := rx.length
  have ly : ys.length = vs.length := ry.length
  have len : as.length = min xs.length ys.length := by
    rw [hl, List.size_toArray, List.size_toArray, lx, ly]
  have nm : L ∉ as := fun m => Nat.lt_irrefl _ (hG.up L m).1
  have nd : as.Nodup := hG.rise.imp fun h => Nat.ne_of_lt h
  have nw : ∀ a ∈ as, H a = none := fun a m => I.hok.fresh (Nat.le_trans hL (Nat.le_of_lt (hG.up a m).1))
  have nl : H L = none := I.hok.fresh hL
  have away : ∀ b, b ∉ as → b ≠ L → putL H L as xs ys b = H b := fun b h1 h2 => by
    unfold putL
    rw [upd_ne h2, putZ_ne as xs ys H h1]
  have low : ∀ b o, s.heap.get? b = some o → b ∉ as ∧ b ≠ L := fun b o e => by
    have hb : b < s.heap.objs.size := Heap.lt_size e
    have hb2 : b < L := Nat.lt_of_lt_of_le hb hL
    exact ⟨fun m => Nat.lt_irrefl _ (Nat.lt_trans hb2 (hG.up b m).1), Nat.ne_of_lt hb2⟩
  have kp : ∀ b u, H b = some u → putL H L as xs ys b = some u := fun b u e => by
    refine (away b (fun m => ?_) fun z => ?_).trans e
    · rw [nw b m] at e
      cases e
    · rw [z, nl] at e
      cases e
  refine ⟨⟨len, nd, nm, nl, nw⟩, ?_⟩
  (refine I.call' (ch := []) rfl ⟨fun b o q _ _ _ => hk b o q, fun b o q _ _ _ => ⟨o.slots, hk b o q⟩, fun b o q n _ => ?_, fun b o q _ => ⟨o, hk b o q⟩, fun b xs q => kp b _ q, fun b o u q => kp b _ q, fun b ps q => ⟨#[], by rw [kp b _ q]; simp⟩⟩ (fun b u q => ?_) I.bare fun b z => by simp at z)
  · (obtain ⟨z1, z2⟩ := low b o q)
    rw [away b z1 z2]
    exact n
  · by_cases eL : b = L
    · subst eL
      unfold putL at q
      rw [upd_same] at q
      cases q
      have q2 : acc = (as.map Value.ref).toArray := by rw [← ha, Array.toArray_toList]
      refine ⟨?_, as.map Value.ref, c, vals_map as, ?_⟩
      · rw [List.length_map, len, sizeLine_eq]
        omega
      · rw [← q2]
        exact hS
    · by_cases m : b ∈ as
      · obtain ⟨k, x, y, e1, e2, e3, e4⟩ := putZ_in as xs ys H b len nd m
        unfold putL at q
        rw [upd_ne eL, e4] at q
        cases q
        obtain ⟨u, v, p1, p2, p3⟩ := hG.prs k b e1
        obtain ⟨u', g1, r1⟩ := rx.get e2
        obtain ⟨v', g2, r2⟩ := ry.get e3
        have p1 : us[k]? = some u := by simpa using p1
        have p2 : vs[k]? = some v := by simpa using p2
        rw [g1] at p1
        rw [g2] at p2
        cases p1
        cases p2
        exact ⟨by show 2 ≤ sizeLine; decide, _, .cons r1 (.cons r2 .nil), ⟨_, p3, rfl, _, rfl⟩⟩
      · rw [away b m eL] at q
        (exact (I.hok b u q).stay (fun d v _ y => hk d v y) (fun d y => kp d _ y) fun d xs y => kp d _ y)
/-- list(zip(a, b)), b a list, a a tuple or a list -/
def tLZ (K : PySem.W.Frag) (ta : TA) : TE := fun σ H Q => ta σ H fun vs H1 => ∃ (a b : Addr) (xs ys : List V), vs = [.ref a, .ref b] ∧ (SqT K H1 a xs ∨ SqL K H1 a xs) ∧ SqL K H1 b ys ∧ min xs.length ys.length ≤ 1000000 ∧
  ∀ L as, Fz H1 L as xs ys → Q (.ref L) (putL H1 L as xs ys)
section
variable {X : Cx} {e e2 : Expr} {ta : TA} {p pz pos cpos : Pos}
theorem pe_listZip (hc : X.calm = true) (hg : Gl X "list") (hm : X.mg "list" = none) (hgz : Gl X "zip") (hmz : X.mg "zip" = none) (ha : PA X [e, e2] ta)
    (hs : starEach [e, e2] X.env = (false, eval e X.env) :: starEach [e2] X.env := by rfl) (hpl : (backTo cpos (starEach [e2] X.env)).any (·.1) = false := by rfl)
    (hs2 : starEach [.Call (.Name "zip" pz) [e, e2] [] cpos] X.env = (false, eval (.Call (.Name "zip" pz) [e, e2] [] cpos) X.env) :: starEach [] X.env := by rfl) :
    PE X (.Call (.Name "list" p) [.Call (.Name "zip" pz) [e, e2] [] cpos] [] pos) (tLZ X.K ta) := by
  (refine ⟨fun pins s σ H Q I hq => ?_⟩)
  refine wpAny_Call_Name_kw (ld_blt I hg hm (show bootBuiltins "list" = some (.type "list") by rfl) ?_)
  refine PyProof.Rows.callWith_type1 ?_ hs2 rfl
  rw [hs2]
  show wpAny _ _ (spliced ((false, eval (.Call (.Name "zip" pz) [e, e2] [] cpos) X.env) :: backTo pos (starEach [] X.env))) _ _ s
  refine Calls.spliced_cons (Call_ (ld_blt I hgz hmz PyProof.Rows.boot_zip ?_))
  refine PyProof.Rows.callWith_type1 (thn (ha.run cpos pins s σ H _ I hq) ?_) hs hpl
  rintro us s1 ⟨vs, H1, I1, rs, a, b, xs, ys, rfl, sx, sy, hn, k⟩
  obtain _ | ⟨r, _ | ⟨r', _ | _⟩⟩ := rs
  cases r
  cases r'
  obtain ⟨gs, ry, ty, _⟩ := I1.list sy
  have hh := I1.ok.hd hc
  have lb := ty.lt
  have one {c d : Addr} (hd : d < s1.heap.objs.size) : c ∈ [d] → c < s1.heap.objs.size := fun hc => by
    rw [List.mem_singleton.mp hc]
    exact hd
  have far : ∀ b o, s1.heap.get? b = some o → b ≠ s1.heap.objs.size + 4 ∧ b ≠ s1.heap.objs.size + 3 ∧ b ≠ s1.heap.objs.size ∧ b ≠ s1.heap.objs.size + 1 := fun b o e => by
    have hb : b < s1.heap.objs.size := Heap.lt_size e
    exact ⟨Nat.ne_of_lt (Nat.lt_add_right 4 hb), Nat.ne_of_lt (Nat.lt_add_right 3 hb), Nat.ne_of_lt hb, Nat.ne_of_lt (Nat.lt_add_right 1 hb)⟩
  have two {P : Addr → Prop} {c d : Addr} (h1 : P c) (h2 : P d) : ∀ b ∈ [c, d], P b := fun b m => by
    rcases List.mem_cons.mp m with e | m
    · rw [e]
      exact h1
    · rw [List.mem_singleton.mp m]
      exact h2
  have lys : gs.toArray.size = ys.length := by rw [List.size_toArray, ry.length]
  have fin : ∀ {fs : List Value}, Vals xs fs → ∀ {h' h2 : Heap} {tk : Nat} {acc : Array Value} {c : Nat} {as : List Addr}, s1.heap.objs.size ≤ h'.objs.size → (∀ b o, s1.heap.get? b = some o → h2.get? b = some o) → h2.get? h'.objs.size = some { cls := .type "list", dict := none, data := .seq acc c, slots := #[] } →
      Zg (fun i x => fs.toArray[i]? = some x) (fun i y => gs.toArray[i]? = some y) h'.objs.size h2 as → as.length = min fs.toArray.size gs.toArray.size → acc.toList = as.map Value.ref →
      ∃ (u : V) (H' : Hp), Inv X pins σ H' { s1 with heap := h2, toks := tk } ∧ RelV u (.ref h'.objs.size) ∧ Q u H' := fun rx h' h2 tk acc c as hb a1 a2 a3 a4 a5 => by
    obtain ⟨fz, J⟩ := zip_laid (tk := tk) I1 rx ry hb hn a1 a2 a3 a4 a5
    exact ⟨.ref h'.objs.size, _, J, rfl, k _ _ fz⟩
  rcases sx with sx | sx
  · obtain ⟨fs, rx, tx, _⟩ := I1.tuple sx
    have la : a < s1.heap.objs.size := by
      obtain ⟨o, ho, _⟩ := id tx
      exact Heap.lt_size ho
    refine call_mix (show s1.heap.IsTuple a fs.toArray from tx) ty.isList fun h' m => ?_
    refine Calls.spliced_nil ?_
    have S := zip_sep2 (N := s1.heap.objs.size) (fun _ => one la) (fun _ => one lb)
    have z0 : s1.heap.objs.size + 4 < h'.objs.size := Heap.lt_size m.zip
    have lxs : fs.toArray.size = xs.length := by rw [List.size_toArray, rx.length]
    refine ez_call (s := { s1 with heap := h' }) (h₀ := s1.heap) S (Draws.tuple (A := X.A.in1.in1.in1) (show X.A.in1.in1.in1.handled = none from hh) s1.heap.objs.size a (Nat.ne_of_lt la) fs.toArray) (Draws.list (A := X.A.in1.in1.in1) (show X.A.in1.in1.in1.handled = none from hh) (s1.heap.objs.size + 1) b (Nat.ne_of_lt (Nat.lt_succ_of_lt lb)) gs.toArray) (two ?_ ?_) (two ?_ ?_) ?_ far m.old m.its ⟨m.fst, (show s1.heap.IsTuple a fs.toArray from tx).at fun o e => m.old _ o e⟩ ⟨m.snd, ty.isList.at fun o e => m.old _ o e⟩ m.zip m.two fun h2 tk acc c as a1 a2 a3 a4 a5 => ?_
    · show s1.heap.objs.size < h'.objs.size
      omega
    · show a < h'.objs.size
      exact Nat.lt_trans la (by omega)
    · show s1.heap.objs.size + 1 < h'.objs.size
      omega
    · show b < h'.objs.size
      exact Nat.lt_trans lb (by omega)
    · rw [lxs, lys]
      exact hn
    · exact fin rx (show s1.heap.objs.size ≤ h'.objs.size by omega) a1 a2 a3 a4 a5
  · obtain ⟨fs, rx, tx, _⟩ := I1.list sx
    have la := tx.lt
    refine call_zip_2 tx.isList ty.isList fun h' m1 m2 m3 m4 m5 _ old => ?_
    refine Calls.spliced_nil ?_
    have S := zip_sep2 (N := s1.heap.objs.size) (fun _ => one la) (fun _ => one lb)
    have z0 : s1.heap.objs.size + 4 < h'.objs.size := Heap.lt_size m1
    have lxs : fs.toArray.size = xs.length := by rw [List.size_toArray, rx.length]
    refine ez_call (s := { s1 with heap := h' }) (h₀ := s1.heap) S (Draws.list (A := X.A.in1.in1.in1) (show X.A.in1.in1.in1.handled = none from hh) s1.heap.objs.size a (Nat.ne_of_lt la) fs.toArray) (Draws.list (A := X.A.in1.in1.in1) (show X.A.in1.in1.in1.handled = none from hh) (s1.heap.objs.size + 1) b (Nat.ne_of_lt (Nat.lt_succ_of_lt lb)) gs.toArray) (two ?_ ?_) (two ?_ ?_) ?_ far old m2 ⟨m4, tx.isList.at fun o e => old _ o e⟩ ⟨m5, ty.isList.at fun o e => old _ o e⟩ m1 m3 fun h2 tk acc c as a1 a2 a3 a4 a5 => ?_
    · show s1.heap.objs.size < h'.objs.size
      omega
    · show a < h'.objs.size
      exact Nat.lt_trans la (by omega)
    · show s1.heap.objs.size + 1 < h'.objs.size
      omega
    · show b < h'.objs.size
      exact Nat.lt_trans lb (by omega)
    · rw [lxs, lys]
      exact hn
    · exact fin rx (show s1.heap.objs.size ≤ h'.objs.size by omega) a1 a2 a3 a4 a5
end
theorem at_pairs {c : Cn} {σ : L2.St} {ρ : List Sl} {xx : XX} : ∀ (as : List Addr) (xs ys : List V) (ds es : List D) (F H : Hp), Rel c F H σ ρ xx → as.length = min xs.length ys.length → as.Nodup → (∀ a ∈ as, H a = none) → AtAll c.K F xs ds → AtAll c.K F ys es →
    ∃ F', Rel c F' (putZ H as xs ys) σ ρ xx ∧ Ex F F' ∧ AtAll c.K F' (as.map V.ref) (zipD ds es)
  | [], [], _, _, _, F, H, r, _, _, _, .nil, _ => ⟨F, by simpa only [putZ] using r, Ex.refl F, .nil⟩
  | [], _ :: _, [], _, _, F, H, r, _, _, _, .cons _ _, .nil => ⟨F, by simpa only [putZ] using r, Ex.refl F, .nil⟩
  | [], _ :: _, _ :: _, _, _, _, _, _, l, _, _, _, _ => by simp at l
  | _ :: _, [], _, _, _, _, _, _, l, _, _, _, _ => by simp at l
  | _ :: _, _ :: _, [], _, _, _, _, _, l, _, _, _, _ => by simp at l
  | a :: as, x :: xs, y :: ys, d :: ds, e :: es, F, H, r, l, nd, nw, .cons a1 t1, .cons a2 t2 => by
    have nd2 := List.nodup_cons.mp nd
    have hq := nw a List.mem_cons_self
    have e1 := r.efF (.tup [x, y]) hq
    obtain ⟨F', r', e2, t⟩ := at_pairs as xs ys ds es _ _ (r.newF (.tup [x, y]) hq) (by simp only [List.length_cons] at l; omega) nd2.2 (fun b m => by
      rw [upd_ne (fun z => nd2.1 (by rw [← z]; exact m))]
      exact nw b (List.mem_cons_of_mem _ m)) (t1.mono e1) (t2.mono e1)
    refine ⟨F', by simpa only [putZ] using r', e1.trans e2, .cons ?_ t⟩
    exact At.mono e2 (.tup (.inl (.inl upd_same)) (.cons (a1.mono e1) (.cons (a2.mono e1) .nil)))
def dLstZp (f : LM) : DM := fun ρ P => f ρ fun ds ρ1 => match ds with
  | [.tuple xs, .list ys] => min xs.length ys.length ≤ 1000000 ∧ P (.list (zipD xs ys)) ρ1
  | [.list xs, .list ys] => min xs.length ys.length ≤ 1000000 ∧ P (.list (zipD xs ys)) ρ1
  | _ => False
section
variable {X : Cx} {c : Cn} {e e2 : Expr} {f : LM} {p pz pos cpos : Pos}
theorem dn_lstZp (hK : X.K = c.K) (hc : X.calm = true) (hg : Gl X "list") (hm : X.mg "list" = none) (hgz : Gl X "zip") (hmz : X.mg "zip" = none) (ha : PA X [e, e2] (tL c f))
    (hs : starEach [e, e2] X.env = (false, eval e X.env) :: starEach [e2] X.env := by rfl) (hpl : (backTo cpos (starEach [e2] X.env)).any (·.1) = false := by rfl)
    (hs2 : starEach [.Call (.Name "zip" pz) [e, e2] [] cpos] X.env = (false, eval (.Call (.Name "zip" pz) [e, e2] [] cpos) X.env) :: starEach [] X.env := by rfl) :
    PE X (.Call (.Name "list" p) [.Call (.Name "zip" pz) [e, e2] [] cpos] [] pos) (tN c (dLstZp f)) := by
  refine PE.to (pe_listZip hc hg hm hgz hmz ha hs hpl hs2) ?_
  rintro σ H Q ⟨F, ρ, xx, P, rel, q, k⟩
  refine ⟨F, ρ, xx, _, rel, q, fun ds ρ1 vs F1 H1 q1 e1 r1 a1 => ?_⟩
  have rest : ∀ (a b : Addr) (xs ys : List V) (as bs : List D), AtAll c.K F1 xs as → AtAll c.K F1 ys bs → (min as.length bs.length ≤ 1000000 ∧ P (.list (zipD as bs)) ρ1) → (SqT c.K F1 a xs ∨ SqL c.K F1 a xs) → SqL c.K F1 b ys →
      ∃ (a' b' : Addr) (xs' ys' : List V), [V.ref a, V.ref b] = [.ref a', .ref b'] ∧ (SqT X.K H1 a' xs' ∨ SqL X.K H1 a' xs') ∧ SqL X.K H1 b' ys' ∧ min xs'.length ys'.length ≤ 1000000 ∧ ∀ L as', Fz H1 L as' xs' ys' → Q (.ref L) (putL H1 L as' xs' ys') := by
    intro a b xs ys as bs t1 t2 ⟨n1, pp⟩ s1 s2
    rw [hK]
    refine ⟨a, b, xs, ys, rfl, s1.imp (fun s => r1.w.fh.st s) (fun s => r1.w.fh.sl s), r1.w.fh.sl s2, by rw [t1.length, t2.length]; exact n1, fun L as' fz => ?_⟩
    obtain ⟨F2, r2, e2, t⟩ := at_pairs as' xs ys as bs F1 H1 r1 fz.len fz.nd fz.nw t1 t2
    have hq : putZ H1 as' xs ys L = none := (putZ_ne as' xs ys H1 fz.nm).trans fz.nl
    obtain ⟨r3, fr⟩ := Fresh.new (o := .lst (as'.map V.ref)) (d := .d (.list (zipD as bs))) r2 hq ⟨_, upd_same, t⟩
    exact k _ ρ1 _ F2 _ pp (e1.trans e2) r3 fr
  split at q1
  · cases a1 with
    | cons a t => cases t with
      | cons b t =>
        cases t
        cases a with
        | tup s1 t1 => cases b with
          | lst s2 t2 => exact rest _ _ _ _ _ _ t1 t2 q1 (.inl s1) s2
  · cases a1 with
    | cons a t => cases t with
      | cons b t =>
        cases t
        cases a with
        | lst s1 t1 => cases b with
          | lst s2 t2 => exact rest _ _ _ _ _ _ t1 t2 q1 (.inr s1) s2
  · exact q1.elim
end
end DL.Lz
namespace DL
open PySem L2 PyProof.Rows
end DL
namespace DL.Lz
open PySem Sem PyProof.Rows L2 RZ
abbrev IsZf (h : Heap) (z t u : Addr) (v : Value) (f : Bool) : Prop := h.get? z = some { cls := .type "zip", dict := none, data := .fields #[v, .bool f, .bool false, .ref t, .ref u], slots := #[] }
section
variable {prog : Program} {w : PySem.World} {A : Around} {E : Value → Shared → Prop} {s : Shared} {z t u p q : Addr} {fa fb : List Addr} {na nb i : Nat} {Pa Pb : Nat → Value → Prop} {Sa Sb : Nat → Heap → Prop} {x0 y0 v : Value} {f : Bool}
theorem gone_look {T : Addr} {Q : Option Obj → Shared → Prop} (e : s.heap.get? T = none) (k : Q none s) : wpAny (model prog w) A (loadIfAlive T) Q E s := by
  have k2 : Q (s.heap.get? T) s := by
    rw [e]
    exact k
  intro _ _ _
  exact k2
/-- nothing is out -/
def Fr (s : Shared) (z : Addr) : Prop := ∀ (prog : Program) (w : PySem.World) (A : Around) (E : Value → Shared → Prop) (Q : Bool → Shared → Prop), Q true s → wpAny (model prog w) A (Builtin.SmallTypes.ownedTupleIsFree (.ref z)) Q E s
theorem fr_none (hz : IsZf s.heap z t u .none f) : Fr s z := fun _ _ _ _ _ k => by
  (unfold Builtin.SmallTypes.ownedTupleIsFree)
  exact wpAny_bind (wpAny_field hz rfl (x := .none) rfl (wpAny_pure k))
theorem fr_dead {T : Addr} (hz : IsZf s.heap z t u (rawInt T) f) (hT : s.heap.get? T = none) : Fr s z := fun _ _ A _ Q k => by
  (unfold Builtin.SmallTypes.ownedTupleIsFree)
  (refine wpAny_bind (wpAny_field hz rfl (x := rawInt T) rfl ?_))
  (show wpAny _ _ (loadIfAlive ((T : Int).toNat) >>= _) _ _ _)
  rw [Int.toNat_natCast]
  refine wpAny_bind (gone_look hT ?_)
  (simp only [Option.isNone_none, if_true])
  exact wpAny_pure k
theorem zx_next {Q : Value → Shared → Prop} (S : ZipSep2 z t u p q fa fb) (Da : Draws prog w A p fa na Pa Sa) (Db : Draws prog w A q fb nb Pb Sb) (fr : Fr s z)
    (hz : IsZf s.heap z t u v f) (ht : IsPair s.heap t (.ref p) (.ref q)) (hu : IsPair s.heap u x0 y0) (sa : Sa i s.heap) (sb : Sb i s.heap) (la : i < na) (lb : i < nb)
    (go : ∀ x y h' tk, Pa i x → Pb i y → IsZf h' z t u (rawInt s.heap.objs.size) false → IsPair h' u x y → Sa (i + 1) h' → Sb (i + 1) h' → IsPair h' s.heap.objs.size x y → h'.objs.size = s.heap.objs.size + 1 →
      (∀ c o, c ≠ z → c ≠ u → c ≠ p → c ≠ q → s.heap.get? c = some o → h'.get? c = some o) → Q (.ref s.heap.objs.size) { s with heap := h', toks := tk }) :
    wpAny (model prog w) A (Builtin.«zip.__next__» ⟨[.ref z], []⟩) (fun r s' => ∃ v, r = .done (.ret v) ∧ Q v s') E s := by
  obtain ⟨h0, gg, dd, k0, ss⟩ := s
  (show wpAny _ _ (field (.ref z) 2 >>= _) _ _ _)
  (refine wpAny_bind (wpAny_field hz rfl (x := .bool false) rfl ?_))
  (show wpAny _ _ (field (.ref z) 3 >>= _) _ _ _)
  refine wpAny_bind (wpAny_field hz rfl (x := .ref t) rfl (wpAny_bind (wpAny_seqItems ht rfl ?_)))
  (show wpAny _ _ (Builtin.SmallTypes.ownedTupleIsFree (.ref z) >>= _) _ _ _)
  refine wpAny_bind (fr _ _ _ _ _ ?_)
  simp only [if_true]
  refine wpAny_bind (wpAny_rule (wpAny_bind (wpAny_field hz rfl (x := .ref u) rfl ?_)))
  refine wpAny_bind (wpAny_setField_rec hz (by simp) fun a0 za ka => wpAny_bind ?_)
  replace za : IsZf a0 z t u .ellipsis f := za
  replace ka : Heap.SameBut z h0 a0 := ka
  (simp only [List.zipIdx_cons, List.zipIdx_nil, List.forIn_cons, List.forIn_nil])
  (refine wpAny_bind (wpAny_bind (wpAny_onRaise ?_)))
  show wpAny _ _ (Builtin.SmallTypes.nextOf (.ref p) >>= _) _ _ ⟨a0, gg, dd, k0, ss⟩
  refine wpAny_bind (Da.item i _ _ _ la (Da.over sa ka S.zf1) fun x b0 k1 hx sb1 kb => wpAny_pure ?_)
  replace kb : Heap.SameBut p a0 b0 := kb
  have ub : IsPair b0 u x0 y0 := kb.extBut _ _ S.Ti1 (ka.extBut _ _ S.TOz hu)
  refine wpAny_bind (wpAny_seqItems (s := ⟨b0, gg, dd, k1, ss⟩) ub rfl (wpAny_bind (updateSeq_IsTupOf2 (s := ⟨b0, gg, dd, k1, ss⟩) ub fun c0 uc kc => ?_)))
  replace uc : IsPair c0 u x y0 := uc
  replace kc : Heap.SameBut u b0 c0 := kc
  refine wpAny_bind (wpAny_letGo (wpAny_pure (wpAny_bind (wpAny_bind (wpAny_onRaise ?_)))))
  show wpAny _ _ (Builtin.SmallTypes.nextOf (.ref q) >>= _) _ _ ⟨c0, gg, dd, k1, ss⟩
  refine wpAny_bind (Db.item i _ _ _ lb (Db.over (Db.over (Db.over sb ka S.zf2) kb S.sep1_2) kc S.Tf2) fun y e0 k2 hy se1 ke => wpAny_pure ?_)
  replace ke : Heap.SameBut q c0 e0 := ke
  have ue : IsPair e0 u x y0 := ke.extBut _ _ S.Ti2 uc
  refine wpAny_bind (wpAny_seqItems (s := ⟨e0, gg, dd, k2, ss⟩) ue rfl (wpAny_bind (updateSeq_IsTupOf2 (s := ⟨e0, gg, dd, k2, ss⟩) ue fun g0 ug kg => ?_)))
  replace ug : IsPair g0 u x y := ug
  replace kg : Heap.SameBut u e0 g0 := kg
  refine wpAny_bind (wpAny_letGo (wpAny_pure (wpAny_pure (wpAny_bind (wpAny_seqItems (s := ⟨g0, gg, dd, k2, ss⟩) ug rfl (wpAny_bind (wpAny_newTuple ?_)))))))
  have sz : g0.objs.size = h0.objs.size := by rw [kg.1, ke.1, kc.1, kb.1, ka.1]
  have zg : IsZf g0 z t u .ellipsis f := kg.extBut _ _ S.TOz.symm (ke.extBut _ _ S.zi2 (kc.extBut _ _ S.TOz.symm (kb.extBut _ _ S.zi1 za)))
  have old : ∀ c o, c ≠ z → c ≠ u → c ≠ p → c ≠ q → h0.get? c = some o → g0.get? c = some o := fun c o d1 d2 d3 d4 e => kg.extBut _ _ d2 (ke.extBut _ _ d4 (kc.extBut _ _ d2 (kb.extBut _ _ d3 (ka.extBut _ _ d1 e))))
  have ja : Sa (i + 1) g0 := Da.over (Da.over (Da.over sb1 kc S.Tf1) ke S.sep2_1) kg S.Tf1
  have jb : Sb (i + 1) g0 := Db.over se1 kg S.Tf2
  have zl : z < g0.objs.size := Heap.lt_size zg
  show wpAny _ _ (Builtin.SmallTypes.ownedTupleHandOut (.ref z) (.ref g0.objs.size) >>= _) _ _ ⟨g0.push { cls := .type "tuple", data := .seq #[x, y] }, gg, dd, k2, ss⟩
  refine wpAny_bind ?_
  (unfold Builtin.SmallTypes.ownedTupleHandOut)
  have zp : IsZf (g0.push { cls := .type "tuple", data := .seq #[x, y] }) z t u .ellipsis f := Heap.get?_push_of_some _ zg
  refine wpAny_bind (wpAny_setField_rec zp (by simp) fun m0 zm km => ?_)
  replace zm : IsZf m0 z t u (rawInt g0.objs.size) f := zm
  refine wpAny_setField_rec zm (by simp) fun n0 zn kn => ?_
  replace zn : IsZf n0 z t u (rawInt g0.objs.size) false := zn
  replace km : Heap.SameBut z (g0.push { cls := .type "tuple", data := .seq #[x, y] }) m0 := km
  replace kn : Heap.SameBut z m0 n0 := kn
  have up : ∀ c o, c ≠ z → g0.get? c = some o → n0.get? c = some o := fun c o d e => kn.extBut _ _ d (km.extBut _ _ d (Heap.get?_push_of_some _ e))
  have new : IsPair n0 g0.objs.size x y := kn.extBut _ _ (Nat.ne_of_gt zl) (km.extBut _ _ (Nat.ne_of_gt zl) (Heap.get?_push_size _ rfl))
  have ns : n0.objs.size = g0.objs.size + 1 := by rw [kn.1, km.1, Heap.size_push]
  rw [sz] at zn new ns
  (refine wpAny_pure ⟨_, rfl, ?_⟩)
  show Q (.ref g0.objs.size) ⟨n0, gg, dd, k2, ss⟩
  rw [sz]
  exact go x y n0 k2 hx hy zn (up _ _ S.TOz ug) (Da.frame _ _ _ ja fun b hb o e => up b o (fun k => S.zf1 (k ▸ hb)) e) (Db.frame _ _ _ jb fun b hb o e => up b o (fun k => S.zf2 (k ▸ hb)) e) new ns fun c o d1 d2 d3 d4 e => up c o d1 (old c o d1 d2 d3 d4 e)
theorem zx_stop {Q : Fin → Shared → Prop} (S : ZipSep2 z t u p q fa fb) (Da : Draws prog w A p fa na Pa Sa) (Db : Draws prog w A q fb nb Pb Sb) (fr : Fr s z)
    (hz : IsZf s.heap z t u v f) (ht : IsPair s.heap t (.ref p) (.ref q)) (hu : IsPair s.heap u x0 y0) (sa : Sa i s.heap) (sb : Sb i s.heap) (la : i ≤ na) (lb : i ≤ nb) (hend : i = na ∨ i = nb)
    (hE : ∀ h' tk e, (∀ c o, c ≠ z → c ≠ u → c ≠ p → c ≠ q → s.heap.get? c = some o → h'.get? c = some o) → (∃ o, h'.get? e = some o ∧ o.cls = .type "StopIteration") → E (.ref e) { s with heap := h', toks := tk }) :
    wpAny (model prog w) A (Builtin.«zip.__next__» ⟨[.ref z], []⟩) Q E s
      := by
  obtain ⟨h0, gg, dd, k0, ss⟩ := s
  (show wpAny _ _ (field (.ref z) 2 >>= _) _ _ _)
  (refine wpAny_bind (wpAny_field hz rfl (x := .bool false) rfl ?_))
  (show wpAny _ _ (field (.ref z) 3 >>= _) _ _ _)
  refine wpAny_bind (wpAny_field hz rfl (x := .ref t) rfl (wpAny_bind (wpAny_seqItems ht rfl ?_)))
  (show wpAny _ _ (Builtin.SmallTypes.ownedTupleIsFree (.ref z) >>= _) _ _ _)
  refine wpAny_bind (fr _ _ _ _ _ ?_)
  simp only [if_true]
  refine wpAny_bind (wpAny_rule (wpAny_bind (wpAny_field hz rfl (x := .ref u) rfl ?_)))
  refine wpAny_bind (wpAny_setField_rec hz (by simp) fun a0 za ka => wpAny_bind ?_)
  replace za : IsZf a0 z t u .ellipsis f := za
  replace ka : Heap.SameBut z h0 a0 := ka
  (simp only [List.zipIdx_cons, List.zipIdx_nil, List.forIn_cons, List.forIn_nil])
  (refine wpAny_bind (wpAny_bind (wpAny_onRaise ?_)))
  show wpAny _ _ (Builtin.SmallTypes.nextOf (.ref p) >>= _) _ _ ⟨a0, gg, dd, k0, ss⟩
  have off : ∀ {m : Heap} {k : Nat} {e : Addr}, IsZf m z t u .ellipsis f → (∃ o, m.get? e = some o ∧ o.cls = .type "StopIteration") → (∀ c o, c ≠ z → c ≠ u → c ≠ p → c ≠ q → h0.get? c = some o → m.get? c = some o) →
      wpAny (model prog w) A (setField (.ref z) 0 .none) (fun _ s' => E (.ref e) s') E ⟨m, gg, dd, k, ss⟩ := fun {m k e} zm he old => by
    obtain ⟨oe, ge, ce⟩ := he
    have ez : e ≠ z := fun x => by
      subst x
      rw [zm] at ge
      cases ge
      simp at ce
    refine wpAny_setField_rec (s := ⟨m, gg, dd, k, ss⟩) zm (by simp) fun m' _ km => ?_
    replace km : Heap.SameBut z m m' := km
    exact hE m' k e (fun c o d1 d2 d3 d4 x => km.extBut _ _ d1 (old c o d1 d2 d3 d4 x)) ⟨oe, km.extBut _ _ ez ge, ce⟩
  by_cases l1 : i < na
  · refine wpAny_bind (Da.item i _ _ _ l1 (Da.over sa ka S.zf1) fun x b0 k1 hx sb1 kb => wpAny_pure ?_)
    replace kb : Heap.SameBut p a0 b0 := kb
    have ub : IsPair b0 u x0 y0 := kb.extBut _ _ S.Ti1 (ka.extBut _ _ S.TOz hu)
    refine wpAny_bind (wpAny_seqItems (s := ⟨b0, gg, dd, k1, ss⟩) ub rfl (wpAny_bind (updateSeq_IsTupOf2 (s := ⟨b0, gg, dd, k1, ss⟩) ub fun c0 uc kc => ?_)))
    replace kc : Heap.SameBut u b0 c0 := kc
    have e2 : nb = i := by omega
    subst e2
    refine wpAny_bind (wpAny_letGo (wpAny_pure (wpAny_bind (wpAny_bind (wpAny_onRaise ?_)))))
    show wpAny _ _ (Builtin.SmallTypes.nextOf (.ref q) >>= _) _ _ ⟨c0, gg, dd, k1, ss⟩
    refine wpAny_bind (Db.done ⟨c0, gg, dd, k1, ss⟩ _ _ (Db.over (Db.over (Db.over sb ka S.zf2) kb S.sep1_2) kc S.Tf2) fun m e km he => ?_)
    replace km : Heap.ExtBut q c0 m := km
    exact off (km _ _ S.zi2 (kc.extBut _ _ S.TOz.symm (kb.extBut _ _ S.zi1 za))) he fun c o d1 d2 d3 d4 x => km _ _ d4 (kc.extBut _ _ d2 (kb.extBut _ _ d3 (ka.extBut _ _ d1 x)))
  · have e1 : na = i := by omega
    subst e1
    refine wpAny_bind (Da.done ⟨a0, gg, dd, k0, ss⟩ _ _ (Da.over sa ka S.zf1) fun m e km he => ?_)
    replace km : Heap.ExtBut p a0 m := km
    exact off (km _ _ S.zi1 za) he fun c o d1 d2 d3 d4 x => km _ _ d3 (ka.extBut _ _ d1 x)
/-- fresh, or with a pair out of which nothing is known -/
def Zn (z t u : Addr) (h : Heap) : Prop := ∃ v f, IsZf h z t u v f ∧ (v = .none ∨ ∃ T : Addr, v = rawInt T)
theorem zn_item {Q : Option Value → Shared → Prop} (S : ZipSep2 z t u p q fa fb) (Da : Draws prog w A.in1 p fa na Pa Sa) (Db : Draws prog w A.in1 q fb nb Pb Sb)
    (hz : Zn z t u s.heap) (ht : IsPair s.heap t (.ref p) (.ref q)) (hu : IsPair s.heap u x0 y0) (sa : Sa i s.heap) (sb : Sb i s.heap) (la : i < na) (lb : i < nb)
    (go : ∀ x y h' tk, Pa i x → Pb i y → Zn z t u h' → (∃ x y, IsPair h' u x y) → Sa (i + 1) h' → Sb (i + 1) h' → IsPair h' s.heap.objs.size x y →
      (∀ c o, c ≠ z → c ≠ u → c ≠ p → c ≠ q → s.heap.get? c = some o → h'.get? c = some o) → Q (some (.ref s.heap.objs.size)) { s with heap := h', toks := tk }) : wpAny (model prog w) A (pyNext (.ref z)) Q E s := by
  obtain ⟨v, f, hz, hv⟩ := hz
  have ty : s.TypeIs (.ref z) "zip" := ⟨_, hz, rfl⟩
  have free : Fr s z → wpAny (model prog w) A (pyNext (.ref z)) Q E s := fun fr => by
    unfold pyNext
    refine wpAny_bind (wpAny_attempt (wpAny_callSpecial?_slot (name := Str.ofString "__next__") ty F.slot_zip_next (wpAny_call_entry F.slot_zip_next ty F.entry_zip_next ?_ (F.args_zip_next_1 _))))
    exact zx_next S Da Db fr hz ht hu sa sb la lb fun x y h' tk a1 a2 a3 a4 a5 a6 a7 _ a9 => wpAny_pure (go x y h' tk a1 a2 ⟨_, _, a3, .inr ⟨_, rfl⟩⟩ ⟨_, _, a4⟩ a5 a6 a7 a9)
  rcases hv with rfl | ⟨T, rfl⟩
  · exact free (fr_none hz)
  · cases hT : s.heap.get? T with
    | none => exact free (fr_dead hz hT)
    | some oT => exact zh_item S Da Db hz hT ht sa sb la lb fun x y h' tk a1 a2 a3 a4 a5 a6 _ a8 => go x y h' tk a1 a2 ⟨_, _, a3, .inr ⟨_, rfl⟩⟩ ⟨_, _, a8 _ _ S.TOz S.Ti1 S.Ti2 hu⟩ a4 a5 a6 fun c o d1 _ d3 d4 e => a8 c o d1 d3 d4 e
theorem zn_end {Q : Option Value → Shared → Prop} (S : ZipSep2 z t u p q fa fb) (Da : Draws prog w A.in1 p fa na Pa Sa) (Db : Draws prog w A.in1 q fb nb Pb Sb)
    (hz : Zn z t u s.heap) (ht : IsPair s.heap t (.ref p) (.ref q)) (hu : IsPair s.heap u x0 y0) (sa : Sa i s.heap) (sb : Sb i s.heap) (la : i ≤ na) (lb : i ≤ nb) (hend : i = na ∨ i = nb)
    (go : ∀ h' tk, (∀ c o, c ≠ z → c ≠ u → c ≠ p → c ≠ q → s.heap.get? c = some o → h'.get? c = some o) → Q none { s with heap := h', toks := tk }) : wpAny (model prog w) A (pyNext (.ref z)) Q E s := by
  obtain ⟨v, f, hz, hv⟩ := hz
  have ty : s.TypeIs (.ref z) "zip" := ⟨_, hz, rfl⟩
  have free : Fr s z → wpAny (model prog w) A (pyNext (.ref z)) Q E s := fun fr => by
    unfold pyNext
    refine wpAny_bind (wpAny_attempt (wpAny_callSpecial?_slot (name := Str.ofString "__next__") ty F.slot_zip_next (wpAny_call_entry F.slot_zip_next ty F.entry_zip_next (zx_stop S Da Db fr hz ht hu sa sb la lb hend fun h' tk e hk he => ?_) (F.args_zip_next_1 _))))
    obtain ⟨o, ho, hc⟩ := he
    exact wpAny_bind (wpAny_isInstance (T := "StopIteration") (b := true) ⟨o, ho, hc⟩ isSubtype_stop (wpAny_pure (go _ _ hk)))
  rcases hv with rfl | ⟨T, rfl⟩
  · exact free (fr_none hz)
  · cases hT : s.heap.get? T with
    | none => exact free (fr_dead hz hT)
    | some oT => exact zh_end S Da Db hz hT ht sa sb la lb hend fun h' tk k => go h' tk fun c o d1 _ d3 d4 e => k c o d1 d3 d4 e
end
section
variable {prog : Program} {w : PySem.World} {A : Around} {E : Value → Shared → Prop} {s : Shared}
theorem zn_self {z t u : Addr} {Q : Value → Shared → Prop} (hz : Zn z t u s.heap) (h : Q (.ref z) s) : wpAny (model prog w) A (pyIter (.ref z)) Q E s := by
  obtain ⟨v, f, k, _⟩ := hz
  have ty : s.TypeIs (.ref z) "zip" := ⟨_, k, rfl⟩
  refine wpAny_pyIter_slot ty F.slot_zip_iter (wpAny_call_entry F.slot_zip_iter ty F.entry_zip_iter ?_ (F.args_zip_iter_1 _))
  show wpAny (model prog w) _ (ret (.ref z)) _ _ s
  exact wpAny_pure ⟨_, rfl, "zip", _, ty, F.slot_zip_next.lookup, h⟩
end
/-- how far both are gone -/
structure NmGone (z t u p q a b : Addr) (n : Nat) (h : Heap) : Prop where
  zip : Zn z t u h
  its : IsPair h t (.ref p) (.ref q)
  two : ∃ x y, IsPair h u x y
  fst : h.IsTupleIter p a n
  snd : h.IsTupleIter q b n
section
variable {z t u p q a b : Addr} {n : Nat} {h h' : Heap}
theorem NmGone.there (m : NmGone z t u p q a b n h) {c : Addr} (hc : c ∈ [z, t, u, p, q]) : ∃ o, h.get? c = some o ∧ ∀ v, o.data ≠ .cell v := by
  obtain ⟨⟨v1, f1, k1, _⟩, k2, ⟨x, y, k3⟩, ⟨o4, e4, _, f4⟩, ⟨o5, e5, _, f5⟩⟩ := m
  refine five (P := fun c => ∃ o, h.get? c = some o ∧ ∀ v, o.data ≠ .cell v) hc ⟨_, k1, nofun⟩ ⟨_, k2, nofun⟩ ⟨_, k3, nofun⟩ ⟨o4, e4, fun v e => ?_⟩ ⟨o5, e5, fun v e => ?_⟩
  · rw [f4] at e
    cases e
  · rw [f5] at e
    cases e
theorem NmGone.below (m : NmGone z t u p q a b n h) {c : Addr} (hc : c ∈ [z, t, u, p, q]) : c < h.objs.size := Heap.lt_size (m.there hc).choose_spec.1
theorem NmGone.on (m : NmGone z t u p q a b n h) (k : ∀ c, c ∈ [z, t, u, p, q] → ∀ o, h.get? c = some o → h'.get? c = some o) : NmGone z t u p q a b n h' := by
  obtain ⟨⟨v1, f1, k1, hv⟩, k2, ⟨x, y, k3⟩, k4, k5⟩ := m
  have e1 := k z (by simp) _ k1
  have e2 := k t (by simp) _ k2
  have e3 := k u (by simp) _ k3
  exact ⟨⟨v1, f1, e1, hv⟩, e2, ⟨x, y, e3⟩, k4.at (k p (by simp)), k5.at (k q (by simp))⟩
end
end DL.Lz
namespace DL
open PySem L2 PyProof.Rows
def Zk (H : Hp) (v : V) : Prop := ∃ (a : Addr) (o : Obj) (u : HO), v = .ref a ∧ H a = some (.frz o u) ∧ o.cls = .type "tuple" ∧ o.dict = none
/-- what a def promises that hands out such a tuple -/
def spZ (K : PySem.W.Frag) (R : Orc) (n : Nat) (S : SpD) : Sp := fun vs H Q _ => ∃ (q : Option Addr) (F : Hp) (as : List Ar) (m : Nat) (P : D → Nat → Prop), World R q F H F H ∧ Paired (ArAt ⟨K, R, q, F, H⟩ F) vs as ∧ as.length = n ∧ oraAt as ∧ (q = none ∨ as[0]? = some .ora) ∧ (∀ p, q = some p → R.cnt p H ≤ m) ∧ S as m P ∧
  ∀ d m' v F' H', P d m' → World R q F H F' H' → (∀ p, q = some p → R.cnt p H' ≤ m') → At K F' v d → Zk H' v → Q v H'
def CdZ (pr : Program) (wd : PySem.World) (K : PySem.W.Frag) (gl : Str → Option Value) (bas : Heap) (R : Orc) (k : Nat) (x : Str) (n : Nat) (S : SpD) : Prop :=
  ∃ (f : Addr) (fd : FuncData) (ps : List Str), FnG pr wd K gl bas k f fd ps (spZ K R n S) ∧ gl x = some (.ref f) ∧ PySem.W.keepIn K (.ref f) = true ∧ Binds K fd ps []
section
variable {pr : Program} {wd : PySem.World} {K : PySem.W.Frag} {gl : Str → Option Value} {bas : Heap} {R : Orc} {j k n : Nat} {x : Str} {S : SpD}
theorem CdZ.more (C : CdZ pr wd K gl bas R j x n S) (h : j ≤ k) : CdZ pr wd K gl bas R k x n S := by
  obtain ⟨f, fd, ps, F, rest⟩ := C
  exact ⟨f, fd, ps, F.more h, rest⟩
end
end DL
namespace DL.Ms
open PySem L2 PySem.Spec PyProof.Rows
end DL.Ms
namespace DL
open PySem L2 PySem.Spec PyProof.Rows
end DL
namespace DL
open PySem L2
end DL
namespace DL
open PySem L2
end DL
namespace DL
open PySem L2 PyProof.Rows
abbrev TD := List (List Key × D)
/-- what stands in the heap's dict, entry by entry -/
def TAt (K : PySem.W.Frag) (F : Hp) (kvs : List (List Key × V)) (xs : TD) : Prop := Paired (fun (p : List Key × V) (q : List Key × D) => p.1 = q.1 ∧ At K F p.2 q.2) kvs xs
section
variable {K : PySem.W.Frag} {F F' H : Hp} {a : Addr}
theorem TAt.mono (e : Ex F F') {kvs : List (List Key × V)} {xs : TD} (h : TAt K F kvs xs) : TAt K F' kvs xs := by
  unfold TAt at h ⊢
  induction h with
  | nil => exact .nil
  | cons h t ih => exact .cons ⟨h.1, h.2.mono e⟩ ih
/-- what the dict has under a key -/
def getT (xs : TD) (k : List Key) : Option D := (xs.find? fun p => decide (p.1 = k)).map (·.2)
end
end DL
namespace DL
open PySem L2
end DL
namespace DL
open PySem L2
section
variable {X : Cx} {c : Cn}
/-- arguments, some of them slots -/
abbrev Ar2 := Ar ⊕ Nat
abbrev AM2 := Env → (List Ar2 → Env → Prop) → Prop
def A2At (c : Cn) (F : Hp) (σ : L2.St) : V → Ar2 → Prop
  | v, .inl x => ArAt c F v x
  | v, .inr i => σ[i]? = some (some v)
theorem A2At.mono {F F' : Hp} {σ : L2.St} (e : Ex F F') {v : V} {x : Ar2} (h : A2At c F σ v x) : A2At c F' σ v x := by
  cases x with
  | inl x => exact ArAt.mono e h
  | inr i => exact h
variable {e : Expr} {es : List Expr}
variable {k : Nat} {f : Addr} {fd : FuncData} {ps : List Str} {S : SpD} {x : Str} {p pos : Pos} {fa : AM2} {n i : Nat}
end
end DL
namespace DL
open PySem L2
end DL
namespace DL
open PySem L2
end DL
namespace DL
open PySem L2 PyProof.Rows
end DL
namespace PySem.W
open PySem L2 PySem.Spec PyProof.Rows
section
variable {K : Frag} {M : Model}
theorem exm_all {h : Heap} (X : K.In h) {cls : Value} : ∀ {cs : List Value} {b : Bool}, exmAny K cls cs = some b → (∀ c ∈ cs, Looks M h (isExcClass c) true) ∧ ∃ bs : List Bool, bs.length = cs.length ∧ b = bs.any id ∧ ∀ (i : Nat) (c : Value) (v : Bool), cs[i]? = some c → bs[i]? = some v → Looks M h (isSubtype cls c) v
  | [], b, hx => by
    have hx : some false = some b := hx
    cases hx
    exact ⟨(fun c hc => nomatch hc), [], rfl, rfl, fun i c v e => by simp at e⟩
  | c :: cs, b, hx => by
    (obtain ⟨b1, d1, x1, y1, z1⟩ := exmAny_cons hx)
    (obtain ⟨e1, S1⟩ := exm_cls (M := M) X x1)
    obtain ⟨h1, bs, h2, h3, h4⟩ := exm_all X y1
    refine ⟨fun y hy => ?_, b1 :: bs, by rw [List.length_cons, List.length_cons, h2], by rw [z1, h3]; rfl, fun i y v ey ev => ?_⟩
    · (rcases List.mem_cons.mp hy with rfl | hy)
      · exact e1
      · exact h1 y hy
    · cases i with
      | zero =>
        cases ey
        cases ev
        exact S1
      | succ i => exact h4 i y v ey ev
/-- a loop whose turns all go on -/
theorem for_on {α : Type} {A : Around} {E : Value → Shared → Prop} {Q : PUnit → Shared → Prop} {s : Shared} {f : α → PUnit → Sem (ForInStep PUnit)} : ∀ (cs : List α), (∀ c ∈ cs, ∀ R : ForInStep PUnit → Shared → Prop, R (.yield ⟨⟩) s → wpAny M A (f c ⟨⟩) R E s) → Q ⟨⟩ s → wpAny M A (forIn cs ⟨⟩ f) Q E s
  | [], _, q => List.forIn_nil (f := f) ▸ wpAny_pure q
  | c :: cs, h, q => by
    rw [List.forIn_cons]
    exact wpAny_bind (h c List.mem_cons_self _ (for_on cs (fun y m => h y (List.mem_cons_of_mem _ m)) q))
/-- a loop that ends with x at the first turn that says yes -/
theorem for_first {α β : Type} {A : Around} {E : Value → Shared → Prop} {Q : β → Shared → Prop} {s : Shared} {f : α → β → Sem (ForInStep β)} {x y : β} : ∀ (cs : List α) (bs : List Bool), bs.length = cs.length → (∀ (i : Nat) (c : α) (v : Bool), cs[i]? = some c → bs[i]? = some v → ∀ R : ForInStep β → Shared → Prop, R (bif v then .done x else .yield y) s → wpAny M A (f c y) R E s) →
    Q (bif bs.any id then x else y) s → wpAny M A (forIn cs y f) Q E s
  | [], bs, l, _, q => by
    cases List.eq_nil_of_length_eq_zero l
    rw [List.forIn_nil]
    exact wpAny_pure q
  | c :: cs, [], l, _, _ => nomatch l
  | c :: cs, v :: bs, l, h, q => by
    rw [List.forIn_cons]
    refine wpAny_bind (h 0 c v rfl rfl _ ?_)
    match v, q with
    | true, q => exact wpAny_pure q
    | false, q => exact for_first cs bs (Nat.succ.inj l) (fun i c v e1 e2 => h (i + 1) c v e1 e2) q
/-- does the exception match a tuple of classes -/
theorem exm_tupN {cs : List Value} {cls : Value} {tp e : Addr} {b : Bool} {h : Heap} (X : K.In h) (typ : Looks M h (typeOf (.ref e)) cls) (at_ : h.get? tp = some { cls := .type "tuple", data := .seq cs.toArray }) (told : exmAny K cls cs = some b) :
    Looks M h (excMatches (.ref e) (.ref tp)) b
      := by
  obtain ⟨classes, bs, same, rfl, each⟩ := exm_all (M := M) X told
  have isTup : Looks M h (isInstance (.ref tp) (.type "tuple")) true := .andThen (.andThen (.ld at_) .now) (.of_pure isSubtype_tuple_tuple)
  rintro A Q E ⟨hp, g, d, tk, os⟩ kept q
  have kept : ∀ b o, h.get? b = some o → hp.get? b = some o := kept
  unfold excMatches
  refine wpAny_bind ((isTup.keeps kept).at ?_)
  rw [if_pos rfl]
  first
    | refine wpAny_bind (wpAny_seqItems (kept _ _ at_) rfl ?_)
    | refine wpAny_bind (wpAny_bind (wpAny_seqItems (kept _ _ at_) rfl (wpAny_pure ?_)))
  refine wpAny_bind (wpAny_pure (wpAny_bind (for_on cs (fun c m R r => wpAny_bind (((classes c m).keeps kept).at ?_)) ?_)))
  · rw [if_neg (by decide)]
    exact wpAny_pure r
  apply wpAny_bind
  apply (typ.keeps kept).at
  apply wpAny_bind
  apply for_first (x := (some true, ())) cs bs same fun i c v e1 e2 R r => wpAny_bind (((each i c v e1 e2).keeps kept).at (by
    revert r
    cases v <;> exact fun r => wpAny_pure r))
  revert q
  cases bs.any id <;> exact fun q => wpAny_pure q
end
end PySem.W
namespace DL
open PySem L2 PySem.Spec PyProof.Rows
/-- what is known of a caught exception -/
def ExcO (p : Addr) (cls : Value) (d : Option Addr) : HO := .ext fun h => ∃ (oe : Obj) (vs : Array Value), h.get? p = some oe ∧ Zc cls d oe ∧ oe.data = .fields vs
theorem inv_exc {X : Cx} {pins : List (Addr × Obj)} {σ : L2.St} {H : Hp} {s : Shared} {p : Addr} {cls : Value} {d : Option Addr} {oe : Obj} {vs : Array Value} (I : Inv X pins σ H s) (hp : H p = none) (h0 : X.s_0.heap.get? p = none) (he : s.heap.get? p = some oe) (hz : Zc cls d oe) (hd : oe.data = .fields vs)
    (nL : p ≠ X.env.locals) (np : ∀ q ∈ X.pn ++ pins, q.1 ≠ p) : Inv X pins σ (upd H p (ExcO p cls d)) s := by
  have ne : ∀ b u, H b = some u → b ≠ p := fun b u e z => by
    rw [z, hp] at e
    cases e
  refine ⟨I.ok, I.os, I.bare, ⟨I.base.keep, I.base.slot, fun b o e n x => ?_, I.base.there, fun b xs e => ?_, fun b o u e => ?_, fun b ps e => ?_⟩, I.loc, I.cell, ?_, fun x c e => ?_, fun q hq => ?_, fun b u e => ?_, I.len⟩
  · rw [upd_ne fun z => by rw [z, h0] at e; cases e]
    exact I.base.free b o e n x
  · have := I.base.tups b xs e
    rw [upd_ne (ne b _ this)]
    exact this
  · have := I.base.frzs b o u e
    rw [upd_ne (ne b _ this)]
    exact this
  · obtain ⟨more, this⟩ := I.base.tbls b ps e
    exact ⟨more, by rw [upd_ne (ne b _ this)]; exact this⟩
  · rw [upd_ne (Ne.symm nL)]
    exact I.free
  · rw [upd_ne fun z => ?_]
    · exact I.freeC x c e
    · obtain ⟨v, o, ho, hc⟩ := I.cell x c e
      rw [z, he] at ho
      cases ho
      rw [hd] at hc
      cases hc
  · obtain ⟨q1, q2, q3⟩ := I.pin q hq
    exact ⟨q1, by rw [upd_ne (np q hq)]; exact q2, q3⟩
  · by_cases hb : b = p
    · rw [hb, upd_same] at e
      cases e
      rw [hb]
      exact ⟨⟨oe, vs, he, hz, hd⟩, ⟨oe, he⟩, fun h1 h2 ⟨oe, vs, a, b, c⟩ st => ⟨oe, vs, st _ a, b, c⟩⟩
    · rw [upd_ne hb] at e
      exact (I.hok b u e).stay (fun d v _ q => q) (fun d q => by rw [upd_ne (ne d _ q)]; exact q) fun d xs q => by rw [upd_ne (ne d _ q)]; exact q
end DL
namespace DL
open PySem L2 PySem.Spec PyProof.Rows
/-- what the clauses do: the exception that one of them takes is kept in slot j -/
def wKp (K : PySem.W.Frag) (N : Nat) (D : Ends) (i j : Nat) : List (List Value) → WX
  | [] => fun _ _ _ _ => False
  | cs :: r => fun cls d σ H => ∃ b, PySem.W.exmAny K cls cs = some b ∧ (b = true → σ.length = N → ∀ p, H p = none → D.nx (((σ.set i (some (.ref p))).set j (some (.ref p))).set i none) (upd H p (ExcO p cls d))) ∧ (b = false → wKp K N D i j r cls d σ H)
def tKp (i j : Nat) : TS := fun D σ H => ∃ v, σ[i]? = some (some v) ∧ D.nx (σ.set j (some v)) H
/-- the names of a clause's classes -/
inductive NmOk (X : Cx) : List Expr → List Value → Prop
  | nil : NmOk X [] []
  | cons {x : Str} {c : Value} {p : Pos} {es : List Expr} {cs : List Value} (h : Names X x c) (r : NmOk X es cs) (hs : starEach (.Name x p :: es) X.env = (false, eval (.Name x p) X.env) :: starEach es X.env := by rfl) : NmOk X (.Name x p :: es) (c :: cs)
inductive KpOk (X : Cx) (n : Str) (i j : Nat) : List ExceptHandler → List (List Value) → Prop
  | nil : KpOk X n i j [] []
  | cons {es : List Expr} {cs : List Value} {k : Nat} {p1 p2 : Pos} {st : Stmt} {hds : List ExceptHandler} {l : List (List Value)} (hn : NmOk X es cs) (su : ∀ (p : Addr) (ob : Obj) (cls : Value) (d : Option Addr) (pn : List (Addr × Obj)), Zc cls d ob → (∃ vs, ob.data = .fields vs) → PSs (X.suite p ((p, ob) :: pn)) [st] (tKp i j))
      (r : KpOk X n i j hds l) : KpOk X n i j (.ExceptHandler (some (.Tuple es k p1)) (some n) [st] p2 :: hds) (cs :: l)
theorem Catch.names {X : Cx} {pins : List (Addr × Obj)} {p : Addr} {cls : Value} {d : Option Addr} {σ : L2.St} {H : Hp} {s : Shared} {pp : Pos} {Q : List Value → Shared → Prop} {E : Value → Shared → Prop} {es : List Expr} {cs : List Value} (c : Catch X pins p cls d σ H s) (hs : X.stack = X.env :: X.outer) (hf : X.env.frame = some X.env.locals) (hn : NmOk X es cs) (q : Q cs s) :
    wpAny (model X.prog X.w) (X.A.mark (some (.ref p))) (spliced (backTo pp (starEach es X.env))) Q E s := by
  induction hn generalizing Q with
  | nil => exact wpAny_items_nil q
  | cons one _ star more => exact wpAny_items_cons (c.reads hs hf one (more q)) star
section
variable {X : Cx} {body : List Stmt} {h₀ : ExceptHandler} {hds : List ExceptHandler} {l : List (List Value)} {pos : Pos} {tb : WX → TS} {n : Str} {i j : Nat}
theorem ps_try_kp (hs : X.stack = X.env :: X.outer) (hf : X.env.frame = some X.env.locals) (hN : X.N.Nodup) (hi : X.N[i]? = some n) (hln : X.env.kindOf n = some .local)
    (hb : ∀ (wish : WX) (held : List (Addr × Obj)) (out : Value → Shared → Prop), Takes (X.tr held out) wish → PassesOwn (model X.prog X.w) X.A X.env out → PSs (X.tr held out) body (tb wish))
    (hh : KpOk X n i j (h₀ :: hds) l) (hsz : ∀ cs ∈ l, cs.length ≤ 100) (hex : X.ex = []) : PS X (.Try body (h₀ :: hds) [] [] pos) (fun D σ H => tb (wKp X.K X.N.length D i j l) D σ H) := by
  refine try_by hs hf hb (w := fun D => wKp X.K X.N.length D i j l) ?_
  intro pins D p cls d σ H s c
  clear hb
  suffices all : ∀ {hs' : List ExceptHandler} {l : List (List Value)}, KpOk X n i j hs' l → (∀ cs ∈ l, cs.length ≤ 100) → ∀ {s : Shared}, Catch X pins p cls d σ H s → wKp X.K X.N.length D i j l cls d σ H → wpAny (model X.prog X.w) X.A (handleBy (.ref p) X.env hs') (SP X pins D) X.xe s from all hh hsz c
  intro hs' l hk
  induction hk with
  | nil => exact fun _ _ _ => False.elim
  | @cons es cs k p1 p2 st hds2 l2 hn su _ more =>
    rintro few s c ⟨b, e, yes, no⟩
    have c2 := c.grown (h := s.heap.push { cls := .type "tuple", data := .seq cs.toArray }) fun _ _ => Heap.get?_push_of_some _
    have fits : cs.length ≤ sizeLine := Nat.le_trans (few cs List.mem_cons_self) (by decide)
    refine wpAny_handleBy_cons (codeAny_handlers_test (wpAny_Tuple (c.names hs hf hn ⟨fits, (PySem.W.exm_tupN c2.inv.kIn c2.looks (Heap.get?_push_size s.heap rfl) e).here ?_⟩))) Value.noConfusion
    match b with
    | false => exact more (fun x m => few x (List.mem_cons_of_mem _ m)) c2 (no rfl)
    | true =>
      refine codeAny_handlers_suite_as (c2.lands fun h4 c4 => ?_)
      obtain ⟨nL, nF, ob, at_, z, hd, S⟩ := c4.held hs hf
      refine store_ok (X := X.suite p ((p, ob) :: (X.pn ++ pins))) (v := .ref p) S hN hi (.inl hln) rfl (fun s5 S5 => ?_) (.inr hln)
      have len : σ.length = X.N.length := c4.inv.len
      have here : (σ.set i (some (V.ref p)))[i]? = some (some (V.ref p)) := List.getElem?_set_self (by rw [len]; exact (List.getElem?_eq_some_iff.mp hi).1)
      refine wpAny_mono ((su p ob cls d (X.pn ++ pins) z hd).run [] s5 _ H ⟨fun σ6 H6 => σ6 = (σ.set i (some (V.ref p))).set j (some (V.ref p)) ∧ H6 = H, fun _ _ => False, fun _ _ => False, fun _ _ => False⟩ S5 ⟨_, here, rfl, rfl⟩) (fun f s6 q => ?_) fun _ _ => False.elim
      match f, q with
      | .next, ⟨_, _, S6, rfl, rfl⟩ =>
        obtain ⟨f1, f2⟩ := c4.fresh hex
        have pin := (S6.pin (p, ob) (List.mem_append_left _ List.mem_cons_self)).1
        exact gone_ok (hd.elim fun vs hd => inv_exc (S6.unsuite c.ok) c.new f1 pin z hd nL f2) hN hi hln fun s7 J7 => ⟨_, _, J7, yes rfl len p c.new⟩
      | .brk, ⟨_, _, _, q⟩ => exact q.elim
      | .cont, ⟨_, _, _, q⟩ => exact q.elim
      | .ret _, ⟨_, _, _, _, _, q⟩ => exact q.elim
end
end DL
namespace PySem.W
open PySem L2 PySem.Spec PyProof.Rows
section
variable {prog : Program} {w : World} {A : Around} {E : Value → Shared → Prop} {s : Shared} {K : Frag} {x D : Addr} {ox : Obj} {od : Option Obj}
theorem class_found {C : Addr} {name : Str} {a g : Value} (hc : hasDictIn K C = true) (ha : findIn K (.ref C) name = some (some a)) (hg : specialIn K a "__get__" = some (some g)) (ht : takesIn K a = some true) : findObj K C od name = some (.bind g a) := by
  obtain ⟨cd, at_, _⟩ := any_some hc
  simp only [findObj, at_, Option.bind_some, ha, hg, ht]
theorem kin_classA {Q : Option Value → Shared → Prop} (C : L2.ExcC K D) (X : K.In s.heap) (I : InstAt s.heap x ox D od) (h : Q (some (.ref D)) { s with toks := s.toks + 1 }) : wpAny (model prog w) A (getAttr? (.ref x) "__class__") Q E s := by
  have found : findObj K D od "__class__" = some (.bind (.builtin "getset_descriptor.__get__") (.builtin "object.__class__")) := class_found C.hd C.ha C.hn C.ht
  obtain ⟨hp, g, d, t, os⟩ := s
  have l0 := I.type (M := model prog w)
  have l1 := looks_findIn (M := model prog w) X C.hg
  have l2 := looks_findIn (M := model prog w) X C.hk
  have l3 := looks_find (M := model prog w) X I found
  unfold getAttr? getAttrBy?
  unfold getAttrBy
  repeat (first | refine l0.at ?_ | refine l1.at ?_ | refine l2.at ?_ | refine l3.at ?_ | wp_step)
  have isExc : Looks (model prog w) hp (isInstance (.ref x) (.type "BaseException")) true := l0.andThen (looks_subIn X C.hs)
  have ga := PySem.F.excAttr_ValueError.ga
  refine wpAny_of_eq (ga.bind (.ref x)) (wpAny_call (codeAny_call_builtin ga.plain PySem.F.entry_bexc_ga ?_))
  refine @check_slot (model prog w) _ _ ⟨hp, g, d, t + 1, os⟩ "BaseException.__getattribute__" "BaseException" "__getattribute__" (.ref x) [.str "__class__" t] [] _ (by decide +kernel) (by decide +kernel) isExc (PySem.F.args_bexc_ga (.ref x) (.str "__class__" t)) ?_
  delta Builtin.«object.__getattribute__»
  (refine wpAny_bind (wpAny_of_eq (a := ((Value.ref x : Value), [Value.str "__class__" t])) (by first | rfl | (simp only [slotArgs]; rfl)) ?_))
  repeat (first | refine l0.at ?_ | refine l3.at ?_ | wp_step)
  refine class_get (s := ⟨hp, g, d, t + 1, os⟩) (ox := ox) (od := od) X I C.hm ?_
  refine wpAny_pure ?_
  (show wpAny _ _ (handedOut (.ref D)) _ _ _)
  (rw [handedOut_of (v := .ref D) rfl])
  repeat (first | exact h | wp_step)
/-- a class of the written part is a class -/
theorem cls_at (h : hasDictIn K D = true) : ∃ c d cd sl, K.lookup D = some ⟨c, d, .cls cd, sl⟩ := by
  obtain ⟨cd, at_, _⟩ := any_some h
  unfold clsIn at at_
  split at at_
  case _ c d cd' sl e => exact ⟨c, d, cd', sl, e⟩
  case _ => cases at_
theorem kitx_excA (C : L2.ExcC K D) : KitX K (.ref x) (.ref D) (fun h => InstAt h x ox D od) := by
  obtain ⟨c, dd, cd, sl, at_⟩ := cls_at C.hd
  constructor
  case ty => exact fun _ _ _ I => I.type
  case ca => exact fun X I k => kin_classA C X I k
  case it =>
    rintro M h X - A Q E s k q
    unfold isType loadHead
    exact wpAny_bind (wpAny_loadPart (k _ _ (X _ _ at_)) (wpAny_pure q))
  case ne =>
    intro h tp dd' its n sl' X e
    cases z : (Value.ref D == Value.ref tp) with
    | false => rfl
    | true =>
      obtain rfl : D = tp := Value.ref.inj (beq_iff_eq.mp z)
      cases (X _ _ at_).symm.trans e
end
end PySem.W
namespace DL
open PySem L2 PySem.Spec PyProof.Rows
/-- the fields of a caught exception, if it has some -/
def DcAt (d : Option Addr) (H : Hp) : Prop := d = none ∨ ∃ dd fs, d = some dd ∧ H dd = some (.xd fs)
theorem inst_at {X : Cx} {pins : List (Addr × Obj)} {σ : L2.St} {H : Hp} {s : Shared} {p D : Addr} {d : Option Addr} (I : Inv X pins σ H s) (hp : H p = some (ExcO p (.ref D) d)) (hd : DcAt d H) :
    ∃ oe od, PySem.W.InstAt s.heap p oe D od ∧ (∀ dd, d = some dd → od = s.heap.get? dd ∧ od ≠ none) := by
  obtain ⟨⟨oe, vs, e1, ⟨e2, e3⟩, e4⟩, _⟩ := I.hok p _ hp
  rcases hd with rfl | ⟨dd, fs, rfl, hx⟩
  · refine ⟨oe, none, ?_, fun dd z => by cases z⟩
    exact ⟨e1, e2, by unfold PySem.W.notCls; rw [e4] <;> rfl, by rw [e3]; trivial⟩
  · obtain ⟨mA, hns, hr⟩ := I.hok dd _ hx
    (obtain ⟨od, ho, hl⟩ := lookIn_ns hns)
    refine ⟨oe, some od, ⟨e1, e2, by unfold PySem.W.notCls; rw [e4] <;> rfl, by rw [e3]; exact ho⟩, fun dd' z => ?_⟩
    cases z
    exact ⟨ho.symm, fun z => by cases z⟩
def rIsO (K : PySem.W.Frag) : List V → Hp → VK → Prop := fun xs H Q => ∃ (p D : Addr) (d : Option Addr) (c : V) (cv : Value) (b : Bool), xs = [.ref p, c] ∧ H p = some (ExcO p (.ref D) d) ∧ DcAt d H ∧ ExcC K D ∧ (∀ u, RelV c u → u = cv) ∧ PySem.W.kitOne K (.ref D) cv = some b ∧ Q (.bl b) H
theorem call_isO {X : Cx} : CallR X (.builtin "isinstance") (rIsO X.K) := by
  (intro pins s σ H xs us Q I r h)
  obtain ⟨p, D, d, c, cv, b, rfl, hp, hd, C, hcv, e, q⟩ := h
  cases r with
  | cons rx rr => cases rr with
    | cons rt rn =>
      cases rn
      cases rx
      have ec := hcv _ rt
      subst ec
      obtain ⟨oe, od, J, _⟩ := inst_at I hp hd
      exact PySem.W.kia_one (PySem.W.kitx_excA C) I.kIn J e (fun z => nomatch z) fun tk => ⟨.bl b, H, I.kept (t' := tk) fun _ _ z => z, rfl, q⟩
/-- e.f, e a caught exception -/
def tXo (K : PySem.W.Frag) (f : Str) (te : TE) : TE := fun σ H Q => te σ H fun x H1 => ∃ (p C dd : Addr) (fs : List (Str × V)) (v : V), x = .ref p ∧ H1 p = some (ExcO p (.ref C) (some dd)) ∧ H1 dd = some (.xd fs) ∧ XfC K C ∧ PySem.W.findIn K (.ref C) f = some none ∧ fs.lookup f = some v ∧ Q v H1
theorem pe_xo {X : Cx} {e : Expr} {te : TE} {pos : Pos} {n : Str} (he : PE X e te) (hb : attributeBase e n X.env (eval e X.env) = eval e X.env := by rfl) : PE X (.Attribute e n pos) (tXo X.K n te) := by
  constructor
  intro pins s σ H Q I h
  apply attr_of hb
  apply thn (he.run pins s σ H _ I h)
  rintro u s1 ⟨x, G, I1, ru, p, C, dd, fs, v, rfl, ep, ed, T, free, fld, q⟩
  cases (show u = Value.ref p from ru)
  obtain ⟨oe, od, J, tie⟩ := inst_at I1 ep (.inr ⟨dd, fs, rfl, ed⟩)
  obtain ⟨names, ns, rel⟩ := I1.hok dd _ ed
  obtain ⟨o, at_, look⟩ := lookIn_ns ns
  cases (tie dd rfl).1.trans at_
  obtain ⟨r, er, rr⟩ := RelO.some_of (v := v) (o := names n) (by rw [← fld]; exact rel n)
  exact HandSPX.exc_get I1.kIn J T.ga T.gg T.exC (PySem.W.findObj_own T.hdC free rfl ((look n).trans (congrArg some er))) (handed_of rr) ⟨v, G, I1.tok _, rr, q⟩
end DL
namespace DL
open PySem L2 PySem.Spec PyProof.Rows
open PySem.Builtin in
/-! ### of which class an exception is -/
/-- a row: the class, its word, its field -/
structure FR where
  c : Str
  w : Str
  f : Option Str
/-- what is known of the exception classes by their names -/
structure ClsOk (K : PySem.W.Frag) (gl : Str → Option Value) (rs : List FR) (y : Str) (B : Addr) : Prop where
  g : gl y = some (.ref B)
  e : ExcC K B
  x : XfC K B
  k : ∀ r ∈ rs, ∃ C, gl r.c = some (.ref C) ∧ PySem.W.kitOne K (.ref B) (.ref C) = some (decide (y = r.c)) ∧ PySem.W.exmOne K (.ref B) (.ref C) = some (decide (y = r.c))
  f : ∀ r ∈ rs, r.c = y → ∀ n, r.f = some n → PySem.W.findIn K (.ref B) n = some none
/-- the state within: p the exception, L the list -/
structure FSt (K : PySem.W.Frag) (gl : Str → Option Value) (rs : List FR) (y : Str) (B p L : Addr) (fv : Option (Str × V)) (acc : List V) (σ : L2.St) (H : Hp) : Prop where
  c : ClsOk K gl rs y B
  s0 : σ = [some (.ref p), some (.ref L)]
  hp : ∃ d, H p = some (ExcO p (.ref B) d) ∧ (match fv with
    | none => d = none
    | some (n, v) => ∃ dd, d = some dd ∧ H dd = some (.xd [(n, v)]))
  hl : H L = some (.lst acc)
  al : acc.length ≤ 20
def fldV (fv : Option (Str × V)) : V := match fv with
  | none => .non
  | some (_, v) => v
def fldOk (r : FR) (fv : Option (Str × V)) : Prop := match r.f with
  | none => True
  | some n => ∃ v, fv = some (n, v)
def rowV (r : FR) (fv : Option (Str × V)) : V := match r.f with
  | none => .non
  | some _ => fldV fv
section
variable {X : Cx} {rs : List FR}
def tRow (K : PySem.W.Frag) (gl : Str → Option Value) (rs : List FR) (r : FR) : TS := fun D σ H => ∃ y B p L fv acc, FSt K gl rs y B p L fv acc σ H ∧ r ∈ rs ∧ (y ≠ r.c → D.nx σ H) ∧
  (y = r.c → fldOk r fv ∧ ∀ T H1, H T = none → H1 = upd H T (.tup [.str r.w, rowV r fv]) → D.nx σ (upd H1 L (.lst (acc ++ [.ref T]))))
theorem FSt.dc {K : PySem.W.Frag} {gl : Str → Option Value} {y : Str} {B p L : Addr} {fv : Option (Str × V)} {acc : List V} {σ : L2.St} {H : Hp} (s : FSt K gl rs y B p L fv acc σ H) : ∃ d, H p = some (ExcO p (.ref B) d) ∧ DcAt d H := by
  obtain ⟨d, h1, h2⟩ := s.hp
  refine ⟨d, h1, ?_⟩
  cases fv with
  | none => exact .inl h2
  | some x =>
    obtain ⟨dd, h3, h4⟩ := h2
    exact .inr ⟨dd, _, h3, h4⟩
def fldT (K : PySem.W.Frag) (f : Option Str) : TE := match f with
  | none => tC .non
  | some n => tXo K n (tVar 0)
theorem fr_ps {r : FR} {test : Expr} {app : Stmt} {pos : Pos} (tst : ∀ C, X.mg r.c = some (.ref C) → PT X test (tB (tCB (rIsO X.K) (tCons (tVar 0) (tCons (tC (.ref C)) tNil)))))
    (hap : PS X app (tDrop (tBM X.K "list" rAppend (tVar 1) (tCons (tTup (tCons (tC (.str r.w)) (tCons (fldT X.K r.f) tNil))) tNil)))) : PS X (.If test [app] [] pos) (tRow X.K X.mg rs r) := by
  (refine ⟨fun pins s σ H D I h => ?_⟩)
  obtain ⟨y, B, p, L, fv, acc, st, hr, h1, h2⟩ := h
  obtain ⟨C, hC, hk, _⟩ := st.c.k r hr
  obtain ⟨d, hp, hd⟩ := st.dc
  have s0 : σ[0]? = some (some (.ref p)) := by rw [st.s0]; rfl
  have s1 : σ[1]? = some (some (.ref L)) := by rw [st.s0]; rfl
  refine (ps_if (tst C hC) (pss_one hap) pss_nil).run pins s σ H D I ?_
  refine ⟨.ref p, s0, p, B, d, .ref C, .ref C, decide (y = r.c), rfl, hp, hd, st.c.e, fun u z => z, hk, ?_⟩
  refine ⟨_, rfl, ?_⟩
  by_cases z : y = r.c
  · rw [decide_eq_true z]
    (show (if true = true then _ else _))
    rw [if_pos rfl]
    obtain ⟨hf, h2⟩ := h2 z
    have al := st.al
    refine ⟨.ref L, s1, .inl ⟨rfl, acc, .inl (.inl st.hl)⟩, ?_⟩
    have fin : tTup (tCons (tC (.str r.w)) (tCons (fldT X.K r.f) tNil)) σ H fun x H1 => tNil σ H1 fun xs H2 => rAppend (.ref L) (x :: xs) H2 fun _ H3 => D.nx σ H3 := by
      have go : ∀ (v : V), v = rowV r fv → ([V.str r.w, v].length ≤ sizeLine ∧ ∀ T, H T = none → tNil σ (upd H T (.tup [.str r.w, v])) fun xs H2 => rAppend (.ref L) (V.ref T :: xs) H2 fun _ H3 => D.nx σ H3) := by
        rintro v rfl
        refine ⟨by show 2 ≤ sizeLine; decide, fun T hT => ?_⟩
        have nT : L ≠ T := fun q => by
          have := st.hl
          rw [q, hT] at this
          cases this
        refine ⟨L, acc, .ref T, rfl, rfl, by rw [upd_ne nT]; exact st.hl, Nat.lt_of_le_of_lt al (by decide), ?_⟩
        exact h2 T _ hT rfl
      cases hrf : r.f with
      | none => exact go .non (by unfold rowV; rw [hrf])
      | some n =>
        unfold fldOk at hf
        rw [hrf] at hf
        obtain ⟨v, hv⟩ := hf
        obtain ⟨d', hp', hd'⟩ := st.hp
        rw [hv] at hd'
        obtain ⟨dd, rfl, hx⟩ := hd'
        have hno := st.c.f r hr z.symm n hrf
        show tXo X.K n (tVar 0) σ H _
        refine ⟨.ref p, s0, p, B, dd, _, v, rfl, hp', hx, st.c.x, hno, by simp [List.lookup], ?_⟩
        exact go v (by unfold rowV fldV; rw [hrf, hv])
    exact fin
  · rw [decide_eq_false z]
    show (if false = true then _ else _)
    (rw [if_neg Bool.false_ne_true])
    exact h1 z
def seqR (K : PySem.W.Frag) (gl : Str → Option Value) (rs : List FR) : List FR → TS → TS
  | [], t => t
  | r :: l, t => tSeq (tRow K gl rs r) (seqR K gl rs l t)
section
variable {K : PySem.W.Frag} {gl : Str → Option Value} {y : Str} {B p L : Addr} {fv : Option (Str × V)} {acc : List V} {σ : L2.St} {H : Hp} {tend : TS} {D : Ends}
theorem FSt.next (s : FSt K gl rs y B p L fv acc σ H) {T : Addr} {xs : List V} (hT : H T = none) (ha : acc.length ≤ 19) : FSt K gl rs y B p L fv (acc ++ [.ref T]) σ (upd (upd H T (.tup xs)) L (.lst (acc ++ [.ref T]))) := by
  have ne : ∀ b o, H b = some o → (∀ l, o ≠ .lst l) → upd (upd H T (.tup xs)) L (.lst (acc ++ [.ref T])) b = some o := fun b o e n => by
    rw [upd_ne, upd_ne (ne_of_none e hT)]
    · exact e
    · intro z
      rw [z, s.hl] at e
      exact n _ (Option.some.inj e).symm
  obtain ⟨d, h1, h2⟩ := s.hp
  refine ⟨s.c, s.s0, ⟨d, ne _ _ h1 (fun l z => by unfold ExcO at z; cases z), ?_⟩, upd_same, by rw [List.length_append, List.length_singleton]; omega⟩
  cases fv with
  | none => exact h2
  | some z =>
    obtain ⟨dd, h3, h4⟩ := h2
    exact ⟨dd, h3, ne _ _ h4 fun l z => by cases z⟩
theorem fr_none : ∀ (rows : List FR), (∀ r ∈ rows, r ∈ rs) → (∀ r ∈ rows, y ≠ r.c) → FSt K gl rs y B p L fv acc σ H → tend D σ H → seqR K gl rs rows tend D σ H
  | [], _, _, _, h => h
  | r :: rows, h1, h2, s, h => ⟨y, B, p, L, fv, acc, s, h1 r (List.mem_cons_self ..), fun _ => fr_none rows (fun x hx => h1 x (List.mem_cons_of_mem _ hx)) (fun x hx => h2 x (List.mem_cons_of_mem _ hx)) s h, fun z => absurd z (h2 r (List.mem_cons_self ..))⟩
theorem fr_one {r : FR} (hy : y = r.c) (hf : fldOk r fv) (ha : acc.length ≤ 19) : ∀ (rows : List FR), (∀ r ∈ rows, r ∈ rs) → r ∈ rows → rows.Pairwise (fun a b => a.c ≠ b.c) → FSt K gl rs y B p L fv acc σ H →
    (∀ T, H T = none → tend D σ (upd (upd H T (.tup [.str r.w, rowV r fv])) L (.lst (acc ++ [.ref T])))) → seqR K gl rs rows tend D σ H
  | r0 :: rows, h1, hm, hp, s, h => by
    obtain ⟨p1, p2⟩ := List.pairwise_cons.mp hp
    refine ⟨y, B, p, L, fv, acc, s, h1 r0 (List.mem_cons_self ..), fun z => ?_, fun z => ?_⟩
    · rcases List.mem_cons.mp hm with rfl | hm
      · exact absurd hy z
      · exact fr_one hy hf ha rows (fun x hx => h1 x (List.mem_cons_of_mem _ hx)) hm p2 s h
    · have er : r = r0 := by
        (rcases List.mem_cons.mp hm with e | hm)
        · exact e
        · exact absurd (by rw [← z, hy]) (p1 r hm)
      subst er
      refine ⟨hf, fun T H1 hT e => ?_⟩
      subst e
      exact fr_none rows (fun x hx => h1 x (List.mem_cons_of_mem _ hx)) (fun x hx q => p1 x hx (by rw [← hy, q])) (s.next hT ha) (h T hT)
theorem fr_end {T : Addr} {te : TE} (s1 : σ[1]? = some (some (.ref L))) (hl : H L = some (.lst [.ref T])) (h : D.rt (.ref T) H) :
    tRet (tIf (tTest (tOp rEq (tCB (fun xs H Q => ∃ p ys, xs = [.ref p] ∧ (SqL K H p ys ∨ SqT K H p ys) ∧ Q (.int ys.length) H) (tCons (tVar 1) tNil)) (tC (.int 1)))) (tOp (rIxL K) (tVar 1) (tC (.int 0))) te) D σ H := by
  refine ⟨.ref L, s1, L, [.ref T], rfl, .inl (.inl (.inl hl)), rfl, ?_⟩
  refine ⟨true, rfl, ?_⟩
  exact ⟨.ref L, s1, L, [.ref T], 0, .ref T, rfl, rfl, .inl (.inl hl), rfl, h⟩
end
end
end DL
namespace DL
open PySem L2 PySem.Spec PyProof.Rows LamX
/-- the making of a lambda: nothing, or a new code object and a table that has grown by it -/
def Mk (P : Addr) (q : Str) (H H1 : Hp) : Prop := H1 = H ∨ ∃ (c : Addr) (ps more : Array Value), H c = none ∧ H P = some (.tbl ps) ∧ H1 = upd (upd H P (.tbl (ps ++ more))) c (CodeO c q) ∧ ∀ (pos : Pos) (cv : Value), codeAmong pos (ps ++ more).toList = some cv → codeAmong pos ps.toList = some cv ∨ cv = .ref c
abbrev rowAt (pos : Pos) (c : Addr) : Array Value := #[rawInt pos.line, rawInt pos.col, .ref c]
theorem Mk.of {P : Addr} {q : Str} {H : Hp} {ps : Array Value} {c : Addr} {pos : Pos} (tri : TriplesOk ps.toList) (at_ : H P = some (.tbl ps)) (new : H c = none) : Mk P q H (upd (upd H P (.tbl (ps ++ rowAt pos c))) c (CodeO c q)) :=
  .inr ⟨c, ps, _, new, at_, rfl, fun p cv e => among_app _ tri (by rw [Array.toList_append] at e; exact e)⟩
/-- the tables of code objects, behind one more -/
theorem tabs_more {T : List (Addr × Str)} {P : Addr} {q : Str} {H : Hp} {ps : Array Value} {c : Addr} {pos : Pos} (t : Tabs T H) (one : ∀ p ∈ T, p.1 = P → p.2 = q) (at_ : H P = some (.tbl ps)) (new : H c = none) : Tabs T (upd (upd H P (.tbl (ps ++ rowAt pos c))) c (CodeO c q)) := by
  have codes : ∀ b x, H b = some (CodeO b x) → upd (upd H P (.tbl (ps ++ rowAt pos c))) c (CodeO c q) b = some (CodeO b x) := fun b x e => by
    rw [upd_ne (ne_of_none e new), upd_ne]
    · exact e
    · intro z
      rw [z, at_] at e
      exact codeO_ne ps (Option.some.inj e).symm
  rintro ⟨P1, q1⟩ m
  obtain ⟨rows, e, tri, has⟩ := t _ m
  by_cases z : P1 = P
  · cases one _ m z
    subst z
    cases Option.some.inj (at_.symm.trans e)
    refine ⟨ps ++ rowAt pos c, (upd_ne (ne_of_none e new)).trans upd_same, by rw [Array.toList_append]; exact PySem.TriplesOk_snoc _ _ _ _ tri, fun p cv y => ?_⟩
    rw [Array.toList_append] at y
    exact (among_app _ tri y).elim (fun y => (has p cv y).imp fun b w => ⟨w.1, codes b _ w.2⟩) fun y => ⟨c, y, upd_same⟩
  · exact ⟨rows, (upd_ne (ne_of_none e new)).trans ((upd_ne z).trans e), tri, fun p cv y => (has p cv y).imp fun b w => ⟨w.1, codes b _ w.2⟩⟩
section
variable {X : Cx} {H : Hp} {s : Shared} {σ : L2.St} {pins : List (Addr × Obj)}
theorem off_stack {f : Addr} (I : Inv X pins σ H s) (young : s.heap.objs.size ≤ f) : f ∉ frs X.stack := fun m => by
  rcases List.mem_cons.mp (I.stkSub f m) with e | e
  · exact absurd I.lt (Nat.not_lt.mpr (by rw [← e]; exact young))
  · exact I.nofs young e
/-- a lambda without parameters is made; its code object is new, or stands in the table -/
theorem lam_mk {T : List (Addr × Str)} {c P : Addr} {prm : Arguments} {bd : Expr} {sc : Scope} {pos : Pos} {Z : Value → Shared → Prop} {Q : Value → Shared → Prop} (I : Inv X pins σ H s) (tb : TabB X.base X.mg c P) (own : X.env.code = .ref c)
    (mem : (P, X.env.qual ++ "<lambda>") ∈ T) (one : ∀ p ∈ T, p.1 = P → p.2 = X.env.qual ++ "<lambda>") (tabs : Tabs T H) (plain : defaultsOf prm X.env = ([], [])) (cells : ∀ y ∈ sc.names, y.2 = .free → ∃ c, X.env.cells.lookup y.1 = some c)
    (go : ∀ (f c' : Addr) (pm ctv : Value) (H1 : Hp) (s' : Shared), Inv X pins σ H1 s' → Mk P (X.env.qual ++ "<lambda>") H H1 → Tabs T H1 →
      s'.heap.get? f = some (PySem.W.kla_obj "<lambda>" (X.env.qual ++ "<lambda>") prm bd sc (cloFrom X.env.cells sc.names []) pm c' ctv) → H1 f = none → f ∉ frs X.stack → H1 c' = some (CodeO c' (X.env.qual ++ "<lambda>")) → Q (.ref f) s') :
    wpAny (model X.prog X.w) X.A (eval (.Lambda prm bd sc pos) X.env) Q Z s := by
  obtain ⟨ps, at_, tri, has⟩ := tabs _ mem
  have table : s.heap.get? P = some { cls := .none, data := .fields ps } := I.hok P _ at_
  have stays : ∀ {h : Heap} {o : Obj}, (∀ b z, s.heap.get? b = some z → h.get? b = some z) → ∀ b z, s.heap.get? b = some z → (h.push o).get? b = some z := fun k b z e => Heap.get?_push_of_some _ (k b z e)
  apply PySem.W.kla_eval plain
  match e : codeAmong pos ps.toList with
  | some cv =>
    obtain ⟨c', rfl, code⟩ := has pos cv e
    apply PySem.W.kla_makeFunctionHit (closure_ok cells) I.ok.glob (I.mod.glob.keeps I.bk) own (tb.code.keeps I.bk) table tri e (tb.bm.keeps I.bk)
    intro ctv h tk old young
    exact go _ c' _ ctv H _ (I.kept (t' := tk) (stays old)) (.inl rfl) tabs (Heap.get?_push_size h rfl) (I.hok.fresh young) (off_stack I young) code
  | none =>
    apply PySem.W.kla_makeFunction (closure_ok cells) I.ok.glob (I.mod.glob.keeps I.bk) own (tb.code.keeps I.bk) table tri e tb.gP (tb.bm.keeps I.bk)
    rintro c' ctv h tk old young lt ⟨c1, oc, vs, t, ec, code, fields, name⟩ grown
    cases ec
    have new : H c' = none := I.hok.fresh young
    have above : s.heap.objs.size ≤ h.objs.size := Nat.le_of_lt (Nat.lt_of_le_of_lt young lt)
    have apart : h.objs.size ≠ P := fun z => absurd (Heap.lt_size table) (Nat.not_lt.mpr (z ▸ above))
    refine go h.objs.size c' _ ctv _ _ (inv_table (t' := tk) I at_ (fun b o nb q => Heap.get?_push_of_some _ (old b o nb q)) (Heap.get?_push_of_some _ grown) young ⟨oc, vs, t, Heap.get?_push_of_some _ code, fields, name⟩) (.of (pos := pos) tri at_ new) (tabs_more tabs one at_ new) (Heap.get?_push_size h rfl) ?_ (off_stack I above) upd_same
    exact (upd_ne (Nat.ne_of_gt lt)).trans ((upd_ne apart).trans (I.hok.fresh above))
/-- the lambda is called in the def that holds it; where no guard stands -/
theorem act_g {CG : CXT} {EG : XK} {NG : List Str} {qG : Str} {sG : Scope} {G fl cc : Addr} {cdG pmv ctw : Value} {prm : Arguments} {bd : Expr} {sc : Scope} {m j : Nat} {nm : Str} {pz : List (Addr × Obj)} {xz : Value → Shared → Prop} {WZ : WX} {EZ : XK} {tz : TE} {pa pb : Pos}
    (J : Inv X pins σ H s) (LS : LamS X.env.scope sc) (at0 : s.heap.get? fl = some (PySem.W.kla_obj "<lambda>" (X.env.qual ++ "<lambda>") prm bd sc (cloFrom X.env.cells sc.names []) pmv cc ctw)) (at1 : H fl = none) (at2 : fl ∉ frs X.stack)
    (bind0 : bindArgs (PySem.W.kla_fn "<lambda>" (X.env.qual ++ "<lambda>") prm bd sc (cloFrom X.env.cells sc.names []) pmv (.ref cc) ctw) ⟨[], []⟩ = pure [])
    (tz0 : Takes ((cxOf CG X.prog X.w X.K X.mg X.base NG qG sG G cdG X.A X.stack s H EG).tr pz xz) WZ) (tz1 : ∀ cl dd σ' H', EZ cl dd H' → WZ cl dd σ' H') (room : Room (m + 1) (X.A.deeper (envOfC qG sG s.heap.objs.size G cdG))) (gd : X.A.guards = some [])
    (walk : ∀ (A : Around) (out : List PySem.Env) (sh : Shared) (HH : Hp), A.guards = some [] → Room m (A.deeper (lamEnv X sc sh.heap.objs.size fl cc)) → PE (lamCx X A out sh HH EZ sc fl cc) bd tz)
    (nm0 : NG[j]? = some nm) (nm1 : Vis sG nm) (nm2 : (nm == ("__debug__" : Str)) = false := by decide) (nm3 : (nm == ("__classdict__" : Str)) = false := by decide) :
    PE ((cxOf CG X.prog X.w X.K X.mg X.base NG qG sG G cdG X.A X.stack s H EG).tr pz xz) (.Call (.Name nm pa) [] [] pb)
      (fun σ2 H2 Q => σ2[j]? = some (some (.ref fl)) ∧ H2 cc = some (CodeO cc (X.env.qual ++ "<lambda>")) ∧ tz σ H2 Q) := by
  constructor
  rintro pinsY sY σY HY Q JY ⟨y1, y2, y3⟩
  have name := (pe_var (pos := pa) (i := j) nm0 nm1 nm2 nm3).run pinsY sY σY HY (fun v H1 => v = .ref fl ∧ H1 = HY) JY ⟨.ref fl, y1, rfl, rfl⟩
  refine wpAny_Call_Name_kw (thn name ?_)
  rintro u s1 ⟨v, H1, J1, r1, rfl, rfl⟩
  cases (show u = Value.ref fl from r1)
  have here : s1.heap.get? fl = some (PySem.W.kla_obj "<lambda>" (X.env.qual ++ "<lambda>") prm bd sc (cloFrom X.env.cells sc.names []) pmv cc ctw) := J1.base.keep fl _ at0 at1 at2 (by intro z; cases (show fl ∈ ([] : List Addr) from z))
  refine PySem.W.callWith_F0 ⟨_, _, _, _, here⟩ ?_
  obtain ⟨⟨oc, fs, tkn, g1, g2, g3⟩, -, -⟩ := J1.hok cc _ y2
  have run : codeAny (model X.prog X.w) (X.A.deeper (envOfC qG sG s.heap.objs.size G cdG)) (.call (.ref fl) ⟨[], []⟩)
      (CR (L2.CX X.prog X.w) (envOfC qG sG s.heap.objs.size G cdG :: X.stack) X.prog X.w H1 s1 Q EZ) s1 := by
    refine PySem.W.kla_callFunE room.depth here rfl LS.co LS.gen rfl ⟨cc, oc, fs, tkn, rfl, g1, g2, g3⟩ ?_
    rw [bind0]
    refine wpAny_pure (wpAny_newFunctionEnv (fun y hy => (LS.own y hy).2) (fun y hy => absurd hy (by simp)) ?_ LS.kind)
    intro hp ns0 ns1
    refine ⟨J1.nolimit.fresh _ ns1, ?_⟩
    have keep : ∀ b o, s1.heap.get? b = some o → hp.get? b = some o := fun b o e => ns1.extBut b o (Nat.ne_of_lt (Heap.lt_size e)) (Heap.get?_push_of_some _ e)
    have JB := lam_start2 (E := EZ) (scope := sc) (f := fl) (c' := cc) (tk := s1.toks + ([] : List (Str × Value)).length) J LS J1.env0 room.hd J1.base ns0 keep
    refine PySem.W.kla_codeExpr (wpAny_mono ((walk (X.A.deeper (envOfC qG sG s.heap.objs.size G cdG)) (envOfC qG sG s.heap.objs.size G cdG :: X.stack) s1 H1 gd (room.deeper _)).run [] _ _ H1 Q JB y3) ?_ fun _ _ z => z)
    rintro v s2 ⟨v2, H2, J2, r2, q2⟩
    exact ⟨v2, H2, J2.os, J2.bare, J2.base, J2.hok, r2, q2⟩
  refine wpAny_call (codeAny_mono run fun r s2 z => ?_)
  match r, z with
  | .error er, z => exact passes_call tz0 tz1 pinsY σY H1 s1 er s2 J1 z
  | .ok (.ret u), z => exact J1.after z
end
def tLm (T : List (Addr × Str)) (P : Addr) (q : Str) (TT : (XK → Hp → VK → Prop) → Hp → VK → Prop) (t : XK → TE) : TE := fun σ H Q => Tabs T H ∧ ∀ H1, Mk P q H H1 → Tabs T H1 → TT (fun E H' Q' => t E σ H' Q') H1 Q
/-- a def of one parameter, by its name -/
structure Handed (X : Cx) (x a : Str) (g : Addr) (code : Value) (bg : List Stmt) (sg : Scope) (Ng : List Str) : Prop where
  known : Gl X x ∧ X.mg x = some (.ref g) ∧ (x == ("__debug__" : Str)) = false
  stays : PySem.W.keepIn X.K (.ref g) = true ∧ PySem.W.codeIn X.K code x = true
  record : ∃ (oc : Value) (od : Option Addr) (osl : Array (Option Value)) (pg : Arguments) (dV kV doc pm : Value) (an : Option Addr) (ct : Value), X.K.lookup g = some ⟨oc, od, .func (PySem.W.fnOf x x pg bg sg dV kV doc pm an code ct), osl⟩ ∧ L2.Binds X.K (PySem.W.fnOf x x pg bg sg dV kV doc pm an code ct) [a] []
  scope : FnScope Ng [a] sg ∧ Ng[0]? = some a ∧ Vis sg a ∧ (a == ("__debug__" : Str)) = false ∧ (a == ("__classdict__" : Str)) = false
/-- a lambda without parameters, and the table that its maker has -/
structure Thunk (X : Cx) (T : List (Addr × Str)) (c P : Addr) (prm : Arguments) (bd : Expr) (sc : Scope) : Prop where
  lam : LamS X.env.scope sc ∧ defaultsOf prm X.env = ([], [])
  none_ : ∀ (q : Str) (cl : List (Str × Addr)) (pm cv ctv : Value), bindArgs (PySem.W.kla_fn "<lambda>" q prm bd sc cl pm cv ctv) ⟨[], []⟩ = pure []
  table : TabB X.base X.mg c P ∧ X.env.code = .ref c
  mem : (P, X.env.qual ++ "<lambda>") ∈ T ∧ ∀ p ∈ T, p.1 = P → p.2 = X.env.qual ++ "<lambda>"
/-- x(lambda: bd), where no guard stands -/
theorem pe_lm {X : Cx} {T : List (Addr × Str)} {TT : (XK → Hp → VK → Prop) → Hp → VK → Prop} {x a : Str} {g c P : Addr} {k : Nat} {code : Value} {bg : List Stmt} {sg sc : Scope} {Ng : List Str} {prm : Arguments} {bd : Expr} {t : XK → TE} {p lpos pos : Pos} (h : Handed X x a g code bg sg Ng) (th : Thunk X T c P prm bd sc)
    (gives : GivesTo X Ng x sg g code bg a (X.env.qual ++ "<lambda>") TT) (room : Room (k + 2) X.A) (gd : X.A.guards = some [])
    (walk : ∀ (A : Around) (outer : List PySem.Env) (s : Shared) (H : Hp) (E : XK) (f c' : Addr), A.guards = some [] → Room k (A.deeper (lamEnv X sc s.heap.objs.size f c')) → PE (lamCx X A outer s H E sc f c') bd (t E)) :
    PE X (.Call (.Name x p) [.Lambda prm bd sc lpos] [] pos) (tLm T P (X.env.qual ++ "<lambda>") TT t) := by
  obtain ⟨⟨k1, k2, k3⟩, ⟨k4, k5⟩, ⟨oc, od, osl, pg, dV, kV, doc, pm, an, ct, rec, binds⟩, sg1, sg2, sg3, sg4, sg5⟩ := h
  obtain ⟨⟨lam, plain⟩, none_, ⟨table, own⟩, mem, one⟩ := th
  constructor
  rintro pins s σ H Q I ⟨tabs, q⟩
  have args : ∀ {R : List Value → Shared → Prop} {Z : Value → Shared → Prop}, (∀ f c' pm' ctv H1 s', Inv X pins σ H1 s' → Mk P (X.env.qual ++ "<lambda>") H H1 → Tabs T H1 → s'.heap.get? f = some (PySem.W.kla_obj "<lambda>" (X.env.qual ++ "<lambda>") prm bd sc (cloFrom X.env.cells sc.names []) pm' c' ctv) → H1 f = none → f ∉ frs X.stack → H1 c' = some (CodeO c' (X.env.qual ++ "<lambda>")) → R [.ref f] s') →
      wpAny (model X.prog X.w) X.A (spliced (backTo pos (starEach [.Lambda prm bd sc lpos] X.env))) R Z s := fun go =>
    Calls.spliced_cons (lam_mk I table own mem one tabs plain (lam.has I.ok) fun f c' pm' ctv H1 s' z1 z2 z3 z4 z5 z6 z7 => Calls.spliced_nil (go f c' pm' ctv H1 s' z1 z2 z3 z4 z5 z6 z7))
  refine wpAny_Call_Name_kw (ld_glob I k1 k2 (PySem.W.callWith_K (h₀ := X.base) I.ok.mod.kin k4 (args ?_) (by rfl) (by rfl)) k3)
  intro f c' pm' ctv H1 s1 I1 made tabs1 at_ new off code1
  refine ⟨I1.kIn, wpAny_call (codeAny_mono (R := CR C8.CX0 X.stack X.prog X.w H1 s1 Q C8.E0) (run_ofS (N := Ng) (ps := [a]) (us := [.ref f]) (vs := [.ref f]) rec k5 sg1 room I1.env0 (binds s1 [.ref f] I1.kIn rfl) (.cons rfl .nil) rfl fun room2 => ?_) ?_)⟩
  · have body := gives f c' s1 H1 Q (fun E H' Q' => t E σ H' Q') (fun W pn xe E p1 p2 tk wish => act_g (j := 0) I1 lam at_ new off (none_ _ _ _ _ _) tk wish room2 gd (fun A out sh HH g2 r2 => walk A out sh HH E f c' g2 r2) sg2 sg3 sg4 sg5) code1 (q H1 made tabs1)
    exact body.imp fun _ z => ⟨z.1.nox, z.2⟩
  · intro r s2 z
    match r, z with
    | .ok (.ret _), z => exact I1.after z
end DL
namespace DL
open PySem L2 PySem.Spec PyProof.Rows LamX
def GateOk (K : PySem.W.Frag) (gl : Str → Option Value) (rs : List FR) (ca : Str → Addr) : Prop := ∀ r ∈ rs, ClsOk K gl rs r.c (ca r.c)
def fvAt (fv : Option (Str × V)) (d : Option Addr) (H : Hp) : Prop := match fv with
  | none => d = none
  | some (n, v) => ∃ dd, d = some dd ∧ H dd = some (.xd [(n, v)])
def spFault (K : PySem.W.Frag) (gl : Str → Option Value) (rs : List FR) : Sp := fun vs H Q _ => ∃ (B p : Addr) (d : Option Addr) (fv : Option (Str × V)) (r : FR), vs = [.ref p] ∧ ClsOk K gl rs r.c B ∧ H p = some (ExcO p (.ref B) d) ∧ fvAt fv d H ∧ r ∈ rs ∧ fldOk r fv ∧
  ∀ L T, H L = none → H T = none → L ≠ T → Q (.ref T) (upd (upd H T (.tup [.str r.w, rowV r fv])) L (.lst [.ref T]))
section
variable {K : PySem.W.Frag} {gl : Str → Option Value} {rs : List FR} {σ : L2.St} {H : Hp} {Q : VK} {E : XK}
theorem fault_sem {vs : List V} (hn : rs.Pairwise (fun a b => a.c ≠ b.c)) {te : TE} (h : spFault K gl rs vs H Q E) :
    tSeq (tAsg (tLst tNil) (gName 1)) (seqR K gl rs rs (tRet (tIf (tTest (tOp rEq (tCB (fun xs H Q => ∃ p ys, xs = [.ref p] ∧ (SqL K H p ys ∨ SqT K H p ys) ∧ Q (.int ys.length) H) (tCons (tVar 1) tNil)) (tC (.int 1)))) (tOp (rIxL K) (tVar 1) (tC (.int 0))) te))) { nx := fun _ H' => Q .non H', rt := Q } (start ["_law_e", "_law_found"] vs) H := by
  obtain ⟨B, p, d, fv, r, rfl, hc, hp, hf, hr, ho, k⟩ := h
  refine ⟨by show 0 ≤ sizeLine; decide, fun L hL => ?_⟩
  have nL : ∀ b o, H b = some o → upd H L (.lst []) b = some o := fun b o e => by
    rw [upd_ne (ne_of_none e hL)]
    exact e
  have st : FSt K gl rs r.c B p L fv [] [some (.ref p), some (.ref L)] (upd H L (.lst [])) := by
    refine ⟨hc, rfl, ⟨d, nL _ _ hp, ?_⟩, upd_same, by decide⟩
    cases fv with
    | none => exact hf
    | some z =>
      obtain ⟨dd, h1, h2⟩ := hf
      exact ⟨dd, h1, nL _ _ h2⟩
  refine fr_one (D := { nx := fun _ H' => Q .non H', rt := Q }) rfl ho (by decide) rs (fun r h => h) hr hn st fun T hT => ?_
  have nT : T ≠ L := fun z => by
    rw [z, upd_same] at hT
    cases hT
  have hT' : H T = none := by
    rw [upd_ne nT] at hT
    exact hT
  refine fr_end rfl upd_same ?_
  have e : upd (upd (upd H L (.lst [])) T (.tup [.str r.w, rowV r fv])) L (.lst ([] ++ [.ref T])) = upd (upd H T (.tup [.str r.w, rowV r fv])) L (.lst [.ref T]) := by
    funext b
    by_cases z : b = L
    · rw [z, upd_same, upd_same]
      rfl
    · rw [upd_ne z, upd_ne z]
      by_cases y : b = T
      · rw [y, upd_same, upd_same]
      · rw [upd_ne y, upd_ne y, upd_ne z]
  rw [e]
  exact k L T hL hT' (Ne.symm nT)
theorem exm_names {y : Str} {B : Addr} {ca : Str → Addr} (hc : ClsOk K gl rs y B) (G : GateOk K gl rs ca) : ∀ (rows : List FR), (∀ r ∈ rows, r ∈ rs) → PySem.W.exmAny K (.ref B) (rows.map fun r => .ref (ca r.c)) = some (rows.any fun r => decide (y = r.c))
  | [], _ => rfl
  | r :: rows, h => by
    have hr := h r (List.mem_cons_self ..)
    obtain ⟨C, h1, _, h2⟩ := hc.k r hr
    have h3 := (G r hr).g
    rw [h1] at h3
    cases h3
    have ih := exm_names hc G rows fun x hx => h x (List.mem_cons_of_mem _ hx)
    show (match PySem.W.exmOne K (.ref B) (.ref (ca r.c)), PySem.W.exmAny K (.ref B) (rows.map fun r => .ref (ca r.c)) with
      | some b, some d => (some (b || d))
      | _, _ => none) = _
    rw [h2, ih]
    rfl
/-- an exception of the body, and what is made of it -/
def EcO (K : PySem.W.Frag) (gl : Str → Option Value) (rs : List FR) (Q : VK) : XK := fun cls d H' => ∃ (B : Addr) (fv : Option (Str × V)) (r : FR), cls = .ref B ∧ ClsOk K gl rs r.c B ∧ fvAt fv d H' ∧ r ∈ rs ∧ fldOk r fv ∧
  ∀ p L T, H' p = none → H' L = none → H' T = none → p ≠ L → p ≠ T → L ≠ T → Q (.ref T) (upd (upd (upd H' p (ExcO p cls d)) T (.tup [.str r.w, rowV r fv])) L (.lst [.ref T]))
def TTo (K : PySem.W.Frag) (gl : Str → Option Value) (rs : List FR) : (XK → Hp → VK → Prop) → Hp → VK → Prop := fun tl H Q => ∀ (Z : VK) (T0 : Addr), H T0 = none → (∀ v H', (∀ q, H' q = none → Q (.ref q) (upd H' q (.lst [v]))) → Z v H') → tl (EcO K gl rs Q) (upd H T0 (.tup [.non, .non])) Z
def tTry (f c' : Addr) (q : Str) (tl : XK → Hp → VK → Prop) : WX → TS := fun W D σ H => ∃ Ech : XK, (∀ cls d σ' H', Ech cls d H' → W cls d σ' H') ∧ tAsg (fun σZ HZ Q => σZ[0]? = some (some (.ref f)) ∧ HZ c' = some (CodeO c' q) ∧ tl Ech HZ Q) (gName 3) D σ H
theorem out_sem {f c' : Addr} {q : Str} {ca : Str → Addr} {r1 r2 : List FR} (G : GateOk K gl rs ca) (er : ∀ r, r ∈ rs ↔ r ∈ r1 ++ r2) {tl : XK → Hp → VK → Prop} {sp : Sp → TA → TE} (hsp : ∀ (σ : L2.St) (H : Hp) (Q : VK) (v : V), σ[2]? = some (some v) → spFault K gl rs [v] H Q (fun _ _ _ => False) → sp (spFault K gl rs) (tCons (tVar 2) tNil) σ H Q) (h : TTo K gl rs tl H Q) (hc : H c' = some (CodeO c' q)) :
    tSeq (tAsg (tTup (tCons (tC .non) (tCons (tC .non) tNil))) (gTup K 2 (L2.gCons (gName 2) (L2.gCons (gName 3) L2.gNil)))) (tSeq (fun D σ H => tTry f c' q tl (wKp K 4 D 1 2 [r1.map fun r => .ref (ca r.c), r2.map fun r => .ref (ca r.c)]) D σ H)
      (tRet (tIf (tTest (tOp (fun x y H Q => y = .non ∧ Q (.bl (decide (x = .non))) H) (tVar 2) (tC .non))) (tLst (tCons (tVar 3) tNil)) (sp (spFault K gl rs) (tCons (tVar 2) tNil))))) { nx := fun _ H' => Q .non H', rt := Q } (start ["_law_call", "_law_e", "_law_caught", "_law_found"] [.ref f]) H := by
  refine ⟨by show 2 ≤ sizeLine; decide, fun T0 hT0 => ?_⟩
  refine ⟨T0, [.non, .non], rfl, .inl (.inl upd_same), rfl, ?_⟩
  refine ⟨.non, _, rfl, .non, _, rfl, rfl, ?_⟩
  have hc2 : upd H T0 (.tup [.non, .non]) c' = some (CodeO c' q) := by
    rw [upd_ne (ne_of_none hc hT0)]
    exact hc
  refine ⟨EcO K gl rs Q, fun cls d σ' H' he => ?_, rfl, hc2, ?_⟩
  · obtain ⟨B, fv, r, rfl, hcl, hf, hr, ho, k⟩ := he
    have s1 : ∀ r ∈ r1, r ∈ rs := fun r hr => (er r).mpr (List.mem_append_left _ hr)
    have s2 : ∀ r ∈ r2, r ∈ rs := fun r hr => (er r).mpr (List.mem_append_right _ hr)
    have go : σ'.length = 4 → ∀ p, H' p = none → tRet (tIf (tTest (tOp (fun x y H Q => y = .non ∧ Q (.bl (decide (x = .non))) H) (tVar 2) (tC .non))) (tLst (tCons (tVar 3) tNil)) (sp (spFault K gl rs) (tCons (tVar 2) tNil))) { nx := fun _ H' => Q .non H', rt := Q } (((σ'.set 1 (some (.ref p))).set 2 (some (.ref p))).set 1 none) (upd H' p (ExcO p (.ref B) d)) := fun hl p hp => by
      have e2 : (((σ'.set 1 (some (V.ref p))).set 2 (some (.ref p))).set 1 none)[2]? = some (some (.ref p)) := by
        rw [List.getElem?_set_ne (by decide), List.getElem?_set, if_pos rfl, if_pos (by rw [List.length_set]; omega)]
      refine ⟨.ref p, e2, rfl, ?_⟩
      refine ⟨false, by simp, ?_⟩
      show sp (spFault K gl rs) (tCons (tVar 2) tNil) _ _ _
      refine hsp _ _ _ _ e2 ⟨B, p, d, fv, r, rfl, hcl, upd_same, ?_, hr, ho, fun L T hL hT hLT => ?_⟩
      · cases fv with
        | none => exact hf
        | some z =>
          obtain ⟨dd, h1, h2⟩ := hf
          exact ⟨dd, h1, by rw [upd_ne (ne_of_none h2 hp)]; exact h2⟩
      · have pL : p ≠ L := fun z => by rw [← z, upd_same] at hL; cases hL
        have pT : p ≠ T := fun z => by rw [← z, upd_same] at hT; cases hT
        rw [upd_ne (Ne.symm pL)] at hL
        rw [upd_ne (Ne.symm pT)] at hT
        exact k p L T hp hL hT pL pT hLT
    refine ⟨_, exm_names hcl G r1 s1, fun _ => go, fun _ => ⟨_, exm_names hcl G r2 s2, fun _ => go, fun z2 => ?_⟩⟩
    rename_i z1
    have hin : r ∈ r1 ++ r2 := (er r).mp hr
    rcases List.mem_append.mp hin with hm | hm
    · rw [List.any_eq_false] at z1
      exact absurd (decide_eq_true (rfl : r.c = r.c)) (z1 r hm)
    · rw [List.any_eq_false] at z2
      exact absurd (decide_eq_true (rfl : r.c = r.c)) (z2 r hm)
  · refine h _ T0 hT0 fun v H' k => ?_
    refine ⟨.non, rfl, rfl, ?_⟩
    refine ⟨true, by simp, ?_⟩
    exact ⟨v, rfl, by show 1 ≤ sizeLine; decide, fun q hq => k q hq⟩
end
end DL
namespace DL
open PySem L2 PySem.Spec PyProof.Rows LamX
theorem mk_foot {T : List (Addr × Str)} {q0 Pt c' : Addr} {ps more : Array Value} {q : Str} {H : Hp} (s : ∃ c l cs ls k, SrcAt H q0 c l cs ls k) (t : Tabs T H) (n : H c' = none) (hP : H Pt = some (.tbl ps))
    (am : ∀ (pos : Pos) (cv : Value), codeAmong pos (ps ++ more).toList = some cv → codeAmong pos ps.toList = some cv ∨ cv = .ref c') {a : Addr} (f : Foot T (some q0) (upd (upd H Pt (.tbl (ps ++ more))) c' (CodeO c' q)) a) : Foot T (some q0) H a ∨ a = c' := by
  obtain ⟨c, l, cs, ls, k, s⟩ := s
  have e0 : upd (upd H Pt (.tbl (ps ++ more))) c' (CodeO c' q) q0 = H q0 := by
    rw [upd_ne (ne_of_none s.dq n), upd_ne]
    intro z
    rw [← z, s.dq] at hP
    cases hP
  rcases f with (f | ⟨kvs, y, h1, h2⟩) | ⟨t1, ht, f⟩
  · exact .inl (.inl (.inl f))
  · rw [e0] at h1
    exact .inl (.inl (.inr ⟨kvs, y, h1, h2⟩))
  · rcases f with f | ⟨ps2, pos, h1, h2⟩
    · exact .inl (.inr ⟨t1, ht, .inl f⟩)
    · obtain ⟨ps1, g1, g2, g3⟩ := t t1 ht
      rw [upd_ne (ne_of_none g1 n)] at h1
      by_cases z : t1.1 = Pt
      · rw [z, upd_same] at h1
        cases h1
        rcases am pos _ h2 with y | y
        · exact .inl (.inr ⟨t1, ht, .inr ⟨ps, pos, by rw [z]; exact hP, y⟩⟩)
        · cases y
          exact .inr rfl
      · rw [upd_ne z] at h1
        exact .inl (.inr ⟨t1, ht, .inr ⟨ps2, pos, h1, h2⟩⟩)
theorem mk_world {T : List (Addr × Str)} {q0 Pt : Addr} {q nm : Str} {F H H1 : Hp} (w : World (srcOrcT T) (some q0) F H F H) (hm : (Pt, nm) ∈ T) (M : Mk Pt q H H1) (t1 : Tabs T H1) : World (srcOrcT T) (some q0) F H F H1 ∧ H1 q0 = H q0 := by
  rcases M with rfl | ⟨c', ps, more, n, hP, rfl, am⟩
  · exact ⟨w, rfl⟩
  · obtain ⟨s, t⟩ := w.or q0 rfl
    have fP : Foot T (some q0) H Pt := .inr ⟨_, hm, .inl rfl⟩
    have same : ∀ a, a ≠ Pt → H a ≠ none → upd (upd H Pt (.tbl (ps ++ more))) c' (CodeO c' q) a = H a := fun a h1 h2 => by
      rw [upd_ne (fun z => h2 (by rw [z]; exact n)), upd_ne h1]
    have ff : ∀ a, Foot T (some q0) (upd (upd H Pt (.tbl (ps ++ more))) c' (CodeO c' q)) a → Foot T (some q0) H a ∨ a = c' := fun a f => mk_foot s t n hP am f
    obtain ⟨c, l, cs, ls, k, s⟩ := s
    have nP : ∀ a o, H a = some o → (∀ ps, o ≠ .tbl ps) → a ≠ Pt := fun a o e z y => by
      rw [y, hP] at e
      exact z ps (Option.some.inj e).symm
    have some_ne : ∀ {a o}, H a = some o → H a ≠ none := fun {a o} e => by rw [e]; exact Option.some_ne_none o
    refine ⟨⟨Ex.refl F, fun a o e => ?_, fun a o e f => ⟨?_, fun z => ?_⟩, fun a h => ?_, fun _ _ e => e, fun a h z => ?_, fun y e => ?_⟩, same q0 (nP _ _ s.dq fun _ => HO.noConfusion) (some_ne s.dq)⟩
    · have h0 : F a ≠ none := by rw [e]; exact Option.some_ne_none o
      have h1 := w.fh a o e
      rw [same a (fun z => w.ft a h0 (by rw [z]; exact fP)) (some_ne h1)]
      exact h1
    · rw [same a (fun z => f (by rw [z]; exact fP)) (some_ne e)]
      exact e
    · rcases ff a z with z | z
      · exact f z
      · rw [z, n] at e
        cases e
    · by_cases z : a = c'
      · rw [z, upd_same]
        exact Option.some_ne_none _
      · rw [upd_ne z]
        by_cases y : a = Pt
        · rw [y, upd_same]
          exact Option.some_ne_none _
        · rw [upd_ne y]
          exact h
    · rcases ff a z with z | z
      · exact w.ft a h z
      · cases e : F a with
        | none => exact h e
        | some o =>
          have := w.fh a o e
          rw [z, n] at this
          cases this
    · cases e
      exact ⟨⟨c, l, cs, ls, k, ⟨(same q0 (nP _ _ s.dq fun _ => HO.noConfusion) (some_ne s.dq)).trans s.dq, (same c (nP _ _ s.dc fun _ => HO.noConfusion) (some_ne s.dc)).trans s.dc, (same l (nP _ _ s.dl fun _ => HO.noConfusion) (some_ne s.dl)).trans s.dl, s.ne, s.nc, s.nl⟩⟩, t1⟩
def fldX (r : FR) (x : Exn) : Prop := match r.f with
  | none => True
  | some n => ∃ y, x.v = some (n, y)
def rowD (r : FR) (x : Exn) : D := match r.f with
  | none => .none
  | some _ => match x.v with
    | some (_, y) => y
    | none => .none
def dGate (i : Nat) (rs : List FR) (n : Nat) (S : SpX) (f : AM) : DM := fun ρ P => (∃ m, ρ[i]? = some (.ora m)) ∧ f ρ fun as ρ1 => as.length = n ∧ as.all isD = true ∧ S as 0 (fun d _ => P (.list [d]) ρ1) (fun x _ => ∃ r ∈ rs, r.c = x.c ∧ fldX r x ∧ P (.tuple [.str r.w, rowD r x]) ρ1)
section
variable {X : Cx} {cn : Cn}
/-- what the gate does, where the contract of the called one is known -/
theorem gate_sem {T : List (Addr × Str)} {rs : List FR} {ca : Str → Addr} {P : Addr} {q0 : Str} {i n : Nat} {S : SpX} {fa : AM} (hR : cn.R = srcOrcT T) (hK : X.K = cn.K) (G : GateOk X.K X.mg rs ca) (hmT : (P, q0) ∈ T) {σ : L2.St} {H : Hp} {Q : VK} (h : tD cn (dGate i rs n S fa) σ H Q) :
    tLm T P q0 (TTo X.K X.mg rs) (fun E => tCallS (spX X.K X.mg cn.R n S) (fun _ => E) (tAr cn fa)) σ H Q := by
  obtain ⟨F0, ρ, xx, PP, rel, ⟨⟨m, hm2⟩, q⟩, k0⟩ := h
  obtain ⟨q0, hp, hq0, hc0⟩ := rel.s.or i m hm2
  have w0 := rel.w.here
  rw [hR, hp] at w0
  refine ⟨(w0.or q0 rfl).2, fun H1 M T1 Z T0 hT0 hZ => ?_⟩
  obtain ⟨w1, e1⟩ := mk_world w0 hmT M T1
  have rel1 : Rel cn F0 H1 σ ρ xx := rel.step (by rw [hR, hp]; exact w1) fun q z => by
    rw [hp] at z
    cases z
    rw [hR]
    show spotOf (H1 q0) ≤ spotOf (H q0)
    rw [e1]
    exact Nat.le_refl _
  have v0 := rel1.w.newF (.tup [.non, .non]) hT0
  have rel2 := rel1.stepN v0
  refine ⟨_, ρ, xx, _, rel2, q, ?_⟩
  rintro as ρ1 vs F1 H2 ⟨hl, hd2, hs⟩ e2' r1 pr
  have e2 := v0.ff.trans e2'
  have w2 : World cn.R none F1 H2 F1 H2 := World.start r1.w.fh (fun _ _ z => z) fun _ z => nomatch z
  have pr' : Paired (ArAt ⟨X.K, cn.R, none, F1, H2⟩ F1) vs as := by
    clear hs hl
    induction pr with
    | nil => exact .nil
    | @cons v a vs' as' h1 h2 ih =>
      simp only [List.all_cons, Bool.and_eq_true] at hd2
      cases a with
      | d y =>
        refine .cons ?_ (ih hd2.2)
        show At X.K F1 v y
        rw [hK]
        exact h1
      | ora => cases hd2.1
  refine ⟨none, F1, as, 0, _, _, w2, pr', hl, fun i z => absurd z (all_isD hd2 i), .inl rfl, (fun _ z => nomatch z), hs, ?_, ?_⟩
  · intro d m' v F2 H3 pd wd _ at_
    rw [hK] at at_
    refine hZ v H3 fun b hb => ?_
    have r2 := r1.stepN wd
    have v1 := r2.w.newF (.lst [v]) hb
    exact k0 _ ρ1 (.ref b) _ _ pd (e2.trans (wd.ff.trans v1.ff)) (r2.stepN v1) (.lst (.inl (.inl upd_same)) (.cons (at_.mono v1.ff) .nil))
  · intro x m' cls dd F2 H3 ⟨r, hr1, hr2, hr3, pd⟩ wd _ ⟨C, g1, g2, g3⟩
    rw [hK] at g3
    have ok := G r hr1
    have eC : C = ca r.c := by
      have := ok.g
      rw [hr2, g1] at this
      cases this
      rw [hr2]
    subst g2
    have r2 := r1.stepN wd
    have out : ∀ (fv : Option (Str × V)), At cn.K F2 (rowV r fv) (rowD r x) → ∀ p L T, H3 p = none → H3 L = none → H3 T = none → p ≠ L → p ≠ T → L ≠ T → Q (.ref T) (upd (upd (upd H3 p (ExcO p (.ref C) dd)) T (.tup [.str r.w, rowV r fv])) L (.lst [.ref T])) := by
      intro fv hat p L T n1 n2 n3 d1 d2 d3
      have v1 := r2.w.newF (ExcO p (.ref C) dd) n1
      have r3 := r2.stepN v1
      have n3' : upd H3 p (ExcO p (.ref C) dd) T = none := by rw [upd_ne (Ne.symm d2)]; exact n3
      have v2 := r3.w.newF (.tup [.str r.w, rowV r fv]) n3'
      have r4 := r3.stepN v2
      have n2' : upd (upd H3 p (ExcO p (.ref C) dd)) T (.tup [.str r.w, rowV r fv]) L = none := by rw [upd_ne d3, upd_ne (Ne.symm d1)]; exact n2
      have v3 := r4.w.newF (.lst [.ref T]) n2'
      refine k0 _ ρ1 (.ref T) _ _ pd (e2.trans (wd.ff.trans (v1.ff.trans (v2.ff.trans v3.ff)))) (r4.stepN v3) ?_
      refine At.tup (.inl (.inl ?_)) (.cons (.str _) (.cons (hat.mono (v1.ff.trans (v2.ff.trans v3.ff))) .nil))
      rw [upd_ne (Ne.symm d3), upd_same]
    cases hv : x.v with
    | none =>
      rw [hv] at g3
      have e3 : dd = none := g3
      refine ⟨C, none, r, rfl, by rw [eC]; exact ok, e3, hr1, ?_, out none ?_⟩
      · unfold fldX at hr3
        unfold fldOk
        cases ef : r.f with
        | none => trivial
        | some n =>
          rw [ef, hv] at hr3
          obtain ⟨_, z⟩ := hr3
          cases z
      · unfold rowV rowD
        cases ef : r.f with
        | none => exact .non
        | some n =>
          rw [hv]
          exact .non
    | some z =>
      obtain ⟨nf, yf⟩ := z
      rw [hv] at g3
      obtain ⟨b, v, e3, e4, e5⟩ := g3
      refine ⟨C, some (nf, v), r, rfl, by rw [eC]; exact ok, ⟨b, e3, e4⟩, hr1, ?_, out (some (nf, v)) ?_⟩
      · unfold fldX at hr3
        unfold fldOk
        cases ef : r.f with
        | none => trivial
        | some n =>
          rw [ef, hv] at hr3
          obtain ⟨_, z⟩ := hr3
          cases z
          exact ⟨v, rfl⟩
      · unfold rowV rowD
        cases ef : r.f with
        | none => exact .non
        | some n =>
          rw [hv]
          exact e5
end
end DL
namespace DL
open PySem L2 PySem.Spec PyProof.Rows LamX
abbrev oT : Obj := { cls := .none, data := .fields #[] }
/-- what is seen behind the top: the written part, and tables that are empty -/
def hookT (K : Params → PySem.W.Frag) (as : List Addr) (e : ∀ P, as = (K P).map (·.1)) (ts : List Addr) : PySem.W.Hook where
  α := Prod (List (Option Obj)) (List (Option Obj))
  obs s := (as.map s.heap.get?, ts.map s.heap.get?)
  val w := ((K w.params).map fun p => some p.2, ts.map fun _ => some oT)
  says w h := (K w.params).In h ∧ ∀ t ∈ ts, h.get? t = some oT
  of w s z := ⟨PySem.W.InK.of e w s (congrArg (·.1) z), fun t ht => by
    have z2 : ts.map s.heap.get? = ts.map fun _ => some oT := congrArg (·.2) z
    exact (List.map_inj_left.mp z2) t ht⟩
  keeps w h h' z k := ⟨PySem.W.InK.keeps w h h' z.1 k, fun t ht => k _ _ (z.2 t ht)⟩
theorem lawGT {pr : Program} {wd : PySem.World} {K : PySem.W.Frag} {gl gb : PySem.Str → Option Value} {k : Nat} {fa a : Addr} {cs : List (Addr × Addr)} {fd : FuncData} {x : PySem.Str} {sp : Sp} {s : Shared} {vs : List Value} {ns : List Int}
    (inK : K.In s.heap) (nsG : s.heap.Ns mainGlobals gl) (nsB : s.heap.Ns builtinsNs gb) (bb : ∀ y : PySem.Str, y ≠ "__name__" → gb y = bootBuiltins y) (lim : s.heap.NoLimit) (gen : s.gens = #[])
    (hT : ∀ p ∈ cs, s.heap.get? p.2 = some oT) (nT : ∀ p ∈ cs, K.lookup p.2 = none) (C : ∀ p ∈ cs, PySem.W.codeHdIn K p.1 p.2 = true)
    (bmn : ∃ (bm : Addr) (ob : Obj), gl "__builtins__" = some (.ref bm) ∧ bm ≠ builtinsNs ∧ s.heap.get? bm = some ob ∧ ob.cls = .type "module" ∧ ob.dict = some builtinsNs ∧ ob.data = .plain)
    (ha : s.heap.get? a = some { cls := .type "list", data := .seq vs.toArray }) (hi : IntsAre vs ns) (hl : ns.length ≤ sizeLine) (room : Room k callerA)
    (F : ∀ bas : Heap, K.In bas → bas.Ns mainGlobals gl → (∀ p ∈ cs, TabB bas gl p.1 p.2) → FnG pr wd K gl bas k fa fd [x] sp) (bind : ∀ (s : Shared) (u : Value), BindsTo s fd ⟨[u], []⟩ [(x, u)])
    (says : ∀ H : Hp, (∀ p ∈ cs, H p.2 = some (.tbl #[])) → SqL K H a (ns.map V.int) → (∀ b, H b ≠ none → b = a ∨ b ∈ cs.map (·.2)) → sp [.ref a] H (fun v _ => v = .bl true) fun _ _ _ => False) :
    codeAny (model pr wd) callerA (.call (.ref fa) ⟨[.ref a], []⟩) (fun r s' => r = .ok (.ret (.bool true)) ∧ OldK s.heap s'.heap ∧ s'.os = s.os ∧ AllBare s'.gens) s := by
  have vals := L2.vals_ints hi
  have tabAt : ∀ b, b ∈ cs.map (·.2) → s.heap.get? b = some oT := fun b hb => by
    (obtain ⟨p, hp, e⟩ := List.mem_map.mp hb)
    subst e
    exact hT p hp
  have aNoT : a ∉ cs.map (·.2) := fun z => by
    have q := (tabAt a z).symm.trans ha
    have q2 : Data.fields #[] = Data.seq vs.toArray _ := congrArg Obj.data (Option.some.inj q)
    cases q2
  have run : ∀ (H : Hp), (∀ b o, H b = some o → (b = a ∧ ∃ ob xs, o = .frz ob (.lst xs)) ∨ (b ∈ cs.map (·.2) ∧ o = .tbl #[])) → (∀ p ∈ cs, H p.2 = some (.tbl #[])) → SqL K H a (ns.map V.int) → HOk pr wd H s.heap → (H a ≠ none → K.lookup a = none) →
      codeAny (model pr wd) callerA (.call (.ref fa) ⟨[.ref a], []⟩) (fun r s' => r = .ok (.ret (.bool true)) ∧ OldK s.heap s'.heap ∧ s'.os = s.os ∧ AllBare s'.gens) s := by
    intro H only tb sq hok notK
    -- neither the script nor a table
    have free : ∀ {b : Addr} {o : Obj}, s.heap.get? b = some o → (∀ ys n, o.data ≠ .seq ys n) → o.data ≠ .fields #[] → H b = none := by
      intro b o e h1 h2
      cases z : H b with
      | none => rfl
      | some u =>
        rcases only b u z with ⟨rfl, _⟩ | ⟨hb, _⟩
        · rw [ha] at e
          cases e
          exact absurd rfl (h1 _ _)
        · rw [tabAt b hb] at e
          cases e
          exact absurd rfl h2
    have nsOf : ∀ {b : Addr} {m : PySem.Str → Option Value}, s.heap.Ns b m → (hidT s.heap H).Ns b m := by
      rintro b m ⟨o, es, n, e, ed, r⟩
      refine ⟨o, es, n, hidT_get e (free e (fun _ _ z => ?_) fun z => ?_), ed, r⟩ <;> (rw [ed] at z; cases z)
    have inB : K.In (hidT s.heap H) := by
      intro b o e
      refine hidT_get (inK b o e) ?_
      cases z : H b with
      | none => rfl
      | some u =>
        rcases only b u z with ⟨rfl, _⟩ | ⟨hb, _⟩
        · rw [notK (by rw [z]; exact Option.some_ne_none u)] at e
          cases e
        · (obtain ⟨p, hp, rfl⟩ := List.mem_map.mp hb)
          rw [nT p hp] at e
          cases e
    obtain ⟨mc, l1, l2⟩ := lim
    have md : Mod K gl (hidT s.heap H) := ⟨inB, nsOf nsG, ⟨gb, nsOf nsB, bb⟩, ⟨mc, nsOf l1, l2⟩⟩
    have TB : ∀ p ∈ cs, TabB (hidT s.heap H) gl p.1 p.2 := fun p hp => by
      obtain ⟨og, eg, ng, hg1, hg2, _⟩ := nsG
      obtain ⟨bm, ob, b1, b2, b3, b4, b5, b6⟩ := bmn
      refine ⟨PySem.W.codeHd_of_K inB (C p hp), ⟨bm, ob, b1, b2, fun z => ?_, fun z => ?_, hidT_get b3 (free b3 (fun _ _ z => ?_) fun z => ?_), b4, b5, b6⟩, fun z => ?_⟩
      · rw [z, hg1] at b3
        cases b3
        rw [hg2] at b6
        cases b6
      · rw [z, hT p hp] at b3
        cases b3
        cases b6
      · rw [b6] at z
        cases z
      · rw [b6] at z
        cases z
      · rw [z, hT p hp] at hg1
        cases hg1
        cases hg2
    have env : Env0 pr wd K gl (hidT s.heap H) callerA [] s H := ⟨rfl, md, fun b o e => of_hidT e, Nat.le_of_eq (hidT_size _ _), trivial, fun b hb => (nomatch hb), hok, .of_eq gen⟩
    have sees : ∀ b, H b ≠ none → b = a ∨ b ∈ cs.map (·.2) := fun b h => by
      cases z : H b with
      | none => exact absurd z h
      | some u => exact (only b u z).imp (·.1) (·.1)
    refine codeAny_mono ((F _ inB (nsOf nsG) TB).go callerA [] s H ⟨[.ref a], []⟩ [.ref a] [.ref a] _ _ rfl room env (bind s (.ref a)) (.cons rfl .nil) (says H tb sq sees)) ?_
    intro r s' z
    match r, z with
    | .error e, z => exact (z : False).elim
    | .ok (.ret u), ⟨v, H', os, bare, un, hok', rv, q⟩ =>
      have q : v = .bl true := q
      subst q
      cases (show u = Value.bool true from rv)
      have old : ∀ b o, b ∉ cs.map (·.2) → s.heap.get? b = some o → s'.heap.get? b = some o := by
        intro b o nb e
        cases z : H b with
        | none => exact un.keep b o e z (fun y => nomatch y) (by simp)
        | some u =>
          rcases only b u z with ⟨_, ob, xs, rfl⟩ | ⟨hb, _⟩
          · obtain ⟨p1, _⟩ := hok b _ z
            obtain ⟨p2, _⟩ := hok' b _ (un.frzs b ob _ z)
            rw [e] at p1
            cases p1
            exact p2
          · exact absurd hb nb
      have moreAt : ∀ p ∈ cs, ∃ more : Array Value, s'.heap.get? p.2 = some { cls := .none, data := .fields more } := fun p hp => by
        obtain ⟨more, z⟩ := un.tbls p.2 #[] (tb p hp)
        exact ⟨_, hok' p.2 _ z⟩
      (refine ⟨rfl, ⟨fun b o e => ?_, fun b o e => ?_⟩, os, bare⟩)
      · (by_cases hb : b ∈ cs.map (·.2))
        · (obtain ⟨p, hp, rfl⟩ := List.mem_map.mp hb)
          obtain ⟨more, hm⟩ := moreAt p hp
          rw [hT p hp] at e
          cases e
          exact .inr (.inl ⟨((PySem.W.codeHd_of_K inK (C p hp)).tab (hT p hp)).isCodeTable, rfl, #[], more, rfl, by rw [Array.empty_append]; exact hm⟩)
        · exact .inl (old b o hb e)
      · (by_cases hb : b ∈ cs.map (·.2))
        · (obtain ⟨p, hp, rfl⟩ := List.mem_map.mp hb)
          obtain ⟨more, hm⟩ := moreAt p hp
          exact ⟨_, hm⟩
        · exact ⟨o, old b o hb e⟩
  have len := hi.length
  (have memT : ∀ p ∈ cs, p.2 ∈ cs.map (·.2) := fun p hp => List.mem_map.mpr ⟨p, hp, rfl⟩)
  cases z : K.lookup a with
  | some o =>
    have e := inK a o z
    rw [ha] at e
    cases e
    have h0 : ∀ b, b ∉ cs.map (·.2) → (fun b => if b ∈ cs.map (·.2) then some (HO.tbl #[]) else none) b = none := fun b hb => if_neg hb
    refine run (fun b => if b ∈ cs.map (·.2) then some (.tbl #[]) else none) (fun b o e => ?_) (fun p hp => if_pos (memT p hp)) (.inr ⟨_, vs.toArray, _, z, rfl, rfl, rfl, ?_, by simpa using vals⟩) (fun b o e => ?_) fun e => absurd (h0 a aNoT) e
    · (by_cases hb : b ∈ cs.map (·.2))
      · have y := (if_pos hb).symm.trans e
        cases y
        exact .inr ⟨hb, rfl⟩
      · have y := (if_neg hb).symm.trans e
        cases y
    · rw [List.size_toArray, len]
      exact hl
    · (by_cases hb : b ∈ cs.map (·.2))
      · have y := (if_pos hb).symm.trans e
        cases y
        exact tabAt b hb
      · have y := (if_neg hb).symm.trans e
        cases y
  | none =>
    generalize hH : (fun b => if b = a then some (HO.frz { cls := .type "list", data := .seq vs.toArray } (.lst (ns.map V.int))) else if b ∈ cs.map (·.2) then some (HO.tbl #[]) else none : Hp) = H
    have h1 : H a = some (HO.frz { cls := .type "list", data := .seq vs.toArray } (.lst (ns.map V.int))) := by
      rw [← hH]
      exact if_pos rfl
    have h2 : ∀ b, b ∈ cs.map (·.2) → H b = some (HO.tbl #[]) := fun b hb => by
      rw [← hH]
      exact (if_neg (fun e => aNoT (by rw [← e]; exact hb))).trans (if_pos hb)
    have h3 : ∀ b, b ≠ a → b ∉ cs.map (·.2) → H b = none := fun b e hb => by
      rw [← hH]
      exact (if_neg e).trans (if_neg hb)
    have at3 : ∀ b o, H b = some o → (b = a ∧ o = HO.frz { cls := .type "list", data := .seq vs.toArray } (.lst (ns.map V.int))) ∨ (b ∈ cs.map (·.2) ∧ o = .tbl #[]) := fun b o e => by
      by_cases y : b = a
      · subst y
        rw [h1] at e
        cases e
        exact .inl ⟨rfl, rfl⟩
      · (by_cases hb : b ∈ cs.map (·.2))
        · rw [h2 b hb] at e
          cases e
          exact .inr ⟨hb, rfl⟩
        · rw [h3 b y hb] at e
          cases e
    refine run H (fun b o e => (at3 b o e).imp (fun ⟨h, y⟩ => ⟨h, _, _, y⟩) id) (fun p hp => h2 _ (memT p hp)) (.inl (.inr ⟨{ cls := .type "list", data := .seq vs.toArray }, h1⟩)) (fun b o e => ?_) fun _ => z
    rcases at3 b o e with ⟨rfl, rfl⟩ | ⟨hb, rfl⟩
    · exact ⟨ha, by rw [List.length_map]; exact hl, vs, _, vals, ha⟩
    · exact tabAt b hb
theorem walkGT {l : PySem.W.OpenLaw} {n k : Nat} {q : Program} {loose : List PySem.Str} {XP : (PySem.Str → Option Value) → Heap → Prop} {d : DefRec} {K : Params → PySem.W.Frag} {as ts : List Addr} {e : ∀ P, as = (K P).map (·.1)} {sp : PySem.World → Sp} {x : PySem.Str} {cs : PySem.World → List (Addr × Addr)}
    (hn : l.most = some n) (hn2 : n ≤ sizeLine) (hdf : d.params.defaults = []) (room : Room k callerA)
    (ct : ∀ wd : PySem.World, ∀ p ∈ cs wd, p.2 ∈ ts ∧ (K wd.params).lookup p.2 = none ∧ PySem.W.codeHdIn (K wd.params) p.1 p.2 = true)
    (F : ∀ (wd : PySem.World) (gl : PySem.Str → Option Value) (fa : Addr) (h : Heap), (K wd.params).In h → h.Ns mainGlobals gl → gl d.name = some (.ref fa) →
      ∃ fd : FuncData, (∀ (s : Shared) (u : Value), BindsTo s fd ⟨[u], []⟩ [(x, u)]) ∧ ∀ bas : Heap, (K wd.params).In bas → bas.Ns mainGlobals gl → (∀ p ∈ cs wd, TabB bas gl p.1 p.2) → FnG l.prog wd (K wd.params) gl bas k fa fd [x] (sp wd))
    (says : ∀ (wd : PySem.World) (H : Hp) (a : Addr) (ns : List Int), ns.length ≤ n → (∀ p ∈ cs wd, H p.2 = some (.tbl #[])) → SqL (K wd.params) H a (ns.map V.int) → (∀ b, H b ≠ none → b = a ∨ b ∈ (cs wd).map (·.2)) → sp wd [.ref a] H (fun v _ => v = .bl true) fun _ _ _ => False) :
    PySem.W.WalkO q loose XP (hookT K as e ts).says l.row.toRowW d [] (fun f vs => PySem.call f vs) := by
  refine Att.attach_callB hn hdf ?_
  intro wd s0 s1 gl gb fa o pm cd doc a vs ns G Y ho hd hcd hgl hobj hints hlen _ hg
  obtain ⟨fd, hb, hF⟩ := F wd gl fa _ Y.1 G.T.g hgl
  exact lawGT Y.1 G.T.g G.T.b G.T.builtins G.T.nolimit hg (fun p hp => Y.2 _ (ct wd p hp).1) (fun p hp => (ct wd p hp).2.1) (fun p hp => (ct wd p hp).2.2) G.T.bmain hobj hints (Nat.le_trans hlen hn2) room hF hb fun H t sq see => says wd H a ns hlen t sq see
end DL
namespace DL
open PySem L2 PySem.Spec PyProof.Rows LamX
open PySem.W (nsIn findIn subIn hasDictIn specialIn takesIn mroIn kitOne exmOne)
def caOf (K : PySem.W.Frag) (y : Str) : Addr := match nsIn K mainGlobals y with
  | some (some (.ref a)) => a
  | _ => 0
abbrev GRow : Type := List (Option (Option Value)) × List (Option Bool) × List (Option Bool × Option Bool) × Option (Option Value)
def rowL (K : PySem.W.Frag) (rs : List FR) (r : FR) : GRow :=
  ([nsIn K mainGlobals r.c, findIn K (.ref (caOf K r.c)) "__getattribute__", findIn K (.ref (caOf K r.c)) "__getattr__", findIn K (.ref (caOf K r.c)) "__class__", specialIn K (.builtin "object.__class__") "__get__"],
   [subIn K (.ref (caOf K r.c)) (.type "BaseException"), some (hasDictIn K (caOf K r.c)), takesIn K (.builtin "object.__class__"), mroIn K (caOf K r.c) (.type "object")],
   rs.map fun z => (kitOne K (.ref (caOf K r.c)) (.ref (caOf K z.c)), exmOne K (.ref (caOf K r.c)) (.ref (caOf K z.c))),
   match r.f with
   | none => some none
   | some n => findIn K (.ref (caOf K r.c)) n)
def rowR (K : PySem.W.Frag) (rs : List FR) (r : FR) : GRow :=
  ([some (some (.ref (caOf K r.c))), some (some (.builtin "BaseException.__getattribute__")), some none, some (some (.builtin "object.__class__")), some (some (.builtin "getset_descriptor.__get__"))],
   [some true, some true, some true, some true],
   rs.map fun z => (some (decide (r.c = z.c)), some (decide (r.c = z.c))),
   some none)
theorem fr_same : ∀ {rs : List FR}, (rs.Pairwise fun a b => a.c ≠ b.c) → ∀ r ∈ rs, ∀ z ∈ rs, z.c = r.c → z = r
  | [], _, _, hr, _, _, _ => nomatch hr
  | a :: l, uq, r, hr, z, hz, he => by
    obtain ⟨h1, h2⟩ := List.pairwise_cons.mp uq
    rcases List.mem_cons.mp hr with e1 | hr
    · rcases List.mem_cons.mp hz with e2 | hz
      · rw [e1, e2]
      · rw [e1] at he
        exact absurd he.symm (h1 z hz)
    · rcases List.mem_cons.mp hz with e2 | hz
      · rw [e2] at he
        exact absurd he (h1 r hr)
      · exact fr_same h2 r hr z hz he
theorem row_ok {K : PySem.W.Frag} {h : Heap} {gl : Str → Option Value} {rs : List FR} (X : K.In h) (G : h.Ns mainGlobals gl) (uq : rs.Pairwise fun a b => a.c ≠ b.c) (e : rs.map (rowL K rs) = rs.map (rowR K rs)) : GateOk K gl rs (caOf K) := by
  have e : ∀ r ∈ rs, rowL K rs r = rowR K rs r := List.map_inj_left.mp e
  have same := fr_same uq
  intro r hr
  have q := e r hr
  have q1 : [_, _, _, _, _] = [_, _, _, _, _] := congrArg (·.1) q
  have q2 : [_, _, _, _] = [_, _, _, _] := congrArg (·.2.1) q
  have q3 : rs.map _ = rs.map _ := congrArg (·.2.2.1) q
  have q4 : (match r.f with
    | none => some none
    | some n => findIn K (.ref (caOf K r.c)) n) = some none := congrArg (·.2.2.2) q
  simp only [List.cons.injEq, and_true] at q1 q2
  obtain ⟨a1, a2, a3, a4, a5⟩ := q1
  obtain ⟨b1, b2, b3, b4⟩ := q2
  have b2 : hasDictIn K (caOf K r.c) = true := Option.some.inj b2
  have q3 := List.map_inj_left.mp q3
  refine ⟨PySem.W.mg_of X G a1, ⟨a2, a3, b1, b2, a4, a5, b3, b4⟩, ⟨a2, a3, b1, b2⟩, fun z hz => ?_, fun z hz hc n hn => ?_⟩
  · have q := q3 z hz
    have az : nsIn K mainGlobals z.c = some (some (.ref (caOf K z.c))) := by
      have q1 : [_, _, _, _, _] = [_, _, _, _, _] := congrArg (·.1) (e z hz)
      simp only [List.cons.injEq, and_true] at q1
      exact q1.1
    exact ⟨_, PySem.W.mg_of X G az, congrArg (·.1) q, congrArg (·.2) q⟩
  · cases same r hr z hz hc
    rw [hn] at q4
    exact q4
end DL
namespace DL
open PySem L2 PySem.Spec PyProof.Rows LamX
theorem FnG.ofL {pr : Program} {wd : PySem.World} {K : PySem.W.Frag} {gl : Str → Option Value} {bas : Heap} {k : Nat} {f : Addr} {x qual : Str} {st : Stmt} {fd : FuncData} {N ps : List Str} {sp : Sp} (F : L2.Fun K x qual st f fd) (S : FnScope N ps (defScope st))
    (len : (∀ vs H Q E, sp vs H Q E → vs.length = ps.length))
    (body : ∀ (cdv : Value), fd.code = cdv → ∀ (A : Around) (out : List PySem.Env) (sh : Shared) (H : Hp) (vs : List V) (Q : VK) (E : XK), A.guards = some [] → Room k (A.deeper (PyProof.Rows.envOfC qual (defScope st) sh.heap.objs.size f cdv)) → sp vs H Q E →
      ∃ t, PSs (cxOf CX0 pr wd K gl bas N qual (defScope st) f cdv A out sh H E).nox (defBody st) t ∧ t { nx := fun _ H' => Q .non H', rt := Q } (start N vs) H) : FnG pr wd K gl bas (k + 1) f fd ps sp := by
  obtain ⟨oc, od, kV, doc, pm, an, cdv, ct, osl, efd, lk, hc⟩ := F.ex
  have hcd : fd.code = cdv := by
    rw [efd] <;> rfl
  refine ⟨len, fun A out sh H ar us vs Q E hg room env bnd vals says => ?_⟩
  have heapK : K.In sh.heap := PySem.W.Frag.In.keeps env.mod.kin fun b o e => (env.bs b o e).1
  have noLim : sh.heap.NoLimit := Heap.NoLimit.keeps env.mod.nolimit fun b o e => (env.bs b o e).1
  have kinds : ∀ y ∈ ps.zip us, (defScope st).names.lookup y.1 = some .local ∨ ((defScope st).names.lookup y.1 = some .cell ∧ ((cellsFrom (sh.heap.objs.size + 1) (defScope st).names []).lookup y.1).isSome = true) := by
    rintro ⟨n, v⟩ hy
    exact (S.par n (List.of_mem_zip hy).1).imp id fun q => ⟨q, PySem.W.cellsFrom_some _ _ _ (.inl q)⟩
  rw [efd] at lk bnd
  refine codeAny_call_function room.depth (heapK _ _ lk) rfl S.co S.gen rfl (PySem.W.codeRec_of heapK hc) (bnd _ _ _ _ (wpAny_newFunctionEnv_cells S.kind kinds ?_))
  intro env1 he s1 xc
  subst he
  refine ⟨noLim.keeps xc.toInCall.keep, codeAny_func ?_⟩
  obtain ⟨t, ht, hq⟩ := body cdv hcd A out sh H vs Q E hg (room.deeper _) says
  have inv : Inv (cxOf CX0 pr wd K gl bas N qual (defScope st) f cdv A out sh H E) [] (start N vs) H s1 := inv_start S room.hd env (len _ _ _ _ says) vals xc
  refine wpAny_mono (ht.nox.run [] s1 (start N vs) H _ inv hq) ?_ fun _ _ z => z
  intro fl s2 hs
  cases fl with
  | ret u =>
    (obtain ⟨v, σ', H', J, rv, q⟩ := hs)
    exact ⟨v, H', J.os, J.bare, J.base, J.hok, rv, q⟩
  | next =>
    obtain ⟨σ', H', J, q⟩ := hs
    exact ⟨V.non, H', J.os, J.bare, J.base, J.hok, rfl, q⟩
  | brk => exact (hs.choose_spec.choose_spec.2 : False).elim
  | cont => exact (hs.choose_spec.choose_spec.2 : False).elim
def adr : Value → Addr
  | .ref a => a
  | _ => 0
/-- the code object of a def of the module, by its name -/
def codeAt (K : PySem.W.Frag) (y : Str) : Addr := match (K.lookup (caOf K y)).map Obj.data with
  | some (.func fd) => adr fd.code
  | _ => 0
/-- the table of a code object -/
def tableAt (K : PySem.W.Frag) (c : Addr) : Addr := match (K.lookup c).map Obj.data with
  | some (.fields vs) => adr (vs.getD 11 .none)
  | _ => 0
/-- what is known from then on: all but the tables -/
def Fo (H : Hp) : Hp := fun b => match H b with
  | some (.tbl _) => none
  | o => o
theorem fo_some {H : Hp} {b : Addr} {o : HO} (h : Fo H b = some o) : H b = some o := by
  unfold Fo at h
  split at h
  · cases h
  · exact h
theorem fo_of {H : Hp} {b : Addr} {o : HO} (h : H b = some o) (n : ∀ ps, o ≠ .tbl ps) : Fo H b = some o := by
  unfold Fo
  rw [h]
  cases o with
  | tbl ps => exact absurd rfl (n ps)
  | _ => rfl
theorem fo_tbl {H : Hp} {b : Addr} {ps : Array Value} (h : H b = some (.tbl ps)) : Fo H b = none := by
  unfold Fo
  rw [h]
theorem fo_sq {K : PySem.W.Frag} {H : Hp} {a : Addr} {xs : List V} (h : SqL K H a xs) : SqL K (Fo H) a xs := by
  (rcases h with (h | ⟨o, h⟩) | h)
  · exact .inl (.inl (fo_of h fun _ z => nomatch z))
  · exact .inl (.inr ⟨o, fo_of h fun _ z => nomatch z⟩)
  · exact .inr h
theorem world_law {T : List (Addr × Str)} {H H1 : Hp} {q c l : Addr} {cs ls : List Int} {k : Nat} (tb : ∀ p ∈ T, H p.1 = some (.tbl #[])) (ex : Ex H H1) (hq : H q = none) (hc : H c = none) (hL : H l = none) (s : SrcAt H1 q c l cs ls k) :
    World (srcOrcT T) (some q) (Fo H) H1 (Fo H) H1 := by
  refine World.start (fun b o h => ex b o (fo_some h)) (fun b hb z => ?_) fun p e => ?_
  · rcases foot_parts z with z | ⟨t, ht, z⟩
    · have none_fo : ∀ x, H x = none → Fo H x = none := fun x h => by
        unfold Fo
        rw [h]
      rcases s.foot z with rfl | rfl | rfl
      · exact hb (none_fo _ hq)
      · exact hb (none_fo _ hc)
      · exact hb (none_fo _ hL)
    · rcases z with rfl | ⟨ps, pos, h1, h2⟩
      · exact hb (fo_tbl (tb t ht))
      · rw [ex _ _ (tb t ht)] at h1
        cases h1
        have h2 : codeAmong pos [] = some (Value.ref b) := h2
        cases h2
  · cases e
    exact ⟨⟨_, _, _, _, _, s⟩, fun p hp => TabS.nil (ex _ _ (tb p hp))⟩
end DL
namespace DL
open PySem L2 PySem.Spec PyProof.Rows
/-- what is known of the base -/
structure BaseX (B newId initId : String) (bm : List Value) : Prop where
  F : ExcBaseFacts B newId initId bm
  pass : ∀ self : Value, refuseLoop self "__setattr__" bm = pure ()
  obj : bm.contains (.type "object") = true
  ty : typeOf (.type B) = pure (.type "type")
  stub : Manifest.isStub B = false
  hand : PySem.W.handedIn (.builtin initId) = true
abbrev luMro : List Value := [.type "LookupError", .type "Exception", .type "BaseException", .type "object"]
theorem base_lu : BaseX "LookupError" "LookupError.__new__" "LookupError.__init__" luMro := ⟨F.excBase_LookupError, F.store_LookupError.passes, by decide +kernel, by kernel_rfl, by decide +kernel, by decide +kernel⟩
/-- the class at C, made by newId, its bases' order bm behind it: its record, what it takes from object, what it is -/
structure OxB (newId : String) (bm : List Value) (K : PySem.W.Frag) (C : Addr) : Prop where
  record : ∃ nm q N bs sn sub ab col dd k0 k1 k2 k3 k5, K.lookup C = some (excClassObj nm q C N bs bm true sn sub ab col dd k0 k1 k2 k3 k5 newId)
  stores : PySem.W.findIn K (.ref C) "__setattr__" = some (some (.builtin "object.__setattr__"))
  raised : PySem.W.subIn K (.ref C) (.type "BaseException") = some true
  isType : PySem.W.typeIn K (.ref C) = some (.type "type")
  kept : PySem.W.keepIn K (.ref C) = true
end DL
namespace PySem
end PySem
namespace DL
open PySem L2 PySem.Spec PyProof.Rows
section
variable {X : Cx} {pins : List (Addr × Obj)} {σ : L2.St} {H : Hp} {s : Shared} {a C : Addr} {B newId initId : String} {bm : List Value}
theorem init_ok {us : List Value} {Q : Value → Shared → Prop} {E : Value → Shared → Prop} {A : Around} (BX : BaseX B newId initId bm) (T : OxB newId bm X.K C) (I : Inv X pins σ H s) (e : H a = some (exo a C none)) (fits : us.length ≤ sizeLine) (go : ∀ s', Inv X pins σ H s' → Q .none s') :
    wpAny (model X.prog X.w) A (call (.builtin initId) (.ref a :: us)) Q E s := by
  obtain ⟨t1, lies⟩ := exo_at I.hok e
  obtain ⟨_, _, _, _, _, _, _, _, _, _, _, _, _, _, rec⟩ := T.record
  have again : upd H a (exo a C none) = H := funext fun b => by
    by_cases z : b = a
    · rw [z, upd_same, e]
    · exact upd_ne z
  cases s with | mk hp g d t os =>
  refine wpAny_call (PySem.HandSPX.init_base BX.F (fun _ => rfl) (I.kIn _ _ rec) lies fits fun h2 t2 kept at2 => go _ ?_)
  exact again ▸ I.write (t' := t) (o := exo a C none) (by rw [e]; exact True.intro) (.inl rfl) kept ⟨_, at2⟩ (exo_ok at2)
end
def tBInit (newId : String) (bm : List Value) (K : PySem.W.Frag) (ta : TA) : TE := fun σ H Q => ta σ H fun vs H1 => ∃ (a C : Addr) (ws : List V), vs = .ref a :: ws ∧ ws.length ≤ 1000 ∧ OxB newId bm K C ∧ H1 a = some (exo a C none) ∧ Q .non H1
section
variable {X : Cx} {o e : Expr} {es : List Expr} {to te : TE} {ta : TA} {f bn : Str} {p p' p1 p2 pos : Pos} {B newId initId : String} {bm : List Value}
/-- B.__init__(self, ..), B by its name -/
theorem pe_binit {pl : Sem Bool} (BX : BaseX B newId initId bm) (hg : Gl X bn) (hm : X.mg bn = none) (bt : bootBuiltins bn = some (.type B)) (fi : PySem.W.findCls X.K (.type B) (.type "type") "__init__" = some (.val (.builtin initId))) (ha : PA X (e :: es) ta) (hn : bn ≠ "__name__" := by decide) (hdb : (bn == ("__debug__" : Str)) = false := by decide)
    (hc : eval (.Call (.Attribute (.Name bn p1) "__init__" p2) (e :: es) [] pos) X.env = (do
      let ov ← eval (.Name bn p1) X.env
      standAt p2.atName
      let (fn, first) ← holding [ov] (getMethod ov "__init__" pl)
      callWith pos fn first (backTo pos (starEach (e :: es) X.env)) (backToKw pos (keywordEach [] X.env))) := by rfl)
    (he : starEach (e :: es) X.env = (false, eval e X.env) :: starEach es X.env := by rfl) (hpl : (backTo pos (starEach es X.env)).any (·.1) = false := by rfl) (cw : ∀ (xs : List (Bool × Sem Value)), callWith pos (.builtin initId) [] xs [] = callWith pos (.builtin initId) [] xs [] := by intros; rfl) :
    PE X (.Call (.Attribute (.Name bn p1) "__init__" p2) (e :: es) [] pos) (tBInit newId bm X.K ta) := by
  constructor
  intro pins s σ H Q I h
  refine PySem.W.methodCall_KW (ld_blt I hg hm bt ?_ hn hdb) hc
  obtain ⟨m, fr⟩ := I.fr
  refine PySem.W.method_type fr I.ok.mod.kin BX.ty BX.stub fi BX.hand ?_
  show wpAny _ _ (callWith pos (Value.builtin initId) [] (backTo pos (starEach (e :: es) X.env)) []) _ _ _
  refine PyProof.Rows.callWith_method1 (thn (ha.run pos pins _ σ H _ (I.tok _) h) ?_) he hpl
  rintro us s1 ⟨vs, H1, I1, r1, a, C, ws, rfl, short, T, ea, q⟩
  cases r1 with
  | @cons _ u0 _ ur ra rw' =>
    cases (show u0 = Value.ref a from ra)
    refine init_ok BX T I1 ea ?_ fun s' J => ⟨.non, H1, J, rfl, q⟩
    (rw [← Paired.length rw', sizeLine_eq])
    omega
theorem makes_ofB {C fI : Addr} (BX : BaseX B newId initId bm) (T : OxB newId bm X.K C) (iC : PySem.W.findIn X.K (.ref C) "__init__" = some (some (.ref fI))) (tI : PySem.W.typeIn X.K (.ref fI) = some (.type "function")) : Makes X C fI := by
  intro A R s us kin few run
  obtain ⟨_, _, _, _, _, _, _, _, _, _, _, _, _, _, rec⟩ := T.record
  exact PySem.HandSPX.call_own BX.F (fun _ => rfl) (kin _ _ rec) (PySem.W.looks_findIn kin iC) (fun self => PySem.W.bind_fn kin self tI) few run
end
end DL
namespace DL
open PySem L2 PySem.Spec PyProof.Rows
def spInitB (newId : String) (bm : List Value) (K : PySem.W.Frag) (C : Addr) (fld : Option Str) : Sp := fun vs H Q _ => ∃ a v, vs = [.ref a, v] ∧ H a = some (exo a C none) ∧ OxB newId bm K C ∧ match fld with
  | none => Q .non H
  | some f => ∀ dx, H dx = none → dx ≠ a → Q .non (upd (upd H dx (exd dx [(f, v)])) a (exo a C (some dx)))
def ClsAtB (pr : Program) (wd : PySem.World) (K : PySem.W.Frag) (gl : Str → Option Value) (bas : Heap) (name : Str) (fld : Option Str) : Prop :=
  ∃ (B newId initId : String) (bm : List Value) (C fI : Addr) (fd : FuncData) (ps : List Str), BaseX B newId initId bm ∧ gl name = some (.ref C) ∧ OxB newId bm K C ∧ PySem.W.findIn K (.ref C) "__init__" = some (some (.ref fI)) ∧ PySem.W.typeIn K (.ref fI) = some (.type "function") ∧ FnOk pr wd K gl bas CX0 1 fI fd ps (spInitB newId bm K C fld) ∧ Binds K fd ps []
section
variable {X : Cx} {c : Cn} {k : Nat} {name : Str} {p pos pos' : Pos} {e : Expr} {fe : DM} {px : Exn → Env → Prop}
theorem dp_raiseB0 (Ck : ClsAtB X.prog X.w X.K X.mg X.base name none) (tk : Takes X (wx X.mg c px)) (hK : X.K = c.K) (hc : X.calm = true) (hr : Room 2 X.A) (gx : Gl X name) (ha : PE X e (tD c fe))
    (hdb : (name == ("__debug__" : Str)) = false := by decide) (he : starEach [e] X.env = (false, eval e X.env) :: starEach [] X.env := by rfl) (hpl : (backTo pos' (starEach [] X.env)).any (·.1) = false := by rfl) :
    PS X (.Raise (some (.Call (.Name name p) [e] [] pos')) none pos) (tS c (sRaise name none fe px)) := by
  obtain ⟨B, newId, initId, bm, C, fI, fd, ps, BX, hm, T, iC, tI, F1, hb⟩ := Ck
  refine PS.to (ps_raise hc tk (pmk_by (makes_ofB BX T iC tI) (raises_own T.raised T.isType) T.kept F1 hr hb gx hm (pa_cons ha pa_nil he) hdb he hpl)) ?_
  rintro Z σ H ⟨F, ρ, xx, E, rel, q, n, r, b, t⟩
  refine ⟨F, ρ, xx, _, rel, q, fun y ρ1 v F1 H1 q1 e1 r1 a1 => ?_⟩
  refine ⟨by show 1 ≤ 1000; omega, fun a ha => ⟨a, v, rfl, upd_same, T, rfl, .inr ⟨upd_same, ?_⟩⟩⟩
  have eh : del (upd H1 a (exo a C none)) a = H1 := by
    funext b
    by_cases hb : b = a
    · rw [hb, del_same, ha]
    · rw [del_ne hb, upd_ne hb]
  rw [eh]
  exact ⟨F1, ρ1, xx, _, r1, q1, C, hm, rfl, rfl⟩
end
end DL
namespace DL
open PySem L2 PySem.Spec PyProof.Rows LamX
/-- what a name of such a lambda may be, in a def that knows the names NS -/
def KindD (sc : Scope) (NS : List Str) (x : Str) : NameKind → Prop
  | .cell => False
  | .local => x ∉ NS
  | .free => sc.names.lookup x = some .cell ∨ sc.names.lookup x = some .free
  | _ => True
/-- such a lambda -/
structure LamD (sc scope : Scope) (NS : List Str) : Prop where
  plain : scope.kind = .function ∧ scope.isCoroutine = false ∧ scope.isGenerator = false
  each : ∀ y ∈ scope.names, KindD sc NS y.1 y.2
section
variable {sc scope : Scope} {NS : List Str} (L : LamD sc scope NS) {y : Str × NameKind} (m : y ∈ scope.names)
include L m
theorem LamD.new (z : y.2 = .local) : y.1 ∉ NS := by
  have := L.each y m
  rw [z] at this
  exact this
theorem LamD.up (z : y.2 = .free) : sc.names.lookup y.1 = some .cell ∨ sc.names.lookup y.1 = some .free := by
  have := L.each y m
  rw [z] at this
  exact this
end
section
variable {X : Cx} {H : Hp} {s : Shared} {σ : L2.St} {pins : List (Addr × Obj)}
theorem LamD.has {scope : Scope} (L : LamD X.env.scope scope X.N) (ok : X.Ok) : ∀ y ∈ scope.names, y.2 = .free → ∃ c, X.env.cells.lookup y.1 = some c := fun y m z => ok.has _ (L.up m z)
end
end DL
namespace DL
open PySem L2 PySem.Spec PyProof.Rows
section
variable {X : Cx} {c : Cn} {el t0 i0 t1 i1 : Expr} {if0 if1 : List Expr} {scope : Scope} {own : List (PySem.Str × Nat)} {pos spos p : Pos}
/-- sorted of a set of two clauses -/
theorem dn_ss2 {I0 I1 : IM} {T0 T1 : TM} {B0 B1 : BM} {f : DM} {vs1 js0 js1 : List Nat} (hc : X.calm = true) (hN : X.N.Nodup) (ok : BlkOk X.N X.env.scope scope own)
    (hg : Gl X "sorted") (hm : X.mg "sorted" = none)
    (h0 : PI X t0 i0 (tI c I0)) (j0 : ∀ j ∈ js0, j ∈ own.map (·.2)) (j1 : ∀ j ∈ js1, j ∈ vs1) (v1 : ∀ j ∈ vs1, j ∈ own.map (·.2))
    (clause : ∀ (s : Shared) (H : Hp) (C : Addr) (cl : List (PySem.Str × Addr)) (fp : List Addr), (PG (X.blk s H scope (compEnvC scope cl C X.env) fp) t0 (tG c js0 T0) ∧ PTs (X.blk s H scope (compEnvC scope cl C X.env) fp) if0 (tT c B0)) ∧
      (PI (X.blk s H scope (compEnvC scope cl C X.env) fp) t1 i1 (tI c I1) ∧ PG (X.blk s H scope (compEnvC scope cl C X.env) fp) t1 (tG c js1 T1) ∧ PTs (X.blk s H scope (compEnvC scope cl C X.env) fp) if1 (tT c B1)) ∧ PE (X.blk s H scope (compEnvC scope cl C X.env) fp) el (tD c f))
    (hv : bootBuiltins "sorted" = some (.builtin "sorted") := by decide +kernel)
    (f0 : ∀ x, foldedSetIterable i0 X.env x = pure x := by intro _; rfl) (f1 : ∀ ce x, foldedSetIterable i1 ce x = pure x := by intro _ _; rfl)
    (st : starEach [.SetComp el [⟨t0, i0, if0, 0⟩, ⟨t1, i1, if1, 0⟩] scope spos] X.env = (false, eval (.SetComp el [⟨t0, i0, if0, 0⟩, ⟨t1, i1, if1, 0⟩] scope spos) X.env) :: starEach [] X.env := by rfl)
    (pl : (backTo pos (starEach [] X.env)).any (·.1) = false := by rfl) :
    PE X (.Call (.Name "sorted" p) [.SetComp el [⟨t0, i0, if0, 0⟩, ⟨t1, i1, if1, 0⟩] scope spos] [] pos) (tN c (dSS I0 T0 B0 (nLoop I1 T1 B1 (nAdd f) vs1) (own.map (·.2)))) := by
  have inner : ∀ (s : Shared) (H : Hp) (C : Addr) (cl : List (PySem.Str × Addr)) (fp : List Addr) (D : Addr) (N : Value → Shared → Prop), InOk (X.blk s H scope (compEnvC scope cl C X.env) fp) (nestW X.prog X.w X.A (compEnvC scope cl C X.env) N (.SetComp el [⟨t0, i0, if0, 0⟩, ⟨t1, i1, if1, 0⟩] scope spos) i1 0 (.ref D)) (tLp (tI c I1) (tG c js1 T1) (tT c B1) (tPutS X.w D (tD c f)) vs1) vs1 := fun s H C cl fp D N =>
    in_loop (B := X.blk s H scope (compEnvC scope cl C X.env) fp) (vs2 := []) (inn := fun N => addW X.prog X.w X.A (compEnvC scope cl C X.env) N el (.ref D)) rfl hc (fun _ z => nomatch z) (clause s H C cl fp).2.1.1 (clause s H C cl fp).2.1.2.1 (clause s H C cl fp).2.1.2.2
      (fun N => in_add (B := X.blk s H scope (compEnvC scope cl C X.env) fp) rfl (clause s H C cl fp).2.2) rfl (fun a b => start_any rfl a b) fun V it s' turn n h => loop_add (src := i1) (fun _ => rfl) V turn n h
  refine PE.to (pe_callB (cr_sortedSet hc) hg hm hv (pa_cons (pe_setN (vs2 := vs1) (t := tIn c X.w vs1 (nLoop I1 T1 B1 (nAdd f) vs1)) hc hN h0 ok v1 (fun s H C cl fp => (clause s H C cl fp).1.1) (fun s H C cl fp => (clause s H C cl fp).1.2) ?_ (fun _ _ _ => rfl) f0 f1) pa_nil st) (by decide) (by decide) st pl) (ss_use j0 v1 rfl rfl rfl)
  intro s H C cl fp D N pins s1 σ H1 Nx done I h k
  refine inner s H C cl fp D N pins s1 σ H1 Nx done I ?_ k
  have y := nLoop_use (w := X.w) (vs2 := []) (wi := tI c I1) (g := tG c js1 T1) (tt := tT c B1) j1 (fun _ q => nomatch q) rfl rfl rfl σ H1 Nx h
  exact lp_mono (fun σ H Nx => putS_use rfl σ H Nx) σ H1 Nx y
end
end DL
namespace DL
open PySem L2 PySem.Spec PyProof.Rows
end DL
namespace DL.Lz
open PySem PyProof.Rows L2 RZ
end DL.Lz
namespace DL
open PySem L2 PySem.Spec PyProof.Rows LamX
/-- a def by its body in data -/
theorem FnG.dataL {pr : Program} {wd : PySem.World} {K : PySem.W.Frag} {gl : Str → Option Value} {bas : Heap} {k n : Nat} {f : Addr} {x qual : Str} {st : Stmt} {fd : FuncData} {N ps : List Str} {R : Orc} {g : SM} (F : L2.Fun K x qual st f fd) (Sc : FnScope N ps (defScope st)) (hn : n = ps.length)
    (body : ∀ (cdv : Value), fd.code = cdv → ∀ (A : Around) (out : List PySem.Env) (sh : Shared) (H : Hp) (E : XK) (q : Option Addr) (F : Hp), A.guards = some [] → Room k (A.deeper (PyProof.Rows.envOfC qual (defScope st) sh.heap.objs.size f cdv)) →
      PSs (cxOf CX0 pr wd K gl bas N qual (defScope st) f cdv A out sh H E).nox (defBody st) (tS ⟨K, R, q, F, H⟩ g)) : FnG pr wd K gl bas (k + 1) f fd ps (spD K R n (raw g N.length)) := by
  refine FnG.ofL F Sc (fun vs H Q E ⟨q, F0, as, m, P, w, pa, hl, _⟩ => by rw [paired_len pa, hl, hn]) fun cdv hcd A out sh H vs Q E hg hr ⟨q, F0, as, m, P, w, pa, hl, ho, hq, hm, says, k0⟩ => ?_
  have fin : ∀ (d : D) (v : V) (ρ' : DL.Env) (σ' : L2.St) (F' H' : Hp), (match ρ'[0]? with
      | some (Sl.ora m') => P d m'
      | _ => as.head?.map isD ≠ some false ∧ P d 0) → Rel ⟨K, R, q, F0, H⟩ F' H' σ' ρ' [] → At K F' v d → Q v H' := by
    intro d v ρ' σ' F' H' p r a
    split at p
    · rename_i m' e
      obtain ⟨y, h1, _, h3⟩ := r.s.or 0 m' e
      exact k0 d m' v F' H' p r.w (fun z hz => by
        have hz' : q = some z := hz
        have h1' : q = some y := h1
        rw [hz'] at h1'
        cases h1'
        exact h3) a
    · obtain ⟨p1, p2⟩ := p
      have qn : q = none := hq.resolve_right fun z => p1 (by
        cases as with
        | nil => cases z
        | cons b t => cases z; rfl)
      exact k0 d 0 v F' H' p2 r.w (fun z hz => by rw [qn] at hz; cases hz) a
  refine ⟨_, body cdv hcd A out sh H E q F0 hg hr, F0, _, [], _, rel_start w pa ho hm, says, ?_, ?_, ?_, ?_⟩
  · exact fun ρ' σ' F' H' p e r => fin .none .non ρ' σ' F' H' p r .non
  · exact fun d v ρ' σ' F' H' p r a => fin d v ρ' σ' F' H' p r a
  · exact fun ρ' σ' F' H' p => p.elim
  · exact fun ρ' σ' F' H' p => p.elim
section
variable {X : Cx} {cn : Cn}
/-- the gate where the arguments of what is called are made by calls themselves -/
theorem de_gateS {T : List (Addr × Str)} {rs : List FR} {ca : Str → Addr} {x a y : Str} {g c P : Addr} {i k n : Nat} {S : SpX} {fa : AM} {bg : List Stmt} {sg : Scope} {code : Value} {Ng : List Str}
    {prm : Arguments} {e : Expr} {es : List Expr} {sc : Scope} {p p2 pos2 lpos pos : Pos} (hR : cn.R = srcOrcT T) (hK : X.K = cn.K) (C : CdX X.prog X.w X.K X.mg X.base cn.R k y n S) (G : GateOk X.K X.mg rs ca)
    (door : Handed X x a g code bg sg Ng) (thunk : Thunk X T c P prm (.Call (.Name y p2) (e :: es) [] pos2) sc) (gives : GivesTo X Ng x sg g code bg a (X.env.qual ++ "<lambda>") (TTo X.K X.mg rs)) (hr : Room (k + 2) X.A) (gd : X.A.guards = some [])
    (inner : ∀ (B : Around) (out : List PySem.Env) (s : Shared) (H : Hp) (E : XK) (f c' : Addr), B.guards = some [] → Room k (B.deeper (lamEnv X sc s.heap.objs.size f c')) → Gl (lamCx X B out s H E sc f c') y ∧ PA (lamCx X B out s H E sc f c') (e :: es) (tAr cn fa) ∧
      starEach (e :: es) (lamCx X B out s H E sc f c').env = (false, eval e (lamCx X B out s H E sc f c').env) :: starEach es (lamCx X B out s H E sc f c').env ∧ (backTo pos2 (starEach es (lamCx X B out s H E sc f c').env)).any (·.1) = false)
    (hdy : (y == ("__debug__" : Str)) = false := by decide) : PE X (.Call (.Name x p) [.Lambda prm (.Call (.Name y p2) (e :: es) [] pos2) sc lpos] [] pos) (tD cn (dGate i rs n S fa)) := by
  have mem := thunk.mem.1
  obtain ⟨f, fd, ps, fx, known, stays, binds⟩ := C
  refine PE.to (pe_lm (T := T) (k := k) (t := fun E => tCallS (spX X.K X.mg cn.R n S) (fun _ => E) (tAr cn fa)) door thunk gives hr gd fun B out s H E f' c' g2 r2 => ?_) fun _ _ _ h => gate_sem hR hK G mem h
  obtain ⟨glob, args, star, plain⟩ := inner B out s H E f' c' g2 r2
  have g3 : (lamCx X B out s H E sc f' c').A.guards = some [] := g2
  exact pe_callX (X := lamCx X B out s H E sc f' c') fx g3 r2 glob known stays binds (fun σ => passAt (W := fun cl dd _ HH => E cl dd HH) (takes_of rfl rfl rfl rfl) σ) args hdy star plain
end
end DL
namespace DL
open PySem L2 PySem.Spec PyProof.Rows
theorem nod_ints : ∀ ns : List Int, nodAll (ns.map PyData.int) = true
  | [] => rfl
  | a :: ns => Bool.and_eq_true_iff.mpr ⟨rfl, nod_ints ns⟩
theorem plain_ints : ∀ ns : List Int, PyData.plainAll (ns.map PyData.int) = true
  | [] => rfl
  | a :: ns => by
    rw [List.map_cons, PyData.plainAll, plain_ints ns]
    rfl
section
variable {X : Cx} {c : Cn}
def rCntI (K : PySem.W.Frag) : V → List V → Hp → VK → Prop := fun o vs H Q => ∃ (a : Addr) (ys : List V) (ns : List Int) (i : Int), o = .ref a ∧ vs = [.int i] ∧ SqL K H a ys ∧ DpAll K H ys (ns.map PyData.int) ∧ Q (.int (ns.countP fun y => decide (y = i) : Nat)) H
theorem mt_cntI (hu : X.A.units + 64 < cLine) : MtR X "list.count" (rCntI X.K) := by
  rintro pins s σ H x vs v us Q I rx rv ⟨a, ys, ns, i, rfl, rfl, sq, dp, q⟩
  cases rx
  obtain ⟨w, rfl, rw_⟩ := rv.one
  obtain ⟨its, r2, there, _⟩ := I.list sq
  obtain ⟨as, reads⟩ := Dp.readsAll I _ _ _ dp r2
  obtain ⟨bs, read⟩ := Dp.reads I (.int i) (.int i) w (.int i) rw_
  refine PySem.SeqAt.count_list_data there.isList reads read (plain_ints ns) rfl ?_ ?_
  · show X.A.units + 1 + min (PyData.depthAll (ns.map PyData.int)) 0 < cLine
    rw [Nat.min_zero]
    omega
  · have e : ((ns.map PyData.int).countP fun y => PyData.eqv y (.int i)) = ns.countP fun y => decide (y = i) := by
      rw [List.countP_map]
      refine List.countP_congr fun y _ => ?_
      show PyData.eqv (.int y) (.int i) = true ↔ _
      by_cases z : y = i
      · simp [PyData.eqv, z]
      · simp [PyData.eqv, z]
    rw [e]
    exact ⟨.int _, H, I.kept (t' := s.toks + 1) fun b o h => h, ⟨_, rfl⟩, q⟩
def dCnt (f g : DM) : DM := fun ρ P => f ρ fun d ρ1 => (∃ ns : List Int, d = .list (ns.map PyData.int)) ∧ g ρ1 fun e ρ2 => ∃ (ns : List Int) (i : Int), d = .list (ns.map PyData.int) ∧ e = .int i ∧ P (.int (ns.countP fun y => decide (y = i) : Nat)) ρ2
theorem de_cnt {o e : Expr} {apos pos : Pos} {f g : DM} (hK : X.K = c.K) (hu : X.A.units + 64 < cLine) (ho : PE X o (tD c f)) (he : PE X e (tD c g))
    (hs : starEach [e] X.env = (false, eval e X.env) :: starEach [] X.env := by rfl) (hbase : attributeBase o "count" X.env (eval o X.env) = eval o X.env := by rfl)
    (hfew : ((backTo pos (starEach [e] X.env)).all (fun x => !x.1) && (backToKw pos (keywordEach [] X.env)).all (fun x => x.1.isSome)
      && decide (([e] : List Expr).length + ([] : List Keyword).length
          + (if ([] : List Keyword).isEmpty then 0 else 1) < 30)) = true := by rfl)
    (hline : (apos.endLine == pos.line) = true := by rfl) (hplain : (backTo pos (starEach [] X.env)).any (·.1) = false := by rfl) :
    PE X (.Call (.Attribute o "count" apos) [e] [] pos) (tD c (dCnt f g)) := by
  refine PE.to (pe_bm PySem.F.plainAttrs_list PySem.F.slot_list_count PySem.F.type_list_count (mt_cntI hu) ho (pa_cons he pa_nil hs) hbase hfew hline hs hplain) ?_
  rintro σ H Q ⟨F, ρ, xx, P, rel, q, k⟩
  refine ⟨F, ρ, xx, _, rel, q, fun d ρ1 v F1 H1 ⟨⟨ns, hz⟩, q1⟩ e1 r1 a1 => ?_⟩
  subst hz
  cases a1 with
  | @lst a ys _ s1 t1 =>
    refine ⟨.inl ⟨rfl, _, by rw [hK]; exact r1.w.fh.sl s1⟩, F1, ρ1, xx, _, r1, q1, fun l ρ2 u F2 H2 ⟨ns2, i, ez, hl, q2⟩ e2 r2 a2 => ?_⟩
    rw [PyData.list.inj ez] at t1
    subst hl
    cases a2
    refine ⟨a, ys, ns2, i, rfl, rfl, ?_, ?_, k _ ρ2 _ F2 H2 q2 (e1.trans e2) r2 (.int _)⟩
    · rw [hK]
      exact r2.w.fh.sl (e2.sl s1)
    · rw [hK]
      exact atAll_dp ((t1.mono e2).mono r2.w.fh) (nod_ints ns2)
end
end DL
namespace DL.Lz
open PySem PyProof.Rows L2 RZ
/-- two lists side by side, the pairs as they are -/
def ItlN (K : PySem.W.Frag) (a b : Addr) : It :=
  { Itz K a b with stop := fun n H => ∃ xs ys : List V, SqL K H a xs ∧ SqL K H b ys ∧ (xs.length = n ∨ ys.length = n) ∧ n ≤ xs.length ∧ n ≤ ys.length }
/-- how far both are gone -/
structure NlGone (z t u p q a b : Addr) (n : Nat) (h : Heap) : Prop where
  zip : Zn z t u h
  its : IsPair h t (.ref p) (.ref q)
  two : ∃ x y, IsPair h u x y
  fst : h.IsListIter p a n
  snd : h.IsListIter q b n
section
variable {z t u p q a b : Addr} {n : Nat} {h h' : Heap}
theorem NlGone.there (m : NlGone z t u p q a b n h) {c : Addr} (hc : c ∈ [z, t, u, p, q]) : ∃ o, h.get? c = some o ∧ ∀ v, o.data ≠ .cell v := by
  obtain ⟨⟨v1, f1, k1, _⟩, k2, ⟨x, y, k3⟩, ⟨o4, e4, _, f4⟩, ⟨o5, e5, _, f5⟩⟩ := m
  refine five (P := fun c => ∃ o, h.get? c = some o ∧ ∀ v, o.data ≠ .cell v) hc ⟨_, k1, nofun⟩ ⟨_, k2, nofun⟩ ⟨_, k3, nofun⟩ ⟨o4, e4, fun v e => ?_⟩ ⟨o5, e5, fun v e => ?_⟩
  · rw [f4] at e
    cases e
  · rw [f5] at e
    cases e
theorem NlGone.below (m : NlGone z t u p q a b n h) {c : Addr} (hc : c ∈ [z, t, u, p, q]) : c < h.objs.size := Heap.lt_size (m.there hc).choose_spec.1
theorem NlGone.on (m : NlGone z t u p q a b n h) (k : ∀ c, c ∈ [z, t, u, p, q] → ∀ o, h.get? c = some o → h'.get? c = some o) : NlGone z t u p q a b n h' := by
  obtain ⟨⟨v1, f1, k1, hv⟩, k2, ⟨x, y, k3⟩, k4, k5⟩ := m
  have e1 := k z (by simp) _ k1
  have e2 := k t (by simp) _ k2
  have e3 := k u (by simp) _ k3
  exact ⟨⟨v1, f1, e1, hv⟩, e2, ⟨x, y, e3⟩, k4.at (k p (by simp)), k5.at (k q (by simp))⟩
end
theorem turn_nl {P : Program} {w : PySem.World} {K : PySem.W.Frag} {x : Str} {tpos : Pos} {a b z t u p q : Addr} (S : ZipSep2 z t u p q [p, a] [q, b]) (nap : a ≠ p) (nbq : b ≠ q) :
    Turn P w K (.Name x tpos) (ItlN K a b) [z, t, u, p, q] z (NlGone z t u p q a b) where
  mem := List.mem_cons_self
  obj := fun _ _ m _ hc => m.there hc
  keep := fun _ _ _ m k => m.on k
  self := fun _ _ _ _ _ m h => zn_self m.zip h
  item := by
    rintro X rfl rfl rfl hc n pins s σ H E I away m ⟨xs, ys, x, y, sx, sy, gx, gy⟩
    have hh := I.ok.hd hc
    have low : ∀ {c}, c ∈ [z, t, u, p, q] → c < s.heap.objs.size := m.below
    obtain ⟨mz, mt, ⟨x0, y0, mu⟩, mp, mq⟩ := m
    obtain ⟨us, rx, tx, _⟩ := I.list sx
    obtain ⟨vs, ry, ty, _⟩ := I.list sy
    obtain ⟨ux, gu, ru⟩ := rx.get gx
    obtain ⟨uy, gv, rv⟩ := ry.get gy
    refine zn_item S (Draws.list (A := X.A.in1) (show X.A.in1.handled = none from hh) p a nap us.toArray)
      (Draws.list (A := X.A.in1) (show X.A.in1.handled = none from hh) q b nbq vs.toArray) mz mt mu ⟨mp, tx.isList⟩ ⟨mq, ty.isList⟩ (i := n) ?_ ?_
      fun w1 w2 h' tk f1 f2 mz' mu' mp' mq' hT hk => ?_
    · simpa using (List.getElem?_eq_some_iff.mp gu).1
    · simpa using (List.getElem?_eq_some_iff.mp gv).1
    have e1 : us[n]? = some w1 := by simpa using f1
    have e2 : vs[n]? = some w2 := by simpa using f2
    cases Option.some.inj (gu.symm.trans e1)
    cases Option.some.inj (gv.symm.trans e2)
    have far : ∀ c o, c ∉ [z, t, u, p, q] → s.heap.get? c = some o → h'.get? c = some o := fun c o hb e => by
      simp only [List.mem_cons, List.not_mem_nil, or_false, not_or] at hb
      exact hk c o hb.1 hb.2.2.1 hb.2.2.2.1 hb.2.2.2.2 e
    have I1 : Inv X pins σ (upd H s.heap.objs.size (.tup [x, y])) { s with heap := h', toks := tk } :=
      I.turnedNew (t' := tk) (ch := [z, t, u, p, q]) far away (Nat.le_refl _) ⟨by show 2 ≤ sizeLine; decide, [ux, uy], .cons ru (.cons rv .nil), ⟨_, hT, rfl, _, rfl⟩⟩
    refine ⟨_, rfl, wpAny_pure ⟨.ref s.heap.objs.size, _, I1, rfl, ⟨_, x, y, rfl, I.hok.fresh (Nat.le_refl _), rfl, fun l hl => (I.list_inj hl sx) ▸ gx, fun l hl => (I.list_inj hl sy) ▸ gy⟩, ⟨mz', ?_, mu', mp'.1, mq'.1⟩, fun c hcm => ?_⟩⟩
    · exact hk _ _ S.TIz S.TITO S.TIi1 S.TIi2 mt
    · rw [upd_ne (Nat.ne_of_lt (low hcm))]
      exact (away c hcm).1
  done := by
    rintro X rfl rfl rfl hc n pins s σ H E I away m ⟨xs, ys, sx, sy, ends, lx, ly⟩
    have hh := I.ok.hd hc
    obtain ⟨mz, mt, ⟨x0, y0, mu⟩, mp, mq⟩ := m
    obtain ⟨us, rx, tx, _⟩ := I.list sx
    obtain ⟨vs, ry, ty, _⟩ := I.list sy
    have nx : us.toArray.size = xs.length := by rw [List.size_toArray, rx.length]
    have ny : vs.toArray.size = ys.length := by rw [List.size_toArray, ry.length]
    refine zn_end S (Draws.list (A := X.A.in1) (show X.A.in1.handled = none from hh) p a nap us.toArray)
      (Draws.list (A := X.A.in1) (show X.A.in1.handled = none from hh) q b nbq vs.toArray) mz mt mu ⟨mp, tx.isList⟩ ⟨mq, ty.isList⟩ (i := n) (by omega) (by omega) (by omega) fun h' tk hk => ⟨rfl, I.turnedL (t' := tk) (ch := [z, t, u, p, q]) (fun c o hb e => ?_) away⟩
    simp only [List.mem_cons, List.not_mem_nil, or_false, not_or] at hb
    exact hk c o hb.1 hb.2.2.1 hb.2.2.2.1 hb.2.2.2.2 e
/-- the two things that are gone through: a list each -/
def iNl (K : PySem.W.Frag) (ta : TA) : TI := fun σ H R => ta σ H fun us H1 => match us with
  | [.ref a, .ref b] => (∃ xs, SqL K H1 a xs) ∧ (∃ ys, SqL K H1 b ys) ∧ R (ItlN K a b) H1
  | _ => False
theorem pi_nl {X : Cx} {e e2 : Expr} {ta : TA} {x : Str} {pz pos tpos : Pos} (hg : Gl X "zip") (hm : X.mg "zip" = none) (ha : PA X [e, e2] ta)
    (hs : starEach [e, e2] X.env = (false, eval e X.env) :: starEach [e2] X.env := by rfl)
    (hpl : (backTo pos (starEach [e2] X.env)).any (·.1) = false := by rfl) :
    PI X (.Name x tpos) (.Call (.Name "zip" pz) [e, e2] [] pos) (iNl X.K ta) := by
  refine ⟨fun pins s σ H R I h => Call_ (ld_blt I hg hm PyProof.Rows.boot_zip (PyProof.Rows.callWith_type1 (thn (ha.run pos pins s σ H _ I h) ?_) hs hpl))⟩
  rintro us s' ⟨vs, H', I', rs, q⟩
  split at q
  case h_2 => exact q.elim
  rename_i a b
  obtain ⟨⟨xs, sx⟩, ⟨ys, sy⟩, k⟩ := q
  obtain _ | ⟨r, _ | ⟨r', _ | _⟩⟩ := rs
  cases r
  cases r'
  obtain ⟨its, _, tx, _⟩ := I'.list sx
  obtain ⟨its', _, ty, _⟩ := I'.list sy
  have la := tx.lt
  have lb := ty.lt
  refine call_zip_2 tx.isList ty.isList fun h' hz hTI hTO h1 h2 _ old => wpAny_pyIter_zip hz ?_
  have one {c d : Addr} (hd : d < s'.heap.objs.size) : c ∈ [d] → c < s'.heap.objs.size := fun hc => by
    rw [List.mem_singleton.mp hc]
    exact hd
  have S := zip_sep2 (N := s'.heap.objs.size) (fun _ => one la) (fun _ => one lb)
  have new : ∀ {n}, FpOk X pins H' (s'.heap.objs.size + n) := I'.fpOk (Nat.le_add_right _ _) (I'.hok.fresh (Nat.le_add_right _ _))
  exact ⟨_, [s'.heap.objs.size + 4, s'.heap.objs.size + 2, s'.heap.objs.size + 3, s'.heap.objs.size, s'.heap.objs.size + 1], _, _, H', rfl, I'.kept (t' := s'.toks) old,
    turn_nl S (Nat.ne_of_lt la) (Nat.ne_of_lt (Nat.lt_succ_of_lt lb)), ⟨⟨_, _, hz, .inl rfl⟩, hTI, ⟨_, _, hTO⟩, h1, h2⟩, fun _ hc => five (P := FpOk X pins H') hc new new new (new (n := 0)) new, k⟩
section
variable {X : Cx} {c : Cn}
theorem itOk_nl {K : PySem.W.Frag} (hK : K = c.K) {a b : Addr} {F : Hp} {ds es : List D} {xs ys : List V} (s : SqL c.K F a xs) (t : AtAll c.K F xs ds) (s2 : SqL c.K F b ys) (t2 : AtAll c.K F ys es) : ItOk c (ItlN K a b) (zipD ds es) F := by
  subst hK
  intro i F' H σ ρ xx e r
  have k1 := r.w.fh.sl (e.sl s)
  have k2 := r.w.fh.sl (e.sl s2)
  have l1 := t.length
  have l2 := t2.length
  refine ⟨fun d hd => ?_, fun hl => ⟨xs, ys, k1, k2, ?_⟩⟩
  · unfold zipD at hd
    rw [List.getElem?_zipWith] at hd
    cases h1 : ds[i]? with
    | none =>
      rw [h1] at hd
      cases hd
    | some d1 => cases h2 : es[i]? with
      | none =>
        rw [h1, h2] at hd
        cases hd
      | some d2 =>
        rw [h1, h2] at hd
        cases hd
        obtain ⟨v, hv, av⟩ := t.get h1
        obtain ⟨u, hu, au⟩ := t2.get h2
        refine ⟨⟨xs, ys, v, u, k1, k2, hv, hu⟩, ?_⟩
        rintro x H' ⟨T, y, z, rfl, hT, rfl, hy, hz⟩
        have q1 := hy xs k1
        have q2 := hz ys k2
        rw [hv] at q1
        rw [hu] at q2
        cases q1
        cases q2
        exact pair_new r hT (av.mono e) (au.mono e)
  · unfold zipD at hl
    rw [List.length_zipWith] at hl
    omega
def iZipL (f : LM) : IM := fun ρ P => f ρ fun ds ρ1 => match ds with
  | [.list xs, .list ys] => P (zipD xs ys) ρ1
  | _ => False
theorem di_zipL {e e2 : Expr} {f : LM} {x : Str} {p pos tpos : Pos} (hK : X.K = c.K) (hg : Gl X "zip") (hm : X.mg "zip" = none) (ha : PA X [e, e2] (tL c f)) (hs : starEach [e, e2] X.env = (false, eval e X.env) :: starEach [e2] X.env := by rfl) (hpl : (backTo pos (starEach [e2] X.env)).any (·.1) = false := by rfl) :
    PI X (.Name x tpos) (.Call (.Name "zip" p) [e, e2] [] pos) (tI c (iZipL f)) := by
  refine PI.to (pi_nl hg hm ha hs hpl) ?_
  rintro σ H R ⟨F, ρ, xx, P, rel, q, k⟩
  refine ⟨F, ρ, xx, _, rel, q, fun ds ρ1 vs F1 H1 q1 e1 r1 a1 => ?_⟩
  split at q1
  · cases a1 with
    | cons a t => cases t with
      | cons b t =>
        cases t
        cases a with
        | lst s1 t1 => cases b with
          | lst s2 t2 => exact ⟨⟨_, by rw [hK]; exact r1.w.fh.sl s1⟩, ⟨_, by rw [hK]; exact r1.w.fh.sl s2⟩, k _ ρ1 _ F1 H1 q1 e1 r1 (itOk_nl hK s1 t1 s2 t2)⟩
  · exact q1.elim
end
end DL.Lz
namespace DL
open PySem L2
end DL
namespace DL
open PySem L2 PySem.Spec PyProof.Rows
end DL
namespace Q63
open PySem L2 DL
/-- the law's numbers: some integer below the total -/
def s_next : SpD := fun as m P => ∃ n : Int, as = [.ora, .d (.int n)] ∧ 0 < n ∧ n < 1073741824 ∧ m < 1048576 ∧ ∀ i : Int, 0 ≤ i → i < n → P (.int i) (m + 1)
def gR1 : List FR := [⟨"BadWords", "words", some "number"⟩, ⟨"BadSpoken", "spoken", some "number"⟩, ⟨"BadRules", "rules", some "number"⟩, ⟨"BadFile", "file", some "number"⟩, ⟨"BadCuts", "cuts", some "number"⟩, ⟨"BadChain", "chain", some "number"⟩]
def gR2 : List FR := [⟨"BadPaper", "paper", some "part"⟩, ⟨"BadText", "text", some "line"⟩, ⟨"OutOfPlace", "place", none⟩, ⟨"TooGreat", "great", some "most"⟩, ⟨"Nothing", "nothing", none⟩]
def gRs : List FR := [⟨"BadWords", "words", some "number"⟩, ⟨"BadSpoken", "spoken", some "number"⟩, ⟨"BadRules", "rules", some "number"⟩, ⟨"BadFile", "file", some "number"⟩, ⟨"BadCuts", "cuts", some "number"⟩, ⟨"BadChain", "chain", some "number"⟩, ⟨"BadPaper", "paper", some "part"⟩, ⟨"BadText", "text", some "line"⟩, ⟨"TooGreat", "great", some "most"⟩, ⟨"OutOfPlace", "place", none⟩, ⟨"Nothing", "nothing", none⟩]
/-- is_integer(thing), slots 0 thing -/
def g_is_integer : SM := sRet (dAnd (dIsi "int" (hS 0)) (dNot (dIsi "bool" (hS 0))))
def r_is_integer : SpD := raw g_is_integer 1
/-- is_within(thing, least, most), slots 0 thing 1 least 2 most -/
def g_is_within : SM := sRet (dAnd (dCall 1 r_is_integer (aCons (dV 0) (aNil))) (dChain gLe gLe (hS 1) (hS 0) (hS 2)))
def r_is_within : SpD := raw g_is_within 3
/-- is_tuple(thing, least, most), slots 0 thing 1 least 2 most -/
def g_is_tuple : SM := sRet (dAnd (dIsi "tuple" (hS 0)) (dChain gLe gLe (hS 1) (hV (dCB gLen (DL.gCons (hS 0) (DL.gNil)))) (hS 2)))
def r_is_tuple : SpD := raw g_is_tuple 3
/-- is_stretch(thing), slots 0 thing -/
def g_is_stretch : SM := sSeq (sIf (bOr (bNot (bTruth (hV (dCall 3 r_is_tuple (aCons (dV 0) (aCons (dC (.int 2)) (aCons (dC (.int 2)) (aNil)))))))) (bNot (bTruth (hV (dCall 3 r_is_within (aCons (d2 gIx (hS 0) (hV (dC (.int 0)))) (aCons (dC (.int 0)) (aCons (dC (.int 1000000000000)) (aNil))))))))) (sRet (dC (.bool false))) (sNo)) (sRet (dCall 3 r_is_within (aCons (d2 gIx (hS 0) (hV (dC (.int 1)))) (aCons (d2 gAdd (hV (d2 gIx (hS 0) (hV (dC (.int 0))))) (hV (dC (.int 1)))) (aCons (dC (.int 1000000000000)) (aNil))))))
def r_is_stretch : SpD := raw g_is_stretch 1
/-- need_cuts(thing), slots 0 thing 1 total 2 number 3 stretch -/
def g_need_cuts : SM := sSeq (sIf (bNot (bTruth (hV (dCall 3 r_is_tuple (aCons (dV 0) (aCons (dC (.int 0)) (aCons (dC (.int 60)) (aNil)))))))) (sNever) (sNo)) (sSeq (sSet 1 (dC (.int 0))) (sSeq (sFor (iEn (lCons (dV 0) (lNil))) (gTupT 2 (gConsT (gN 2) (gConsT (gN 3) (gNoT)))) (sSeq (sIf (bNot (bTruth (hV (dCall 1 r_is_stretch (aCons (dV 3) (aNil)))))) (sNever) (sNo)) (sSeq (sAug 1 gIadd (hV (d2 DL.gSub (hV (d2 gIx (hS 3) (hV (dC (.int 1))))) (hV (d2 gIx (hS 3) (hV (dC (.int 0)))))))) (sIf (bD (d2 gGt (hS 1) (hV (dC (.int 1000000000000))))) (sNever) (sNo))))) (sRet (dV 0))))
def r_need_cuts : SpD := raw g_need_cuts 4
def gx_need_cuts (px : Exn → DL.Env → Prop) : SM := sSeq (sIf (bNot (bTruth (hV (dCall 3 r_is_tuple (aCons (dV 0) (aCons (dC (.int 0)) (aCons (dC (.int 60)) (aNil)))))))) (sRaise "BadCuts" (some "number") (dC .none) px) (sNo)) (sSeq (sSet 1 (dC (.int 0))) (sSeq (sFor (iEn (lCons (dV 0) (lNil))) (gTupT 2 (gConsT (gN 2) (gConsT (gN 3) (gNoT)))) (sSeq (sIf (bNot (bTruth (hV (dCall 1 r_is_stretch (aCons (dV 3) (aNil)))))) (sRaise "BadCuts" (some "number") (dV 2) px) (sNo)) (sSeq (sAug 1 gIadd (hV (d2 DL.gSub (hV (d2 gIx (hS 3) (hV (dC (.int 1))))) (hV (d2 gIx (hS 3) (hV (dC (.int 0)))))))) (sIf (bD (d2 gGt (hS 1) (hV (dC (.int 1000000000000))))) (sRaise "BadCuts" (some "number") (dV 2) px) (sNo))))) (sRet (dV 0))))
def rx_need_cuts : SpX := rawX gx_need_cuts 4
/-- length_of(cuts), slots 0 cuts 1 start 2 end -/
def g_length_of : SM := sRet (dCB gSum2 (DL.gCons (hV (dLc (iSeq (dV 0)) (gTupT 2 (gConsT (gN 1) (gConsT (gN 2) (gNoT)))) (bYes) (d2 DL.gSub (hS 2) (hS 1)) [1, 2])) (DL.gNil)))
def r_length_of : SpD := raw g_length_of 3
/-- length(cuts), slots 0 cuts -/
def g_length : SM := sSeq (sExpr (dCall 1 r_need_cuts (aCons (dV 0) (aNil)))) (sRet (dCall 1 r_length_of (aCons (dV 0) (aNil))))
def r_length : SpD := raw g_length 1
/-- _place_of(cuts, frame), slots 0 cuts 1 frame 2 number 3 start 4 end -/
def g__place_of : SM := sSeq (sSet 2 (dC (.int 0))) (sSeq (sAsg (d2 gIx (hS 0) (hV (dC (.int 0)))) (gTupT 2 (gConsT (gN 3) (gConsT (gN 4) (gNoT))))) (sSeq (sWhile (bD (d2 gGe (hS 1) (hV (d2 DL.gSub (hS 4) (hS 3))))) (sSeq (sAug 1 gIsub (hV (d2 DL.gSub (hS 4) (hS 3)))) (sSeq (sAug 2 gIadd (hV (dC (.int 1)))) (sAsg (d2 gIx (hS 0) (hS 2)) (gTupT 2 (gConsT (gN 3) (gConsT (gN 4) (gNoT)))))))) (sRet (dTup (lCons (dV 2) (lCons (d2 gAdd (hS 3) (hS 1)) (lNil)))))))
def r__place_of : SpD := raw g__place_of 5
/-- source(cuts, frame), slots 0 cuts 1 frame 2 _ 3 old -/
def g_source : SM := sSeq (sExpr (dCall 1 r_need_cuts (aCons (dV 0) (aNil)))) (sSeq (sIf (bNot (bTruth (hV (dCall 3 r_is_within (aCons (dV 1) (aCons (dC (.int 0)) (aCons (dC (.int 1000000000000)) (aNil)))))))) (sNever) (sNo)) (sSeq (sIf (bD (d2 gGe (hS 1) (hV (dCall 1 r_length_of (aCons (dV 0) (aNil)))))) (sNever) (sNo)) (sSeq (sAsg (dCall 2 r__place_of (aCons (dV 0) (aCons (dV 1) (aNil)))) (gTupT 2 (gConsT (gN 2) (gConsT (gN 3) (gNoT))))) (sRet (dV 3)))))
def r_source : SpD := raw g_source 4
def gx_source (px : Exn → DL.Env → Prop) : SM := sSeq (sExpr (dCallX 1 rx_need_cuts px (aCons (dV 0) (aNil)))) (sSeq (sIf (bNot (bTruth (hV (dCall 3 r_is_within (aCons (dV 1) (aCons (dC (.int 0)) (aCons (dC (.int 1000000000000)) (aNil)))))))) (sRaise "OutOfPlace" none (dC (.str ("no frame" : Str))) px) (sNo)) (sSeq (sIf (bD (d2 gGe (hS 1) (hV (dCall 1 r_length_of (aCons (dV 0) (aNil)))))) (sRaise "Nothing" none (dC (.str ("no new frame" : Str))) px) (sNo)) (sSeq (sAsg (dCall 2 r__place_of (aCons (dV 0) (aCons (dV 1) (aNil)))) (gTupT 2 (gConsT (gN 2) (gConsT (gN 3) (gNoT))))) (sRet (dV 3)))))
def rx_source : SpX := rawX gx_source 4
/-- _joined(stretches), slots 0 stretches 1 found 2 start 3 end -/
def g__joined : SM := sSeq (sSetN 1 (dLst (lNil))) (sSeq (sFor (iSeq (dV 0)) (gTupT 2 (gConsT (gN 2) (gConsT (gN 3) (gNoT)))) (sIf (bAnd (bTruth (hS 1)) (bD (d2 gEq (hV (d2 gIx (hV (d2 gIx (hS 1) (hV (dNeg (dC (.int 1)))))) (hV (dC (.int 1))))) (hS 2)))) (sPut 1 (dNeg (dC (.int 1))) (dTup (lCons (d2 gIx (hV (d2 gIx (hS 1) (hV (dNeg (dC (.int 1)))))) (hV (dC (.int 0)))) (lCons (dV 3) (lNil))))) (sApp 1 (dTup (lCons (dV 2) (lCons (dV 3) (lNil))))))) (sRet (dCB gTuple (DL.gCons (hS 1) (DL.gNil)))))
def r__joined : SpD := raw g__joined 4
/-- plain(cuts), slots 0 cuts -/
def g_plain : SM := sSeq (sExpr (dCall 1 r_need_cuts (aCons (dV 0) (aNil)))) (sRet (dCall 1 r__joined (aCons (dV 0) (aNil))))
def r_plain : SpD := raw g_plain 1
/-- alike_cuts(one, other), slots 0 one 1 other -/
def g_alike_cuts : SM := sSeq (sExpr (dCall 1 r_need_cuts (aCons (dV 0) (aNil)))) (sSeq (sExpr (dCall 1 r_need_cuts (aCons (dV 1) (aNil)))) (sRet (d2 gEq (hV (dCall 1 r__joined (aCons (dV 0) (aNil)))) (hV (dCall 1 r__joined (aCons (dV 1) (aNil)))))))
def r_alike_cuts : SpD := raw g_alike_cuts 2
/-- _bounds_of(cuts), slots 0 cuts 1 stretch 2 frame -/
def g__bounds_of : SM := sRet (dSS (iSeq (dV 0)) (gN 1) bYes (nLoop (iSeq (dV 1)) (gN 2) bYes (nAdd (dV 2)) [2]) [1, 2])
def r__bounds_of : SpD := raw g__bounds_of 3
/-- _many_over(cuts, frame), slots 0 cuts 1 frame 2 start 3 end -/
def g__many_over : SM := sRet (dCB gLen (DL.gCons (hV (dLc (iSeq (dV 0)) (gTupT 2 (gConsT (gN 2) (gConsT (gN 3) (gNoT)))) (bD (dChain gLe gLt (hS 2) (hS 1) (hS 3))) (dV 2) [2, 3])) (DL.gNil)))
def r__many_over : SpD := raw g__many_over 4
/-- twice(cuts), slots 0 cuts 1 bounds 2 pair -/
def g_twice : SM := sSeq (sExpr (dCall 1 r_need_cuts (aCons (dV 0) (aNil)))) (sSeq (sSet 1 (dCall 1 r__bounds_of (aCons (dV 0) (aNil)))) (sRet (dCall 1 r__joined (aCons (dLc (Lz.iZipL (lCons (dV 1) (lCons (dSl (hS 1) (oI (dC (.int 1))) (oNo)) (lNil)))) (gN 2) (bD (d2 gGt (hV (dCall 2 r__many_over (aCons (dV 0) (aCons (d2 gIx (hS 2) (hV (dC (.int 0)))) (aNil))))) (hV (dC (.int 1))))) (dV 2) [2]) (aNil)))))
def r_twice : SpD := raw g_twice 3
/-- _not_shown(cuts, start, end), slots 0 cuts 1 start 2 end 3 bounds 4 pairs 5 pair 6 frame -/
def g__not_shown : SM := sSeq (sSet 3 (d2 gAdd (hV (d2 gAdd (hV (dLst (lCons (dV 1) (lNil)))) (hV (dLc (iSeq (dCall 1 r__bounds_of (aCons (dV 0) (aNil)))) (gN 6) (bD (dChain gLt gLt (hS 1) (hS 6) (hS 2))) (dV 6) [6])))) (hV (dLst (lCons (dV 2) (lNil)))))) (sSeq (sSet 4 (Lz.dLstZp (lCons (dV 3) (lCons (dSl (hS 3) (oI (dC (.int 1))) (oNo)) (lNil))))) (sRet (dLc (iSeq (dV 4)) (gN 5) (bAnd (bD (d2 gLt (hV (d2 gIx (hS 5) (hV (dC (.int 0))))) (hV (d2 gIx (hS 5) (hV (dC (.int 1))))))) (bD (d2 gEq (hV (dCall 2 r__many_over (aCons (dV 0) (aCons (d2 gIx (hS 5) (hV (dC (.int 0)))) (aNil))))) (hV (dC (.int 0)))))) (dV 5) [5])))
def r__not_shown : SpD := raw g__not_shown 7
/-- lost(cuts, end), slots 0 cuts 1 end -/
def g_lost : SM := sSeq (sExpr (dCall 1 r_need_cuts (aCons (dV 0) (aNil)))) (sSeq (sIf (bNot (bTruth (hV (dCall 3 r_is_within (aCons (dV 1) (aCons (dC (.int 0)) (aCons (dC (.int 1000000000000)) (aNil)))))))) (sNever) (sNo)) (sRet (dCB gTuple (DL.gCons (hV (dCall 3 r__not_shown (aCons (dV 0) (aCons (dC (.int 0)) (aCons (dV 1) (aNil)))))) (DL.gNil)))))
def r_lost : SpD := raw g_lost 2
/-- _law_of(_law_m, _law_some), slots 0 _law_m 1 _law_some -/
def g__law_of : SM := sRet (d2 gIx (hS 1) (hV (dCallO 0 2 s_next (aOra 0 (aCons (dCB gLen (DL.gCons (hS 1) (DL.gNil))) (aNil))))))
def r__law_of : SpD := raw g__law_of 2
/-- _law_cuts(_law_m, _law_most, _law_far), slots 0 _law_m 1 _law_most 2 _law_far 3 _law_found 4 _law_k 5 _law_here -/
def g__law_cuts : SM := sSeq (sSetN 3 (dLst (lNil))) (sSeq (sFor (iRange1 (lCons (dCallO 0 2 s_next (aOra 0 (aCons (d2 gAdd (hS 1) (hV (dC (.int 1)))) (aNil)))) (lNil))) (gN 4) (sSeq (sSet 5 (dCallO 0 2 s_next (aOra 0 (aCons (dV 2) (aNil))))) (sSeq (sIf (bAnd (bD (d2 gNe (hS 3) (hV (dLst (lNil))))) (bD (d2 gEq (hV (dCallO 0 2 s_next (aOra 0 (aCons (dC (.int 4)) (aNil))))) (hV (dC (.int 0)))))) (sSet 5 (d2 gIx (hV (d2 gIx (hS 3) (hV (dNeg (dC (.int 1)))))) (hV (dC (.int 1))))) (sNo)) (sApp 3 (dTup (lCons (dV 5) (lCons (d2 gAdd (hV (d2 gAdd (hS 5) (hV (dC (.int 1))))) (hV (dCallO 0 2 s_next (aOra 0 (aCons (dCallO 0 2 r__law_of (aOra 0 (aCons (dLst (lCons (dC (.int 1)) (lCons (dC (.int 3)) (lCons (dC (.int 8)) (lNil))))) (aNil)))) (aNil)))))) (lNil)))))))) (sRet (dCB gTuple (DL.gCons (hS 3) (DL.gNil)))))
def r__law_cuts : SpD := raw g__law_cuts 6
/-- _law_sources(_law_cuts_here), slots 0 _law_cuts_here 1 _law_found 2 _law_here 3 _law_there -/
def g__law_sources : SM := sSeq (sSet 1 (dLst (lNil))) (sSeq (sFor (iSeq (dV 0)) (gTupT 2 (gConsT (gN 2) (gConsT (gN 3) (gNoT)))) (sSet 1 (d2 gAdd (hS 1) (hV (dLstRg2 (dV 2) (dV 3)))))) (sRet (dV 1)))
def r__law_sources : SpD := raw g__law_sources 4
/-- _law_stretches(_law_frames), slots 0 _law_frames 1 _law_found 2 _law_frame -/
def g__law_stretches : SM := sSeq (sSetN 1 (dLst (lNil))) (sSeq (sFor (iSeq (dV 0)) (gN 2) (sIf (bAnd (bD (d2 gNe (hS 1) (hV (dLst (lNil))))) (bD (d2 gEq (hV (d2 gIx (hV (d2 gIx (hS 1) (hV (dNeg (dC (.int 1)))))) (hV (dC (.int 1))))) (hS 2)))) (sPut 1 (dNeg (dC (.int 1))) (dTup (lCons (d2 gIx (hV (d2 gIx (hS 1) (hV (dNeg (dC (.int 1)))))) (hV (dC (.int 0)))) (lCons (d2 gAdd (hS 2) (hV (dC (.int 1)))) (lNil))))) (sApp 1 (dTup (lCons (dV 2) (lCons (d2 gAdd (hS 2) (hV (dC (.int 1)))) (lNil))))))) (sRet (dCB gTuple (DL.gCons (hS 1) (DL.gNil)))))
def r__law_stretches : SpD := raw g__law_stretches 3
/-- _law_right(_law_m, _law_one, _law_other), slots 0 _law_m 1 _law_one 2 _law_other 3 _law_told 4 _law_last 5 _law_due 6 _law_more 7 _law_frames 8 _law_far 9 _law_k -/
def g__law_right : SM := sSeq (sAsg (dTup (lCons (dCall 1 r__law_sources (aCons (dV 1) (aNil))) (lCons (dCall 1 r__law_sources (aCons (dV 2) (aNil))) (lNil)))) (gTupT 2 (gConsT (gN 7) (gConsT (gN 8) (gNoT))))) (sSeq (sSet 3 (dLst (lCons (dCall 1 r_length (aCons (dV 1) (aNil))) (lCons (dCall 1 r_plain (aCons (dV 1) (aNil))) (lCons (dLc (iRange1 (lCons (dCB gLen (DL.gCons (hS 7) (DL.gNil))) (lNil))) (gN 9) (bYes) (dCall 2 r_source (aCons (dV 1) (aCons (dV 9) (aNil)))) [9]) (lCons (dCall 2 r_alike_cuts (aCons (dV 1) (aCons (dV 2) (aNil)))) (lNil))))))) (sSeq (sIf (bD (d2 gNeS (hV (dCB gReprA (DL.gCons (hS 3) (DL.gNil)))) (hV (dCB gReprA (DL.gCons (hV (dLst (lCons (dCB gLen (DL.gCons (hS 7) (DL.gNil))) (lCons (dCall 1 r__law_stretches (aCons (dV 7) (aNil))) (lCons (dV 7) (lCons (d2 gEq (hS 7) (hS 8)) (lNil))))))) (DL.gNil)))))) (sRet (dC (.bool false))) (sNo)) (sSeq (sIf (bD (d2 gNe (hV (dGate 0 gRs 2 rx_source (aCons (dV 1) (aCons (d2 gAdd (hV (dCB gLen (DL.gCons (hS 7) (DL.gNil)))) (hV (dCallO 0 2 s_next (aOra 0 (aCons (dC (.int 3)) (aNil)))))) (aNil))))) (hV (dTup (lCons (dC (.str ("nothing" : Str))) (lCons (dC .none) (lNil))))))) (sRet (dC (.bool false))) (sNo)) (sSeq (sSet 4 (dCallO 0 2 s_next (aOra 0 (aCons (dC (.int 30)) (aNil))))) (sSeq (sSet 5 (dCall 1 r__law_stretches (aCons (dLc (iRange1 (lCons (dV 4) (lNil))) (gN 9) (bD (d2 gNotIn (hS 9) (hS 7))) (dV 9) [9]) (aNil)))) (sSeq (sSet 6 (dCall 1 r__law_stretches (aCons (dLc (iRange1 (lCons (dC (.int 200)) (lNil))) (gN 9) (bD (d2 gGt (hV (dCnt (dV 7) (dV 9))) (hV (dC (.int 1))))) (dV 9) [9]) (aNil)))) (sRet (d2 gEqS (hV (dCB gReprA (DL.gCons (hV (dLst (lCons (dCall 2 r_lost (aCons (dV 1) (aCons (dV 4) (aNil)))) (lCons (dCall 1 r_twice (aCons (dV 1) (aNil))) (lNil))))) (DL.gNil)))) (hV (dCB gReprA (DL.gCons (hV (dLst (lCons (dV 5) (lCons (dV 6) (lNil))))) (DL.gNil))))))))))))
def r__law_right : SpD := raw g__law_right 10
/-- _law_otherwise(_law_m, _law_cuts_here), slots 0 _law_m 1 _law_cuts_here 2 _law_k 3 _law_here 4 _law_there 5 _law_cut -/
def g__law_otherwise : SM := sSeq (sIf (bD (d2 gEq (hS 1) (hV (dTup (lNil))))) (sRet (dV 1)) (sNo)) (sSeq (sSet 2 (dCallO 0 2 s_next (aOra 0 (aCons (dCB gLen (DL.gCons (hS 1) (DL.gNil))) (aNil))))) (sSeq (sAsg (d2 gIx (hS 1) (hS 2)) (gTupT 2 (gConsT (gN 3) (gConsT (gN 4) (gNoT))))) (sSeq (sIf (bAnd (bD (d2 gGt (hV (d2 DL.gSub (hS 4) (hS 3))) (hV (dC (.int 1))))) (bD (d2 gEq (hV (dCallO 0 2 s_next (aOra 0 (aCons (dC (.int 2)) (aNil))))) (hV (dC (.int 0)))))) (sSeq (sSet 5 (d2 gAdd (hV (d2 gAdd (hS 3) (hV (dC (.int 1))))) (hV (dCallO 0 2 s_next (aOra 0 (aCons (d2 DL.gSub (hV (d2 DL.gSub (hS 4) (hS 3))) (hV (dC (.int 1)))) (aNil))))))) (sRet (d2 gAdd (hV (d2 gAdd (hV (dSl (hS 1) (oNo) (oI (dV 2)))) (hV (dTup (lCons (dTup (lCons (dV 3) (lCons (dV 5) (lNil)))) (lCons (dTup (lCons (dV 5) (lCons (dV 4) (lNil)))) (lNil))))))) (hV (dSl (hS 1) (oI (d2 gAdd (hS 2) (hV (dC (.int 1))))) (oNo)))))) (sNo)) (sRet (dCall 1 r_plain (aCons (dV 1) (aNil)))))))
def r__law_otherwise : SpD := raw g__law_otherwise 6
/-- law behind its first row, slots 0 _law_script 1 _law_m 2 _law_turn 3 _law_one 4 _law_other -/
def g_law : SM := sSeq (sFor (iRange1 (lCons (d2 gAdd (hV (dC (.int 5))) (hV (dCB gMin (DL.gCons (hV (dCB gLen (DL.gCons (hS 0) (DL.gNil)))) (DL.gCons (hV (dC (.int 8))) (DL.gNil)))))) (lNil))) (gN 2) (sSeq (sSet 3 (dCallO 1 3 r__law_cuts (aOra 1 (aCons (dC (.int 8)) (aCons (dC (.int 20)) (aNil)))))) (sFor (iSeq (dTup (lCons (dCallO 1 2 r__law_otherwise (aOra 1 (aCons (dV 3) (aNil)))) (lCons (dCallO 1 3 r__law_cuts (aOra 1 (aCons (dC (.int 3)) (aCons (dC (.int 9)) (aNil))))) (lCons (dRevT (hS 3)) (lCons (d2 gAdd (hS 3) (hS 3)) (lNil))))))) (gN 4) (sIf (bOr (bNot (bTruth (hV (dCallO 1 3 r__law_right (aOra 1 (aCons (dV 3) (aCons (dV 4) (aNil)))))))) (bNot (bTruth (hV (dCallO 1 3 r__law_right (aOra 1 (aCons (dV 4) (aCons (dV 3) (aNil))))))))) (sRet (dC (.bool false))) (sNo))))) (sRet (d2 gEq (hV (dCall 1 r_plain (aCons (dTup (lCons (dTup (lCons (dC (.int 0)) (lCons (dC (.int 5)) (lNil)))) (lCons (dTup (lCons (dC (.int 5)) (lCons (dC (.int 9)) (lNil)))) (lCons (dTup (lCons (dC (.int 2)) (lCons (dC (.int 4)) (lNil)))) (lNil))))) (aNil)))) (hV (dTup (lCons (dTup (lCons (dC (.int 0)) (lCons (dC (.int 9)) (lNil)))) (lCons (dTup (lCons (dC (.int 2)) (lCons (dC (.int 4)) (lNil)))) (lNil)))))))
def lawSays (ns : List Int) : Prop := g_law ⟨fun _ => False, fun d _ => d = .bool true, fun _ => False, fun _ => False⟩ [.im (.list (ns.map PyData.int)), .ora 0, .no, .no, .no]
end Q63
namespace Q63
open PySem L2 DL
def topS (i : Nat) : Stmt := PySem.Challenge.pw_captionhouse_k63_whole_cuts_shown.main.body.getD i (.Pass ⟨0, 0, 0, 0⟩)
structure Tx (K : PySem.W.Frag) (gl : Str → Option Value) : Prop where
  n_LookupError : gl "LookupError" = none
  n_ValueError : gl "ValueError" = none
  n_bool : gl "bool" = none
  n_enumerate : gl "enumerate" = none
  n_int : gl "int" = none
  n_isinstance : gl "isinstance" = none
  n_len : gl "len" = none
  n_list : gl "list" = none
  n_min : gl "min" = none
  n_range : gl "range" = none
  n_repr : gl "repr" = none
  n_sorted : gl "sorted" = none
  n_sum : gl "sum" = none
  n_tuple : gl "tuple" = none
  n_zip : gl "zip" = none
  c_MOST_FRAME : ∃ t, gl "MOST_FRAME" = some (.int 1000000000000 t)
  c_MOST_LENGTH : ∃ t, gl "MOST_LENGTH" = some (.int 1000000000000 t)
  c_MOST_STRETCHES : ∃ t, gl "MOST_STRETCHES" = some (.int 60 t)
def initOf : Stmt → Stmt
  | .ClassDef _ _ _ body _ _ _ _ _ _ _ => body.getD 0 (.Pass ⟨0, 0, 0, 0⟩)
  | s => s
section
variable {pr : Program} {wd : PySem.World} {K : PySem.W.Frag} {gl : Str → Option Value} {bas : Heap} {R : Orc} {Tb : List (Addr × Str)}
abbrev st_BadCuts : Stmt := initOf (topS 9)
def names_BadCuts : List Str := ["self", "number"]
theorem sc_BadCuts : FnScope names_BadCuts ["self", "number"] (defScope st_BadCuts) := ⟨rfl, rfl, rfl, by decide +kernel, rfl, by decide +kernel, by decide +kernel⟩
theorem init_BadCuts {C fI : Addr} {fd : FuncData} (T : Tx K gl) (F : L2.Fun K "__init__" "BadCuts.__init__" st_BadCuts fI fd) (vV : PySem.W.findCls K (.type "ValueError") (.type "type") "__init__" = some (.val (.builtin "ValueError.__init__"))) (hno : PySem.W.findIn K (.ref C) "number" = some none) : FnOk pr wd K gl bas CX0 1 fI fd ["self", "number"] (spInit K C (some "number")) := by
  have sc := sc_BadCuts
  refine F.ok sc (fun vs H Q E h => ?_) fun cdv A out sh H vs Q E hr h => ?_
  · obtain ⟨a, v, rfl, _⟩ := h
    rfl
  obtain ⟨a, v, rfl, ha, TC, q⟩ := h
  exact ⟨_, pss_cons (ps_expr (pe_veinit rfl T.n_ValueError vV (pa_cons (pv 0) (pa_cons pe_str pa_nil)))) (pss_one (ps_ost (pv 0) (pv 1))), .ref a, rfl, a, C, [_], rfl, (by show 1 ≤ 1000; omega), TC, ha, v, rfl, .ref a, rfl, a, C, rfl, TC, hno, .inl ⟨ha, fun dx hd ne => q dx hd ne⟩⟩
abbrev st_OutOfPlace : Stmt := initOf (topS 13)
def names_OutOfPlace : List Str := ["self", "text"]
theorem sc_OutOfPlace : FnScope names_OutOfPlace ["self", "text"] (defScope st_OutOfPlace) := ⟨rfl, rfl, rfl, by decide +kernel, rfl, by decide +kernel, by decide +kernel⟩
theorem init_OutOfPlace {C fI : Addr} {fd : FuncData} (T : Tx K gl) (F : L2.Fun K "__init__" "OutOfPlace.__init__" st_OutOfPlace fI fd) (vV : PySem.W.findCls K (.type "ValueError") (.type "type") "__init__" = some (.val (.builtin "ValueError.__init__"))) : FnOk pr wd K gl bas CX0 1 fI fd ["self", "text"] (spInit K C none) := by
  have sc := sc_OutOfPlace
  refine F.ok sc (fun vs H Q E h => ?_) fun cdv A out sh H vs Q E hr h => ?_
  · obtain ⟨a, v, rfl, _⟩ := h
    rfl
  obtain ⟨a, v, rfl, ha, TC, q⟩ := h
  exact ⟨_, pss_one (ps_expr (pe_veinit rfl T.n_ValueError vV (pa_cons (pv 0) (pa_cons (pv 1) pa_nil)))), .ref a, rfl, v, rfl, a, C, [v], rfl, (by show 1 ≤ 1000; omega), TC, ha, q⟩
abbrev st_Nothing : Stmt := initOf (topS 15)
def names_Nothing : List Str := ["self", "text"]
theorem sc_Nothing : FnScope names_Nothing ["self", "text"] (defScope st_Nothing) := ⟨rfl, rfl, rfl, by decide +kernel, rfl, by decide +kernel, by decide +kernel⟩
theorem init_Nothing {C fI : Addr} {fd : FuncData} (T : Tx K gl) (F : L2.Fun K "__init__" "Nothing.__init__" st_Nothing fI fd) (vV : PySem.W.findCls K (.type "LookupError") (.type "type") "__init__" = some (.val (.builtin "LookupError.__init__"))) : FnOk pr wd K gl bas CX0 1 fI fd ["self", "text"] (spInitB "LookupError.__new__" luMro K C none) := by
  have sc := sc_Nothing
  refine F.ok sc (fun vs H Q E h => ?_) fun cdv A out sh H vs Q E hr h => ?_
  · obtain ⟨a, v, rfl, _⟩ := h
    rfl
  obtain ⟨a, v, rfl, ha, TC, q⟩ := h
  exact ⟨_, pss_one (ps_expr (pe_binit base_lu rfl T.n_LookupError (by decide +kernel) vV (pa_cons (pv 0) (pa_cons (pv 1) pa_nil)))), .ref a, rfl, v, rfl, a, C, [v], rfl, (by show 1 ≤ 1000; omega), TC, ha, q⟩
abbrev st_is_integer : Stmt := topS 1
def names_is_integer : List Str := ["thing"]
theorem sc_is_integer : FnScope names_is_integer ["thing"] (defScope st_is_integer) := ⟨rfl, rfl, rfl, by decide +kernel, rfl, by decide +kernel, by decide +kernel⟩
theorem ok_is_integer {fa : Addr} {fd : FuncData} (T : Tx K gl) (F : L2.Fun K "is_integer" "is_integer" st_is_integer fa fd) : FnG pr wd K gl bas 1 fa fd ["thing"] (spD K R 1 r_is_integer) := by
  have sc := sc_is_integer
  refine FnG.data (g := g_is_integer) F sc rfl fun cdv A out sh H E q F hg hr => ?_
  exact (ds_one (dp_ret (de_and (de_isi rfl rfl T.n_isinstance rfl T.n_int (by decide +kernel) (dh_v (pv 0))) (pe_one (de_not (de_isi rfl rfl T.n_isinstance rfl T.n_bool (by decide +kernel) (dh_v (pv 0))))))))
abbrev st_is_within : Stmt := topS 2
def names_is_within : List Str := ["thing", "least", "most"]
theorem sc_is_within : FnScope names_is_within ["thing", "least", "most"] (defScope st_is_within) := ⟨rfl, rfl, rfl, by decide +kernel, rfl, by decide +kernel, by decide +kernel⟩
theorem ok_is_within {fa : Addr} {fd : FuncData} (T : Tx K gl) (F : L2.Fun K "is_within" "is_within" st_is_within fa fd) (C_is_integer : Cd pr wd K gl bas R 1 "is_integer" 1 r_is_integer) : FnG pr wd K gl bas 2 fa fd ["thing", "least", "most"] (spD K R 3 r_is_within) := by
  have sc := sc_is_within
  refine FnG.data (g := g_is_within) F sc rfl fun cdv A out sh H E q F hg hr => ?_
  exact (ds_one (dp_ret (de_and (de_cd (C_is_integer.more (by decide)) rfl hg hr rfl (da_cons (de_v (pv 0)) da_nil)) (pe_one (de_chain (sem_le) (sem_le) (dh_v (pv 1)) (dh_v (pv 0)) (dh_v (pv 2)) rfl)))))
abbrev st_is_tuple : Stmt := topS 3
def names_is_tuple : List Str := ["thing", "least", "most"]
theorem sc_is_tuple : FnScope names_is_tuple ["thing", "least", "most"] (defScope st_is_tuple) := ⟨rfl, rfl, rfl, by decide +kernel, rfl, by decide +kernel, by decide +kernel⟩
theorem ok_is_tuple {fa : Addr} {fd : FuncData} (T : Tx K gl) (F : L2.Fun K "is_tuple" "is_tuple" st_is_tuple fa fd) : FnG pr wd K gl bas 1 fa fd ["thing", "least", "most"] (spD K R 3 r_is_tuple) := by
  have sc := sc_is_tuple
  refine FnG.data (g := g_is_tuple) F sc rfl fun cdv A out sh H E q F hg hr => ?_
  exact (ds_one (dp_ret (de_and (de_isi rfl rfl T.n_isinstance rfl T.n_tuple (by decide +kernel) (dh_v (pv 0))) (pe_one (de_chain (sem_le) (sem_le) (dh_v (pv 1)) (dh_of (de_cb (sem_len rfl) rfl T.n_len (by decide +kernel) (dg_cons (dh_v (pv 0)) dg_nil))) (dh_v (pv 2)) rfl)))))
abbrev st_is_stretch : Stmt := topS 27
def names_is_stretch : List Str := ["thing"]
theorem sc_is_stretch : FnScope names_is_stretch ["thing"] (defScope st_is_stretch) := ⟨rfl, rfl, rfl, by decide +kernel, rfl, by decide +kernel, by decide +kernel⟩
theorem ok_is_stretch {fa : Addr} {fd : FuncData} (T : Tx K gl) (F : L2.Fun K "is_stretch" "is_stretch" st_is_stretch fa fd) (C_is_tuple : Cd pr wd K gl bas R 1 "is_tuple" 3 r_is_tuple) (C_is_within : Cd pr wd K gl bas R 2 "is_within" 3 r_is_within) : FnG pr wd K gl bas 3 fa fd ["thing"] (spD K R 1 r_is_stretch) := by
  have sc := sc_is_stretch
  refine FnG.data (g := g_is_stretch) F sc rfl fun cdv A out sh H E q F hg hr => ?_
  exact (ds_cons (dp_if (PW.pt (dw_or (dt_not (dt_truth rfl (dh_of (de_cd (C_is_tuple.more (by decide)) rfl hg hr rfl (da_cons (de_v (pv 0)) (da_cons de_int (da_cons de_int da_nil))))))) (pw_or1 (dt_not (dt_truth rfl (dh_of (de_cd (C_is_within.more (by decide)) rfl hg hr rfl (da_cons (de_ix rfl (dh_v (pv 0)) (dh_of de_int) (fun _ _ => rfl)) (da_cons de_int (da_cons (de_gint rfl T.c_MOST_FRAME) da_nil)))))))))) (ds_one (dp_ret de_bl)) ds_nil)
    (ds_one (dp_ret (de_cd (C_is_within.more (by decide)) rfl hg hr rfl (da_cons (de_ix rfl (dh_v (pv 0)) (dh_of de_int) (fun _ _ => rfl)) (da_cons (de_bin (sem_add rfl) (dh_of (de_ix rfl (dh_v (pv 0)) (dh_of de_int) (fun _ _ => rfl))) (dh_of de_int)) (da_cons (de_gint rfl T.c_MOST_FRAME) da_nil)))))))
abbrev st_need_cuts : Stmt := topS 20
def names_need_cuts : List Str := ["thing", "total", "number", "stretch"]
theorem sc_need_cuts : FnScope names_need_cuts ["thing"] (defScope st_need_cuts) := ⟨rfl, rfl, rfl, by decide +kernel, rfl, by decide +kernel, by decide +kernel⟩
theorem okX_need_cuts {fa : Addr} {fd : FuncData} (T : Tx K gl) (F : L2.Fun K "need_cuts" "need_cuts" st_need_cuts fa fd) (C_is_tuple : Cd pr wd K gl bas R 1 "is_tuple" 3 r_is_tuple) (C_is_stretch : Cd pr wd K gl bas R 3 "is_stretch" 1 r_is_stretch) (K_BadCuts : ClsAt pr wd K gl bas "BadCuts" (some "number")) : FnX pr wd K gl bas 5 fa fd ["thing"] (spX K gl R 1 rx_need_cuts) := by
  have sc := sc_need_cuts
  refine FnX.data (g := gx_need_cuts) F sc rfl fun cdv A out sh H E q F px hg hr tk => ?_
  exact (ds_cons (dp_if (dt_not (dt_truth rfl (dh_of (de_cd (C_is_tuple.more (by decide)) rfl hg hr rfl (da_cons (de_v (pv 0)) (da_cons de_int (da_cons (de_gint rfl T.c_MOST_STRETCHES) da_nil))))))) (ds_one (dp_raise1 K_BadCuts tk rfl rfl (hr.mono (by decide)) rfl de_non)) ds_nil)
    (ds_cons (dp_set sc.nd (i := 1) rfl (by first | exact Or.inl rfl | exact Or.inr rfl) de_int)
    (ds_cons (dp_for (passes_of rfl) rfl (di_enum rfl rfl T.n_enumerate (dl_cons (de_v (pv 0)) dl_nil)) (dg_tup rfl rfl (dgs_cons (dg_name sc.nd (i := 2) rfl (by first | exact Or.inl rfl | exact Or.inr rfl)) (dgs_cons (dg_name sc.nd (i := 3) rfl (by first | exact Or.inl rfl | exact Or.inr rfl)) dgs_nil))) (ds_cons (dp_if (dt_not (dt_truth rfl (dh_of (de_cd (C_is_stretch.more (by decide)) rfl hg hr rfl (da_cons (de_v (pv 3)) da_nil))))) (ds_one (dp_raise1 K_BadCuts tk rfl rfl (hr.mono (by decide)) rfl (de_v (pv 2)))) ds_nil)
    (ds_cons (dp_aug sc.nd (i := 1) rfl (by first | exact Or.inl rfl | exact Or.inr rfl) (dh_of (de_bin (sem_sub) (dh_of (de_ix rfl (dh_v (pv 3)) (dh_of de_int) (fun _ _ => rfl))) (dh_of (de_ix rfl (dh_v (pv 3)) (dh_of de_int) (fun _ _ => rfl))))) sem_iadd)
    (ds_one (dp_if (dt_cmp (sem_gt) (dh_v (pv 1)) (dh_of (de_gint rfl T.c_MOST_LENGTH)) (nomark _)) (ds_one (dp_raise1 K_BadCuts tk rfl rfl (hr.mono (by decide)) rfl (de_v (pv 2)))) ds_nil)))))
    (ds_one (dp_ret (de_v (pv 0)))))))
theorem ok_need_cuts {fa : Addr} {fd : FuncData} (T : Tx K gl) (F : L2.Fun K "need_cuts" "need_cuts" st_need_cuts fa fd) (C_is_tuple : Cd pr wd K gl bas R 1 "is_tuple" 3 r_is_tuple) (C_is_stretch : Cd pr wd K gl bas R 3 "is_stretch" 1 r_is_stretch) : FnG pr wd K gl bas 4 fa fd ["thing"] (spD K R 1 r_need_cuts) := by
  have sc := sc_need_cuts
  refine FnG.data (g := g_need_cuts) F sc rfl fun cdv A out sh H E q F hg hr => ?_
  exact (ds_cons (dp_if (dt_not (dt_truth rfl (dh_of (de_cd (C_is_tuple.more (by decide)) rfl hg hr rfl (da_cons (de_v (pv 0)) (da_cons de_int (da_cons (de_gint rfl T.c_MOST_STRETCHES) da_nil))))))) ds_never ds_nil)
    (ds_cons (dp_set sc.nd (i := 1) rfl (by first | exact Or.inl rfl | exact Or.inr rfl) de_int)
    (ds_cons (dp_for PassesOwn.never rfl (di_enum rfl rfl T.n_enumerate (dl_cons (de_v (pv 0)) dl_nil)) (dg_tup rfl rfl (dgs_cons (dg_name sc.nd (i := 2) rfl (by first | exact Or.inl rfl | exact Or.inr rfl)) (dgs_cons (dg_name sc.nd (i := 3) rfl (by first | exact Or.inl rfl | exact Or.inr rfl)) dgs_nil))) (ds_cons (dp_if (dt_not (dt_truth rfl (dh_of (de_cd (C_is_stretch.more (by decide)) rfl hg hr rfl (da_cons (de_v (pv 3)) da_nil))))) ds_never ds_nil)
    (ds_cons (dp_aug sc.nd (i := 1) rfl (by first | exact Or.inl rfl | exact Or.inr rfl) (dh_of (de_bin (sem_sub) (dh_of (de_ix rfl (dh_v (pv 3)) (dh_of de_int) (fun _ _ => rfl))) (dh_of (de_ix rfl (dh_v (pv 3)) (dh_of de_int) (fun _ _ => rfl))))) sem_iadd)
    (ds_one (dp_if (dt_cmp (sem_gt) (dh_v (pv 1)) (dh_of (de_gint rfl T.c_MOST_LENGTH)) (nomark _)) ds_never ds_nil)))))
    (ds_one (dp_ret (de_v (pv 0)))))))
abbrev st_length_of : Stmt := topS 28
def names_length_of : List Str := ["cuts", "start", "end"]
theorem sc_length_of : FnScope names_length_of ["cuts"] (defScope st_length_of) := ⟨rfl, rfl, rfl, by decide +kernel, rfl, by decide +kernel, by decide +kernel⟩
theorem ok_length_of {fa : Addr} {fd : FuncData} (T : Tx K gl) (F : L2.Fun K "length_of" "length_of" st_length_of fa fd) : FnG pr wd K gl bas 1 fa fd ["cuts"] (spD K R 1 r_length_of) := by
  have sc := sc_length_of
  refine FnG.data (g := g_length_of) F sc rfl fun cdv A out sh H E q F hg hr => ?_
  exact (ds_one (dp_ret (de_cb (sem_sum2 rfl rfl) rfl T.n_sum (by decide +kernel) (dg_cons (dh_of (de_n (dn_lc (own := [("start", 1), ("end", 2)]) rfl sc.nd (di_seq rfl (de_v (pv 0))) (blkOk_by (own := [("start", 1), ("end", 2)]) (N := names_length_of) (sc := defScope st_length_of) (by decide +kernel)) (by decide) (fun _ _ _ _ _ => (dg_tup rfl rfl (dgs_cons (dg_name sc.nd (i := 1) rfl (by first | exact Or.inl rfl | exact Or.inr rfl)) (dgs_cons (dg_name sc.nd (i := 2) rfl (by first | exact Or.inl rfl | exact Or.inr rfl)) dgs_nil)))) (fun _ _ _ _ _ => dts_nil) (fun _ _ _ _ _ => (de_bin (sem_sub) (dh_v (pv 2)) (dh_v (pv 1))))))) dg_nil))))
abbrev st_length : Stmt := topS 21
def names_length : List Str := ["cuts"]
theorem sc_length : FnScope names_length ["cuts"] (defScope st_length) := ⟨rfl, rfl, rfl, by decide +kernel, rfl, by decide +kernel, by decide +kernel⟩
theorem ok_length {fa : Addr} {fd : FuncData} (T : Tx K gl) (F : L2.Fun K "length" "length" st_length fa fd) (C_need_cuts : Cd pr wd K gl bas R 4 "need_cuts" 1 r_need_cuts) (C_length_of : Cd pr wd K gl bas R 1 "length_of" 1 r_length_of) : FnG pr wd K gl bas 5 fa fd ["cuts"] (spD K R 1 r_length) := by
  have sc := sc_length
  refine FnG.data (g := g_length) F sc rfl fun cdv A out sh H E q F hg hr => ?_
  exact (ds_cons (dp_expr (de_cd (C_need_cuts.more (by decide)) rfl hg hr rfl (da_cons (de_v (pv 0)) da_nil)))
    (ds_one (dp_ret (de_cd (C_length_of.more (by decide)) rfl hg hr rfl (da_cons (de_v (pv 0)) da_nil)))))
abbrev st__place_of : Stmt := topS 30
def names__place_of : List Str := ["cuts", "frame", "number", "start", "end"]
theorem sc__place_of : FnScope names__place_of ["cuts", "frame"] (defScope st__place_of) := ⟨rfl, rfl, rfl, by decide +kernel, rfl, by decide +kernel, by decide +kernel⟩
theorem ok__place_of {fa : Addr} {fd : FuncData} (T : Tx K gl) (F : L2.Fun K "_place_of" "_place_of" st__place_of fa fd) : FnG pr wd K gl bas 1 fa fd ["cuts", "frame"] (spD K R 2 r__place_of) := by
  have sc := sc__place_of
  refine FnG.data (g := g__place_of) F sc rfl fun cdv A out sh H E q F hg hr => ?_
  exact (ds_cons (dp_set sc.nd (i := 2) rfl (by first | exact Or.inl rfl | exact Or.inr rfl) de_int)
    (ds_cons (dp_asg (de_ix rfl (dh_v (pv 0)) (dh_of de_int) (fun _ _ => rfl)) (dg_tup rfl rfl (dgs_cons (dg_name sc.nd (i := 3) rfl (by first | exact Or.inl rfl | exact Or.inr rfl)) (dgs_cons (dg_name sc.nd (i := 4) rfl (by first | exact Or.inl rfl | exact Or.inr rfl)) dgs_nil))))
    (ds_cons (dp_while PassesOwn.never (dt_cmp (sem_ge) (dh_v (pv 1)) (dh_of (de_bin (sem_sub) (dh_v (pv 4)) (dh_v (pv 3)))) (nomark _)) (ds_cons (dp_aug sc.nd (i := 1) rfl (by first | exact Or.inl rfl | exact Or.inr rfl) (dh_of (de_bin (sem_sub) (dh_v (pv 4)) (dh_v (pv 3)))) sem_isub)
    (ds_cons (dp_aug sc.nd (i := 2) rfl (by first | exact Or.inl rfl | exact Or.inr rfl) (dh_of de_int) sem_iadd)
    (ds_one (dp_asg (de_ix rfl (dh_v (pv 0)) (dh_v (pv 2)) (fun _ _ => rfl)) (dg_tup rfl rfl (dgs_cons (dg_name sc.nd (i := 3) rfl (by first | exact Or.inl rfl | exact Or.inr rfl)) (dgs_cons (dg_name sc.nd (i := 4) rfl (by first | exact Or.inl rfl | exact Or.inr rfl)) dgs_nil))))))))
    (ds_one (dp_ret (de_tup (dl_cons (de_v (pv 2)) (dl_cons (de_bin (sem_add rfl) (dh_v (pv 3)) (dh_v (pv 1))) dl_nil))))))))
abbrev st_source : Stmt := topS 22
def names_source : List Str := ["cuts", "frame", "_", "old"]
theorem sc_source : FnScope names_source ["cuts", "frame"] (defScope st_source) := ⟨rfl, rfl, rfl, by decide +kernel, rfl, by decide +kernel, by decide +kernel⟩
theorem okX_source {fa : Addr} {fd : FuncData} (T : Tx K gl) (F : L2.Fun K "source" "source" st_source fa fd) (C_is_within : Cd pr wd K gl bas R 2 "is_within" 3 r_is_within) (C_length_of : Cd pr wd K gl bas R 1 "length_of" 1 r_length_of) (C__place_of : Cd pr wd K gl bas R 1 "_place_of" 2 r__place_of) (CX_need_cuts : CdX pr wd K gl bas R 5 "need_cuts" 1 rx_need_cuts) (K_OutOfPlace : ClsAt pr wd K gl bas "OutOfPlace" none) (K_Nothing : ClsAtB pr wd K gl bas "Nothing" none) : FnX pr wd K gl bas 6 fa fd ["cuts", "frame"] (spX K gl R 2 rx_source) := by
  have sc := sc_source
  refine FnX.data (g := gx_source) F sc rfl fun cdv A out sh H E q F px hg hr tk => ?_
  exact (ds_cons (dp_expr (de_cdX tk (CX_need_cuts.more (by decide)) rfl hg hr rfl (da_cons (de_v (pv 0)) da_nil)))
    (ds_cons (dp_if (dt_not (dt_truth rfl (dh_of (de_cd (C_is_within.more (by decide)) rfl hg hr rfl (da_cons (de_v (pv 1)) (da_cons de_int (da_cons (de_gint rfl T.c_MOST_FRAME) da_nil))))))) (ds_one (dp_raise0 K_OutOfPlace tk rfl rfl (hr.mono (by decide)) rfl de_str)) ds_nil)
    (ds_cons (dp_if (dt_cmp (sem_ge) (dh_v (pv 1)) (dh_of (de_cd (C_length_of.more (by decide)) rfl hg hr rfl (da_cons (de_v (pv 0)) da_nil))) (nomark _)) (ds_one (dp_raiseB0 K_Nothing tk rfl rfl (hr.mono (by decide)) rfl de_str)) ds_nil)
    (ds_cons (dp_asg (de_cd (C__place_of.more (by decide)) rfl hg hr rfl (da_cons (de_v (pv 0)) (da_cons (de_v (pv 1)) da_nil))) (dg_tup rfl rfl (dgs_cons (dg_name sc.nd (i := 2) rfl (by first | exact Or.inl rfl | exact Or.inr rfl)) (dgs_cons (dg_name sc.nd (i := 3) rfl (by first | exact Or.inl rfl | exact Or.inr rfl)) dgs_nil))))
    (ds_one (dp_ret (de_v (pv 3))))))))
theorem ok_source {fa : Addr} {fd : FuncData} (T : Tx K gl) (F : L2.Fun K "source" "source" st_source fa fd) (C_need_cuts : Cd pr wd K gl bas R 4 "need_cuts" 1 r_need_cuts) (C_is_within : Cd pr wd K gl bas R 2 "is_within" 3 r_is_within) (C_length_of : Cd pr wd K gl bas R 1 "length_of" 1 r_length_of) (C__place_of : Cd pr wd K gl bas R 1 "_place_of" 2 r__place_of) : FnG pr wd K gl bas 5 fa fd ["cuts", "frame"] (spD K R 2 r_source) := by
  have sc := sc_source
  refine FnG.data (g := g_source) F sc rfl fun cdv A out sh H E q F hg hr => ?_
  exact (ds_cons (dp_expr (de_cd (C_need_cuts.more (by decide)) rfl hg hr rfl (da_cons (de_v (pv 0)) da_nil)))
    (ds_cons (dp_if (dt_not (dt_truth rfl (dh_of (de_cd (C_is_within.more (by decide)) rfl hg hr rfl (da_cons (de_v (pv 1)) (da_cons de_int (da_cons (de_gint rfl T.c_MOST_FRAME) da_nil))))))) ds_never ds_nil)
    (ds_cons (dp_if (dt_cmp (sem_ge) (dh_v (pv 1)) (dh_of (de_cd (C_length_of.more (by decide)) rfl hg hr rfl (da_cons (de_v (pv 0)) da_nil))) (nomark _)) ds_never ds_nil)
    (ds_cons (dp_asg (de_cd (C__place_of.more (by decide)) rfl hg hr rfl (da_cons (de_v (pv 0)) (da_cons (de_v (pv 1)) da_nil))) (dg_tup rfl rfl (dgs_cons (dg_name sc.nd (i := 2) rfl (by first | exact Or.inl rfl | exact Or.inr rfl)) (dgs_cons (dg_name sc.nd (i := 3) rfl (by first | exact Or.inl rfl | exact Or.inr rfl)) dgs_nil))))
    (ds_one (dp_ret (de_v (pv 3))))))))
abbrev st__joined : Stmt := topS 29
def names__joined : List Str := ["stretches", "found", "start", "end"]
theorem sc__joined : FnScope names__joined ["stretches"] (defScope st__joined) := ⟨rfl, rfl, rfl, by decide +kernel, rfl, by decide +kernel, by decide +kernel⟩
theorem ok__joined {fa : Addr} {fd : FuncData} (T : Tx K gl) (F : L2.Fun K "_joined" "_joined" st__joined fa fd) : FnG pr wd K gl bas 1 fa fd ["stretches"] (spD K R 1 r__joined) := by
  have sc := sc__joined
  refine FnG.data (g := g__joined) F sc rfl fun cdv A out sh H E q F hg hr => ?_
  exact (ds_cons (dp_setN sc.nd (i := 1) rfl (by first | exact Or.inl rfl | exact Or.inr rfl) (dn_lst dl_nil))
    (ds_cons (dp_for PassesOwn.never rfl (di_seq rfl (de_v (pv 0))) (dg_tup rfl rfl (dgs_cons (dg_name sc.nd (i := 2) rfl (by first | exact Or.inl rfl | exact Or.inr rfl)) (dgs_cons (dg_name sc.nd (i := 3) rfl (by first | exact Or.inl rfl | exact Or.inr rfl)) dgs_nil))) (ds_one (dp_if (PW.pt (dw_and (dt_truth rfl (dh_v (pv 1))) (pw_and1 (dt_cmp (sem_eq rfl (hu64 hr)) (dh_of (de_ix rfl (dh_of (de_ix rfl (dh_v (pv 1)) (dh_of (de_neg de_int)) (fun _ _ => rfl))) (dh_of de_int) (fun _ _ => rfl))) (dh_v (pv 2)) (nomark _))))) (ds_one (dp_put (pv 1) (de_neg de_int) (de_tup (dl_cons (de_ix rfl (dh_of (de_ix rfl (dh_v (pv 1)) (dh_of (de_neg de_int)) (fun _ _ => rfl))) (dh_of de_int) (fun _ _ => rfl)) (dl_cons (de_v (pv 3)) dl_nil))))) (ds_one (dp_app rfl (pv 1) (de_tup (dl_cons (de_v (pv 2)) (dl_cons (de_v (pv 3)) dl_nil))))))))
    (ds_one (dp_ret (de_ct (sem_tuple rfl) rfl T.n_tuple (by decide +kernel) (dg_cons (dh_v (pv 1)) dg_nil))))))
abbrev st_plain : Stmt := topS 23
def names_plain : List Str := ["cuts"]
theorem sc_plain : FnScope names_plain ["cuts"] (defScope st_plain) := ⟨rfl, rfl, rfl, by decide +kernel, rfl, by decide +kernel, by decide +kernel⟩
theorem ok_plain {fa : Addr} {fd : FuncData} (T : Tx K gl) (F : L2.Fun K "plain" "plain" st_plain fa fd) (C_need_cuts : Cd pr wd K gl bas R 4 "need_cuts" 1 r_need_cuts) (C__joined : Cd pr wd K gl bas R 1 "_joined" 1 r__joined) : FnG pr wd K gl bas 5 fa fd ["cuts"] (spD K R 1 r_plain) := by
  have sc := sc_plain
  refine FnG.data (g := g_plain) F sc rfl fun cdv A out sh H E q F hg hr => ?_
  exact (ds_cons (dp_expr (de_cd (C_need_cuts.more (by decide)) rfl hg hr rfl (da_cons (de_v (pv 0)) da_nil)))
    (ds_one (dp_ret (de_cd (C__joined.more (by decide)) rfl hg hr rfl (da_cons (de_v (pv 0)) da_nil)))))
abbrev st_alike_cuts : Stmt := topS 24
def names_alike_cuts : List Str := ["one", "other"]
theorem sc_alike_cuts : FnScope names_alike_cuts ["one", "other"] (defScope st_alike_cuts) := ⟨rfl, rfl, rfl, by decide +kernel, rfl, by decide +kernel, by decide +kernel⟩
theorem ok_alike_cuts {fa : Addr} {fd : FuncData} (T : Tx K gl) (F : L2.Fun K "alike_cuts" "alike_cuts" st_alike_cuts fa fd) (C_need_cuts : Cd pr wd K gl bas R 4 "need_cuts" 1 r_need_cuts) (C__joined : Cd pr wd K gl bas R 1 "_joined" 1 r__joined) : FnG pr wd K gl bas 5 fa fd ["one", "other"] (spD K R 2 r_alike_cuts) := by
  have sc := sc_alike_cuts
  refine FnG.data (g := g_alike_cuts) F sc rfl fun cdv A out sh H E q F hg hr => ?_
  exact (ds_cons (dp_expr (de_cd (C_need_cuts.more (by decide)) rfl hg hr rfl (da_cons (de_v (pv 0)) da_nil)))
    (ds_cons (dp_expr (de_cd (C_need_cuts.more (by decide)) rfl hg hr rfl (da_cons (de_v (pv 1)) da_nil)))
    (ds_one (dp_ret (de_cmp (sem_eq rfl (hu64 hr)) (dh_of (de_cd (C__joined.more (by decide)) rfl hg hr rfl (da_cons (de_v (pv 0)) da_nil))) (dh_of (de_cd (C__joined.more (by decide)) rfl hg hr rfl (da_cons (de_v (pv 1)) da_nil))) (nomark _))))))
abbrev st__bounds_of : Stmt := topS 31
def names__bounds_of : List Str := ["cuts", "stretch", "frame"]
theorem sc__bounds_of : FnScope names__bounds_of ["cuts"] (defScope st__bounds_of) := ⟨rfl, rfl, rfl, by decide +kernel, rfl, by decide +kernel, by decide +kernel⟩
theorem ok__bounds_of {fa : Addr} {fd : FuncData} (T : Tx K gl) (F : L2.Fun K "_bounds_of" "_bounds_of" st__bounds_of fa fd) : FnG pr wd K gl bas 1 fa fd ["cuts"] (spD K R 1 r__bounds_of) := by
  have sc := sc__bounds_of
  refine FnG.data (g := g__bounds_of) F sc rfl fun cdv A out sh H E q F hg hr => ?_
  exact (ds_one (dp_ret (de_n (dn_ss2 (own := [("stretch", 1), ("frame", 2)]) (vs1 := [2]) rfl sc.nd (blkOk_by (own := [("stretch", 1), ("frame", 2)]) (N := names__bounds_of) (sc := defScope st__bounds_of) (by decide +kernel)) rfl T.n_sorted (di_seq rfl (de_v (pv 0))) (by decide) (by decide) (by decide) (fun _ _ _ _ _ => ⟨⟨(dg_name sc.nd (i := 1) rfl (by first | exact Or.inl rfl | exact Or.inr rfl)), dts_nil⟩, ⟨(di_seq rfl (de_v (pv 1))), (dg_name sc.nd (i := 2) rfl (by first | exact Or.inl rfl | exact Or.inr rfl)), dts_nil⟩, (de_v (pv 2))⟩)))))
abbrev st__many_over : Stmt := topS 32
def names__many_over : List Str := ["cuts", "frame", "start", "end"]
theorem sc__many_over : FnScope names__many_over ["cuts", "frame"] (defScope st__many_over) := ⟨rfl, rfl, rfl, by decide +kernel, rfl, by decide +kernel, by decide +kernel⟩
theorem ok__many_over {fa : Addr} {fd : FuncData} (T : Tx K gl) (F : L2.Fun K "_many_over" "_many_over" st__many_over fa fd) : FnG pr wd K gl bas 1 fa fd ["cuts", "frame"] (spD K R 2 r__many_over) := by
  have sc := sc__many_over
  refine FnG.data (g := g__many_over) F sc rfl fun cdv A out sh H E q F hg hr => ?_
  exact (ds_one (dp_ret (de_cb (sem_len rfl) rfl T.n_len (by decide +kernel) (dg_cons (dh_of (de_n (dn_lc (own := [("start", 2), ("end", 3)]) rfl sc.nd (di_seq rfl (de_v (pv 0))) (blkOk_by (own := [("start", 2), ("end", 3)]) (N := names__many_over) (sc := defScope st__many_over) (by decide +kernel)) (by decide) (fun _ _ _ _ _ => (dg_tup rfl rfl (dgs_cons (dg_name sc.nd (i := 2) rfl (by first | exact Or.inl rfl | exact Or.inr rfl)) (dgs_cons (dg_name sc.nd (i := 3) rfl (by first | exact Or.inl rfl | exact Or.inr rfl)) dgs_nil)))) (fun _ _ _ _ _ => (dts_one (dt_chain (sem_le) (sem_lt) (dh_v (pv 2)) (dh_v (pv 1)) (dh_v (pv 3)) rfl))) (fun _ _ _ _ _ => (de_v (pv 2)))))) dg_nil))))
abbrev st_twice : Stmt := topS 25
def names_twice : List Str := ["cuts", "bounds", "pair"]
theorem sc_twice : FnScope names_twice ["cuts"] (defScope st_twice) := ⟨rfl, rfl, rfl, by decide +kernel, rfl, by decide +kernel, by decide +kernel⟩
theorem ok_twice {fa : Addr} {fd : FuncData} (T : Tx K gl) (F : L2.Fun K "twice" "twice" st_twice fa fd) (C_need_cuts : Cd pr wd K gl bas R 4 "need_cuts" 1 r_need_cuts) (C__bounds_of : Cd pr wd K gl bas R 1 "_bounds_of" 1 r__bounds_of) (C__joined : Cd pr wd K gl bas R 1 "_joined" 1 r__joined) (C__many_over : Cd pr wd K gl bas R 1 "_many_over" 2 r__many_over) : FnG pr wd K gl bas 5 fa fd ["cuts"] (spD K R 1 r_twice) := by
  have sc := sc_twice
  refine FnG.data (g := g_twice) F sc rfl fun cdv A out sh H E q F hg hr => ?_
  exact (ds_cons (dp_expr (de_cd (C_need_cuts.more (by decide)) rfl hg hr rfl (da_cons (de_v (pv 0)) da_nil)))
    (ds_cons (dp_set sc.nd (i := 1) rfl (by first | exact Or.inl rfl | exact Or.inr rfl) (de_cd (C__bounds_of.more (by decide)) rfl hg hr rfl (da_cons (de_v (pv 0)) da_nil)))
    (ds_one (dp_ret (de_cd (C__joined.more (by decide)) rfl hg hr rfl (da_cons (de_n (dn_lc (own := [("pair", 2)]) rfl sc.nd (Lz.di_zipL rfl rfl T.n_zip (dl_cons (de_v (pv 1)) (dl_cons (de_sl rfl (dh_v (pv 1)) (do_i de_int) do_no) dl_nil))) (blkOk_by (own := [("pair", 2)]) (N := names_twice) (sc := defScope st_twice) (by decide +kernel)) (by decide) (fun _ _ _ _ _ => (dg_name sc.nd (i := 2) rfl (by first | exact Or.inl rfl | exact Or.inr rfl))) (fun _ _ _ _ _ => (dts_one (dt_cmp (sem_gt) (dh_of (de_cd (C__many_over.more (by decide)) rfl hg hr rfl (da_cons (de_v (pv 0)) (da_cons (de_ix rfl (dh_v (pv 2)) (dh_of de_int) (fun _ _ => rfl)) da_nil)))) (dh_of de_int) (nomark _)))) (fun _ _ _ _ _ => (de_v (pv 2))))) da_nil))))))
abbrev st__not_shown : Stmt := topS 33
def names__not_shown : List Str := ["cuts", "start", "end", "bounds", "pairs", "pair", "frame"]
theorem sc__not_shown : FnScope names__not_shown ["cuts", "start", "end"] (defScope st__not_shown) := ⟨rfl, rfl, rfl, by decide +kernel, rfl, by decide +kernel, by decide +kernel⟩
theorem ok__not_shown {fa : Addr} {fd : FuncData} (T : Tx K gl) (F : L2.Fun K "_not_shown" "_not_shown" st__not_shown fa fd) (C__bounds_of : Cd pr wd K gl bas R 1 "_bounds_of" 1 r__bounds_of) (C__many_over : Cd pr wd K gl bas R 1 "_many_over" 2 r__many_over) : FnG pr wd K gl bas 2 fa fd ["cuts", "start", "end"] (spD K R 3 r__not_shown) := by
  have sc := sc__not_shown
  refine FnG.data (g := g__not_shown) F sc rfl fun cdv A out sh H E q F hg hr => ?_
  exact (ds_cons (dp_set sc.nd (i := 3) rfl (by first | exact Or.inl rfl | exact Or.inr rfl) (de_bin (sem_add rfl) (dh_of (de_bin (sem_add rfl) (dh_of (de_n (dn_lst (dl_cons (de_v (pv 1)) dl_nil)))) (dh_of (de_n (dn_lc (own := [("frame", 6)]) rfl sc.nd (di_seq rfl (de_cd (C__bounds_of.more (by decide)) rfl hg hr rfl (da_cons (de_v (pv 0)) da_nil))) (blkOk_by (own := [("frame", 6)]) (N := names__not_shown) (sc := defScope st__not_shown) (by decide +kernel)) (by decide) (fun _ _ _ _ _ => (dg_name sc.nd (i := 6) rfl (by first | exact Or.inl rfl | exact Or.inr rfl))) (fun _ _ _ _ _ => (dts_one (dt_chain (sem_lt) (sem_lt) (dh_v (pv 1)) (dh_v (pv 6)) (dh_v (pv 2)) rfl))) (fun _ _ _ _ _ => (de_v (pv 6)))))))) (dh_of (de_n (dn_lst (dl_cons (de_v (pv 2)) dl_nil))))))
    (ds_cons (dp_set sc.nd (i := 4) rfl (by first | exact Or.inl rfl | exact Or.inr rfl) (de_n (Lz.dn_lstZp rfl rfl rfl T.n_list rfl T.n_zip (dl_cons (de_v (pv 3)) (dl_cons (de_sl rfl (dh_v (pv 3)) (do_i de_int) do_no) dl_nil)))))
    (ds_one (dp_ret (de_n (dn_lc (own := [("pair", 5)]) rfl sc.nd (di_seq rfl (de_v (pv 4))) (blkOk_by (own := [("pair", 5)]) (N := names__not_shown) (sc := defScope st__not_shown) (by decide +kernel)) (by decide) (fun _ _ _ _ _ => (dg_name sc.nd (i := 5) rfl (by first | exact Or.inl rfl | exact Or.inr rfl))) (fun _ _ _ _ _ => (dts_one (PW.pt (dw_and (dt_cmp (sem_lt) (dh_of (de_ix rfl (dh_v (pv 5)) (dh_of de_int) (fun _ _ => rfl))) (dh_of (de_ix rfl (dh_v (pv 5)) (dh_of de_int) (fun _ _ => rfl))) (nomark _)) (pw_and1 (dt_cmp (sem_eq rfl (hu64 hr)) (dh_of (de_cd (C__many_over.more (by decide)) rfl hg hr rfl (da_cons (de_v (pv 0)) (da_cons (de_ix rfl (dh_v (pv 5)) (dh_of de_int) (fun _ _ => rfl)) da_nil)))) (dh_of de_int) (nomark _))))))) (fun _ _ _ _ _ => (de_v (pv 5)))))))))
abbrev st_lost : Stmt := topS 26
def names_lost : List Str := ["cuts", "end"]
theorem sc_lost : FnScope names_lost ["cuts", "end"] (defScope st_lost) := ⟨rfl, rfl, rfl, by decide +kernel, rfl, by decide +kernel, by decide +kernel⟩
theorem ok_lost {fa : Addr} {fd : FuncData} (T : Tx K gl) (F : L2.Fun K "lost" "lost" st_lost fa fd) (C_need_cuts : Cd pr wd K gl bas R 4 "need_cuts" 1 r_need_cuts) (C_is_within : Cd pr wd K gl bas R 2 "is_within" 3 r_is_within) (C__not_shown : Cd pr wd K gl bas R 2 "_not_shown" 3 r__not_shown) : FnG pr wd K gl bas 5 fa fd ["cuts", "end"] (spD K R 2 r_lost) := by
  have sc := sc_lost
  refine FnG.data (g := g_lost) F sc rfl fun cdv A out sh H E q F hg hr => ?_
  exact (ds_cons (dp_expr (de_cd (C_need_cuts.more (by decide)) rfl hg hr rfl (da_cons (de_v (pv 0)) da_nil)))
    (ds_cons (dp_if (dt_not (dt_truth rfl (dh_of (de_cd (C_is_within.more (by decide)) rfl hg hr rfl (da_cons (de_v (pv 1)) (da_cons de_int (da_cons (de_gint rfl T.c_MOST_FRAME) da_nil))))))) ds_never ds_nil)
    (ds_one (dp_ret (de_ct (sem_tuple rfl) rfl T.n_tuple (by decide +kernel) (dg_cons (dh_of (de_cd (C__not_shown.more (by decide)) rfl hg hr rfl (da_cons (de_v (pv 0)) (da_cons de_int (da_cons (de_v (pv 1)) da_nil))))) dg_nil))))))
abbrev st__law_of : Stmt := topS 37
def names__law_of : List Str := ["_law_m", "_law_some"]
theorem sc__law_of : FnScope names__law_of ["_law_m", "_law_some"] (defScope st__law_of) := ⟨rfl, rfl, rfl, by decide +kernel, rfl, by decide +kernel, by decide +kernel⟩
theorem ok__law_of {fa : Addr} {fd : FuncData} (T : Tx K gl) (F : L2.Fun K "_law_of" "_law_of" st__law_of fa fd) (C__law_next : Cd pr wd K gl bas R 1 "_law_next" 2 s_next) : FnG pr wd K gl bas 2 fa fd ["_law_m", "_law_some"] (spD K R 2 r__law_of) := by
  have sc := sc__law_of
  refine FnG.data (g := g__law_of) F sc rfl fun cdv A out sh H E q F hg hr => ?_
  exact (ds_one (dp_ret (de_ix rfl (dh_v (pv 1)) (dh_of (de_cdO (i := 0) (C__law_next.more (by decide)) rfl hg hr rfl (da_ora (pv 0) (da_cons (de_cb (sem_len rfl) rfl T.n_len (by decide +kernel) (dg_cons (dh_v (pv 1)) dg_nil)) da_nil)))) (fun _ _ => rfl))))
abbrev st__law_fault : Stmt := topS 39
def names__law_fault : List Str := ["_law_e", "_law_found"]
theorem sc__law_fault : FnScope names__law_fault ["_law_e"] (defScope st__law_fault) := ⟨rfl, rfl, rfl, by decide +kernel, rfl, by decide +kernel, by decide +kernel⟩
theorem ok__law_fault {fa : Addr} {fd : FuncData} (T : Tx K gl) (F : L2.Fun K "_law_fault" "_law_fault" st__law_fault fa fd) : FnG pr wd K gl bas 1 fa fd ["_law_e"] (spFault K gl gRs) := by
  have sc := sc__law_fault
  refine FnG.of F sc (fun vs H Q E h => ?_) fun cdv A out sh H vs Q E hg hr h => ⟨_, ?_, fault_sem (te := tTup (tCons (tC (.str "odd")) (tCons (tCB (fun xs H Q => ∃ p ys, xs = [V.ref p] ∧ (SqL K H p ys ∨ SqT K H p ys) ∧ Q (V.int ys.length) H) (tCons (tVar 1) tNil)) tNil))) (by decide) h⟩
  · obtain ⟨B, p, d, fv, r, rfl, _⟩ := h
    rfl
  · exact pss_cons (ps_set (i := 1) sc.nd rfl (by first | exact Or.inl rfl | exact Or.inr rfl) (pe_lst pa_nil))
      (pss_cons (fr_ps (r := ⟨"BadWords", "words", some "number"⟩) (fun C hC => pt_val (pe_callB call_isO rfl T.n_isinstance (by decide +kernel) (pa_cons (pv 0) (pa_cons (pe_glob (v := .ref C) rfl hC rfl) pa_nil)))) (ps_expr (pe_bm PySem.F.plainAttrs_list PySem.F.slot_list_append PySem.F.type_list_append mt_append (pv 1) (pa_cons (pe_tup (pa_cons pe_str (pa_cons (pe_xo (pv 0)) pa_nil))) pa_nil))))
      (pss_cons (fr_ps (r := ⟨"BadSpoken", "spoken", some "number"⟩) (fun C hC => pt_val (pe_callB call_isO rfl T.n_isinstance (by decide +kernel) (pa_cons (pv 0) (pa_cons (pe_glob (v := .ref C) rfl hC rfl) pa_nil)))) (ps_expr (pe_bm PySem.F.plainAttrs_list PySem.F.slot_list_append PySem.F.type_list_append mt_append (pv 1) (pa_cons (pe_tup (pa_cons pe_str (pa_cons (pe_xo (pv 0)) pa_nil))) pa_nil))))
      (pss_cons (fr_ps (r := ⟨"BadRules", "rules", some "number"⟩) (fun C hC => pt_val (pe_callB call_isO rfl T.n_isinstance (by decide +kernel) (pa_cons (pv 0) (pa_cons (pe_glob (v := .ref C) rfl hC rfl) pa_nil)))) (ps_expr (pe_bm PySem.F.plainAttrs_list PySem.F.slot_list_append PySem.F.type_list_append mt_append (pv 1) (pa_cons (pe_tup (pa_cons pe_str (pa_cons (pe_xo (pv 0)) pa_nil))) pa_nil))))
      (pss_cons (fr_ps (r := ⟨"BadFile", "file", some "number"⟩) (fun C hC => pt_val (pe_callB call_isO rfl T.n_isinstance (by decide +kernel) (pa_cons (pv 0) (pa_cons (pe_glob (v := .ref C) rfl hC rfl) pa_nil)))) (ps_expr (pe_bm PySem.F.plainAttrs_list PySem.F.slot_list_append PySem.F.type_list_append mt_append (pv 1) (pa_cons (pe_tup (pa_cons pe_str (pa_cons (pe_xo (pv 0)) pa_nil))) pa_nil))))
      (pss_cons (fr_ps (r := ⟨"BadCuts", "cuts", some "number"⟩) (fun C hC => pt_val (pe_callB call_isO rfl T.n_isinstance (by decide +kernel) (pa_cons (pv 0) (pa_cons (pe_glob (v := .ref C) rfl hC rfl) pa_nil)))) (ps_expr (pe_bm PySem.F.plainAttrs_list PySem.F.slot_list_append PySem.F.type_list_append mt_append (pv 1) (pa_cons (pe_tup (pa_cons pe_str (pa_cons (pe_xo (pv 0)) pa_nil))) pa_nil))))
      (pss_cons (fr_ps (r := ⟨"BadChain", "chain", some "number"⟩) (fun C hC => pt_val (pe_callB call_isO rfl T.n_isinstance (by decide +kernel) (pa_cons (pv 0) (pa_cons (pe_glob (v := .ref C) rfl hC rfl) pa_nil)))) (ps_expr (pe_bm PySem.F.plainAttrs_list PySem.F.slot_list_append PySem.F.type_list_append mt_append (pv 1) (pa_cons (pe_tup (pa_cons pe_str (pa_cons (pe_xo (pv 0)) pa_nil))) pa_nil))))
      (pss_cons (fr_ps (r := ⟨"BadPaper", "paper", some "part"⟩) (fun C hC => pt_val (pe_callB call_isO rfl T.n_isinstance (by decide +kernel) (pa_cons (pv 0) (pa_cons (pe_glob (v := .ref C) rfl hC rfl) pa_nil)))) (ps_expr (pe_bm PySem.F.plainAttrs_list PySem.F.slot_list_append PySem.F.type_list_append mt_append (pv 1) (pa_cons (pe_tup (pa_cons pe_str (pa_cons (pe_xo (pv 0)) pa_nil))) pa_nil))))
      (pss_cons (fr_ps (r := ⟨"BadText", "text", some "line"⟩) (fun C hC => pt_val (pe_callB call_isO rfl T.n_isinstance (by decide +kernel) (pa_cons (pv 0) (pa_cons (pe_glob (v := .ref C) rfl hC rfl) pa_nil)))) (ps_expr (pe_bm PySem.F.plainAttrs_list PySem.F.slot_list_append PySem.F.type_list_append mt_append (pv 1) (pa_cons (pe_tup (pa_cons pe_str (pa_cons (pe_xo (pv 0)) pa_nil))) pa_nil))))
      (pss_cons (fr_ps (r := ⟨"TooGreat", "great", some "most"⟩) (fun C hC => pt_val (pe_callB call_isO rfl T.n_isinstance (by decide +kernel) (pa_cons (pv 0) (pa_cons (pe_glob (v := .ref C) rfl hC rfl) pa_nil)))) (ps_expr (pe_bm PySem.F.plainAttrs_list PySem.F.slot_list_append PySem.F.type_list_append mt_append (pv 1) (pa_cons (pe_tup (pa_cons pe_str (pa_cons (pe_xo (pv 0)) pa_nil))) pa_nil))))
      (pss_cons (fr_ps (r := ⟨"OutOfPlace", "place", none⟩) (fun C hC => pt_val (pe_callB call_isO rfl T.n_isinstance (by decide +kernel) (pa_cons (pv 0) (pa_cons (pe_glob (v := .ref C) rfl hC rfl) pa_nil)))) (ps_expr (pe_bm PySem.F.plainAttrs_list PySem.F.slot_list_append PySem.F.type_list_append mt_append (pv 1) (pa_cons (pe_tup (pa_cons pe_str (pa_cons pe_non pa_nil))) pa_nil))))
      (pss_cons (fr_ps (r := ⟨"Nothing", "nothing", none⟩) (fun C hC => pt_val (pe_callB call_isO rfl T.n_isinstance (by decide +kernel) (pa_cons (pv 0) (pa_cons (pe_glob (v := .ref C) rfl hC rfl) pa_nil)))) (ps_expr (pe_bm PySem.F.plainAttrs_list PySem.F.slot_list_append PySem.F.type_list_append mt_append (pv 1) (pa_cons (pe_tup (pa_cons pe_str (pa_cons pe_non pa_nil))) pa_nil))))
      (pss_one (ps_ret (pe_ifExp (pt_cmpR op_eq (pe_callB call_len_seq rfl T.n_len (by decide +kernel) (pa_cons (pv 1) pa_nil)) pe_int (nomark _)) (pe_ix ix_list (pv 1) pe_int (fun _ _ => rfl)) (pe_tup (pa_cons pe_str (pa_cons (pe_callB call_len_seq rfl T.n_len (by decide +kernel) (pa_cons (pv 1) pa_nil)) pa_nil)))))))))))))))))
abbrev st__law_outcome : Stmt := topS 38
def names__law_outcome : List Str := ["_law_call", "_law_e", "_law_caught", "_law_found"]
theorem sc__law_outcome : FnScope names__law_outcome ["_law_call"] (defScope st__law_outcome) := ⟨rfl, rfl, rfl, by decide +kernel, rfl, by decide +kernel, by decide +kernel⟩
theorem two_len {a b : List Value} (ha : a.length ≤ 100) (hb : b.length ≤ 100) : ∀ cs ∈ [a, b], cs.length ≤ 100 := by
  intro cs hc
  simp only [List.mem_cons, List.not_mem_nil, or_false] at hc
  rcases hc with rfl | rfl
  · exact ha
  · exact hb
theorem gRs_mem (r : FR) : r ∈ gRs ↔ r ∈ gR1 ++ gR2 := by
  simp only [gRs, gR1, gR2, List.mem_cons, List.mem_append, List.not_mem_nil, or_false]
  constructor
  · rintro (h | h | h | h | h | h | h | h | h | h | h) <;> simp only [h, true_or, or_true]
  · rintro ((h | h | h | h | h | h) | h | h | h | h | h) <;> simp only [h, true_or, or_true]
theorem gives__law_outcome {X : Cx} {g ff : Addr} {fdf : FuncData} {cdg : Value} {q : Str} {ca : Str → Addr} (G : GateOk X.K X.mg gRs ca) (hg : X.A.guards = some []) (hr : Room 2 X.A) (Ff : FnG X.prog X.w X.K X.mg X.base 1 ff fdf ["_law_e"] (spFault X.K X.mg gRs)) (gf : X.mg "_law_fault" = some (.ref ff)) (kf : PySem.W.keepIn X.K (.ref ff) = true) (bf : Binds X.K fdf ["_law_e"] []) :
    LamX.GivesTo X names__law_outcome "_law_outcome" (defScope st__law_outcome) g cdg (defBody st__law_outcome) "_law_call" q (TTo X.K X.mg gRs) := by
  have sc := sc__law_outcome
  intro f c' s H Q tl act hc h
  refine ⟨_, ?_, out_sem (ca := ca) (r1 := gR1) (r2 := gR2) (sp := fun sp t => tCall sp [] (fun _ _ _ => False) t) G gRs_mem (fun σ H Q v e z => ⟨v, e, z⟩) h hc⟩
  have nm : ∀ {y : Str}, y ∈ gRs.map (·.c) → Gl (cxOf C8.CX0 X.prog X.w X.K X.mg X.base names__law_outcome "_law_outcome" (defScope st__law_outcome) g cdg X.A X.stack s H C8.E0).nox y → (y == ("__debug__" : Str)) = false → Names (cxOf C8.CX0 X.prog X.w X.K X.mg X.base names__law_outcome "_law_outcome" (defScope st__law_outcome) g cdg X.A X.stack s H C8.E0).nox y (.ref (ca y)) :=
    fun hy hgl hd => by
      obtain ⟨r, hr, rfl⟩ := List.mem_map.mp hy
      exact ⟨hgl, hd, .inl (G r hr).g⟩
  exact pss_cons (ps_asg (pe_tup (pa_cons pe_non (pa_cons pe_non pa_nil))) (pg_tup rfl (pgs_cons (pg_name (i := 2) sc.nd rfl (by first | exact Or.inl rfl | exact Or.inr rfl)) (pgs_cons (pg_name (i := 3) sc.nd rfl (by first | exact Or.inl rfl | exact Or.inr rfl)) pgs_nil))))
    (pss_cons (ps_try_kp (X := (cxOf C8.CX0 X.prog X.w X.K X.mg X.base names__law_outcome "_law_outcome" (defScope st__law_outcome) g cdg X.A X.stack s H C8.E0).nox) (tb := tTry f c' q tl) (l := [gR1.map fun r => .ref (ca r.c), gR2.map fun r => .ref (ca r.c)]) (n := "_law_e") (i := 1) (j := 2) rfl rfl sc.nd rfl rfl
      (fun W pn xe tk po => ⟨fun pins s σ H D I ⟨Ech, hE, h⟩ => (pss_one (ps_set (i := 3) sc.nd rfl (by first | exact Or.inl rfl | exact Or.inr rfl) (act W pn xe Ech _ _ tk hE))).run pins s σ H D I h⟩)
      (.cons (.cons (nm (y := "BadWords") (by decide) rfl rfl) (.cons (nm (y := "BadSpoken") (by decide) rfl rfl) (.cons (nm (y := "BadRules") (by decide) rfl rfl) (.cons (nm (y := "BadFile") (by decide) rfl rfl) (.cons (nm (y := "BadCuts") (by decide) rfl rfl) (.cons (nm (y := "BadChain") (by decide) rfl rfl) .nil)))))) (fun p ob cls d pn z1 z2 => pss_one (ps_set (i := 2) sc.nd rfl (by first | exact Or.inl rfl | exact Or.inr rfl) (pv 1))) (.cons (.cons (nm (y := "BadPaper") (by decide) rfl rfl) (.cons (nm (y := "BadText") (by decide) rfl rfl) (.cons (nm (y := "OutOfPlace") (by decide) rfl rfl) (.cons (nm (y := "TooGreat") (by decide) rfl rfl) (.cons (nm (y := "Nothing") (by decide) rfl rfl) .nil))))) (fun p ob cls d pn z1 z2 => pss_one (ps_set (i := 2) sc.nd rfl (by first | exact Or.inl rfl | exact Or.inr rfl) (pv 1))) .nil)) (two_len (by exact (by decide : (6 : Nat) ≤ 100)) (by exact (by decide : (5 : Nat) ≤ 100))) rfl)
    (pss_one (ps_ret (pe_ifExp (pt_cmpR op_isN (pv 2) pe_non (nomark _)) (pe_lst (pa_cons (pv 3) pa_nil)) (pe_callG Ff hg (hr.deeper _) rfl gf kf bf (pa_cons (pv 2) pa_nil))))))
abbrev st__law_cuts : Stmt := topS 40
def names__law_cuts : List Str := ["_law_m", "_law_most", "_law_far", "_law_found", "_law_k", "_law_here"]
theorem sc__law_cuts : FnScope names__law_cuts ["_law_m", "_law_most", "_law_far"] (defScope st__law_cuts) := ⟨rfl, rfl, rfl, by decide +kernel, rfl, by decide +kernel, by decide +kernel⟩
theorem ok__law_cuts {fa : Addr} {fd : FuncData} (T : Tx K gl) (F : L2.Fun K "_law_cuts" "_law_cuts" st__law_cuts fa fd) (C__law_next : Cd pr wd K gl bas R 1 "_law_next" 2 s_next) (C__law_of : Cd pr wd K gl bas R 2 "_law_of" 2 r__law_of) : FnG pr wd K gl bas 3 fa fd ["_law_m", "_law_most", "_law_far"] (spD K R 3 r__law_cuts) := by
  have sc := sc__law_cuts
  refine FnG.data (g := g__law_cuts) F sc rfl fun cdv A out sh H E q F hg hr => ?_
  exact (ds_cons (dp_setN sc.nd (i := 3) rfl (by first | exact Or.inl rfl | exact Or.inr rfl) (dn_lst dl_nil))
    (ds_cons (dp_for PassesOwn.never rfl (di_range1 rfl T.n_range (dl_cons (de_cdO (i := 0) (C__law_next.more (by decide)) rfl hg hr rfl (da_ora (pv 0) (da_cons (de_bin (sem_add rfl) (dh_v (pv 1)) (dh_of de_int)) da_nil))) dl_nil)) (dg_name sc.nd (i := 4) rfl (by first | exact Or.inl rfl | exact Or.inr rfl)) (ds_cons (dp_set sc.nd (i := 5) rfl (by first | exact Or.inl rfl | exact Or.inr rfl) (de_cdO (i := 0) (C__law_next.more (by decide)) rfl hg hr rfl (da_ora (pv 0) (da_cons (de_v (pv 2)) da_nil))))
    (ds_cons (dp_if (PW.pt (dw_and (dt_cmp (sem_ne rfl (hu64 hr)) (dh_v (pv 3)) (dh_of (de_n (dn_lst dl_nil))) (nomark _)) (pw_and1 (dt_cmp (sem_eq rfl (hu64 hr)) (dh_of (de_cdO (i := 0) (C__law_next.more (by decide)) rfl hg hr rfl (da_ora (pv 0) (da_cons de_int da_nil)))) (dh_of de_int) (nomark _))))) (ds_one (dp_set sc.nd (i := 5) rfl (by first | exact Or.inl rfl | exact Or.inr rfl) (de_ix rfl (dh_of (de_ix rfl (dh_v (pv 3)) (dh_of (de_neg de_int)) (fun _ _ => rfl))) (dh_of de_int) (fun _ _ => rfl)))) ds_nil)
    (ds_one (dp_app rfl (pv 3) (de_tup (dl_cons (de_v (pv 5)) (dl_cons (de_bin (sem_add rfl) (dh_of (de_bin (sem_add rfl) (dh_v (pv 5)) (dh_of de_int))) (dh_of (de_cdO (i := 0) (C__law_next.more (by decide)) rfl hg hr rfl (da_ora (pv 0) (da_cons (de_cdO (i := 0) (C__law_of.more (by decide)) rfl hg hr rfl (da_ora (pv 0) (da_cons (de_n (dn_lst (dl_cons de_int (dl_cons de_int (dl_cons de_int dl_nil))))) da_nil))) da_nil))))) dl_nil))))))))
    (ds_one (dp_ret (de_ct (sem_tuple rfl) rfl T.n_tuple (by decide +kernel) (dg_cons (dh_v (pv 3)) dg_nil))))))
abbrev st__law_sources : Stmt := topS 41
def names__law_sources : List Str := ["_law_cuts_here", "_law_found", "_law_here", "_law_there"]
theorem sc__law_sources : FnScope names__law_sources ["_law_cuts_here"] (defScope st__law_sources) := ⟨rfl, rfl, rfl, by decide +kernel, rfl, by decide +kernel, by decide +kernel⟩
theorem ok__law_sources {fa : Addr} {fd : FuncData} (T : Tx K gl) (F : L2.Fun K "_law_sources" "_law_sources" st__law_sources fa fd) : FnG pr wd K gl bas 1 fa fd ["_law_cuts_here"] (spD K R 1 r__law_sources) := by
  have sc := sc__law_sources
  refine FnG.data (g := g__law_sources) F sc rfl fun cdv A out sh H E q F hg hr => ?_
  exact (ds_cons (dp_set sc.nd (i := 1) rfl (by first | exact Or.inl rfl | exact Or.inr rfl) (de_n (dn_lst dl_nil)))
    (ds_cons (dp_for PassesOwn.never rfl (di_seq rfl (de_v (pv 0))) (dg_tup rfl rfl (dgs_cons (dg_name sc.nd (i := 2) rfl (by first | exact Or.inl rfl | exact Or.inr rfl)) (dgs_cons (dg_name sc.nd (i := 3) rfl (by first | exact Or.inl rfl | exact Or.inr rfl)) dgs_nil))) (ds_one (dp_set sc.nd (i := 1) rfl (by first | exact Or.inl rfl | exact Or.inr rfl) (de_bin (sem_add rfl) (dh_v (pv 1)) (dh_of (de_n (dn_lstRg2 rfl rfl T.n_list rfl T.n_range (de_v (pv 2)) (de_v (pv 3)))))))))
    (ds_one (dp_ret (de_v (pv 1))))))
abbrev st__law_stretches : Stmt := topS 42
def names__law_stretches : List Str := ["_law_frames", "_law_found", "_law_frame"]
theorem sc__law_stretches : FnScope names__law_stretches ["_law_frames"] (defScope st__law_stretches) := ⟨rfl, rfl, rfl, by decide +kernel, rfl, by decide +kernel, by decide +kernel⟩
theorem ok__law_stretches {fa : Addr} {fd : FuncData} (T : Tx K gl) (F : L2.Fun K "_law_stretches" "_law_stretches" st__law_stretches fa fd) : FnG pr wd K gl bas 1 fa fd ["_law_frames"] (spD K R 1 r__law_stretches) := by
  have sc := sc__law_stretches
  refine FnG.data (g := g__law_stretches) F sc rfl fun cdv A out sh H E q F hg hr => ?_
  exact (ds_cons (dp_setN sc.nd (i := 1) rfl (by first | exact Or.inl rfl | exact Or.inr rfl) (dn_lst dl_nil))
    (ds_cons (dp_for PassesOwn.never rfl (di_seq rfl (de_v (pv 0))) (dg_name sc.nd (i := 2) rfl (by first | exact Or.inl rfl | exact Or.inr rfl)) (ds_one (dp_if (PW.pt (dw_and (dt_cmp (sem_ne rfl (hu64 hr)) (dh_v (pv 1)) (dh_of (de_n (dn_lst dl_nil))) (nomark _)) (pw_and1 (dt_cmp (sem_eq rfl (hu64 hr)) (dh_of (de_ix rfl (dh_of (de_ix rfl (dh_v (pv 1)) (dh_of (de_neg de_int)) (fun _ _ => rfl))) (dh_of de_int) (fun _ _ => rfl))) (dh_v (pv 2)) (nomark _))))) (ds_one (dp_put (pv 1) (de_neg de_int) (de_tup (dl_cons (de_ix rfl (dh_of (de_ix rfl (dh_v (pv 1)) (dh_of (de_neg de_int)) (fun _ _ => rfl))) (dh_of de_int) (fun _ _ => rfl)) (dl_cons (de_bin (sem_add rfl) (dh_v (pv 2)) (dh_of de_int)) dl_nil))))) (ds_one (dp_app rfl (pv 1) (de_tup (dl_cons (de_v (pv 2)) (dl_cons (de_bin (sem_add rfl) (dh_v (pv 2)) (dh_of de_int)) dl_nil))))))))
    (ds_one (dp_ret (de_ct (sem_tuple rfl) rfl T.n_tuple (by decide +kernel) (dg_cons (dh_v (pv 1)) dg_nil))))))
abbrev st__law_right : Stmt := topS 43
def names__law_right : List Str := ["_law_m", "_law_one", "_law_other", "_law_told", "_law_last", "_law_due", "_law_more", "_law_frames", "_law_far", "_law_k"]
theorem sc__law_right : FnScope names__law_right ["_law_m", "_law_one", "_law_other"] (defScope st__law_right) := ⟨rfl, rfl, rfl, by decide +kernel, rfl, by decide +kernel, by decide +kernel⟩
abbrev tbL (PL : Addr) : List (Addr × Str) := [(PL, ("_law_right" : Str) ++ ".<locals>." ++ "<lambda>")]
theorem ok__law_right {PL cL go ff : Addr} {fdf : FuncData} {ca : Str → Addr} {oc1 dV1 kV1 dc1 pm1 cd1 ct1 : Value} {od1 an1 : Option Addr} {sl1 : Array (Option Value)} {fa : Addr} {fd : FuncData} (T : Tx K gl) (F : L2.Fun K "_law_right" "_law_right" st__law_right fa fd) (C__law_sources : Cd pr wd K gl bas (srcOrcT (tbL PL)) 1 "_law_sources" 1 r__law_sources) (C_alike_cuts : Cd pr wd K gl bas (srcOrcT (tbL PL)) 5 "alike_cuts" 2 r_alike_cuts) (C_source : Cd pr wd K gl bas (srcOrcT (tbL PL)) 5 "source" 2 r_source) (C_plain : Cd pr wd K gl bas (srcOrcT (tbL PL)) 5 "plain" 1 r_plain) (C_length : Cd pr wd K gl bas (srcOrcT (tbL PL)) 5 "length" 1 r_length) (C__law_stretches : Cd pr wd K gl bas (srcOrcT (tbL PL)) 1 "_law_stretches" 1 r__law_stretches) (C__law_next : Cd pr wd K gl bas (srcOrcT (tbL PL)) 1 "_law_next" 2 s_next) (C_twice : Cd pr wd K gl bas (srcOrcT (tbL PL)) 5 "twice" 1 r_twice) (C_lost : Cd pr wd K gl bas (srcOrcT (tbL PL)) 5 "lost" 2 r_lost) (CX_source : CdX pr wd K gl bas (srcOrcT (tbL PL)) 6 "source" 2 rx_source) (hcl : fd.code = .ref cL) (TB : LamX.TabB bas gl cL PL) (GG : GateOk K gl gRs ca) (go1 : gl "_law_outcome" = some (.ref go)) (go2 : PySem.W.keepIn K (.ref go) = true) (go3 : K.lookup go = some ⟨oc1, od1, .func (PySem.W.fnOf "_law_outcome" "_law_outcome" (defArgs st__law_outcome) (defBody st__law_outcome) (defScope st__law_outcome) dV1 kV1 dc1 pm1 an1 cd1 ct1), sl1⟩) (go4 : PySem.W.codeIn K cd1 "_law_outcome" = true) (go5 : L2.Binds K (PySem.W.fnOf "_law_outcome" "_law_outcome" (defArgs st__law_outcome) (defBody st__law_outcome) (defScope st__law_outcome) dV1 kV1 dc1 pm1 an1 cd1 ct1) ["_law_call"] []) (gf1 : FnG pr wd K gl bas 1 ff fdf ["_law_e"] (spFault K gl gRs)) (gf2 : gl "_law_fault" = some (.ref ff)) (gf3 : PySem.W.keepIn K (.ref ff) = true) (gf4 : Binds K fdf ["_law_e"] []) : FnG pr wd K gl bas 9 fa fd ["_law_m", "_law_one", "_law_other"] (spD K (srcOrcT (tbL PL)) 3 r__law_right) := by
  have sc := sc__law_right
  refine FnG.dataL (g := g__law_right) F sc rfl fun cdv hcd0 A out sh H E q F hg hr => ?_
  have hcd : Value.ref cL = cdv := hcl.symm.trans hcd0
  exact (ds_cons (dp_asg (de_tup (dl_cons (de_cd (C__law_sources.more (by decide)) rfl hg hr rfl (da_cons (de_v (pv 1)) da_nil)) (dl_cons (de_cd (C__law_sources.more (by decide)) rfl hg hr rfl (da_cons (de_v (pv 2)) da_nil)) dl_nil))) (dg_tup rfl rfl (dgs_cons (dg_name sc.nd (i := 7) rfl (by first | exact Or.inl rfl | exact Or.inr rfl)) (dgs_cons (dg_name sc.nd (i := 8) rfl (by first | exact Or.inl rfl | exact Or.inr rfl)) dgs_nil))))
    (ds_cons (dp_set sc.nd (i := 3) rfl (by first | exact Or.inl rfl | exact Or.inr rfl) (de_n (dn_lst (dl_cons (de_cd (C_length.more (by decide)) rfl hg hr rfl (da_cons (de_v (pv 1)) da_nil)) (dl_cons (de_cd (C_plain.more (by decide)) rfl hg hr rfl (da_cons (de_v (pv 1)) da_nil)) (dl_cons (de_n (dn_lc (own := [("_law_k", 9)]) rfl sc.nd (di_range1 rfl T.n_range (dl_cons (de_cb (sem_len rfl) rfl T.n_len (by decide +kernel) (dg_cons (dh_v (pv 7)) dg_nil)) dl_nil)) (blkOk_by (own := [("_law_k", 9)]) (N := names__law_right) (sc := defScope st__law_right) (by decide +kernel)) (by decide) (fun _ _ _ _ _ => (dg_name sc.nd (i := 9) rfl (by first | exact Or.inl rfl | exact Or.inr rfl))) (fun _ _ _ _ _ => dts_nil) (fun _ _ _ _ _ => (de_cd (C_source.more (by decide)) rfl hg hr rfl (da_cons (de_v (pv 1)) (da_cons (de_v (pv 9)) da_nil)))))) (dl_cons (de_cd (C_alike_cuts.more (by decide)) rfl hg hr rfl (da_cons (de_v (pv 1)) (da_cons (de_v (pv 2)) da_nil))) dl_nil)))))))
    (ds_cons (dp_if (dt_cmp (sem_neS) (dh_of (de_cb (sem_reprA rfl hg (hu64 hr)) rfl T.n_repr (by decide +kernel) (dg_cons (dh_v (pv 3)) dg_nil))) (dh_of (de_cb (sem_reprA rfl hg (hu64 hr)) rfl T.n_repr (by decide +kernel) (dg_cons (dh_of (de_n (dn_lst (dl_cons (de_cb (sem_len rfl) rfl T.n_len (by decide +kernel) (dg_cons (dh_v (pv 7)) dg_nil)) (dl_cons (de_cd (C__law_stretches.more (by decide)) rfl hg hr rfl (da_cons (de_v (pv 7)) da_nil)) (dl_cons (de_v (pv 7)) (dl_cons (de_cmp (sem_eq rfl (hu64 hr)) (dh_v (pv 7)) (dh_v (pv 8)) (nomark _)) dl_nil))))))) dg_nil))) (nomark _)) (ds_one (dp_ret de_bl)) ds_nil)
    (ds_cons (dp_if (dt_cmp (sem_ne rfl (hu64 hr)) (dh_of (de_gateS (i := 0) (k := 6) rfl rfl (CX_source.more (by decide)) GG ⟨⟨rfl, go1, by decide⟩, ⟨go2, go4⟩, ⟨_, _, _, _, _, _, _, _, _, _, go3, go5⟩, sc__law_outcome, rfl, (by first | exact Or.inl rfl | exact Or.inr (Or.inl rfl)), by decide, by decide⟩ ⟨⟨LamX.lamS_by rfl, rfl⟩, fun _ _ _ _ _ => rfl, ⟨TB, hcd.symm⟩, List.mem_singleton.mpr rfl, fun p hp _ => (congrArg (fun z => z.2) (List.mem_singleton.mp hp)).trans rfl⟩ (gives__law_outcome GG hg (hr.mono (by decide)) gf1 gf2 gf3 gf4) (hr.mono (by decide)) hg (fun A outer s H E f c2 hg hr => ⟨rfl, (da_cons (de_v (pv 1)) (da_cons (de_bin (sem_add rfl) (dh_of (de_cb (sem_len rfl) rfl T.n_len (by decide +kernel) (dg_cons (dh_v (pv 7)) dg_nil))) (dh_of (de_cdO (i := 0) (C__law_next.more (by decide)) rfl hg hr rfl (da_ora (pv 0) (da_cons de_int da_nil))))) da_nil)), rfl, rfl⟩))) (dh_of (de_tup (dl_cons de_str (dl_cons de_non dl_nil)))) (nomark _)) (ds_one (dp_ret de_bl)) ds_nil)
    (ds_cons (dp_set sc.nd (i := 4) rfl (by first | exact Or.inl rfl | exact Or.inr rfl) (de_cdO (i := 0) (C__law_next.more (by decide)) rfl hg hr rfl (da_ora (pv 0) (da_cons de_int da_nil))))
    (ds_cons (dp_set sc.nd (i := 5) rfl (by first | exact Or.inl rfl | exact Or.inr rfl) (de_cd (C__law_stretches.more (by decide)) rfl hg hr rfl (da_cons (de_n (dn_lc (own := [("_law_k", 9)]) rfl sc.nd (di_range1 rfl T.n_range (dl_cons (de_v (pv 4)) dl_nil)) (blkOk_by (own := [("_law_k", 9)]) (N := names__law_right) (sc := defScope st__law_right) (by decide +kernel)) (by decide) (fun _ _ _ _ _ => (dg_name sc.nd (i := 9) rfl (by first | exact Or.inl rfl | exact Or.inr rfl))) (fun _ _ _ _ _ => (dts_one (dt_cmp (sem_notin rfl (hu65 hr)) (dh_v (pv 9)) (dh_v (pv 7)) rfl))) (fun _ _ _ _ _ => (de_v (pv 9))))) da_nil)))
    (ds_cons (dp_set sc.nd (i := 6) rfl (by first | exact Or.inl rfl | exact Or.inr rfl) (de_cd (C__law_stretches.more (by decide)) rfl hg hr rfl (da_cons (de_n (dn_lc (own := [("_law_k", 9)]) rfl sc.nd (di_range1 rfl T.n_range (dl_cons de_int dl_nil)) (blkOk_by (own := [("_law_k", 9)]) (N := names__law_right) (sc := defScope st__law_right) (by decide +kernel)) (by decide) (fun _ _ _ _ _ => (dg_name sc.nd (i := 9) rfl (by first | exact Or.inl rfl | exact Or.inr rfl))) (fun _ _ _ _ _ => (dts_one (dt_cmp (sem_gt) (dh_of (de_cnt rfl (hu64 hr) (de_v (pv 7)) (de_v (pv 9)))) (dh_of de_int) (nomark _)))) (fun _ _ _ _ _ => (de_v (pv 9))))) da_nil)))
    (ds_one (dp_ret (de_cmp (sem_eqS) (dh_of (de_cb (sem_reprA rfl hg (hu64 hr)) rfl T.n_repr (by decide +kernel) (dg_cons (dh_of (de_n (dn_lst (dl_cons (de_cd (C_lost.more (by decide)) rfl hg hr rfl (da_cons (de_v (pv 1)) (da_cons (de_v (pv 4)) da_nil))) (dl_cons (de_cd (C_twice.more (by decide)) rfl hg hr rfl (da_cons (de_v (pv 1)) da_nil)) dl_nil))))) dg_nil))) (dh_of (de_cb (sem_reprA rfl hg (hu64 hr)) rfl T.n_repr (by decide +kernel) (dg_cons (dh_of (de_n (dn_lst (dl_cons (de_v (pv 5)) (dl_cons (de_v (pv 6)) dl_nil))))) dg_nil))) (nomark _)))))))))))
abbrev st__law_otherwise : Stmt := topS 44
def names__law_otherwise : List Str := ["_law_m", "_law_cuts_here", "_law_k", "_law_here", "_law_there", "_law_cut"]
theorem sc__law_otherwise : FnScope names__law_otherwise ["_law_m", "_law_cuts_here"] (defScope st__law_otherwise) := ⟨rfl, rfl, rfl, by decide +kernel, rfl, by decide +kernel, by decide +kernel⟩
theorem ok__law_otherwise {fa : Addr} {fd : FuncData} (T : Tx K gl) (F : L2.Fun K "_law_otherwise" "_law_otherwise" st__law_otherwise fa fd) (C__law_next : Cd pr wd K gl bas R 1 "_law_next" 2 s_next) (C_plain : Cd pr wd K gl bas R 5 "plain" 1 r_plain) : FnG pr wd K gl bas 6 fa fd ["_law_m", "_law_cuts_here"] (spD K R 2 r__law_otherwise) := by
  have sc := sc__law_otherwise
  refine FnG.data (g := g__law_otherwise) F sc rfl fun cdv A out sh H E q F hg hr => ?_
  exact (ds_cons (dp_if (dt_cmp (sem_eq rfl (hu64 hr)) (dh_v (pv 1)) (dh_of (de_tup dl_nil)) (nomark _)) (ds_one (dp_ret (de_v (pv 1)))) ds_nil)
    (ds_cons (dp_set sc.nd (i := 2) rfl (by first | exact Or.inl rfl | exact Or.inr rfl) (de_cdO (i := 0) (C__law_next.more (by decide)) rfl hg hr rfl (da_ora (pv 0) (da_cons (de_cb (sem_len rfl) rfl T.n_len (by decide +kernel) (dg_cons (dh_v (pv 1)) dg_nil)) da_nil))))
    (ds_cons (dp_asg (de_ix rfl (dh_v (pv 1)) (dh_v (pv 2)) (fun _ _ => rfl)) (dg_tup rfl rfl (dgs_cons (dg_name sc.nd (i := 3) rfl (by first | exact Or.inl rfl | exact Or.inr rfl)) (dgs_cons (dg_name sc.nd (i := 4) rfl (by first | exact Or.inl rfl | exact Or.inr rfl)) dgs_nil))))
    (ds_cons (dp_if (PW.pt (dw_and (dt_cmp (sem_gt) (dh_of (de_bin (sem_sub) (dh_v (pv 4)) (dh_v (pv 3)))) (dh_of de_int) (nomark _)) (pw_and1 (dt_cmp (sem_eq rfl (hu64 hr)) (dh_of (de_cdO (i := 0) (C__law_next.more (by decide)) rfl hg hr rfl (da_ora (pv 0) (da_cons de_int da_nil)))) (dh_of de_int) (nomark _))))) (ds_cons (dp_set sc.nd (i := 5) rfl (by first | exact Or.inl rfl | exact Or.inr rfl) (de_bin (sem_add rfl) (dh_of (de_bin (sem_add rfl) (dh_v (pv 3)) (dh_of de_int))) (dh_of (de_cdO (i := 0) (C__law_next.more (by decide)) rfl hg hr rfl (da_ora (pv 0) (da_cons (de_bin (sem_sub) (dh_of (de_bin (sem_sub) (dh_v (pv 4)) (dh_v (pv 3)))) (dh_of de_int)) da_nil))))))
    (ds_one (dp_ret (de_bin (sem_add rfl) (dh_of (de_bin (sem_add rfl) (dh_of (de_sl rfl (dh_v (pv 1)) do_no (do_i (de_v (pv 2))))) (dh_of (de_tup (dl_cons (de_tup (dl_cons (de_v (pv 3)) (dl_cons (de_v (pv 5)) dl_nil))) (dl_cons (de_tup (dl_cons (de_v (pv 5)) (dl_cons (de_v (pv 4)) dl_nil))) dl_nil)))))) (dh_of (de_sl rfl (dh_v (pv 1)) (do_i (de_bin (sem_add rfl) (dh_v (pv 2)) (dh_of de_int))) do_no)))))) ds_nil)
    (ds_one (dp_ret (de_cd (C_plain.more (by decide)) rfl hg hr rfl (da_cons (de_v (pv 1)) da_nil))))))))
abbrev st__law_next : Stmt := topS 36
def names__law_next : List Str := ["_law_m", "_law_total", "_law_k", "_law_cell", "_law_mixed", "_law_rest"]
theorem sc__law_next : FnScope names__law_next ["_law_m", "_law_total"] (defScope st__law_next) := ⟨rfl, rfl, rfl, by decide +kernel, rfl, by decide +kernel, by decide +kernel⟩
theorem ok__law_next {fa : Addr} {fd : FuncData} (T : Tx K gl) (F : L2.Fun K "_law_next" "_law_next" st__law_next fa fd) : FnG pr wd K gl bas 1 fa fd ["_law_m", "_law_total"] (spD K (srcOrcT Tb) 2 s_next) := by
  have nd := sc__law_next.nd
  refine FnG.of F sc__law_next (fun vs H Q E ⟨q, F0, as, m, P, w, pa, hl, _⟩ => by rw [paired_len pa, hl]; rfl) fun cdv A out sh H vs Q E hg hr ⟨qo, F0, as, m, P, w, pa, hl, ho, hq, hm, ⟨n, eas, n0, n1, m1, kP⟩, k0⟩ => ?_
  subst eas
  obtain ⟨v1, vs, rfl, a1, pa⟩ : ∃ v1 vs', vs = v1 :: vs' ∧ ArAt ⟨K, (srcOrcT Tb), qo, F0, H⟩ F0 v1 .ora ∧ Paired (ArAt ⟨K, (srcOrcT Tb), qo, F0, H⟩ F0) vs' [.d (.int n)] := by
    cases pa with
    | cons a b => (exact ⟨_, _, rfl, a, b⟩)
  obtain ⟨v2, rfl, a2⟩ : ∃ v2, vs = [v2] ∧ ArAt ⟨K, (srcOrcT Tb), qo, F0, H⟩ F0 v2 (.d (.int n)) := by
    cases pa with
    | cons a b => cases b; exact ⟨_, rfl, a⟩
  obtain ⟨q, eq, rfl⟩ := a1
  cases (show qo = some q from eq)
  have e2 : v2 = .int n := by
    have z : At K F0 v2 (.int n) := a2
    cases z
    rfl
  subst e2
  obtain ⟨⟨c, l, cs, ls, k, s0⟩, -⟩ := w.or q rfl
  have hk : k ≤ m := by have := hm q rfl; rw [s0.spot] at this; exact this
  refine ⟨_, pss_cons (ps_while PassesOwn.never (PW.pt (pw_and (pt_cmpR (op_neD (hu64 hr)) (pe_dget (hu_of hr) (pv 0) pe_str (fun _ _ => rfl)) (pe_lst pa_nil) (nomark _)) (pw_and1 (pt_cmpR op_eq (pe_ix ix_list (pe_dget (hu_of hr) (pv 0) pe_str (fun _ _ => rfl)) pe_int (fun _ _ => rfl)) pe_int (nomark _)))))
      (pss_one (ps_dput (hu_of hr) (pv 0) pe_str (pe_slice sl_list (pe_dget (hu_of hr) (pv 0) pe_str (fun _ _ => rfl)) (po_some pe_int) po_none) rfl)))
    (pss_cons (ps_if (pt_cmpR (op_neD (hu64 hr)) (pe_dget (hu_of hr) (pv 0) pe_str (fun _ _ => rfl)) (pe_lst pa_nil) (nomark _))
      (pss_cons (ps_set (i := 5) nd rfl (Or.inl rfl) (pe_callTy call_int1 rfl T.n_int (by decide +kernel) (pa_cons (pe_ix ix_list (pe_dget (hu_of hr) (pv 0) pe_str (fun _ _ => rfl)) pe_int (fun _ _ => rfl)) pa_nil)))
        (pss_cons (ps_asg (pe_op op_fdiv (pv 5) (pv 1)) (pg_sub (pe_dget (hu_of hr) (pv 0) pe_str (fun _ _ => rfl)) pe_int set_list))
          (pss_one (ps_ret (pe_op op_mod (pv 5) (pv 1)))))) pss_nil)
    (pss_cons (ps_set (i := 2) nd rfl (Or.inl rfl) (pe_op op_add (pe_dget (hu_of hr) (pv 0) pe_str (fun _ _ => rfl)) pe_int))
    (pss_cons (ps_dput (hu_of hr) (pv 0) pe_str (pv 2) rfl)
    (pss_cons (ps_set (i := 3) nd rfl (Or.inl rfl) (pe_ifExp (pt_cmpR (op_neD (hu64 hr)) (pe_dget (hu_of hr) (pv 0) pe_str (fun _ _ => rfl)) (pe_lst pa_nil) (nomark _))
        (pe_ix ix_list (pe_dget (hu_of hr) (pv 0) pe_str (fun _ _ => rfl)) (pe_op op_mod (pe_callTy call_int1 rfl T.n_int (by decide +kernel) (pa_cons (pv 2) pa_nil)) (pe_callB call_len_seq rfl T.n_len (by decide +kernel) (pa_cons (pe_dget (hu_of hr) (pv 0) pe_str (fun _ _ => rfl)) pa_nil))) (fun _ _ => rfl)) pe_int))
    (pss_cons (ps_set (i := 4) nd rfl (Or.inl rfl) (pe_op op_mul (pe_callTy call_int1 rfl T.n_int (by decide +kernel) (pa_cons (pe_op op_add (pe_op op_add (pe_op op_mod (pe_callTy call_int1 rfl T.n_int (by decide +kernel) (pa_cons (pv 3) pa_nil)) pe_int) (pe_op op_mul pe_int (pv 2))) (pe_op op_mul (pe_op op_mul pe_int (pv 2)) (pv 2))) pa_nil)) pe_int))
    (pss_cons (ps_set (i := 4) nd rfl (Or.inl rfl) (pe_op op_mul (pe_callTy call_int1 rfl T.n_int (by decide +kernel) (pa_cons (pe_op op_add (pe_op op_mod (pe_callTy call_int1 rfl T.n_int (by decide +kernel) (pa_cons (pv 4) pa_nil)) pe_int) (pe_op op_mul pe_int (pv 2))) pa_nil)) pe_int))
    (pss_one (ps_ret (pe_op op_mod (pe_callTy call_int1 rfl T.n_int (by decide +kernel) (pa_cons (pe_op op_fdiv (pe_op op_mod (pe_callTy call_int1 rfl T.n_int (by decide +kernel) (pa_cons (pv 4) pa_nil)) pe_int) pe_int) pa_nil)) (pv 1)))))))))), ?_⟩
  have fin : ∀ (r : Int) (H' : Hp) (l' : Addr) (ls' : List Int) (k' : Nat), 0 ≤ r → r < n → SrcAt H' q c l' cs ls' k' → k' ≤ k + 1 → Tou q H H' → Q (.int r) H' := by
    intro r H' l' ls' k' r0 r1 s' hk' t'
    refine k0 (.int r) (m + 1) _ F0 H' (kP r r0 r1) (t'.world w ⟨_, _, _, _, _, s'⟩) (fun p e => ?_) (.int r)
    cases e
    rw [s'.spot]
    omega
  have modn : ∀ x : Int, 0 ≤ x % n ∧ x % n < n := fun x => ⟨Int.emod_nonneg x (by omega), Int.emod_lt_of_pos x n0⟩
  refine next_while s0 rfl fun l1 ls1 H1 s1 t1 => ?_
  refine ne_left s1 rfl fun H2 s2 t2 => ?_
  have t12 := t1.trans t2
  cases ls1 with
  | cons x r =>
    refine rdL s2 rfl ⟨l1, _, 0, .int x, rfl, rfl, SqL.of s2.dl, by simp [atI, ixN], .inl ⟨_, rfl, ?_⟩⟩
    refine ⟨_, rfl, _, rfl, _, _, rfl, rfl, ⟨n0, n1⟩, ?_⟩
    refine rdL s2 rfl ⟨l1, _, 0, 0, rfl, rfl, s2.dl, by simp [ixN], ?_⟩
    have e1 : ((x :: r).map V.int).set 0 (V.int (x / n)) = ((x / n) :: r).map V.int := rfl
    rw [e1]
    have s3 := s2.setV ((x / n) :: r) s2.nl
    refine ⟨_, rfl, _, rfl, _, _, rfl, rfl, n0, ?_⟩
    exact fin _ _ _ _ _ (modn x).1 (modn x).2 s3 (Nat.le_succ k) (t12.trans (Tou.putL s2))
  | nil =>
    refine rdS s2 rfl ⟨_, _, rfl, rfl, ?_⟩
    change L2.gName 2 (V.int ((k + 1 : Nat) : Int)) _ H2 _
    refine ⟨_, rfl, _, rfl, q, _, rfl, DPut.k (k := kS) s2.dq small3, ?_⟩
    have s3 : SrcAt (upd H2 q (.dK [(kC, .ref c), (kL, .ref l1), (kS, .int ((k + 1 : Nat) : Int))])) q c l1 cs [] (k + 1) := s2.setS (k + 1)
    have t3 := t12.trans (Tou.putQ (l' := l1) (v := .int ((k + 1 : Nat) : Int)) s2 (.inl rfl) (fun _ z => by cases z))
    rw [put_kS]
    have kb : ((k + 1 : Nat) : Int) < 2097152 := by omega
    have kn : (0 : Int) ≤ ((k + 1 : Nat) : Int) := by omega
    generalize ((k + 1 : Nat) : Int) = j at kb kn s3 t3
    refine cell_use s3 rfl rfl fun z H4 s4 t4 => ?_
    have small : ∀ i : Int, 0 ≤ i → i < 2097152 → (-(2 ^ 64) < i ∧ i < 2 ^ 64) := fun i a b => ⟨by omega, by omega⟩
    refine ⟨_, rfl, .inl ⟨_, rfl, ?_⟩⟩
    refine ⟨_, _, rfl, rfl, (by decide : (0 : Int) < 2147483563), ?_⟩
    refine ⟨_, rfl, _, _, rfl, rfl, .inl ⟨by decide, by decide⟩, ?_⟩
    refine ⟨_, _, rfl, rfl, ?_⟩
    refine ⟨_, rfl, _, _, rfl, rfl, .inl ⟨by decide, by decide⟩, ?_⟩
    refine ⟨_, rfl, _, _, rfl, rfl, .inr (small j kn kb), ?_⟩
    refine ⟨_, _, rfl, rfl, .inl ⟨_, rfl, ?_⟩⟩
    refine ⟨_, _, rfl, rfl, .inr ⟨by decide, by decide⟩, ?_⟩
    refine ⟨_, rfl, .inl ⟨_, rfl, ?_⟩⟩
    refine ⟨_, _, rfl, rfl, (by decide : (0 : Int) < 2147483563), ?_⟩
    refine ⟨_, rfl, _, _, rfl, rfl, .inl ⟨by decide, by decide⟩, ?_⟩
    refine ⟨_, _, rfl, rfl, .inl ⟨_, rfl, ?_⟩⟩
    refine ⟨_, _, rfl, rfl, .inr ⟨by decide, by decide⟩, ?_⟩
    refine ⟨_, rfl, .inl ⟨_, rfl, ?_⟩⟩
    refine ⟨_, _, rfl, rfl, (by decide : (0 : Int) < 2147483549), ?_⟩
    refine ⟨_, _, rfl, rfl, ⟨by decide, by decide⟩, .inl ⟨_, rfl, ?_⟩⟩
    refine ⟨_, rfl, _, _, rfl, rfl, n0, ?_⟩
    exact fin _ _ _ _ _ (modn _).1 (modn _).2 s4 (Nat.le_refl _) (t3.trans t4)
abbrev st__law_begun : Stmt := topS 35
def names__law_begun : List Str := ["_law_script", "_law_cell"]
theorem sc__law_begun : FnScope names__law_begun ["_law_script"] (defScope st__law_begun) := ⟨rfl, rfl, rfl, by decide +kernel, rfl, by decide +kernel, by decide +kernel⟩
theorem ok__law_begun {fa : Addr} {fd : FuncData} (T : Tx K gl) (F : L2.Fun K "_law_begun" "_law_begun" st__law_begun fa fd) : FnG pr wd K gl bas 1 fa fd ["_law_script"] (spBegun K) := by
  have sc := sc__law_begun
  refine FnG.of F sc (fun vs H Q E h => ?_) fun cdv A out sh H vs Q E hg hr h => ?_
  · obtain ⟨a, ns, rfl, _⟩ := h
    rfl
  obtain ⟨a, ns, rfl, sq, hl, k⟩ := h
  refine ⟨_, pss_one (ps_ret (pe_disp (pps_cons pe_str (dn_list (c := ⟨K, Orc.nil, none, H, H⟩) rfl rfl T.n_list (dg_cons (dh_v (pv 0)) dg_nil)) (pps_cons pe_str (dn_lc (c := ⟨K, Orc.nil, none, H, H⟩) (own := [("_law_cell", 1)]) rfl sc.nd (di_seq rfl (de_v (pv 0))) (blkOk_by (own := [("_law_cell", 1)]) (N := names__law_begun) (sc := defScope st__law_begun) (by decide +kernel)) (by decide) (fun _ _ _ _ _ => (dg_name sc.nd (i := 1) rfl (by first | exact Or.inl rfl | exact Or.inr rfl))) (fun _ _ _ _ _ => (dts_one (dt_cmp (sem_ge) (dh_v (pv 1)) (dh_of (de_bin (sem_pow) (dh_of de_int) (dh_of de_int))) (nomark _)))) (fun _ _ _ _ _ => (de_v (pv 1)))) (pps_cons pe_str pe_int pps_nil))) rfl rfl (by decide) (by decide))), ?_⟩
  have w : World Orc.nil none H H H H := World.start (Ex.refl H) (fun _ _ z => z) fun _ z => nomatch z
  have r : Rel ⟨K, Orc.nil, none, H, H⟩ H H (start names__law_begun [.ref a]) (startE names__law_begun.length [.d (.list (ns.map PyData.int))] 0) [] :=
    rel_start w (.cons (.lst sq (AtAll.ofInts ns)) .nil) (fun i z => by cases i with | zero => rfl | succ i => cases z) fun _ z => nomatch z
  exact disp_use r rfl rfl (made_data ns hl) (by omega) (Nat.le_trans (great_len ns) (by omega)) fun q c l H' e1 e2 e3 e4 s => k q c l _ _ H' e1 e2 e3 e4 s
abbrev st_law : Stmt := topS 45
def names_law : List Str := ["_law_script", "_law_m", "_law_turn", "_law_one", "_law_other"]
theorem sc_law : FnScope names_law ["_law_script"] (defScope st_law) := ⟨rfl, rfl, rfl, by decide +kernel, rfl, by decide +kernel, by decide +kernel⟩
theorem noIm (i : Nat) (d : D) : ([.ora 0, .no, .no, .no] : List Sl)[i]? ≠ some (.im d) := by
  intro e
  have := List.mem_of_getElem? e
  simp at this
theorem noOw {ns : List Int} (i : Nat) (d : D) : ([.im (.list (ns.map PyData.int)), .ora 0, .no, .no, .no] : List Sl)[i]? ≠ some (.ow d) := by
  intro e
  have := List.mem_of_getElem? e
  simp at this
theorem oneOra {ns : List Int} (i m : Nat) (e : ([.im (.list (ns.map PyData.int)), .ora 0, .no, .no, .no] : List Sl)[i]? = some (.ora m)) : i = 1 ∧ m = 0 := by
  have hi : i < 5 := by
    have := (List.getElem?_eq_some_iff.mp e).1
    simpa using this
  have : i = 0 ∨ i = 1 ∨ i = 2 ∨ i = 3 ∨ i = 4 := by omega
  rcases this with rfl | rfl | rfl | rfl | rfl <;> simp at e <;> simp [e]
theorem rel_law {Tb : List (Addr × Str)} {K : PySem.W.Frag} {q c l a : Addr} {H H1 : Hp} {cs ls ns : List Int} (w : World (srcOrcT Tb) (some q) H H1 H H1) (sq : SqL K H a (ns.map V.int)) (s : SrcAt H1 q c l cs ls 0) :
    Rel ⟨K, (srcOrcT Tb), some q, H, H1⟩ H H1 ((start names_law [.ref a]).set 1 (some (.ref q))) [.im (.list (ns.map PyData.int)), .ora 0, .no, .no, .no] [] := by
  refine ⟨w, ⟨rfl, fun i d e => ?_, fun i d e => ?_, fun i j d e b z => ?_, fun i n e => ?_, fun i j m n e1 e2 => ?_, (fun _ hp => nomatch hp), List.nodup_nil⟩⟩
  · rcases i with _ | i
    · cases e
      exact ⟨_, rfl, .lst sq (AtAll.ofInts ns)⟩
    · exact absurd e (noIm i d)
  · exact absurd e (noOw i d)
  · exact absurd z (noOw i d)
  · obtain ⟨rfl, rfl⟩ := oneOra i n e
    exact ⟨q, rfl, rfl, by rw [s.spot]; exact Nat.le_refl _⟩
  · rw [(oneOra i m e1).1, (oneOra j n e2).1]
def spLawG (K : PySem.W.Frag) (PL : Addr) : Sp := fun vs H Q _ => ∃ (a : Addr) (ns : List Int), vs = [.ref a] ∧ SqL K H a (ns.map V.int) ∧ ns.length ≤ 63 ∧ H PL = some (.tbl #[]) ∧ ∀ H', Q (.bl true) H'
theorem ok_law {PL : Addr} {fa fb : Addr} {fd fdb : FuncData} (T : Tx K gl) (F : L2.Fun K "law" "law" st_law fa fd) (Fb : FnG pr wd K gl bas 1 fb fdb ["_law_script"] (spBegun K)) (gb : gl "_law_begun" = some (.ref fb)) (kb : PySem.W.keepIn K (.ref fb) = true) (bb : Binds K fdb ["_law_script"] []) (C__law_cuts : Cd pr wd K gl bas (srcOrcT (tbL PL)) 3 "_law_cuts" 3 r__law_cuts) (C__law_otherwise : Cd pr wd K gl bas (srcOrcT (tbL PL)) 6 "_law_otherwise" 2 r__law_otherwise) (C__law_right : Cd pr wd K gl bas (srcOrcT (tbL PL)) 9 "_law_right" 3 r__law_right) (C_plain : Cd pr wd K gl bas (srcOrcT (tbL PL)) 5 "plain" 1 r_plain)
    (says : ∀ ns : List Int, ns.length ≤ 63 → lawSays ns) : FnG pr wd K gl bas 10 fa fd ["_law_script"] (spLawG K PL) := by
  have sc := sc_law
  refine FnG.of F sc (fun vs H Q E h => ?_) fun cdv A out sh H vs Q E hg hr h => ?_
  · obtain ⟨a, ns, rfl, _⟩ := h
    rfl
  obtain ⟨a, ns, rfl, sq, hl, htb, k⟩ := h
  refine ⟨_, pss_cons (ps_set (i := 1) sc.nd rfl (by first | exact Or.inl rfl | exact Or.inr rfl) (pe_callG Fb hg (hr.mono (by decide)) rfl gb kb bb (pa_cons (pv 0) pa_nil)))
    (pss_some (ι := Option Addr × Hp × Hp) (t := fun i => tS ⟨K, (srcOrcT (tbL PL)), i.1, i.2.1, i.2.2⟩ g_law) fun ⟨qo, F0, H0⟩ => ?_), ?_⟩
  · exact (ds_cons (dp_for PassesOwn.never rfl (di_range1 rfl T.n_range (dl_cons (de_bin (sem_add rfl) (dh_of de_int) (dh_of (de_cb (sem_min rfl rfl) rfl T.n_min (by decide +kernel) (dg_cons (dh_of (de_cb (sem_len rfl) rfl T.n_len (by decide +kernel) (dg_cons (dh_v (pv 0)) dg_nil))) (dg_cons (dh_of de_int) dg_nil))))) dl_nil)) (dg_name sc.nd (i := 2) rfl (by first | exact Or.inl rfl | exact Or.inr rfl)) (ds_cons (dp_set sc.nd (i := 3) rfl (by first | exact Or.inl rfl | exact Or.inr rfl) (de_cdO (i := 1) (C__law_cuts.more (by decide)) rfl hg hr rfl (da_ora (pv 1) (da_cons de_int (da_cons de_int da_nil)))))
    (ds_one (dp_for PassesOwn.never rfl (di_seq rfl (de_tup (dl_cons (de_cdO (i := 1) (C__law_otherwise.more (by decide)) rfl hg hr rfl (da_ora (pv 1) (da_cons (de_v (pv 3)) da_nil))) (dl_cons (de_cdO (i := 1) (C__law_cuts.more (by decide)) rfl hg hr rfl (da_ora (pv 1) (da_cons de_int (da_cons de_int da_nil)))) (dl_cons (de_revT rfl (dh_v (pv 3))) (dl_cons (de_bin (sem_add rfl) (dh_v (pv 3)) (dh_v (pv 3))) dl_nil)))))) (dg_name sc.nd (i := 4) rfl (by first | exact Or.inl rfl | exact Or.inr rfl)) (ds_one (dp_if (PW.pt (dw_or (dt_not (dt_truth rfl (dh_of (de_cdO (i := 1) (C__law_right.more (by decide)) rfl hg hr rfl (da_ora (pv 1) (da_cons (de_v (pv 3)) (da_cons (de_v (pv 4)) da_nil))))))) (pw_or1 (dt_not (dt_truth rfl (dh_of (de_cdO (i := 1) (C__law_right.more (by decide)) rfl hg hr rfl (da_ora (pv 1) (da_cons (de_v (pv 4)) (da_cons (de_v (pv 3)) da_nil)))))))))) (ds_one (dp_ret de_bl)) ds_nil))))))
    (ds_one (dp_ret (de_cmp (sem_eq rfl (hu64 hr)) (dh_of (de_cd (C_plain.more (by decide)) rfl hg hr rfl (da_cons (de_tup (dl_cons (de_tup (dl_cons de_int (dl_cons de_int dl_nil))) (dl_cons (de_tup (dl_cons de_int (dl_cons de_int dl_nil))) (dl_cons (de_tup (dl_cons de_int (dl_cons de_int dl_nil))) dl_nil)))) da_nil))) (dh_of (de_tup (dl_cons (de_tup (dl_cons de_int (dl_cons de_int dl_nil))) (dl_cons (de_tup (dl_cons de_int (dl_cons de_int dl_nil))) dl_nil)))) (nomark _)))))
  refine ⟨.ref a, rfl, a, ns, rfl, sq, hl, fun q c l cs ls H1 ex hq hc hL s => ⟨(some q, Fo H, H1), Fo H, _, [], _, ?_, says ns hl, ?_, ?_, ?_, ?_⟩⟩
  · refine rel_law (world_law (fun p hp => ?_) ex hq hc hL s) (fo_sq sq) s
    rw [List.mem_singleton.mp hp]
    exact htb
  · exact fun _ _ _ _ z => z.elim
  · rintro d v ρ' σ' F' H' rfl _ at_
    cases at_
    exact k _
  · exact fun _ _ _ _ z => z.elim
  · exact fun _ _ _ _ z => z.elim
end
end Q63
namespace Q63
open PySem L2 DL
open PySem.W (nsIn keepIn codeIn fnOf)
theorem all_mk {l : PySem.W.OpenLaw} {wd : PySem.World} {K : PySem.W.Frag} {h : Heap} {gl : Str → Option Value} {fa : Addr} (X : K.In h) (G : h.Ns mainGlobals gl) (hfa : gl "law" = some (.ref fa))
    {f0 : Addr} {od0 an0 : Option Addr} {sl0 : Array (Option Value)} {oc0 kV0 dc0 pm0 cd0 ct0 : Value}
    (a0 : nsIn K mainGlobals "is_integer" = some (some (.ref f0))) (l0 : K.lookup f0 = some ⟨oc0, od0, .func (fnOf "is_integer" "is_integer" (defArgs st_is_integer) (defBody st_is_integer) (defScope st_is_integer) .none kV0 dc0 pm0 an0 cd0 ct0), sl0⟩) (c0 : codeIn K cd0 "is_integer" = true) (k0 : keepIn K (.ref f0) = true)
    {f1 : Addr} {od1 an1 : Option Addr} {sl1 : Array (Option Value)} {oc1 kV1 dc1 pm1 cd1 ct1 : Value}
    (a1 : nsIn K mainGlobals "is_within" = some (some (.ref f1))) (l1 : K.lookup f1 = some ⟨oc1, od1, .func (fnOf "is_within" "is_within" (defArgs st_is_within) (defBody st_is_within) (defScope st_is_within) .none kV1 dc1 pm1 an1 cd1 ct1), sl1⟩) (c1 : codeIn K cd1 "is_within" = true) (k1 : keepIn K (.ref f1) = true)
    {f2 : Addr} {od2 an2 : Option Addr} {sl2 : Array (Option Value)} {oc2 kV2 dc2 pm2 cd2 ct2 : Value}
    (a2 : nsIn K mainGlobals "is_tuple" = some (some (.ref f2))) (l2 : K.lookup f2 = some ⟨oc2, od2, .func (fnOf "is_tuple" "is_tuple" (defArgs st_is_tuple) (defBody st_is_tuple) (defScope st_is_tuple) .none kV2 dc2 pm2 an2 cd2 ct2), sl2⟩) (c2 : codeIn K cd2 "is_tuple" = true) (k2 : keepIn K (.ref f2) = true)
    {f3 : Addr} {od3 an3 : Option Addr} {sl3 : Array (Option Value)} {oc3 kV3 dc3 pm3 cd3 ct3 : Value}
    (a3 : nsIn K mainGlobals "is_stretch" = some (some (.ref f3))) (l3 : K.lookup f3 = some ⟨oc3, od3, .func (fnOf "is_stretch" "is_stretch" (defArgs st_is_stretch) (defBody st_is_stretch) (defScope st_is_stretch) .none kV3 dc3 pm3 an3 cd3 ct3), sl3⟩) (c3 : codeIn K cd3 "is_stretch" = true) (k3 : keepIn K (.ref f3) = true)
    {f4 : Addr} {od4 an4 : Option Addr} {sl4 : Array (Option Value)} {oc4 kV4 dc4 pm4 cd4 ct4 : Value}
    (a4 : nsIn K mainGlobals "need_cuts" = some (some (.ref f4))) (l4 : K.lookup f4 = some ⟨oc4, od4, .func (fnOf "need_cuts" "need_cuts" (defArgs st_need_cuts) (defBody st_need_cuts) (defScope st_need_cuts) .none kV4 dc4 pm4 an4 cd4 ct4), sl4⟩) (c4 : codeIn K cd4 "need_cuts" = true) (k4 : keepIn K (.ref f4) = true)
    {f5 : Addr} {od5 an5 : Option Addr} {sl5 : Array (Option Value)} {oc5 kV5 dc5 pm5 cd5 ct5 : Value}
    (a5 : nsIn K mainGlobals "length_of" = some (some (.ref f5))) (l5 : K.lookup f5 = some ⟨oc5, od5, .func (fnOf "length_of" "length_of" (defArgs st_length_of) (defBody st_length_of) (defScope st_length_of) .none kV5 dc5 pm5 an5 cd5 ct5), sl5⟩) (c5 : codeIn K cd5 "length_of" = true) (k5 : keepIn K (.ref f5) = true)
    {f6 : Addr} {od6 an6 : Option Addr} {sl6 : Array (Option Value)} {oc6 kV6 dc6 pm6 cd6 ct6 : Value}
    (a6 : nsIn K mainGlobals "length" = some (some (.ref f6))) (l6 : K.lookup f6 = some ⟨oc6, od6, .func (fnOf "length" "length" (defArgs st_length) (defBody st_length) (defScope st_length) .none kV6 dc6 pm6 an6 cd6 ct6), sl6⟩) (c6 : codeIn K cd6 "length" = true) (k6 : keepIn K (.ref f6) = true)
    {f7 : Addr} {od7 an7 : Option Addr} {sl7 : Array (Option Value)} {oc7 kV7 dc7 pm7 cd7 ct7 : Value}
    (a7 : nsIn K mainGlobals "_place_of" = some (some (.ref f7))) (l7 : K.lookup f7 = some ⟨oc7, od7, .func (fnOf "_place_of" "_place_of" (defArgs st__place_of) (defBody st__place_of) (defScope st__place_of) .none kV7 dc7 pm7 an7 cd7 ct7), sl7⟩) (c7 : codeIn K cd7 "_place_of" = true) (k7 : keepIn K (.ref f7) = true)
    {f8 : Addr} {od8 an8 : Option Addr} {sl8 : Array (Option Value)} {oc8 kV8 dc8 pm8 cd8 ct8 : Value}
    (a8 : nsIn K mainGlobals "source" = some (some (.ref f8))) (l8 : K.lookup f8 = some ⟨oc8, od8, .func (fnOf "source" "source" (defArgs st_source) (defBody st_source) (defScope st_source) .none kV8 dc8 pm8 an8 cd8 ct8), sl8⟩) (c8 : codeIn K cd8 "source" = true) (k8 : keepIn K (.ref f8) = true)
    {f9 : Addr} {od9 an9 : Option Addr} {sl9 : Array (Option Value)} {oc9 kV9 dc9 pm9 cd9 ct9 : Value}
    (a9 : nsIn K mainGlobals "_joined" = some (some (.ref f9))) (l9 : K.lookup f9 = some ⟨oc9, od9, .func (fnOf "_joined" "_joined" (defArgs st__joined) (defBody st__joined) (defScope st__joined) .none kV9 dc9 pm9 an9 cd9 ct9), sl9⟩) (c9 : codeIn K cd9 "_joined" = true) (k9 : keepIn K (.ref f9) = true)
    {f10 : Addr} {od10 an10 : Option Addr} {sl10 : Array (Option Value)} {oc10 kV10 dc10 pm10 cd10 ct10 : Value}
    (a10 : nsIn K mainGlobals "plain" = some (some (.ref f10))) (l10 : K.lookup f10 = some ⟨oc10, od10, .func (fnOf "plain" "plain" (defArgs st_plain) (defBody st_plain) (defScope st_plain) .none kV10 dc10 pm10 an10 cd10 ct10), sl10⟩) (c10 : codeIn K cd10 "plain" = true) (k10 : keepIn K (.ref f10) = true)
    {f11 : Addr} {od11 an11 : Option Addr} {sl11 : Array (Option Value)} {oc11 kV11 dc11 pm11 cd11 ct11 : Value}
    (a11 : nsIn K mainGlobals "alike_cuts" = some (some (.ref f11))) (l11 : K.lookup f11 = some ⟨oc11, od11, .func (fnOf "alike_cuts" "alike_cuts" (defArgs st_alike_cuts) (defBody st_alike_cuts) (defScope st_alike_cuts) .none kV11 dc11 pm11 an11 cd11 ct11), sl11⟩) (c11 : codeIn K cd11 "alike_cuts" = true) (k11 : keepIn K (.ref f11) = true)
    {f12 : Addr} {od12 an12 : Option Addr} {sl12 : Array (Option Value)} {oc12 kV12 dc12 pm12 cd12 ct12 : Value}
    (a12 : nsIn K mainGlobals "_bounds_of" = some (some (.ref f12))) (l12 : K.lookup f12 = some ⟨oc12, od12, .func (fnOf "_bounds_of" "_bounds_of" (defArgs st__bounds_of) (defBody st__bounds_of) (defScope st__bounds_of) .none kV12 dc12 pm12 an12 cd12 ct12), sl12⟩) (c12 : codeIn K cd12 "_bounds_of" = true) (k12 : keepIn K (.ref f12) = true)
    {f13 : Addr} {od13 an13 : Option Addr} {sl13 : Array (Option Value)} {oc13 kV13 dc13 pm13 cd13 ct13 : Value}
    (a13 : nsIn K mainGlobals "_many_over" = some (some (.ref f13))) (l13 : K.lookup f13 = some ⟨oc13, od13, .func (fnOf "_many_over" "_many_over" (defArgs st__many_over) (defBody st__many_over) (defScope st__many_over) .none kV13 dc13 pm13 an13 cd13 ct13), sl13⟩) (c13 : codeIn K cd13 "_many_over" = true) (k13 : keepIn K (.ref f13) = true)
    {f14 : Addr} {od14 an14 : Option Addr} {sl14 : Array (Option Value)} {oc14 kV14 dc14 pm14 cd14 ct14 : Value}
    (a14 : nsIn K mainGlobals "twice" = some (some (.ref f14))) (l14 : K.lookup f14 = some ⟨oc14, od14, .func (fnOf "twice" "twice" (defArgs st_twice) (defBody st_twice) (defScope st_twice) .none kV14 dc14 pm14 an14 cd14 ct14), sl14⟩) (c14 : codeIn K cd14 "twice" = true) (k14 : keepIn K (.ref f14) = true)
    {f15 : Addr} {od15 an15 : Option Addr} {sl15 : Array (Option Value)} {oc15 kV15 dc15 pm15 cd15 ct15 : Value}
    (a15 : nsIn K mainGlobals "_not_shown" = some (some (.ref f15))) (l15 : K.lookup f15 = some ⟨oc15, od15, .func (fnOf "_not_shown" "_not_shown" (defArgs st__not_shown) (defBody st__not_shown) (defScope st__not_shown) .none kV15 dc15 pm15 an15 cd15 ct15), sl15⟩) (c15 : codeIn K cd15 "_not_shown" = true) (k15 : keepIn K (.ref f15) = true)
    {f16 : Addr} {od16 an16 : Option Addr} {sl16 : Array (Option Value)} {oc16 kV16 dc16 pm16 cd16 ct16 : Value}
    (a16 : nsIn K mainGlobals "lost" = some (some (.ref f16))) (l16 : K.lookup f16 = some ⟨oc16, od16, .func (fnOf "lost" "lost" (defArgs st_lost) (defBody st_lost) (defScope st_lost) .none kV16 dc16 pm16 an16 cd16 ct16), sl16⟩) (c16 : codeIn K cd16 "lost" = true) (k16 : keepIn K (.ref f16) = true)
    {f17 : Addr} {od17 an17 : Option Addr} {sl17 : Array (Option Value)} {oc17 kV17 dc17 pm17 cd17 ct17 : Value}
    (a17 : nsIn K mainGlobals "_law_of" = some (some (.ref f17))) (l17 : K.lookup f17 = some ⟨oc17, od17, .func (fnOf "_law_of" "_law_of" (defArgs st__law_of) (defBody st__law_of) (defScope st__law_of) .none kV17 dc17 pm17 an17 cd17 ct17), sl17⟩) (c17 : codeIn K cd17 "_law_of" = true) (k17 : keepIn K (.ref f17) = true)
    {f18 : Addr} {od18 an18 : Option Addr} {sl18 : Array (Option Value)} {oc18 kV18 dc18 pm18 cd18 ct18 : Value}
    (a18 : nsIn K mainGlobals "_law_fault" = some (some (.ref f18))) (l18 : K.lookup f18 = some ⟨oc18, od18, .func (fnOf "_law_fault" "_law_fault" (defArgs st__law_fault) (defBody st__law_fault) (defScope st__law_fault) .none kV18 dc18 pm18 an18 cd18 ct18), sl18⟩) (c18 : codeIn K cd18 "_law_fault" = true) (k18 : keepIn K (.ref f18) = true)
    {f19 : Addr} {od19 an19 : Option Addr} {sl19 : Array (Option Value)} {oc19 kV19 dc19 pm19 cd19 ct19 : Value}
    (a19 : nsIn K mainGlobals "_law_outcome" = some (some (.ref f19))) (l19 : K.lookup f19 = some ⟨oc19, od19, .func (fnOf "_law_outcome" "_law_outcome" (defArgs st__law_outcome) (defBody st__law_outcome) (defScope st__law_outcome) .none kV19 dc19 pm19 an19 cd19 ct19), sl19⟩) (c19 : codeIn K cd19 "_law_outcome" = true) (k19 : keepIn K (.ref f19) = true)
    {f20 : Addr} {od20 an20 : Option Addr} {sl20 : Array (Option Value)} {oc20 kV20 dc20 pm20 cd20 ct20 : Value}
    (a20 : nsIn K mainGlobals "_law_cuts" = some (some (.ref f20))) (l20 : K.lookup f20 = some ⟨oc20, od20, .func (fnOf "_law_cuts" "_law_cuts" (defArgs st__law_cuts) (defBody st__law_cuts) (defScope st__law_cuts) .none kV20 dc20 pm20 an20 cd20 ct20), sl20⟩) (c20 : codeIn K cd20 "_law_cuts" = true) (k20 : keepIn K (.ref f20) = true)
    {f21 : Addr} {od21 an21 : Option Addr} {sl21 : Array (Option Value)} {oc21 kV21 dc21 pm21 cd21 ct21 : Value}
    (a21 : nsIn K mainGlobals "_law_sources" = some (some (.ref f21))) (l21 : K.lookup f21 = some ⟨oc21, od21, .func (fnOf "_law_sources" "_law_sources" (defArgs st__law_sources) (defBody st__law_sources) (defScope st__law_sources) .none kV21 dc21 pm21 an21 cd21 ct21), sl21⟩) (c21 : codeIn K cd21 "_law_sources" = true) (k21 : keepIn K (.ref f21) = true)
    {f22 : Addr} {od22 an22 : Option Addr} {sl22 : Array (Option Value)} {oc22 kV22 dc22 pm22 cd22 ct22 : Value}
    (a22 : nsIn K mainGlobals "_law_stretches" = some (some (.ref f22))) (l22 : K.lookup f22 = some ⟨oc22, od22, .func (fnOf "_law_stretches" "_law_stretches" (defArgs st__law_stretches) (defBody st__law_stretches) (defScope st__law_stretches) .none kV22 dc22 pm22 an22 cd22 ct22), sl22⟩) (c22 : codeIn K cd22 "_law_stretches" = true) (k22 : keepIn K (.ref f22) = true)
    {f23 : Addr} {od23 an23 : Option Addr} {sl23 : Array (Option Value)} {oc23 kV23 dc23 pm23 cd23 ct23 : Value}
    (a23 : nsIn K mainGlobals "_law_right" = some (some (.ref f23))) (l23 : K.lookup f23 = some ⟨oc23, od23, .func (fnOf "_law_right" "_law_right" (defArgs st__law_right) (defBody st__law_right) (defScope st__law_right) .none kV23 dc23 pm23 an23 cd23 ct23), sl23⟩) (c23 : codeIn K cd23 "_law_right" = true) (k23 : keepIn K (.ref f23) = true)
    {f24 : Addr} {od24 an24 : Option Addr} {sl24 : Array (Option Value)} {oc24 kV24 dc24 pm24 cd24 ct24 : Value}
    (a24 : nsIn K mainGlobals "_law_otherwise" = some (some (.ref f24))) (l24 : K.lookup f24 = some ⟨oc24, od24, .func (fnOf "_law_otherwise" "_law_otherwise" (defArgs st__law_otherwise) (defBody st__law_otherwise) (defScope st__law_otherwise) .none kV24 dc24 pm24 an24 cd24 ct24), sl24⟩) (c24 : codeIn K cd24 "_law_otherwise" = true) (k24 : keepIn K (.ref f24) = true)
    {f25 : Addr} {od25 an25 : Option Addr} {sl25 : Array (Option Value)} {oc25 kV25 dc25 pm25 cd25 ct25 : Value}
    (a25 : nsIn K mainGlobals "_law_next" = some (some (.ref f25))) (l25 : K.lookup f25 = some ⟨oc25, od25, .func (fnOf "_law_next" "_law_next" (defArgs st__law_next) (defBody st__law_next) (defScope st__law_next) .none kV25 dc25 pm25 an25 cd25 ct25), sl25⟩) (c25 : codeIn K cd25 "_law_next" = true) (k25 : keepIn K (.ref f25) = true)
    {f26 : Addr} {od26 an26 : Option Addr} {sl26 : Array (Option Value)} {oc26 kV26 dc26 pm26 cd26 ct26 : Value}
    (a26 : nsIn K mainGlobals "_law_begun" = some (some (.ref f26))) (l26 : K.lookup f26 = some ⟨oc26, od26, .func (fnOf "_law_begun" "_law_begun" (defArgs st__law_begun) (defBody st__law_begun) (defScope st__law_begun) .none kV26 dc26 pm26 an26 cd26 ct26), sl26⟩) (c26 : codeIn K cd26 "_law_begun" = true) (k26 : keepIn K (.ref f26) = true)
    {f27 : Addr} {od27 an27 : Option Addr} {sl27 : Array (Option Value)} {oc27 kV27 dc27 pm27 cd27 ct27 : Value}
    (a27 : nsIn K mainGlobals "law" = some (some (.ref f27))) (l27 : K.lookup f27 = some ⟨oc27, od27, .func (fnOf "law" "law" (defArgs st_law) (defBody st_law) (defScope st_law) .none kV27 dc27 pm27 an27 cd27 ct27), sl27⟩) (c27 : codeIn K cd27 "law" = true) (k27 : keepIn K (.ref f27) = true)
    {PL cL : Addr} (hcL : cd23 = .ref cL) (gG : gRs.map (rowL K gRs) = gRs.map (rowR K gRs))
    {C0 gI0 : Addr} {nm0 qq0 : Str} {N0 : Addr} {bs0 : List Value} {sn0 : List Str} {sub0 : List Value} {ab0 : Bool} {col0 : Option Bool} {dd0 : Option Addr} {ma0 mb0 mc0 md0 mf0 : Option Value} {iod0 ian0 : Option Addr} {isl0 : Array (Option Value)} {ioc0 ikV0 idc0 ipm0 icd0 ict0 : Value}
    (xa0 : nsIn K mainGlobals "BadCuts" = some (some (.ref C0))) (xl0 : K.lookup C0 = some (PySem.excClassObj nm0 qq0 C0 N0 bs0 [.type "ValueError", .type "Exception", .type "BaseException", .type "object"] true sn0 sub0 ab0 col0 dd0 ma0 mb0 mc0 md0 mf0 "ValueError.__new__"))
    (xs0 : PySem.W.findIn K (.ref C0) "__setattr__" = some (some (.builtin "object.__setattr__"))) (xe0 : PySem.W.subIn K (.ref C0) (.type "BaseException") = some true) (xt0 : PySem.W.typeIn K (.ref C0) = some (.type "type")) (xk0 : keepIn K (.ref C0) = true) (xc0 : PySem.W.isClsIn K C0 = true) (xb0 : PySem.W.subIn K (.ref C0) (.ref C0) = some true)
    (xi0 : PySem.W.findIn K (.ref C0) "__init__" = some (some (.ref gI0))) (xy0 : PySem.W.typeIn K (.ref gI0) = some (.type "function")) (xf0 : K.lookup gI0 = some ⟨ioc0, iod0, .func (fnOf "__init__" "BadCuts.__init__" (defArgs st_BadCuts) (defBody st_BadCuts) (defScope st_BadCuts) .none ikV0 idc0 ipm0 ian0 icd0 ict0), isl0⟩) (xd0 : codeIn K icd0 "BadCuts.__init__" = true) (xg0 : keepIn K (.ref gI0) = true)
    (xn0 : PySem.W.findIn K (.ref C0) "number" = some none)
    {C1 gI1 : Addr} {nm1 qq1 : Str} {N1 : Addr} {bs1 : List Value} {sn1 : List Str} {sub1 : List Value} {ab1 : Bool} {col1 : Option Bool} {dd1 : Option Addr} {ma1 mb1 mc1 md1 mf1 : Option Value} {iod1 ian1 : Option Addr} {isl1 : Array (Option Value)} {ioc1 ikV1 idc1 ipm1 icd1 ict1 : Value}
    (xa1 : nsIn K mainGlobals "OutOfPlace" = some (some (.ref C1))) (xl1 : K.lookup C1 = some (PySem.excClassObj nm1 qq1 C1 N1 bs1 [.type "ValueError", .type "Exception", .type "BaseException", .type "object"] true sn1 sub1 ab1 col1 dd1 ma1 mb1 mc1 md1 mf1 "ValueError.__new__"))
    (xs1 : PySem.W.findIn K (.ref C1) "__setattr__" = some (some (.builtin "object.__setattr__"))) (xe1 : PySem.W.subIn K (.ref C1) (.type "BaseException") = some true) (xt1 : PySem.W.typeIn K (.ref C1) = some (.type "type")) (xk1 : keepIn K (.ref C1) = true) (xc1 : PySem.W.isClsIn K C1 = true) (xb1 : PySem.W.subIn K (.ref C1) (.ref C1) = some true)
    (xi1 : PySem.W.findIn K (.ref C1) "__init__" = some (some (.ref gI1))) (xy1 : PySem.W.typeIn K (.ref gI1) = some (.type "function")) (xf1 : K.lookup gI1 = some ⟨ioc1, iod1, .func (fnOf "__init__" "OutOfPlace.__init__" (defArgs st_OutOfPlace) (defBody st_OutOfPlace) (defScope st_OutOfPlace) .none ikV1 idc1 ipm1 ian1 icd1 ict1), isl1⟩) (xd1 : codeIn K icd1 "OutOfPlace.__init__" = true) (xg1 : keepIn K (.ref gI1) = true)
    {C2 gI2 : Addr} {nm2 qq2 : Str} {N2 : Addr} {bs2 : List Value} {sn2 : List Str} {sub2 : List Value} {ab2 : Bool} {col2 : Option Bool} {dd2 : Option Addr} {ma2 mb2 mc2 md2 mf2 : Option Value} {iod2 ian2 : Option Addr} {isl2 : Array (Option Value)} {ioc2 ikV2 idc2 ipm2 icd2 ict2 : Value}
    (xa2 : nsIn K mainGlobals "Nothing" = some (some (.ref C2))) (xl2 : K.lookup C2 = some (PySem.excClassObj nm2 qq2 C2 N2 bs2 luMro true sn2 sub2 ab2 col2 dd2 ma2 mb2 mc2 md2 mf2 "LookupError.__new__"))
    (xs2 : PySem.W.findIn K (.ref C2) "__setattr__" = some (some (.builtin "object.__setattr__"))) (xe2 : PySem.W.subIn K (.ref C2) (.type "BaseException") = some true) (xt2 : PySem.W.typeIn K (.ref C2) = some (.type "type")) (xk2 : keepIn K (.ref C2) = true) (xc2 : PySem.W.isClsIn K C2 = true) (xb2 : PySem.W.subIn K (.ref C2) (.ref C2) = some true)
    (xi2 : PySem.W.findIn K (.ref C2) "__init__" = some (some (.ref gI2))) (xy2 : PySem.W.typeIn K (.ref gI2) = some (.type "function")) (xf2 : K.lookup gI2 = some ⟨ioc2, iod2, .func (fnOf "__init__" "Nothing.__init__" (defArgs st_Nothing) (defBody st_Nothing) (defScope st_Nothing) .none ikV2 idc2 ipm2 ian2 icd2 ict2), isl2⟩) (xd2 : codeIn K icd2 "Nothing.__init__" = true) (xg2 : keepIn K (.ref gI2) = true)
    (xvLookupError : PySem.W.findCls K (.type "LookupError") (.type "type") "__init__" = some (.val (.builtin "LookupError.__init__")))
    (xvV : PySem.W.findCls K (.type "ValueError") (.type "type") "__init__" = some (.val (.builtin "ValueError.__init__")))
    (z_LookupError : nsIn K mainGlobals "LookupError" = some none)
    (z_ValueError : nsIn K mainGlobals "ValueError" = some none)
    (z_bool : nsIn K mainGlobals "bool" = some none)
    (z_enumerate : nsIn K mainGlobals "enumerate" = some none)
    (z_int : nsIn K mainGlobals "int" = some none)
    (z_isinstance : nsIn K mainGlobals "isinstance" = some none)
    (z_len : nsIn K mainGlobals "len" = some none)
    (z_list : nsIn K mainGlobals "list" = some none)
    (z_min : nsIn K mainGlobals "min" = some none)
    (z_range : nsIn K mainGlobals "range" = some none)
    (z_repr : nsIn K mainGlobals "repr" = some none)
    (z_sorted : nsIn K mainGlobals "sorted" = some none)
    (z_sum : nsIn K mainGlobals "sum" = some none)
    (z_tuple : nsIn K mainGlobals "tuple" = some none)
    (z_zip : nsIn K mainGlobals "zip" = some none)
    {t_MOST_FRAME : Tok} (v_MOST_FRAME : nsIn K mainGlobals "MOST_FRAME" = some (some (.int 1000000000000 t_MOST_FRAME)))
    {t_MOST_LENGTH : Tok} (v_MOST_LENGTH : nsIn K mainGlobals "MOST_LENGTH" = some (some (.int 1000000000000 t_MOST_LENGTH)))
    {t_MOST_STRETCHES : Tok} (v_MOST_STRETCHES : nsIn K mainGlobals "MOST_STRETCHES" = some (some (.int 60 t_MOST_STRETCHES)))
    (says : ∀ ns : List Int, ns.length ≤ 63 → lawSays ns) :
    ∃ fd : FuncData, (∀ (s : Shared) (v : Value), BindsTo s fd ⟨[v], []⟩ [("_law_script", v)]) ∧ ∀ bas : Heap, K.In bas → bas.Ns mainGlobals gl → (∀ p ∈ [(cL, PL)], LamX.TabB bas gl p.1 p.2) → FnG l.prog wd K gl bas 10 fa fd ["_law_script"] (spLawG K PL) := by
  have e := hfa.symm.trans (PySem.W.mg_of X G a27)
  cases e
  have T : Tx K gl := ⟨PySem.W.mg_none_of X G z_LookupError, PySem.W.mg_none_of X G z_ValueError, PySem.W.mg_none_of X G z_bool, PySem.W.mg_none_of X G z_enumerate, PySem.W.mg_none_of X G z_int, PySem.W.mg_none_of X G z_isinstance, PySem.W.mg_none_of X G z_len, PySem.W.mg_none_of X G z_list, PySem.W.mg_none_of X G z_min, PySem.W.mg_none_of X G z_range, PySem.W.mg_none_of X G z_repr, PySem.W.mg_none_of X G z_sorted, PySem.W.mg_none_of X G z_sum, PySem.W.mg_none_of X G z_tuple, PySem.W.mg_none_of X G z_zip, ⟨_, PySem.W.mg_of X G v_MOST_FRAME⟩, ⟨_, PySem.W.mg_of X G v_MOST_LENGTH⟩, ⟨_, PySem.W.mg_of X G v_MOST_STRETCHES⟩⟩
  have F0 := fun_mk (st := st_is_integer) l0 c0 k0
  have b0 := F0.binds (ps := ["thing"]) fun _ _ _ _ _ _ us hl => match us, hl with | [_], _ => rfl
  have F1 := fun_mk (st := st_is_within) l1 c1 k1
  have b1 := F1.binds (ps := ["thing", "least", "most"]) fun _ _ _ _ _ _ us hl => match us, hl with | [_, _, _], _ => rfl
  have F2 := fun_mk (st := st_is_tuple) l2 c2 k2
  have b2 := F2.binds (ps := ["thing", "least", "most"]) fun _ _ _ _ _ _ us hl => match us, hl with | [_, _, _], _ => rfl
  have F3 := fun_mk (st := st_is_stretch) l3 c3 k3
  have b3 := F3.binds (ps := ["thing"]) fun _ _ _ _ _ _ us hl => match us, hl with | [_], _ => rfl
  have F4 := fun_mk (st := st_need_cuts) l4 c4 k4
  have b4 := F4.binds (ps := ["thing"]) fun _ _ _ _ _ _ us hl => match us, hl with | [_], _ => rfl
  have F5 := fun_mk (st := st_length_of) l5 c5 k5
  have b5 := F5.binds (ps := ["cuts"]) fun _ _ _ _ _ _ us hl => match us, hl with | [_], _ => rfl
  have F6 := fun_mk (st := st_length) l6 c6 k6
  have b6 := F6.binds (ps := ["cuts"]) fun _ _ _ _ _ _ us hl => match us, hl with | [_], _ => rfl
  have F7 := fun_mk (st := st__place_of) l7 c7 k7
  have b7 := F7.binds (ps := ["cuts", "frame"]) fun _ _ _ _ _ _ us hl => match us, hl with | [_, _], _ => rfl
  have F8 := fun_mk (st := st_source) l8 c8 k8
  have b8 := F8.binds (ps := ["cuts", "frame"]) fun _ _ _ _ _ _ us hl => match us, hl with | [_, _], _ => rfl
  have F9 := fun_mk (st := st__joined) l9 c9 k9
  have b9 := F9.binds (ps := ["stretches"]) fun _ _ _ _ _ _ us hl => match us, hl with | [_], _ => rfl
  have F10 := fun_mk (st := st_plain) l10 c10 k10
  have b10 := F10.binds (ps := ["cuts"]) fun _ _ _ _ _ _ us hl => match us, hl with | [_], _ => rfl
  have F11 := fun_mk (st := st_alike_cuts) l11 c11 k11
  have b11 := F11.binds (ps := ["one", "other"]) fun _ _ _ _ _ _ us hl => match us, hl with | [_, _], _ => rfl
  have F12 := fun_mk (st := st__bounds_of) l12 c12 k12
  have b12 := F12.binds (ps := ["cuts"]) fun _ _ _ _ _ _ us hl => match us, hl with | [_], _ => rfl
  have F13 := fun_mk (st := st__many_over) l13 c13 k13
  have b13 := F13.binds (ps := ["cuts", "frame"]) fun _ _ _ _ _ _ us hl => match us, hl with | [_, _], _ => rfl
  have F14 := fun_mk (st := st_twice) l14 c14 k14
  have b14 := F14.binds (ps := ["cuts"]) fun _ _ _ _ _ _ us hl => match us, hl with | [_], _ => rfl
  have F15 := fun_mk (st := st__not_shown) l15 c15 k15
  have b15 := F15.binds (ps := ["cuts", "start", "end"]) fun _ _ _ _ _ _ us hl => match us, hl with | [_, _, _], _ => rfl
  have F16 := fun_mk (st := st_lost) l16 c16 k16
  have b16 := F16.binds (ps := ["cuts", "end"]) fun _ _ _ _ _ _ us hl => match us, hl with | [_, _], _ => rfl
  have F17 := fun_mk (st := st__law_of) l17 c17 k17
  have b17 := F17.binds (ps := ["_law_m", "_law_some"]) fun _ _ _ _ _ _ us hl => match us, hl with | [_, _], _ => rfl
  have F18 := fun_mk (st := st__law_fault) l18 c18 k18
  have b18 := F18.binds (ps := ["_law_e"]) fun _ _ _ _ _ _ us hl => match us, hl with | [_], _ => rfl
  have F19 := fun_mk (st := st__law_outcome) l19 c19 k19
  have b19 := F19.binds (ps := ["_law_call"]) fun _ _ _ _ _ _ us hl => match us, hl with | [_], _ => rfl
  have F20 := fun_mk (st := st__law_cuts) l20 c20 k20
  have b20 := F20.binds (ps := ["_law_m", "_law_most", "_law_far"]) fun _ _ _ _ _ _ us hl => match us, hl with | [_, _, _], _ => rfl
  have F21 := fun_mk (st := st__law_sources) l21 c21 k21
  have b21 := F21.binds (ps := ["_law_cuts_here"]) fun _ _ _ _ _ _ us hl => match us, hl with | [_], _ => rfl
  have F22 := fun_mk (st := st__law_stretches) l22 c22 k22
  have b22 := F22.binds (ps := ["_law_frames"]) fun _ _ _ _ _ _ us hl => match us, hl with | [_], _ => rfl
  have F23 := fun_mk (st := st__law_right) l23 c23 k23
  have b23 := F23.binds (ps := ["_law_m", "_law_one", "_law_other"]) fun _ _ _ _ _ _ us hl => match us, hl with | [_, _, _], _ => rfl
  have F24 := fun_mk (st := st__law_otherwise) l24 c24 k24
  have b24 := F24.binds (ps := ["_law_m", "_law_cuts_here"]) fun _ _ _ _ _ _ us hl => match us, hl with | [_, _], _ => rfl
  have F25 := fun_mk (st := st__law_next) l25 c25 k25
  have b25 := F25.binds (ps := ["_law_m", "_law_total"]) fun _ _ _ _ _ _ us hl => match us, hl with | [_, _], _ => rfl
  have F26 := fun_mk (st := st__law_begun) l26 c26 k26
  have b26 := F26.binds (ps := ["_law_script"]) fun _ _ _ _ _ _ us hl => match us, hl with | [_], _ => rfl
  have F27 := fun_mk (st := st_law) l27 c27 k27
  have b27 := F27.binds (ps := ["_law_script"]) fun _ _ _ _ _ _ us hl => match us, hl with | [_], _ => rfl
  refine ⟨fnOf "law" "law" (defArgs st_law) (defBody st_law) (defScope st_law) .none kV27 dc27 pm27 an27 cd27 ct27, fun s v => .of_eq rfl, fun bas _ _ TB => ?_⟩
  have FI0 := fun_mk (st := st_BadCuts) xf0 xd0 xg0
  have bI0 := FI0.binds (ps := ["self", "number"]) fun _ _ _ _ _ _ us hl => match us, hl with | [_, _], _ => rfl
  have K_BadCuts : ClsAt l.prog wd K gl bas "BadCuts" (some "number") := ⟨C0, gI0, _, _, PySem.W.mg_of X G xa0, ⟨⟨nm0, qq0, N0, bs0, _, sn0, sub0, ab0, col0, dd0, ma0, mb0, mc0, md0, mf0, xl0, by decide +kernel⟩, xs0, xe0, xt0, xk0⟩, xi0, xy0, init_BadCuts T FI0 xvV xn0, bI0, exm_own xe0 xc0 xt0 xb0⟩
  have FI1 := fun_mk (st := st_OutOfPlace) xf1 xd1 xg1
  have bI1 := FI1.binds (ps := ["self", "text"]) fun _ _ _ _ _ _ us hl => match us, hl with | [_, _], _ => rfl
  have K_OutOfPlace : ClsAt l.prog wd K gl bas "OutOfPlace" none := ⟨C1, gI1, _, _, PySem.W.mg_of X G xa1, ⟨⟨nm1, qq1, N1, bs1, _, sn1, sub1, ab1, col1, dd1, ma1, mb1, mc1, md1, mf1, xl1, by decide +kernel⟩, xs1, xe1, xt1, xk1⟩, xi1, xy1, init_OutOfPlace T FI1 xvV, bI1, exm_own xe1 xc1 xt1 xb1⟩
  have FI2 := fun_mk (st := st_Nothing) xf2 xd2 xg2
  have bI2 := FI2.binds (ps := ["self", "text"]) fun _ _ _ _ _ _ us hl => match us, hl with | [_, _], _ => rfl
  have K_Nothing : ClsAtB l.prog wd K gl bas "Nothing" none := ⟨_, _, _, _, C2, gI2, _, _, base_lu, PySem.W.mg_of X G xa2, ⟨⟨nm2, qq2, N2, bs2, sn2, sub2, ab2, col2, dd2, ma2, mb2, mc2, md2, mf2, xl2⟩, xs2, xe2, xt2, xk2⟩, xi2, xy2, init_Nothing T FI2 xvLookupError, bI2⟩
  have C__law_next : Cd l.prog wd K gl bas (srcOrcT (tbL PL)) 1 "_law_next" 2 s_next := ⟨_, _, _, ok__law_next T F25, PySem.W.mg_of X G a25, k25, b25⟩
  have C_is_integer : Cd l.prog wd K gl bas (srcOrcT (tbL PL)) 1 "is_integer" 1 r_is_integer := ⟨_, _, _, ok_is_integer T F0, PySem.W.mg_of X G a0, k0, b0⟩
  have C_is_within : Cd l.prog wd K gl bas (srcOrcT (tbL PL)) 2 "is_within" 3 r_is_within := ⟨_, _, _, ok_is_within T F1 C_is_integer, PySem.W.mg_of X G a1, k1, b1⟩
  have C_is_tuple : Cd l.prog wd K gl bas (srcOrcT (tbL PL)) 1 "is_tuple" 3 r_is_tuple := ⟨_, _, _, ok_is_tuple T F2, PySem.W.mg_of X G a2, k2, b2⟩
  have C_is_stretch : Cd l.prog wd K gl bas (srcOrcT (tbL PL)) 3 "is_stretch" 1 r_is_stretch := ⟨_, _, _, ok_is_stretch T F3 C_is_tuple C_is_within, PySem.W.mg_of X G a3, k3, b3⟩
  have CX_need_cuts : CdX l.prog wd K gl bas (srcOrcT (tbL PL)) 5 "need_cuts" 1 rx_need_cuts := ⟨_, _, _, okX_need_cuts T F4 C_is_tuple C_is_stretch K_BadCuts, PySem.W.mg_of X G a4, k4, b4⟩
  have C_need_cuts : Cd l.prog wd K gl bas (srcOrcT (tbL PL)) 4 "need_cuts" 1 r_need_cuts := ⟨_, _, _, ok_need_cuts T F4 C_is_tuple C_is_stretch, PySem.W.mg_of X G a4, k4, b4⟩
  have C_length_of : Cd l.prog wd K gl bas (srcOrcT (tbL PL)) 1 "length_of" 1 r_length_of := ⟨_, _, _, ok_length_of T F5, PySem.W.mg_of X G a5, k5, b5⟩
  have C_length : Cd l.prog wd K gl bas (srcOrcT (tbL PL)) 5 "length" 1 r_length := ⟨_, _, _, ok_length T F6 C_need_cuts C_length_of, PySem.W.mg_of X G a6, k6, b6⟩
  have C__place_of : Cd l.prog wd K gl bas (srcOrcT (tbL PL)) 1 "_place_of" 2 r__place_of := ⟨_, _, _, ok__place_of T F7, PySem.W.mg_of X G a7, k7, b7⟩
  have CX_source : CdX l.prog wd K gl bas (srcOrcT (tbL PL)) 6 "source" 2 rx_source := ⟨_, _, _, okX_source T F8 C_is_within C_length_of C__place_of CX_need_cuts K_OutOfPlace K_Nothing, PySem.W.mg_of X G a8, k8, b8⟩
  have C_source : Cd l.prog wd K gl bas (srcOrcT (tbL PL)) 5 "source" 2 r_source := ⟨_, _, _, ok_source T F8 C_need_cuts C_is_within C_length_of C__place_of, PySem.W.mg_of X G a8, k8, b8⟩
  have C__joined : Cd l.prog wd K gl bas (srcOrcT (tbL PL)) 1 "_joined" 1 r__joined := ⟨_, _, _, ok__joined T F9, PySem.W.mg_of X G a9, k9, b9⟩
  have C_plain : Cd l.prog wd K gl bas (srcOrcT (tbL PL)) 5 "plain" 1 r_plain := ⟨_, _, _, ok_plain T F10 C_need_cuts C__joined, PySem.W.mg_of X G a10, k10, b10⟩
  have C_alike_cuts : Cd l.prog wd K gl bas (srcOrcT (tbL PL)) 5 "alike_cuts" 2 r_alike_cuts := ⟨_, _, _, ok_alike_cuts T F11 C_need_cuts C__joined, PySem.W.mg_of X G a11, k11, b11⟩
  have C__bounds_of : Cd l.prog wd K gl bas (srcOrcT (tbL PL)) 1 "_bounds_of" 1 r__bounds_of := ⟨_, _, _, ok__bounds_of T F12, PySem.W.mg_of X G a12, k12, b12⟩
  have C__many_over : Cd l.prog wd K gl bas (srcOrcT (tbL PL)) 1 "_many_over" 2 r__many_over := ⟨_, _, _, ok__many_over T F13, PySem.W.mg_of X G a13, k13, b13⟩
  have C_twice : Cd l.prog wd K gl bas (srcOrcT (tbL PL)) 5 "twice" 1 r_twice := ⟨_, _, _, ok_twice T F14 C_need_cuts C__bounds_of C__joined C__many_over, PySem.W.mg_of X G a14, k14, b14⟩
  have C__not_shown : Cd l.prog wd K gl bas (srcOrcT (tbL PL)) 2 "_not_shown" 3 r__not_shown := ⟨_, _, _, ok__not_shown T F15 C__bounds_of C__many_over, PySem.W.mg_of X G a15, k15, b15⟩
  have C_lost : Cd l.prog wd K gl bas (srcOrcT (tbL PL)) 5 "lost" 2 r_lost := ⟨_, _, _, ok_lost T F16 C_need_cuts C_is_within C__not_shown, PySem.W.mg_of X G a16, k16, b16⟩
  have C__law_of : Cd l.prog wd K gl bas (srcOrcT (tbL PL)) 2 "_law_of" 2 r__law_of := ⟨_, _, _, ok__law_of T F17 C__law_next, PySem.W.mg_of X G a17, k17, b17⟩
  have FF := ok__law_fault (pr := l.prog) (wd := wd) (bas := bas) T F18
  have C__law_cuts : Cd l.prog wd K gl bas (srcOrcT (tbL PL)) 3 "_law_cuts" 3 r__law_cuts := ⟨_, _, _, ok__law_cuts T F20 C__law_next C__law_of, PySem.W.mg_of X G a20, k20, b20⟩
  have C__law_sources : Cd l.prog wd K gl bas (srcOrcT (tbL PL)) 1 "_law_sources" 1 r__law_sources := ⟨_, _, _, ok__law_sources T F21, PySem.W.mg_of X G a21, k21, b21⟩
  have C__law_stretches : Cd l.prog wd K gl bas (srcOrcT (tbL PL)) 1 "_law_stretches" 1 r__law_stretches := ⟨_, _, _, ok__law_stretches T F22, PySem.W.mg_of X G a22, k22, b22⟩
  have C__law_right : Cd l.prog wd K gl bas (srcOrcT (tbL PL)) 9 "_law_right" 3 r__law_right := ⟨_, _, _, ok__law_right T F23 C__law_sources C_alike_cuts C_source C_plain C_length C__law_stretches C__law_next C_twice C_lost CX_source hcL (TB _ (List.mem_singleton.mpr rfl)) (row_ok X G (by decide) gG) (PySem.W.mg_of X G a19) k19 l19 c19 b19 FF (PySem.W.mg_of X G a18) k18 b18, PySem.W.mg_of X G a23, k23, b23⟩
  have C__law_otherwise : Cd l.prog wd K gl bas (srcOrcT (tbL PL)) 6 "_law_otherwise" 2 r__law_otherwise := ⟨_, _, _, ok__law_otherwise T F24 C__law_next C_plain, PySem.W.mg_of X G a24, k24, b24⟩
  exact ok_law T F27 (ok__law_begun T F26) (PySem.W.mg_of X G a26) k26 b26 C__law_cuts C__law_otherwise C__law_right C_plain says
end Q63
namespace Q63
open PySem L2 DL
theorem d_is_integer {i : Int} {m : Nat} {P : D → Nat → Prop} (h : P (.bool true) 0) : r_is_integer [.d (.int i)] m P := by
  refine ⟨trivial, true, k_int, trivial, false, k_ib, ?_⟩
  exact ⟨hd_d, h⟩
theorem d_is_within {i a b : Int} {m : Nat} {P : D → Nat → Prop} (h : P (.bool (decide (a ≤ i) && decide (i ≤ b))) 0) : r_is_within [.d (.int i), .d (.int a), .d (.int b)] m P := by
  refine ⟨rfl, rfl, d_is_integer ?_⟩
  by_cases e : a ≤ i
  · rw [decide_eq_true e, Bool.true_and] at h
    simp [raw, startE, arSl, sSeq, sIf, sRet, sRetN, sNo, sSet, sSetN, sExpr, sAsg, dCall, dCallO, aCons, aNil, aOra, dV, hS, hV, dC, d2, see, seeAll, dCB, DL.gCons, DL.gNil, dChain, bD, bAnd, bOr, bNot, dAnd, dOr, dNot, dNeg, dIf, dIsi, bTruth, truD, lCons, lNil, dTup, dLst, isD, gCmp, gAdd, DL.gSub, gIs, gIsNot, gLen, gN, gTupT, gConsT, gNoT, ownL, dSl, oI, oNo, e, h]
  · rw [decide_eq_false e, Bool.false_and] at h
    simp [raw, startE, arSl, sSeq, sIf, sRet, sRetN, sNo, sSet, sSetN, sExpr, sAsg, dCall, dCallO, aCons, aNil, aOra, dV, hS, hV, dC, d2, see, seeAll, dCB, DL.gCons, DL.gNil, dChain, bD, bAnd, bOr, bNot, dAnd, dOr, dNot, dNeg, dIf, dIsi, bTruth, truD, lCons, lNil, dTup, dLst, isD, gCmp, gAdd, DL.gSub, gIs, gIsNot, gLen, gN, gTupT, gConsT, gNoT, ownL, dSl, oI, oNo, e, h]
theorem d_is_tuple {ds : List D} {a b : Int} {m : Nat} {P : D → Nat → Prop} (h : P (.bool (decide (a ≤ ds.length) && decide ((ds.length : Int) ≤ b))) 0) : r_is_tuple [.d (.tuple ds), .d (.int a), .d (.int b)] m P := by
  refine ⟨trivial, true, k_tt, ?_⟩
  by_cases e : a ≤ (ds.length : Int)
  · rw [decide_eq_true e, Bool.true_and] at h
    simp [raw, startE, arSl, sSeq, sIf, sRet, sRetN, sNo, sSet, sSetN, sExpr, sAsg, dCall, dCallO, aCons, aNil, aOra, dV, hS, hV, dC, d2, see, seeAll, dCB, DL.gCons, DL.gNil, dChain, bD, bAnd, bOr, bNot, dAnd, dOr, dNot, dNeg, dIf, dIsi, bTruth, truD, lCons, lNil, dTup, dLst, isD, gCmp, gAdd, DL.gSub, gIs, gIsNot, gLen, gN, gTupT, gConsT, gNoT, ownL, dSl, oI, oNo, e, h]
  · rw [decide_eq_false e, Bool.false_and] at h
    simp [raw, startE, arSl, sSeq, sIf, sRet, sRetN, sNo, sSet, sSetN, sExpr, sAsg, dCall, dCallO, aCons, aNil, aOra, dV, hS, hV, dC, d2, see, seeAll, dCB, DL.gCons, DL.gNil, dChain, bD, bAnd, bOr, bNot, dAnd, dOr, dNot, dNeg, dIf, dIsi, bTruth, truD, lCons, lNil, dTup, dLst, isD, gCmp, gAdd, DL.gSub, gIs, gIsNot, gLen, gN, gTupT, gConsT, gNoT, ownL, dSl, oI, oNo, e, h]
structure Cue where
  f : Int
  t : Int
  x : D
def Cue.d (c : Cue) : D := .tuple [.int c.f, .int c.t, c.x]
def step (fr : Int) (top : Option Cue) (c : Cue) : Option Cue := if c.f ≤ fr ∧ fr < c.t ∧ (∀ t, top = some t → t.f ≤ c.f) then some c else top
def topAt (cs : List Cue) (fr : Int) : Option Cue := cs.foldl (step fr) none
def textAt (cs : List Cue) (fr : Int) : D := match topAt cs fr with
  | none => .none
  | some c => c.x
structure OkStr (z : Str) : Prop where
  l1 : 1 ≤ z.cps.toList.length
  l2 : z.cps.toList.length ≤ 40
  ok : ∀ c ∈ z.cps.toList, 32 ≤ c ∧ c ≤ 126 ∧ c ≠ 37
  hd : atI z.cps.toList 0 ≠ some 32
  tl : atI z.cps.toList (-1) ≠ some 32
/-- a text: lines that may stand in a file -/
def textD (ls : List Str) : D := .tuple (ls.map PyData.str)
structure OkCue (c : Cue) : Prop where
  f0 : 0 ≤ c.f
  ft : c.f < c.t
  t1 : c.t ≤ 1000000000000
  x : ∃ ls : List Str, c.x = textD ls ∧ 1 ≤ ls.length ∧ ls.length ≤ 4 ∧ ∀ z ∈ ls, OkStr z
def seenL : List (List Cue) → Int → D
  | [], _ => .none
  | cs :: r, fr => if isN (textAt cs fr) = true then seenL r fr else textAt cs fr
theorem insI_len (k : Int) (acc : List Int) : (insI k acc).length ≤ acc.length + 1 := by
  unfold insI
  split
  · omega
  · simp
theorem insI_mem {k j : Int} {acc : List Int} : j ∈ insI k acc ↔ j ∈ acc ∨ j = k := by
  unfold insI
  split
  · constructor
    · exact Or.inl
    · rintro (h | rfl)
      · exact h
      · assumption
  · simp
theorem len_sub : ∀ {xs ys : List Int}, xs.Pairwise (· < ·) → (∀ x ∈ xs, x ∈ ys) → xs.length ≤ ys.length
  | [], _, _, _ => (Nat.zero_le _)
  | x :: xs, ys, h, hs => by
    have hx := hs x (List.mem_cons_self ..)
    rw [List.pairwise_cons] at h
    have ih := len_sub (xs := xs) (ys := ys.erase x) h.2 fun y hy => by
      have : y ≠ x := fun e => by have := h.1 y hy; omega
      exact (List.mem_erase_of_ne this).mpr (hs y (List.mem_cons_of_mem _ hy))
    rw [List.length_erase_of_mem hx] at ih
    have := List.length_pos_of_mem hx
    rw [List.length_cons]
    omega
def addRun (acc : List Cue) (s e : Int) (x : D) : List Cue := if isN x = true then acc else match acc.getLast? with
  | some c => if c.t = s ∧ PyData.eqv c.x x = true then acc.dropLast ++ [⟨c.f, e, x⟩] else acc ++ [⟨s, e, x⟩]
  | none => acc ++ [⟨s, e, x⟩]
theorem atI_last {l : List D} {d : D} : atI (l ++ [d]) (-1) = some d := by
  unfold atI ixN
  rw [if_neg (by decide), if_pos (by simp; omega)]
  show (l ++ [d])[((-1 : Int) + ((l ++ [d]).length : Nat)).toNat]? = _
  have e : ((-1 : Int) + ((l ++ [d]).length : Nat)).toNat = l.length := by simp; omega
  rw [e]
  simp
theorem ixN_last {n : Nat} : ixN (n + 1) (-1) = some n := by
  unfold ixN
  rw [if_neg (by decide), if_pos (by omega)]
  congr 1
  omega
structure TX (x : D) : Prop where
  n : isN x = false
  l : PyData.canLay0 x = true
  p : x.depth ≤ 10
def pairD (p : Int × Int) : D := .tuple [.int p.1, .int p.2]
theorem TX.ok {x : D} (h : TX x) : okD x := by
  show SeqAt.shaped _ = true
  unfold SeqAt.shaped
  have := h.p
  rw [h.l]
  simp
  omega
def toldL : List D → Int → List Cue → List Cue
  | [], _, acc => acc
  | x :: r, i, acc => toldL r (i + 1) (addRun acc i (i + 1) x)
end Q63
namespace Q63
open PySem L2 DL
def canon (S : Int → D) (N : Nat) : List Cue := toldL ((List.range N).map fun i => S (i : Nat)) 0 []
end Q63
namespace Q63
open PySem L2 DL
def OT (x : D) : Prop := ∃ ls : List Str, x = textD ls ∧ 1 ≤ ls.length ∧ ls.length ≤ 4 ∧ ∀ z ∈ ls, OkStr z
theorem OT.nod {x : D} (h : OT x) : nod x = true := by
  obtain ⟨ls, rfl, _⟩ := h
  have key : ∀ l : List Str, nodAll (l.map PyData.str) = true := fun l => by
    induction l with
    | nil => rfl
    | cons z r ih => exact Bool.and_eq_true_iff.mpr ⟨rfl, ih⟩
  exact key ls
structure GC (c : Cue) : Prop where
  f0 : 0 ≤ c.f
  ft : c.f < c.t
  t1 : c.t ≤ 90
  x : OT c.x
theorem GC.ok {c : Cue} (g : GC c) : OkCue c := ⟨g.f0, g.ft, by have := g.t1; omega, g.x⟩
def GF (cs : List Cue) : Prop := ∀ c ∈ cs, GC c
end Q63
namespace Q63
open PySem L2 DL
theorem d_of {ds : List D} {m : Nat} {P : D → Nat → Prop} (hm : m < 1048576) (hl : 0 < ds.length) (hb : ds.length < 1000) (h : ∀ d ∈ ds, P d (m + 1)) : r__law_of [.ora, .d (.list ds)] m P := by
  refine ⟨trivial, trivial, trivial, rfl, rfl, rfl, (ds.length : Int), rfl, by omega, by omega, hm, fun i h0 h1 => ?_⟩
  have hi : i.toNat < ds.length := by omega
  refine ⟨ds[i.toNat], ?_, ?_⟩
  · unfold atI ixN
    rw [if_pos h0, if_pos h1]
    show ds[i.toNat]? = _
    rw [List.getElem?_eq_getElem hi]
  · exact h _ (List.getElem_mem hi)
theorem w1 : OkStr ("a" : Str) := ⟨by decide +kernel, by decide +kernel, by decide +kernel, by decide +kernel, by decide +kernel⟩
end Q63
namespace Q63
open PySem L2 DL
structure Sh (k n : Nat) (d : D) : Prop where
  nd : nod d = true
  sh : d.showable = true
  lv : d.leavesShort 13 = true
  la : d.canLay0 = true
  dp : d.depth ≤ k
  bk : d.bulk ≤ n
structure ShA (k n : Nat) (ds : List D) : Prop where
  nd : nodAll ds = true
  sh : PyData.showableAll ds = true
  lv : PyData.leavesShortAll 13 ds = true
  la : PyData.canLayAll0 ds = true
  dp : PyData.depthAll ds ≤ k
  bk : PyData.bulkAll ds ≤ n * ds.length
theorem sha {k n : Nat} : ∀ ds : List D, (∀ d ∈ ds, Sh k n d) → ShA k (n + 1) ds
  | [], _ => ⟨rfl, rfl, rfl, rfl, by simp [PyData.depthAll], by simp [PyData.bulkAll]⟩
  | d :: ds, h => by
    have a := h d (List.mem_cons_self ..)
    have b := sha ds fun x hx => h x (List.mem_cons_of_mem _ hx)
    refine ⟨?_, ?_, ?_, ?_, ?_, ?_⟩
    · exact Bool.and_eq_true_iff.mpr ⟨a.nd, b.nd⟩
    · exact Bool.and_eq_true_iff.mpr ⟨a.sh, b.sh⟩
    · exact Bool.and_eq_true_iff.mpr ⟨a.lv, b.lv⟩
    · exact Bool.and_eq_true_iff.mpr ⟨a.la, b.la⟩
    · simp only [PyData.depthAll]
      have := a.dp
      have := b.dp
      omega
    · simp only [PyData.bulkAll, List.length_cons]
      have h1 := a.bk
      have h2 := b.bk
      rw [Nat.mul_succ]
      omega
theorem sh_tup {k n : Nat} {ds : List D} (h : ∀ d ∈ ds, Sh k n d) : Sh (k + 1) ((n + 1) * ds.length) (.tuple ds) := by
  have a := sha ds h
  refine ⟨a.nd, a.sh, a.lv, a.la, ?_, a.bk⟩
  simp only [PyData.depth]
  have := a.dp
  omega
theorem sh_lst {k n : Nat} {ds : List D} (h : ∀ d ∈ ds, Sh k n d) : Sh (k + 1) ((n + 1) * ds.length) (.list ds) := by
  have a := sha ds h
  refine ⟨a.nd, a.sh, a.lv, a.la, ?_, a.bk⟩
  simp only [PyData.depth]
  have := a.dp
  omega
theorem Sh.mono {k n k' n' : Nat} {d : D} (h : Sh k n d) (hk : k ≤ k') (hn : n ≤ n') : Sh k' n' d := ⟨h.nd, h.sh, h.lv, h.la, Nat.le_trans h.dp hk, Nat.le_trans h.bk hn⟩
theorem sh_int {i : Int} (h0 : 0 ≤ i) (h1 : i ≤ 999) : Sh 0 0 (.int i) := by
  refine ⟨rfl, ?_, ?_, rfl, Nat.le_refl _, Nat.le_refl _⟩
  · show decide (i.natAbs.log2 < 1920) = true
    refine decide_eq_true ?_
    by_cases z : i.natAbs = 0
    · rw [z]
      decide
    · have : i.natAbs.log2 < 10 := (Nat.log2_lt z).mpr (by omega)
      omega
  · show decide ((PyData.shown (.int i)).length ≤ 13) = true
    exact decide_eq_true (PyData.shown_int_le2 (by omega) (by omega))
end Q63
namespace Q63
open PySem L2 DL
def pairT (p : D × D) : D := .tuple [p.1, p.2]
theorem zip_tail (l : List D) : zipD l (cutD l (some 1) none) = (l.zip l.tail).map pairT := by
  have e : cutD l (some 1) none = l.tail := by
    cases l with
    | nil => rfl
    | cons b r =>
      unfold cutD
      have e1 : HT.sIx (b :: r).length 0 (some 1) = 1 := by
        unfold HT.sIx
        simp
      have e2 : HT.sIx (b :: r).length (b :: r).length none = (b :: r).length := rfl
      rw [e1, e2]
      simp
  rw [e]
  unfold zipD
  rw [List.zip, List.map_zipWith]
  rfl
/-- the flat file of a file -/
def fl (A : List Cue) : List Cue := canon (seenL [A]) 90
theorem gf1 {A : List Cue} (a : GF A) : ∀ cs ∈ [A], GF cs := by
  intro cs h
  simp at h
  rw [h]
  exact a
end Q63
namespace Q63
open PySem L2 DL
/-- the rows of what is seen -/
def rowL (cs : List Cue) (n : Nat) : List D := (List.range n).map fun i => textAt cs (i : Nat)
/-- a comprehension with a test -/
theorem lcL_filt {t : TM} {b : BM} {f : DM} {vs : List Nat} {K : List D → DL.Env → Prop} {ρ : DL.Env} (p : D → Bool) (g : D → D) : ∀ (ds acc : List D),
    (∀ d ∈ ds, ∀ (Q : D → DL.Env → Prop) (R : DL.Env → Prop), (p d = true → ∀ ρ3, wipeE ρ3 vs = ρ → Q (g d) ρ3) → (p d = false → ∀ ρ3, wipeE ρ3 vs = ρ → R ρ3) → t d ρ fun ρ1 => b ρ1 fun k ρ2 => if k = true then f ρ2 Q else R ρ2) →
    K (acc ++ (ds.filter p).map g) ρ → lcL t b f vs K ds acc ρ
  | [], acc, _, hk => by
    show K acc ρ
    simpa using hk
  | d :: ds, acc, h, hk => by
    refine h d (List.mem_cons_self ..) (fun y ρ3 => lcL t b f vs K ds (acc ++ [y]) (wipeE ρ3 vs)) (fun ρ3 => lcL t b f vs K ds acc (wipeE ρ3 vs)) (fun hp ρ3 e => ?_) fun hp ρ3 e => ?_
    · show lcL t b f vs K ds (acc ++ [g d]) (wipeE ρ3 vs)
      rw [e]
      refine lcL_filt p g ds (acc ++ [g d]) (fun d' hd => h d' (List.mem_cons_of_mem _ hd)) ?_
      rw [List.filter_cons_of_pos hp] at hk
      simpa using hk
    · show lcL t b f vs K ds acc (wipeE ρ3 vs)
      rw [e]
      refine lcL_filt p g ds acc (fun d' hd => h d' (List.mem_cons_of_mem _ hd)) ?_
      rw [List.filter_cons_of_neg (by rw [hp]; exact Bool.false_ne_true)] at hk
      exact hk
end Q63
namespace Q63
open PySem L2 DL
theorem atI_nat {l : List D} {i : Nat} {d : D} (h : l[i]? = some d) : atI l (i : Int) = some d := by
  have hi : i < l.length := (List.getElem?_eq_some_iff.mp h).1
  unfold atI ixN
  (rw [if_pos (by omega), if_pos (by omega)])
  exact h
theorem sh_bool (b : Bool) : Sh 0 0 (.bool b) := ⟨rfl, rfl, rfl, rfl, Nat.le_refl _, Nat.le_refl _⟩
end Q63
namespace Q63
open PySem L2 DL
abbrev Ct := Int × Int
def rng (a b : Int) : List Int := (List.range (b - a).toNat).map fun i => a + ((i : Nat) : Int)
def src (cs : List Ct) : List Int := cs.flatMap fun p => rng p.1 p.2
def lenC (cs : List Ct) : Int := (cs.map fun p => p.2 - p.1).sum
theorem rng_nil {a b : Int} (h : b ≤ a) : rng a b = [] := by
  unfold rng
  rw [show (b - a).toNat = 0 by omega]
  rfl
theorem rng_len {a b : Int} (h : a ≤ b) : ((rng a b).length : Int) = b - a := by
  unfold rng
  (rw [List.length_map, List.length_range])
  omega
theorem rng_succ {a b : Int} (h : a ≤ b) : rng a (b + 1) = rng a b ++ [b] := by
  unfold rng
  rw [show (b + 1 - a).toNat = (b - a).toNat + 1 by omega, List.range_succ, List.map_append, List.map_singleton]
  rw [show a + (((b - a).toNat : Nat) : Int) = b by omega]
theorem rng_split {a m b : Int} (h1 : a ≤ m) (h2 : m ≤ b) : rng a b = rng a m ++ rng m b := by
  obtain ⟨n, rfl⟩ : ∃ n : Nat, b = m + n := ⟨(b - m).toNat, by omega⟩
  induction n with
  | zero => rw [show m + ((0 : Nat) : Int) = m by omega, rng_nil (Int.le_refl m), List.append_nil]
  | succ n ih =>
    rw [show m + ((n + 1 : Nat) : Int) = m + n + 1 by omega, rng_succ (by omega), ih (by omega), rng_succ (a := m) (by omega), List.append_assoc]
theorem rng_mem {a b x : Int} : x ∈ rng a b ↔ a ≤ x ∧ x < b := by
  unfold rng
  rw [List.mem_map]
  constructor
  · rintro ⟨i, hi, rfl⟩
    have := List.mem_range.mp hi
    omega
  · intro h
    exact ⟨(x - a).toNat, List.mem_range.mpr (by omega), by omega⟩
theorem rng_get {a b : Int} {i : Nat} (h : a + i < b) : (rng a b)[i]? = some (a + i) := by
  unfold rng
  rw [List.getElem?_map, List.getElem?_range (by omega)]
  rfl
theorem src_cons (p : Ct) (cs : List Ct) : src (p :: cs) = rng p.1 p.2 ++ src cs := List.flatMap_cons
theorem src_app (a b : List Ct) : src (a ++ b) = src a ++ src b := List.flatMap_append
def Val (cs : List Ct) : Prop := ∀ p ∈ cs, p.1 < p.2
theorem len_nn {cs : List Ct} (v : Val cs) : 0 ≤ lenC cs := by
  unfold lenC
  induction cs with
  | nil => decide
  | cons p t ih =>
    have := v p List.mem_cons_self
    have := ih fun q m => v q (List.mem_cons_of_mem _ m)
    (rw [List.map_cons, List.sum_cons])
    omega
theorem src_len {cs : List Ct} (v : Val cs) : ((src cs).length : Int) = lenC cs := by
  induction cs with
  | nil => rfl
  | cons p t ih =>
    have h := v p List.mem_cons_self
    have i := ih fun q m => v q (List.mem_cons_of_mem _ m)
    rw [src_cons, List.length_append, Int.natCast_add, rng_len (by omega), i]
    unfold lenC
    (rw [List.map_cons, List.sum_cons])
def addP (acc : List Ct) (s e : Int) : List Ct := match acc.getLast? with
  | some p => if p.2 = s then acc.dropLast ++ [(p.1, e)] else acc ++ [(s, e)]
  | none => acc ++ [(s, e)]
def joinP (ps acc : List Ct) : List Ct := ps.foldl (fun acc p => addP acc p.1 p.2) acc
def strP (fs : List Int) (acc : List Ct) : List Ct := fs.foldl (fun acc f => addP acc f (f + 1)) acc
theorem addP_form (acc : List Ct) (s : Int) : ∃ ini x, ∀ e, addP acc s e = ini ++ [(x, e)] := by
  unfold addP
  cases acc.getLast? with
  | none => exact ⟨acc, s, fun _ => rfl⟩
  | some p =>
    by_cases h : p.2 = s
    · exact ⟨acc.dropLast, p.1, fun e => if_pos h⟩
    · exact ⟨acc, s, fun e => if_neg h⟩
theorem addP_on (ini : List Ct) (x m e : Int) : addP (ini ++ [(x, m)]) m e = ini ++ [(x, e)] := by
  unfold addP
  rw [List.getLast?_concat]
  show (if m = m then _ else _) = _
  rw [if_pos rfl, List.dropLast_concat]
theorem addP_join (acc : List Ct) (s m e : Int) : addP (addP acc s m) m e = addP acc s e := by
  obtain ⟨ini, x, h⟩ := addP_form acc s
  rw [h, h, addP_on]
theorem addP_len (acc : List Ct) (s e : Int) : (addP acc s e).length ≤ acc.length + 1 := by
  unfold addP
  cases h : acc.getLast? with
  | none => simp
  | some p =>
    show (if p.2 = s then _ else _ : List Ct).length ≤ _
    split
    · simp only [List.length_append, List.length_dropLast, List.length_singleton]
      omega
    · simp
theorem strP_rng {a b : Int} (h : a < b) (acc : List Ct) : strP (rng a b) acc = addP acc a b := by
  obtain ⟨n, rfl⟩ : ∃ n : Nat, b = a + n + 1 := ⟨(b - a - 1).toNat, by omega⟩
  unfold strP
  rw [rng_succ (by omega), List.foldl_append]
  show addP ((rng a (a + n)).foldl _ acc) (a + n) (a + n + 1) = _
  cases n with
  | zero =>
    rw [show a + ((0 : Nat) : Int) = a by omega, rng_nil (Int.le_refl a)]
    rfl
  | succ n =>
    have ih := strP_rng (a := a) (b := a + n + 1) (by omega) acc
    unfold strP at ih
    rw [show a + ((n + 1 : Nat) : Int) = a + n + 1 by omega, ih, addP_join]
termination_by (b - a).toNat
theorem strP_src : ∀ (ps : List Ct) (acc : List Ct), Val ps → strP (src ps) acc = joinP ps acc
  | [], _, _ => rfl
  | p :: ps, acc, v => by
    have h := strP_rng (v p List.mem_cons_self) acc
    have ih := strP_src ps (addP acc p.1 p.2) fun q m => v q (List.mem_cons_of_mem _ m)
    rw [src_cons]
    unfold strP at h ih ⊢
    rw [List.foldl_append, h, ih]
    rfl
theorem joinP_len (ps acc : List Ct) : (joinP ps acc).length ≤ acc.length + ps.length := by
  induction ps generalizing acc with
  | nil => exact Nat.le_add_right ..
  | cons p ps ih =>
    have h1 := ih (addP acc p.1 p.2)
    have h2 := addP_len acc p.1 p.2
    show (joinP ps (addP acc p.1 p.2)).length ≤ _
    rw [List.length_cons]
    omega
/-- what is joined shows the same -/
theorem src_addP {acc : List Ct} {s e : Int} (v : Val acc) (h : s < e) : Val (addP acc s e) ∧ src (addP acc s e) = src acc ++ rng s e := by
  unfold addP
  cases z : acc.getLast? with
  | none =>
    refine ⟨fun p m => ?_, ?_⟩
    · rcases List.mem_append.mp m with m | m
      · exact v p m
      · rw [List.mem_singleton.mp m]
        exact h
    · rw [src_app]
      simp [src]
  | some p =>
    have e0 : acc = acc.dropLast ++ [p] := by
      obtain ⟨ini, rfl⟩ := List.getLast?_eq_some_iff.mp z
      rw [List.dropLast_concat]
    have vp : p.1 < p.2 := v p (List.mem_of_getLast? z)
    have vd : Val acc.dropLast := fun q m => v q (List.dropLast_subset acc m)
    show Val (if p.2 = s then _ else _) ∧ src (if p.2 = s then _ else _) = _
    by_cases c : p.2 = s
    · rw [if_pos c]
      refine ⟨fun q m => ?_, ?_⟩
      · rcases List.mem_append.mp m with m | m
        · exact vd q m
        · rw [List.mem_singleton.mp m]
          show p.1 < e
          omega
      · rw [src_app]
        conv => rhs; rw [e0, src_app]
        have : src [(p.1, e)] = src [p] ++ rng s e := by
          rw [src_cons, src_cons]
          show rng p.1 e ++ [] = (rng p.1 p.2 ++ []) ++ rng s e
          rw [List.append_nil, List.append_nil, ← c]
          exact rng_split (by omega) (by omega)
        rw [this, List.append_assoc]
    · rw [if_neg c]
      refine ⟨fun q m => ?_, ?_⟩
      · rcases List.mem_append.mp m with m | m
        · exact v q m
        · rw [List.mem_singleton.mp m]
          exact h
      · rw [src_app]
        simp [src]
theorem src_joinP : ∀ (ps acc : List Ct), Val ps → Val acc → Val (joinP ps acc) ∧ src (joinP ps acc) = src acc ++ src ps
  | [], acc, _, va => ⟨va, (List.append_nil _).symm⟩
  | p :: ps, acc, v, va => by
    have h := src_addP va (v p List.mem_cons_self)
    have ih := src_joinP ps (addP acc p.1 p.2) (fun q m => v q (List.mem_cons_of_mem _ m)) h.1
    refine ⟨ih.1, ?_⟩
    show src (joinP ps (addP acc p.1 p.2)) = _
    rw [ih.2, h.2, src_cons, List.append_assoc]
def srcsOf : List Ct → Int → Int → Int → List Ct
  | [], _, _, _ => []
  | p :: cs, s, e, ah => (if max s ah < min e (ah + (p.2 - p.1)) then [(max s ah + (p.1 - ah), min e (ah + (p.2 - p.1)) + (p.1 - ah))] else []) ++ srcsOf cs s e (ah + (p.2 - p.1))
def at_ (cs : List Ct) (ah k : Int) : Int := (src cs).getD (k - ah).toNat 0
/-- what second shows behind first -/
def shown (a b : List Ct) : List Ct := b.flatMap fun p => srcsOf a p.1 p.2 0
def getS (a : List Ct) (k : Int) : Int := (src a).getD k.toNat 0
end Q63
namespace Q63
open PySem L2 DL
structure Sm (acc : List Int) : Prop where
  nd : acc.Nodup
  lo : ∀ x ∈ acc, 0 ≤ x ∧ x ≤ 60
theorem nodup_sub : ∀ {xs ys : List Int}, xs.Nodup → (∀ x ∈ xs, x ∈ ys) → xs.length ≤ ys.length
  | [], _, _, _ => (Nat.zero_le _)
  | x :: xs, ys, nd, h => by
    rw [List.nodup_cons] at nd
    have ih := nodup_sub (ys := ys.erase x) nd.2 fun y hy => (List.mem_erase_of_ne fun e => nd.1 (by rw [← e]; exact hy)).mpr (h y (List.mem_cons_of_mem _ hy))
    have hx := h x List.mem_cons_self
    rw [List.length_erase_of_mem hx] at ih
    have := List.length_pos_of_mem hx
    rw [List.length_cons]
    omega
theorem Sm.len {acc : List Int} (h : Sm acc) : acc.length ≤ 61 := by
  have := nodup_sub h.nd (ys := rng 0 61) fun x hx => rng_mem.mpr (by have := h.lo x hx; omega)
  have l := rng_len (a := 0) (b := 61) (by omega)
  omega
end Q63
namespace Q63
open PySem L2 DL
theorem eqi (a b : Int) : PyData.eqv (.int a) (.int b) = decide (a = b) := by
  by_cases h : a = b
  · rw [h]
    simp [PyData.eqv]
  · simp [PyData.eqv, h]
def cutsD (cs : List Ct) : D := .tuple (cs.map pairD)
structure OkCt (p : Ct) : Prop where
  lo : 0 ≤ p.1
  lt : p.1 < p.2
  hi : p.2 ≤ 1000000
structure GCut (cs : List Ct) : Prop where
  ok : ∀ p ∈ cs, OkCt p
  len : cs.length ≤ 60
theorem GCut.val {cs : List Ct} (g : GCut cs) : Val cs := fun p m => (g.ok p m).lt
theorem p0 {a b : Int} {P : D → Prop} (h : P (.int a)) : gIx (.tuple [.int a, .int b]) (.int 0) P := ⟨_, rfl, h⟩
theorem p1 {a b : Int} {P : D → Prop} (h : P (.int b)) : gIx (.tuple [.int a, .int b]) (.int 1) P := ⟨_, rfl, h⟩
theorem d_is_stretch {p : Ct} {m : Nat} {P : D → Nat → Prop} (o : OkCt p) (h : P (.bool true) 0) : r_is_stretch [.d (pairD p)] m P := by
  have a := o.lo
  have b := o.lt
  have c := o.hi
  refine ⟨rfl, rfl, d_is_tuple ?_⟩
  refine ⟨trivial, _, rfl, rfl, rfl, d_is_within ?_⟩
  rw [decide_eq_true a, decide_eq_true (show p.1 ≤ 1000000000000 by omega)]
  refine ⟨trivial, _, rfl, trivial, _, rfl, rfl, rfl, d_is_within ?_⟩
  rw [decide_eq_true (show p.1 + 1 ≤ p.2 by omega), decide_eq_true (show p.2 ≤ 1000000000000 by omega)]
  exact ⟨hd_d, h⟩
/-- the loop of need_cuts, whatever a wrong stretch does -/
theorem need_loop {C : D} {E : DE} {R1 R2 : SM} : ∀ (cs : List Ct) (k : Nat) (t : Int) (s2 s3 : Sl), (∀ p ∈ cs, OkCt p) → 0 ≤ t → t + 1000000000 * cs.length ≤ 1000000000000 → (∀ t s2 s3, E.nx [.im C, .im (.int t), s2, s3]) →
    forL (gTupT 2 (gConsT (gN 2) (gConsT (gN 3) (gNoT)))) (sSeq (sIf (bNot (bTruth (hV (dCall 1 r_is_stretch (aCons (dV 3) (aNil)))))) R1 (sNo)) (sSeq (sAug 1 gIadd (hV (d2 DL.gSub (hV (d2 gIx (hS 3) (hV (dC (.int 1))))) (hV (d2 gIx (hS 3) (hV (dC (.int 0)))))))) (sIf (bD (d2 gGt (hS 1) (hV (dC (.int 1000000000000))))) R2 (sNo)))) E
      ((cs.map pairD).mapIdx fun i d => .tuple [.int (((k + i : Nat)) : Int), d]) [.im C, .im (.int t), s2, s3]
  | [], k, t, s2, s3, _, _, _, h => h t s2 s3
  | p :: cs, k, t, s2, s3, o, t0, hb, h => by
    have op := o p List.mem_cons_self
    have a := op.lo
    have b := op.lt
    have c := op.hi
    rw [List.length_cons] at hb
    rw [List.map_cons, List.mapIdx_cons]
    refine ⟨rfl, rfl, rfl, rfl, d_is_stretch op ?_⟩
    refine ⟨trivial, trivial, _, rfl, trivial, _, rfl, ?_⟩
    have ng : ¬ 1000000000000 < t + (p.2 - p.1) := by omega
    refine ⟨trivial, ?_⟩
    show if decide (1000000000000 < t + (p.2 - p.1)) = true then _ else _
    rw [if_neg (by simpa using ng)]
    have e2 : (fun (i : Nat) (d : D) => (PyData.tuple [.int (((k + (i + 1) : Nat)) : Int), d])) = fun i d => PyData.tuple [.int ((((k + 1) + i : Nat)) : Int), d] := by
      funext i d
      rw [Nat.add_assoc, Nat.add_comm 1 i]
    rw [e2]
    exact need_loop cs (k + 1) _ _ _ (fun q m => o q (List.mem_cons_of_mem _ m)) (by omega) (by omega) h
theorem en0 (ds : List D) : enD ds = ds.mapIdx fun i d => .tuple [.int (((0 + i : Nat)) : Int), d] := by
  unfold enD
  simp
theorem d_need_cuts {cs : List Ct} {m : Nat} {P : D → Nat → Prop} (g : GCut cs) (h : P (cutsD cs) 0) : r_need_cuts [.d (cutsD cs)] m P := by
  have l := g.len
  refine ⟨rfl, rfl, d_is_tuple ?_⟩
  rw [decide_eq_true (show (0 : Int) ≤ ((cs.map pairD).length : Int) by omega), decide_eq_true (show ((cs.map pairD).length : Int) ≤ 60 by rw [List.length_map]; omega)]
  show forL _ _ _ (enD (cs.map pairD)) [.im (cutsD cs), .im (.int 0), .no, .no]
  rw [en0]
  exact need_loop cs 0 0 _ _ g.ok (by omega) (by omega) fun t s2 s3 => ⟨hd_d, h⟩
theorem dx_need_cuts {cs : List Ct} {m : Nat} {P : D → Nat → Prop} {PX : Exn → Nat → Prop} (g : GCut cs) (h : P (cutsD cs) 0) : rx_need_cuts [.d (cutsD cs)] m P PX := by
  have l := g.len
  refine ⟨rfl, rfl, d_is_tuple ?_⟩
  rw [decide_eq_true (show (0 : Int) ≤ ((cs.map pairD).length : Int) by omega), decide_eq_true (show ((cs.map pairD).length : Int) ≤ 60 by rw [List.length_map]; omega)]
  show forL _ _ _ (enD (cs.map pairD)) [.im (cutsD cs), .im (.int 0), .no, .no]
  rw [en0]
  exact need_loop cs 0 0 _ _ g.ok (by omega) (by omega) fun t s2 s3 => ⟨hd_d, h⟩
def difI : D → D
  | .tuple [.int a, .int b] => .int (b - a)
  | _ => .none
theorem ofInts_map (l : List Int) : ofInts (l.map PyData.int) = some l := by
  induction l with
  | nil => rfl
  | cons a l ih =>
    rw [List.map_cons]
    unfold ofInts
    rw [ih]
    rfl
theorem d_length_of {cs : List Ct} {m : Nat} {P : D → Nat → Prop} (l : cs.length ≤ 1000000) (h : P (.int (lenC cs)) 0) : r_length_of [.d (cutsD cs)] m P := by
  refine ⟨by rw [List.length_map]; exact l, ⟨by simp, fun j hj => by simp at hj; rcases hj with rfl | rfl <;> rfl⟩, ?_⟩
  refine lcL_map (ρ := [.im (cutsD cs), .no, .no]) difI _ [] ?_ ?_
  · intro d hd Q hQ
    obtain ⟨p, hp, rfl⟩ := List.mem_map.mp hd
    have e : difI (pairD p) = .int (p.2 - p.1) := rfl
    rw [e] at hQ
    exact ⟨rfl, rfl, trivial, trivial, hQ _ rfl⟩
  · have e : ([] : List D) ++ (cs.map pairD).map difI = (cs.map fun p => p.2 - p.1).map PyData.int := by
      rw [List.nil_append, List.map_map, List.map_map]
      rfl
    rw [e]
    exact ⟨_, ofInts_map _, hd_d, h⟩
def within (cs : List Ct) (e : Int) : Bool := cs.all fun p => decide (p.2 ≤ e)
abbrev jBody : SM := sIf (bAnd (bTruth (hS 1)) (bD (d2 gEq (hV (d2 gIx (hV (d2 gIx (hS 1) (hV (dNeg (dC (.int 1)))))) (hV (dC (.int 1))))) (hS 2)))) (sPut 1 (dNeg (dC (.int 1))) (dTup (lCons (d2 gIx (hV (d2 gIx (hS 1) (hV (dNeg (dC (.int 1)))))) (hV (dC (.int 0)))) (lCons (dV 3) (lNil))))) (sApp 1 (dTup (lCons (dV 2) (lCons (dV 3) (lNil)))))
theorem j_step {C : D} {E : DE} {s e : Int} {acc : List Ct} (l : acc.length < 1000000) (h : E.nx [.im C, .ow (.list ((addP acc s e).map pairD)), .im (.int s), .im (.int e)]) :
    jBody E [.im C, .ow (.list (acc.map pairD)), .im (.int s), .im (.int e)] := by
  rcases List.eq_nil_or_concat acc with rfl | ⟨ini, c, rfl⟩
  · have e1 : addP [] s e = [(s, e)] := rfl
    rw [e1] at h
    simp [raw, startE, arSl, sSeq, sIf, sRet, sRetN, sNo, sSet, sSetN, sExpr, sAsg, dCall, dCallO, aCons, aNil, aOra, dV, hS, hV, dC, d2, see, seeAll, dCB, DL.gCons, DL.gNil, dChain, bD, bAnd, bOr, bNot, dAnd, dOr, dNot, dNeg, dIf, dIsi, bTruth, truD, lCons, lNil, dTup, dLst, isD, gCmp, gAdd, DL.gSub, gIs, gIsNot, gLen, gN, gTupT, gConsT, gNoT, ownL, dSl, oI, oNo, sApp]
    exact h
  · rw [List.concat_eq_append] at l h ⊢
    have er : addP (ini ++ [c]) s e = if c.2 = s then ini ++ [(c.1, e)] else (ini ++ [c]) ++ [(s, e)] := by
      unfold addP
      simp
    rw [er] at h
    have em : ∀ f : Ct, (ini ++ [f]).map pairD = ini.map pairD ++ [.tuple [.int f.1, .int f.2]] := fun f => by rw [List.map_append]; rfl
    have hl : (ini.map pairD).length < 1000000 - 1 := by simp at l ⊢; omega
    rw [em]
    generalize hq : ini.map pairD = q at hl em ⊢
    have x1 : ∀ (d : D) (P : D → Prop), gIx (.list (q ++ [d])) (.int (-1)) P ↔ P d := fun d P => ⟨fun ⟨d', h', p⟩ => by rw [atI_last] at h'; cases h'; exact p, fun p => ⟨d, atI_last, p⟩⟩
    have x2 : ∀ P : D → Prop, gIx (.tuple [.int c.1, .int c.2]) (.int 0) P ↔ P (.int c.1) := fun P => ⟨fun ⟨_, h', p⟩ => by cases h'; exact p, fun p => ⟨_, rfl, p⟩⟩
    have x3 : ∀ P : D → Prop, gIx (.tuple [.int c.1, .int c.2]) (.int 1) P ↔ P (.int c.2) := fun P => ⟨fun ⟨_, h', p⟩ => by cases h'; exact p, fun p => ⟨_, rfl, p⟩⟩
    have x5 : ∀ d d' : D, (q ++ [d]).set q.length d' = q ++ [d'] := fun d d' => by simp
    have ev : PyData.eqv (.int c.2) (.int s) = decide (c.2 = s) := eqi ..
    have o1 : okD (.int c.2) := rfl
    have o2 : okD (.int s) := rfl
    by_cases hc : c.2 = s
    · rw [if_pos hc, em] at h
      subst hc
      have ev2 : PyData.eqv (.int c.2) (.int c.2) = true := by rw [eqi, decide_eq_true rfl]
      simp [raw, startE, arSl, sSeq, sIf, sRet, sRetN, sNo, sSet, sSetN, sExpr, sAsg, dCall, dCallO, aCons, aNil, aOra, dV, hS, hV, dC, d2, see, seeAll, dCB, DL.gCons, DL.gNil, dChain, bD, bAnd, bOr, bNot, dAnd, dOr, dNot, dNeg, dIf, dIsi, bTruth, truD, lCons, lNil, dTup, dLst, isD, gCmp, gAdd, DL.gSub, gIs, gIsNot, gLen, gN, gTupT, gConsT, gNoT, ownL, dSl, oI, oNo, x1, x2, x3, x5, ev2, o1, gEq, sPut, ixN_last]
      exact h
    · rw [if_neg hc, List.map_append, em] at h
      simp [raw, startE, arSl, sSeq, sIf, sRet, sRetN, sNo, sSet, sSetN, sExpr, sAsg, dCall, dCallO, aCons, aNil, aOra, dV, hS, hV, dC, d2, see, seeAll, dCB, DL.gCons, DL.gNil, dChain, bD, bAnd, bOr, bNot, dAnd, dOr, dNot, dNeg, dIf, dIsi, bTruth, truD, lCons, lNil, dTup, dLst, isD, gCmp, gAdd, DL.gSub, gIs, gIsNot, gLen, gN, gTupT, gConsT, gNoT, ownL, dSl, oI, oNo, x1, x2, x3, x5, ev, hc, o1, o2, gEq, sApp]
      exact ⟨by omega, by simpa [pairD] using h⟩
theorem j_loop {C : D} {E : DE} : ∀ (ps acc : List Ct) (s2 s3 : Sl), acc.length + ps.length < 1000000 → (∀ s2 s3, E.nx [.im C, .ow (.list ((joinP ps acc).map pairD)), s2, s3]) →
    forL (gTupT 2 (gConsT (gN 2) (gConsT (gN 3) (gNoT)))) jBody E (ps.map pairD) [.im C, .ow (.list (acc.map pairD)), s2, s3]
  | [], acc, s2, s3, _, h => h s2 s3
  | p :: ps, acc, s2, s3, l, h => by
    rw [List.length_cons] at l
    have := addP_len acc p.1 p.2
    exact ⟨rfl, rfl, j_step (s := p.1) (e := p.2) (acc := acc) (by omega) (j_loop ps (addP acc p.1 p.2) _ _ (by omega) h)⟩
theorem d_joinedL {ps : List Ct} {m : Nat} {P : D → Nat → Prop} (l : ps.length < 1000000) (h : P (cutsD (joinP ps [])) 0) : r__joined [.d (.list (ps.map pairD))] m P := by
  refine ⟨by decide, ?_⟩
  show forL _ _ _ (ps.map pairD) [.im (.list (ps.map pairD)), .ow (.list ([].map pairD)), .no, .no]
  exact j_loop ps [] _ _ (by simpa using l) fun s2 s3 => ⟨trivial, hd_d, h⟩
end Q63
namespace Q63
open PySem L2 DL
theorem six_lo {n k : Nat} (h : k ≤ n) : HT.sIx n 0 (some (k : Int)) = k := by
  unfold HT.sIx
  simp
  rw [if_neg (by omega)]
  omega
theorem six_hi {n k : Nat} (h : k ≤ n) : HT.sIx n n (some (k : Int)) = k := by
  unfold HT.sIx
  simp
  rw [if_neg (by omega)]
  omega
theorem cut_lo {l : List D} {k : Nat} (h : k ≤ l.length) : cutD l (some (k : Int)) none = l.drop k := by
  unfold cutD
  rw [six_lo h]
  have e2 : HT.sIx l.length l.length none = l.length := rfl
  rw [e2]
  exact List.take_of_length_le (by rw [List.length_drop]; exact Nat.le_refl _)
theorem cut_hi {l : List D} {k : Nat} (h : k ≤ l.length) : cutD l none (some (k : Int)) = l.take k := by
  unfold cutD
  rw [six_hi h]
  have e2 : HT.sIx l.length 0 none = 0 := rfl
  rw [e2]
  rfl
end Q63
namespace Q63
open PySem L2 DL
theorem rg_rng (a b : Int) : rgD a b = (rng a b).map PyData.int := by
  unfold rgD rng
  rw [List.map_map]
  rfl
theorem ls_loop {X : D} {E : DE} : ∀ (cs : List Ct) (acc : List Int) (s2 s3 : Sl), (∀ p ∈ cs, OkCt p) → (acc.length : Int) + lenC cs ≤ 1000000 → (∀ s2 s3, E.nx [.im X, .im (.list ((acc ++ src cs).map PyData.int)), s2, s3]) →
    forL (gTupT 2 (gConsT (gN 2) (gConsT (gN 3) (gNoT)))) (sSet 1 (d2 gAdd (hS 1) (hV (dLstRg2 (dV 2) (dV 3))))) E (cs.map pairD) [.im X, .im (.list (acc.map PyData.int)), s2, s3]
  | [], acc, s2, s3, _, _, h => by
    have := h s2 s3
    rw [show src [] = [] from rfl, List.append_nil] at this
    exact this
  | p :: cs, acc, s2, s3, o, l, h => by
    have op := o p List.mem_cons_self
    have a := op.lo
    have b := op.lt
    have c := op.hi
    have rl := rng_len (a := p.1) (b := p.2) (by omega)
    have v : Val cs := fun q m => (o q (List.mem_cons_of_mem _ m)).lt
    have l0 := len_nn v
    have el : lenC (p :: cs) = (p.2 - p.1) + lenC cs := by
      unfold lenC
      (rw [List.map_cons, List.sum_cons])
    rw [el] at l
    refine ⟨rfl, rfl, trivial, ?_⟩
    refine ⟨⟨by omega, by omega⟩, ?_⟩
    show _ ∧ _
    rw [rg_rng]
    refine ⟨by rw [List.length_map, List.length_map]; omega, ?_⟩
    rw [← List.map_append]
    refine ls_loop cs (acc ++ rng p.1 p.2) _ _ (fun q m => o q (List.mem_cons_of_mem _ m)) (by rw [List.length_append, Int.natCast_add]; omega) fun s2 s3 => ?_
    have := h s2 s3
    rw [src_cons, ← List.append_assoc] at this
    exact this
theorem d_law_sources {cs : List Ct} (o : ∀ p ∈ cs, OkCt p) (l : lenC cs ≤ 1000000) {m : Nat} {P : D → Nat → Prop} (h : P (.list ((src cs).map PyData.int)) 0) : r__law_sources [.d (cutsD cs)] m P := by
  refine ⟨by decide, ?_⟩
  show forL _ _ _ (cs.map pairD) [.im (cutsD cs), .im (.list (([] : List Int).map PyData.int)), .no, .no]
  refine ls_loop cs [] _ _ o (by simpa using l) fun s2 s3 => ?_
  rw [List.nil_append]
  exact ⟨hd_d, h⟩
end Q63
namespace Q63
open PySem L2 DL
abbrev stBody : SM := sIf (bAnd (bD (d2 gNe (hS 1) (hV (dLst (lNil))))) (bD (d2 gEq (hV (d2 gIx (hV (d2 gIx (hS 1) (hV (dNeg (dC (.int 1)))))) (hV (dC (.int 1))))) (hS 2)))) (sPut 1 (dNeg (dC (.int 1))) (dTup (lCons (d2 gIx (hV (d2 gIx (hS 1) (hV (dNeg (dC (.int 1)))))) (hV (dC (.int 0)))) (lCons (d2 gAdd (hS 2) (hV (dC (.int 1)))) (lNil))))) (sApp 1 (dTup (lCons (dV 2) (lCons (d2 gAdd (hS 2) (hV (dC (.int 1)))) (lNil)))))
theorem okD_pairs (ps : List Ct) : okD (.list (ps.map pairD)) := by
  have key : ∀ ps : List Ct, PyData.canLayAll0 (ps.map pairD) = true ∧ PyData.depthAll (ps.map pairD) ≤ 1 := by
    intro ps
    induction ps with
    | nil => exact ⟨rfl, by simp [PyData.depthAll]⟩
    | cons p ps ih =>
      obtain ⟨a, b⟩ := ih
      simp only [List.map_cons, PyData.canLayAll0, PyData.depthAll, a]
      refine ⟨rfl, ?_⟩
      have : (pairD p).depth = 1 := rfl
      omega
  obtain ⟨a, b⟩ := key ps
  show SeqAt.shaped _ = true
  unfold SeqAt.shaped
  simp only [PyData.canLay0, a, PyData.depth, Bool.true_and]
  simp
  omega
theorem st_step {C : D} {E : DE} {f : Int} {acc : List Ct} (l : acc.length < 1000000) (h : E.nx [.im C, .ow (.list ((addP acc f (f + 1)).map pairD)), .im (.int f)]) :
    stBody E [.im C, .ow (.list (acc.map pairD)), .im (.int f)] := by
  have o0 : okD (.list []) := okD_pairs []
  have oa := okD_pairs acc
  rcases List.eq_nil_or_concat acc with rfl | ⟨ini, c, rfl⟩
  · have e1 : addP [] f (f + 1) = [(f, f + 1)] := rfl
    rw [e1] at h
    have ev : PyData.eqv (.list []) (.list []) = true := by decide
    simp [raw, startE, arSl, sSeq, sIf, sRet, sRetN, sNo, sSet, sSetN, sExpr, sAsg, dCall, dCallO, aCons, aNil, aOra, dV, hS, hV, dC, d2, see, seeAll, dCB, DL.gCons, DL.gNil, dChain, bD, bAnd, bOr, bNot, dAnd, dOr, dNot, dNeg, dIf, dIsi, bTruth, truD, lCons, lNil, dTup, dLst, isD, gCmp, gAdd, DL.gSub, gIs, gIsNot, gLen, gN, gTupT, gConsT, gNoT, ownL, dSl, oI, oNo, gNe, o0, ev, sApp]
    exact h
  · rw [List.concat_eq_append] at l h oa ⊢
    have er : addP (ini ++ [c]) f (f + 1) = if c.2 = f then ini ++ [(c.1, f + 1)] else (ini ++ [c]) ++ [(f, f + 1)] := by
      unfold addP
      simp
    rw [er] at h
    have em : ∀ g : Ct, (ini ++ [g]).map pairD = ini.map pairD ++ [.tuple [.int g.1, .int g.2]] := fun g => by rw [List.map_append]; rfl
    have hl : (ini.map pairD).length < 1000000 - 1 := by simp at l ⊢; omega
    rw [em] at oa ⊢
    have en : ∀ q : List D, ∀ d : D, PyData.eqv (.list (q ++ [d])) (.list []) = false := fun q d => by cases q <;> simp [PyData.eqv, PyData.eqvAll]
    generalize hq : ini.map pairD = q at hl em oa ⊢
    have x1 : ∀ (d : D) (P : D → Prop), gIx (.list (q ++ [d])) (.int (-1)) P ↔ P d := fun d P => ⟨fun ⟨d', h', p⟩ => by rw [atI_last] at h'; cases h'; exact p, fun p => ⟨d, atI_last, p⟩⟩
    have x2 : ∀ P : D → Prop, gIx (.tuple [.int c.1, .int c.2]) (.int 0) P ↔ P (.int c.1) := fun P => ⟨fun ⟨_, h', p⟩ => by cases h'; exact p, fun p => ⟨_, rfl, p⟩⟩
    have x3 : ∀ P : D → Prop, gIx (.tuple [.int c.1, .int c.2]) (.int 1) P ↔ P (.int c.2) := fun P => ⟨fun ⟨_, h', p⟩ => by cases h'; exact p, fun p => ⟨_, rfl, p⟩⟩
    have x5 : ∀ d d' : D, (q ++ [d]).set q.length d' = q ++ [d'] := fun d d' => by simp
    have ev : PyData.eqv (.int c.2) (.int f) = decide (c.2 = f) := eqi ..
    have o1 : okD (.int c.2) := rfl
    have o2 : okD (.int f) := rfl
    by_cases hc : c.2 = f
    · rw [if_pos hc, em] at h
      subst hc
      have ev2 : PyData.eqv (.int c.2) (.int c.2) = true := by rw [eqi, decide_eq_true rfl]
      simp [raw, startE, arSl, sSeq, sIf, sRet, sRetN, sNo, sSet, sSetN, sExpr, sAsg, dCall, dCallO, aCons, aNil, aOra, dV, hS, hV, dC, d2, see, seeAll, dCB, DL.gCons, DL.gNil, dChain, bD, bAnd, bOr, bNot, dAnd, dOr, dNot, dNeg, dIf, dIsi, bTruth, truD, lCons, lNil, dTup, dLst, isD, gCmp, gAdd, DL.gSub, gIs, gIsNot, gLen, gN, gTupT, gConsT, gNoT, ownL, dSl, oI, oNo, x1, x2, x3, x5, ev2, o0, oa, o1, en, gEq, gNe, sPut, ixN_last]
      exact h
    · rw [if_neg hc, List.map_append, em] at h
      simp [raw, startE, arSl, sSeq, sIf, sRet, sRetN, sNo, sSet, sSetN, sExpr, sAsg, dCall, dCallO, aCons, aNil, aOra, dV, hS, hV, dC, d2, see, seeAll, dCB, DL.gCons, DL.gNil, dChain, bD, bAnd, bOr, bNot, dAnd, dOr, dNot, dNeg, dIf, dIsi, bTruth, truD, lCons, lNil, dTup, dLst, isD, gCmp, gAdd, DL.gSub, gIs, gIsNot, gLen, gN, gTupT, gConsT, gNoT, ownL, dSl, oI, oNo, x1, x2, x3, x5, ev, hc, o0, oa, o1, o2, en, gEq, gNe, sApp]
      exact ⟨by omega, by simpa [pairD] using h⟩
theorem st_loop {C : D} {E : DE} : ∀ (fs : List Int) (acc : List Ct) (s2 : Sl), acc.length + fs.length < 1000000 → (∀ s2, E.nx [.im C, .ow (.list ((strP fs acc).map pairD)), s2]) →
    forL (gN 2) stBody E (fs.map PyData.int) [.im C, .ow (.list (acc.map pairD)), s2]
  | [], acc, s2, _, h => h s2
  | f :: fs, acc, s2, l, h => by
    rw [List.length_cons] at l
    have := addP_len acc f (f + 1)
    exact st_step (f := f) (acc := acc) (by omega) (st_loop fs (addP acc f (f + 1)) _ (by omega) h)
theorem d_stretches {fs : List Int} {m : Nat} {P : D → Nat → Prop} (l : fs.length < 1000000) (h : P (cutsD (strP fs [])) 0) : r__law_stretches [.d (.list (fs.map PyData.int))] m P := by
  refine ⟨by decide, ?_⟩
  show forL _ stBody _ (fs.map PyData.int) [.im (.list (fs.map PyData.int)), .ow (.list (([] : List Ct).map pairD)), .no]
  exact st_loop fs [] _ (by simpa using l) fun s2 => ⟨trivial, hd_d, h⟩
end Q63
namespace Q63
open PySem L2 DL
theorem eqv_nil (ps : List Ct) : PyData.eqv (.list (ps.map pairD)) (.list []) = decide (ps = []) := by
  cases ps with
  | nil => decide
  | cons p ps => simp [PyData.eqv, PyData.eqvAll]
structure DrC (B : Int) (cs : List Ct) : Prop where
  ok : ∀ p ∈ cs, 0 ≤ p.1 ∧ p.1 < p.2 ∧ p.2 ≤ p.1 + 8 ∧ p.2 ≤ B
theorem last_ix {ini : List Ct} {c : Ct} {P : D → Prop} (h : P (pairD c)) : gIx (.list ((ini ++ [c]).map pairD)) (.int (-1)) P := by
  refine ⟨pairD c, ?_, h⟩
  rw [List.map_append, List.map_singleton]
  exact atI_last
abbrev cuApp : SM := sApp 3 (dTup (lCons (dV 5) (lCons (d2 gAdd (hV (d2 gAdd (hS 5) (hV (dC (.int 1))))) (hV (dCallO 0 2 s_next (aOra 0 (aCons (dCallO 0 2 r__law_of (aOra 0 (aCons (dLst (lCons (dC (.int 1)) (lCons (dC (.int 3)) (lCons (dC (.int 8)) (lNil))))) (aNil)))) (aNil)))))) (lNil))))
abbrev cuBody : SM := sSeq (sSet 5 (dCallO 0 2 s_next (aOra 0 (aCons (dV 2) (aNil))))) (sSeq (sIf (bAnd (bD (d2 gNe (hS 3) (hV (dLst (lNil))))) (bD (d2 gEq (hV (dCallO 0 2 s_next (aOra 0 (aCons (dC (.int 4)) (aNil))))) (hV (dC (.int 0)))))) (sSet 5 (d2 gIx (hV (d2 gIx (hS 3) (hV (dNeg (dC (.int 1)))))) (hV (dC (.int 1))))) (sNo)) cuApp)
section
variable {E : DE} {m : Nat} {M far here B : Int} {acc : List Ct} {k s5 : Sl}
theorem cu_app (hm : m < 1040000) (l : acc.length < 1000) (h : ∀ (p : Ct) m', p.1 = here → here < p.2 → p.2 ≤ here + 8 → m' ≤ m + 2 → E.nx [.ora m', .im (.int M), .im (.int far), .ow (.list ((acc ++ [p]).map pairD)), k, .im (.int here)]) :
    cuApp E [.ora m, .im (.int M), .im (.int far), .ow (.list (acc.map pairD)), k, .im (.int here)] := by
  refine ⟨trivial, trivial, trivial, trivial, by show 3 ≤ 1000000; omega, rfl, rfl, rfl, d_of (by omega) (by show 0 < 3; omega) (by show 3 < 1000; omega) fun y hy => ?_⟩
  obtain ⟨w, rfl, w0, w1⟩ : ∃ w : Int, y = .int w ∧ 0 < w ∧ w ≤ 8 := by
    simp at hy
    rcases hy with rfl | rfl | rfl
    · exact ⟨1, rfl, by omega, by omega⟩
    · exact ⟨3, rfl, by omega, by omega⟩
    · exact ⟨8, rfl, by omega, by omega⟩
  refine ⟨rfl, rfl, rfl, w, rfl, w0, by omega, by omega, fun j j0 j1 => ?_⟩
  refine ⟨by show 2 ≤ 1000000; omega, by rw [List.length_map]; omega, ?_⟩
  have := h (here, here + 1 + j) (m + 1 + 1) rfl (by show here < here + 1 + j; omega) (by show here + 1 + j ≤ here + 8; omega) (Nat.le_refl _)
  rw [List.map_append] at this
  exact this
theorem cu_step (hm : m < 1030000) (f0 : 0 < far) (f1 : far ≤ 100) (l : acc.length < 1000) (o : DrC B acc) (fB : far ≤ B) (h : ∀ (p : Ct) m' s5, 0 ≤ p.1 → p.1 < p.2 → p.2 ≤ p.1 + 8 → p.2 ≤ B + 8 → m' ≤ m + 4 → E.nx [.ora m', .im (.int M), .im (.int far), .ow (.list ((acc ++ [p]).map pairD)), k, s5]) :
    cuBody E [.ora m, .im (.int M), .im (.int far), .ow (.list (acc.map pairD)), k, s5] := by
  refine ⟨trivial, rfl, rfl, rfl, far, rfl, f0, by omega, by omega, fun i i0 i1 => ?_⟩
  refine ⟨trivial, by decide, okD_pairs acc, okD_pairs [], ?_⟩
  show if (!PyData.eqv (.list (acc.map pairD)) (.list [])) = true then _ else _
  rw [eqv_nil]
  rcases List.eq_nil_or_concat acc with rfl | ⟨ini, c, rfl⟩
  · rw [if_neg (by decide)]
    exact cu_app (by omega) l fun p m' e1 e2 e3 e4 => h p m' _ (by omega) (by omega) (by omega) (by omega) (by omega)
  · rw [List.concat_eq_append] at l o h ⊢
    have oc := o.ok c (by simp)
    rw [if_pos (by simp)]
    refine ⟨trivial, rfl, rfl, rfl, 4, rfl, by omega, by omega, by omega, fun j j0 j1 => ⟨rfl, rfl, ?_⟩⟩
    show if PyData.eqv (.int j) (.int 0) = true then _ else _
    rw [eqi]
    by_cases z : j = 0
    · rw [if_pos (decide_eq_true z)]
      refine ⟨trivial, last_ix ⟨_, rfl, ?_⟩⟩
      exact cu_app (here := c.2) (by omega) l fun p m' e1 e2 e3 e4 => h p m' _ (by omega) (by omega) (by omega) (by omega) (by omega)
    · rw [if_neg (by simpa using z)]
      exact cu_app (by omega) l fun p m' e1 e2 e3 e4 => h p m' _ (by omega) (by omega) (by omega) (by omega) (by omega)
end
theorem cu_loop {E : DE} {M far : Int} (f0 : 0 < far) (f1 : far ≤ 100) : ∀ (ks : List D) (m : Nat) (acc : List Ct) (B : Int) (k s5 : Sl), m + 4 * ks.length < 1030000 → acc.length + ks.length < 1000 → DrC B acc → far ≤ B →
    (∀ (cs : List Ct) (m' : Nat) (k s5 : Sl), DrC (B + 8 * ks.length) cs → cs.length = acc.length + ks.length → m' ≤ m + 4 * ks.length → E.nx [.ora m', .im (.int M), .im (.int far), .ow (.list (cs.map pairD)), k, s5]) →
    forL (gN 4) cuBody E ks [.ora m, .im (.int M), .im (.int far), .ow (.list (acc.map pairD)), k, s5]
  | [], m, acc, B, k, s5, _, _, o, _, h => h acc m k s5 ⟨fun p hp => by
      have := o.ok p hp
      simp
      omega⟩ rfl (Nat.le_refl _)
  | d :: ks, m, acc, B, k, s5, hm, hl, o, fB, h => by
    rw [List.length_cons] at hm hl h
    refine cu_step (by omega) f0 f1 (by omega) o fB fun p m' s5' p0 p1 p2 p3 hm' => ?_
    refine cu_loop f0 f1 ks m' (acc ++ [p]) (B + 8) _ _ (by omega) (by rw [List.length_append, List.length_singleton]; omega) ⟨fun q hq => ?_⟩ (by omega) ?_
    · (rcases List.mem_append.mp hq with hq | hq)
      · have := o.ok q hq
        omega
      · (rw [List.mem_singleton.mp hq])
        omega
    · intro cs m2 k2 t5 h1 h2 h3
      rw [List.length_append, List.length_singleton] at h2
      refine h cs m2 k2 t5 ⟨fun q hq => ?_⟩ (by omega) (by omega)
      have := h1.ok q hq
      rw [Int.natCast_add]
      omega
theorem d_cuts {m : Nat} {M far : Int} {P : D → Nat → Prop} (hm : m < 1020000) (M0 : 0 ≤ M) (M1 : M ≤ 8) (f0 : 0 < far) (f1 : far ≤ 100) (h : ∀ (cs : List Ct) (m' : Nat), DrC (far + 8 * M) cs → (cs.length : Int) ≤ M → m' ≤ m + 40 → P (cutsD cs) m') : r__law_cuts [.ora, .d (.int M), .d (.int far)] m P := by
  refine ⟨by decide, ?_⟩
  refine ⟨trivial, trivial, rfl, rfl, rfl, M + 1, rfl, by omega, by omega, by omega, fun i i0 i1 => ?_⟩
  refine ⟨⟨by omega, by omega⟩, ?_⟩
  have hj : (rgD 0 i).length = i.toNat := by simp [rgD]
  refine cu_loop f0 f1 (rgD 0 i) (m + 1) [] far _ _ (by rw [hj]; omega) (by rw [hj, List.length_nil]; omega) ⟨fun _ z => nomatch z⟩ (Int.le_refl _) ?_
  intro cs m' k s5 o l hm'
  rw [hj] at o l hm'
  rw [List.length_nil] at l
  exact ⟨trivial, h cs m' ⟨fun p hp => by have := o.ok p hp; omega⟩ (by omega) (by omega)⟩
end Q63
namespace Q63
open PySem L2 DL
def place : List Ct → Int → Nat × Int
  | [], _ => (0, 0)
  | p :: cs, f => if f < p.2 - p.1 then (0, p.1 + f) else ((place cs (f - (p.2 - p.1))).1 + 1, (place cs (f - (p.2 - p.1))).2)
theorem lenC_cons (p : Ct) (cs : List Ct) : lenC (p :: cs) = (p.2 - p.1) + lenC cs := by
  unfold lenC
  (rw [List.map_cons, List.sum_cons])
theorem place_old : ∀ (cs : List Ct) (f : Int), Val cs → 0 ≤ f → f < lenC cs → (place cs f).2 = getS cs f ∧ (place cs f).1 < cs.length
  | [], f, _, h0, h1 => by
    have : f < 0 := h1
    omega
  | p :: cs, f, v, h0, h1 => by
    have vp := v p List.mem_cons_self
    have vc : Val cs := fun q m => v q (List.mem_cons_of_mem _ m)
    rw [lenC_cons] at h1
    have lr := rng_len (a := p.1) (b := p.2) (by omega)
    unfold place getS
    rw [src_cons, List.length_cons]
    by_cases z : f < p.2 - p.1
    · rw [if_pos z]
      refine ⟨?_, by omega⟩
      rw [List.getD_eq_getElem?_getD, List.getElem?_append_left (by omega), rng_get (by omega)]
      show p.1 + f = p.1 + ((f.toNat : Nat) : Int)
      omega
    · rw [if_neg z]
      have ih := place_old cs (f - (p.2 - p.1)) vc (by omega) (by omega)
      refine ⟨?_, by omega⟩
      show (place cs (f - (p.2 - p.1))).2 = _
      rw [ih.1, List.getD_eq_getElem?_getD, List.getElem?_append_right (by omega)]
      unfold getS
      (rw [List.getD_eq_getElem?_getD])
      have e : (f - (p.2 - p.1)).toNat = f.toNat - (rng p.1 p.2).length := by omega
      rw [e]
theorem pair_at {cs : List Ct} {k : Nat} {p : Ct} {r : List Ct} (h : cs.drop k = p :: r) : atI (cs.map pairD) (k : Int) = some (pairD p) := by
  refine atI_nat ?_
  have : cs[k]? = some p := by
    have := List.getElem?_drop (xs := cs) (i := k) (j := 0)
    rw [h] at this
    exact this.symm
  rw [List.getElem?_map, this]
  rfl
theorem d_place_of {cs : List Ct} {f : Int} (v : Val cs) (h0 : 0 ≤ f) (h1 : f < lenC cs) {m : Nat} {P : D → Nat → Prop} (h : P (.tuple [.int ((place cs f).1 : Nat), .int (place cs f).2]) 0) : r__place_of [.d (cutsD cs), .d (.int f)] m P := by
  cases cs with
  | nil =>
    have : f < 0 := h1
    omega
  | cons p cs =>
  refine ⟨trivial, pairD p, pair_at (k := 0) (r := cs) rfl, rfl, rfl, ?_⟩
  refine ⟨fun n ρ => ∃ (k : Nat) (q : Ct) (r : List Ct) (fr : Int), (p :: cs).drop k = q :: r ∧ ρ = [.im (cutsD (p :: cs)), .im (.int fr), .im (.int (k : Nat)), .im (.int q.1), .im (.int q.2)] ∧ n = r.length ∧ 0 ≤ fr ∧ fr < lenC (q :: r) ∧ place (p :: cs) f = (k + (place (q :: r) fr).1, (place (q :: r) fr).2),
    ⟨cs.length, 0, p, cs, f, rfl, rfl, rfl, h0, h1, by rw [Nat.zero_add]⟩, ?_⟩
  rintro n ρ ⟨k, q, r, fr, hd, rfl, rfl, f0, f1, e⟩
  refine ⟨trivial, trivial, trivial, ?_⟩
  show if decide (q.2 - q.1 ≤ fr) = true then _ else _
  by_cases z : q.2 - q.1 ≤ fr
  · rw [if_pos (decide_eq_true z)]
    rw [lenC_cons] at f1
    cases r with
    | nil =>
      have : lenC [] = 0 := rfl
      omega
    | cons q2 r =>
      have hd2 : (p :: cs).drop (k + 1) = q2 :: r := by
        rw [← List.drop_drop, hd]
        rfl
      have at2 := pair_at hd2
      refine ⟨trivial, trivial, trivial, trivial, trivial, trivial, pairD q2, ?_, rfl, rfl, ?_⟩
      · have ek : ((k + 1 : Nat) : Int) = (k : Int) + 1 := by omega
        rw [ek] at at2
        exact at2
      · refine ⟨r.length, by rw [List.length_cons]; omega, k + 1, q2, r, fr - (q.2 - q.1), hd2, ?_, rfl, by omega, by omega, ?_⟩
        · have ek : ((k + 1 : Nat) : Int) = (k : Int) + 1 := by omega
          rw [ek]
          rfl
        · rw [e]
          have nz : ¬ fr < q.2 - q.1 := by omega
          have e2 : place (q :: q2 :: r) fr = ((place (q2 :: r) (fr - (q.2 - q.1))).1 + 1, (place (q2 :: r) (fr - (q.2 - q.1))).2) := by
            rw [place, if_neg nz]
          rw [e2]
          show (k + ((place (q2 :: r) (fr - (q.2 - q.1))).1 + 1), _) = (k + 1 + (place (q2 :: r) (fr - (q.2 - q.1))).1, _)
          rw [Nat.add_comm _ 1, ← Nat.add_assoc]
  · rw [if_neg (by simpa using z)]
    have e2 : place (q :: r) fr = (0, q.1 + fr) := by
      rw [place, if_pos (by omega)]
    rw [e2] at e
    rw [e] at h
    exact ⟨trivial, trivial, (by show 2 ≤ 1000000; omega), hd_d, h⟩
def over (f : Int) (p : Ct) : Bool := decide (p.1 ≤ f ∧ f < p.2)
def overD (f : Int) : D → Bool
  | .tuple [.int x, .int y] => decide (x ≤ f ∧ f < y)
  | _ => false
def fstI : D → D
  | .tuple [x, _] => x
  | _ => .none
def manyO (cs : List Ct) (f : Int) : Nat := (cs.filter (over f)).length
theorem many_src {cs : List Ct} {f : Int} : manyO cs f = 0 ↔ f ∉ src cs := by
  unfold manyO src
  rw [List.length_eq_zero_iff, List.filter_eq_nil_iff]
  constructor
  · intro h m
    obtain ⟨p, hp, m⟩ := List.mem_flatMap.mp m
    exact h p hp (decide_eq_true (rng_mem.mp m))
  · intro h p hp z
    exact h (List.mem_flatMap.mpr ⟨p, hp, rng_mem.mpr (of_decide_eq_true z)⟩)
theorem d_many_over {cs : List Ct} {f : Int} (l : cs.length ≤ 1000000) {m : Nat} {P : D → Nat → Prop} (h : P (.int (manyO cs f : Nat)) 0) : r__many_over [.d (cutsD cs), .d (.int f)] m P := by
  refine ⟨by rw [List.length_map]; omega, ⟨by simp, fun j hj => by simp at hj; rcases hj with rfl | rfl <;> rfl⟩, ?_⟩
  refine lcL_filt (ρ := [.im (cutsD cs), .im (.int f), .no, .no]) (overD f) fstI _ [] ?_ ?_
  · intro d hd Q R hQ hR
    obtain ⟨p, hp, rfl⟩ := List.mem_map.mp hd
    refine ⟨rfl, rfl, trivial, trivial, ?_⟩
    have yes : p.1 ≤ f ∧ f < p.2 → ∀ ρ3, wipeE ρ3 [2, 3] = [.im (cutsD cs), .im (.int f), .no, .no] → Q (.int p.1) ρ3 := fun z => hQ (decide_eq_true z)
    have no : ¬ (p.1 ≤ f ∧ f < p.2) → ∀ ρ3, wipeE ρ3 [2, 3] = [.im (cutsD cs), .im (.int f), .no, .no] → R ρ3 := fun z => hR (decide_eq_false z)
    by_cases a : p.1 ≤ f
    · by_cases b : f < p.2
      · simp [raw, startE, arSl, sSeq, sIf, sRet, sRetN, sNo, sSet, sSetN, sExpr, sAsg, dCall, dCallO, aCons, aNil, aOra, dV, hS, hV, dC, d2, see, seeAll, dCB, DL.gCons, DL.gNil, dChain, bD, bAnd, bOr, bNot, dAnd, dOr, dNot, dNeg, dIf, dIsi, bTruth, truD, lCons, lNil, dTup, dLst, isD, gCmp, gAdd, DL.gSub, gIs, gIsNot, gLen, gN, gTupT, gConsT, gNoT, ownL, dSl, oI, oNo, a, b]
        exact yes ⟨a, b⟩ _ rfl
      · simp [raw, startE, arSl, sSeq, sIf, sRet, sRetN, sNo, sSet, sSetN, sExpr, sAsg, dCall, dCallO, aCons, aNil, aOra, dV, hS, hV, dC, d2, see, seeAll, dCB, DL.gCons, DL.gNil, dChain, bD, bAnd, bOr, bNot, dAnd, dOr, dNot, dNeg, dIf, dIsi, bTruth, truD, lCons, lNil, dTup, dLst, isD, gCmp, gAdd, DL.gSub, gIs, gIsNot, gLen, gN, gTupT, gConsT, gNoT, ownL, dSl, oI, oNo, a, b]
        exact no (fun z => b z.2) _ rfl
    · simp [raw, startE, arSl, sSeq, sIf, sRet, sRetN, sNo, sSet, sSetN, sExpr, sAsg, dCall, dCallO, aCons, aNil, aOra, dV, hS, hV, dC, d2, see, seeAll, dCB, DL.gCons, DL.gNil, dChain, bD, bAnd, bOr, bNot, dAnd, dOr, dNot, dNeg, dIf, dIsi, bTruth, truD, lCons, lNil, dTup, dLst, isD, gCmp, gAdd, DL.gSub, gIs, gIsNot, gLen, gN, gTupT, gConsT, gNoT, ownL, dSl, oI, oNo, a]
      exact no (fun z => a z.1) _ rfl
  · have e : ([] : List D) ++ ((cs.map pairD).filter (overD f)).map fstI = (cs.filter (over f)).map fun p => .int p.1 := by
      rw [List.nil_append, List.filter_map, List.map_map]
      rfl
    rw [e]
    refine ⟨hd_d, ?_⟩
    show P (.int (((cs.filter (over f)).map fun p => PyData.int p.1).length : Nat)) 0
    rw [List.length_map]
    exact h
def accP (acc : List Int) (p : Ct) : List Int := insI p.2 (insI p.1 acc)
theorem accP_len (acc : List Int) (p : Ct) : (accP acc p).length ≤ acc.length + 2 := by
  have h1 := insI_len p.2 (insI p.1 acc)
  have h2 := insI_len p.1 acc
  unfold accP
  omega
theorem accP_mem {j : Int} {p : Ct} {acc : List Int} : j ∈ accP acc p ↔ j ∈ acc ∨ (j = p.1 ∨ j = p.2) := by
  unfold accP
  rw [insI_mem, insI_mem]
  exact or_assoc
abbrev ctIn : NM := nLoop (iSeq (dV 1)) (gN 2) bYes (nAdd (dV 2)) [2]
theorem ct_one {X : D} {p : Ct} {s2 : Sl} {acc : List Int} {Kp : List Int → DL.Env → Prop} (l : acc.length + 2 ≤ 64) (h : Kp (accP acc p) [.im X, .im (pairD p), .no]) : ctIn [.im X, .im (pairD p), s2] acc Kp := by
  have l2 := insI_len p.1 acc
  exact ⟨by omega, by omega, h⟩
theorem ct_all {X : D} {Kp : List Int → DL.Env → Prop} : ∀ (cs : List Ct) (acc : List Int), acc.length + 2 * cs.length ≤ 64 → Kp (cs.foldl accP acc) [.im X, .no, .no] → lpI (gN 1) bYes ctIn [1, 2] Kp (cs.map pairD) acc [.im X, .no, .no]
  | [], acc, _, h => h
  | p :: cs, acc, l, h => by
    rw [List.length_cons] at l
    have l2 := accP_len acc p
    refine ct_one (X := X) (s2 := .no) (by omega) ?_
    exact ct_all cs (accP acc p) (by omega) h
theorem foldP_len : ∀ (cs : List Ct) (acc : List Int), (cs.foldl accP acc).length ≤ acc.length + 2 * cs.length
  | [], acc => by simp
  | p :: cs, acc => by
    have h1 := foldP_len cs (accP acc p)
    have h2 := accP_len acc p
    (rw [List.foldl_cons, List.length_cons])
    omega
theorem foldP_mem {j : Int} : ∀ (cs : List Ct) (acc : List Int), j ∈ cs.foldl accP acc ↔ j ∈ acc ∨ ∃ p ∈ cs, j = p.1 ∨ j = p.2
  | [], acc => by simp
  | p :: cs, acc => by
    rw [List.foldl_cons, foldP_mem cs, accP_mem]
    simp [or_assoc]
structure BorC (cs : List Ct) (B : List Int) : Prop where
  asc : B.Pairwise (· < ·)
  mem : ∀ j : Int, j ∈ B ↔ ∃ p ∈ cs, j = p.1 ∨ j = p.2
theorem d_bounds {cs : List Ct} {m : Nat} {P : D → Nat → Prop} (l : cs.length ≤ 31) (h : ∀ B, BorC cs B → P (.list (B.map PyData.int)) 0) : r__bounds_of [.d (cutsD cs)] m P := by
  refine ⟨⟨by simp, fun j hj => ?_⟩, ?_⟩
  · simp at hj
    rcases hj with rfl | rfl <;> rfl
  refine ct_all (X := cutsD cs) cs [] (by simp; omega) ?_
  have hb := foldP_len cs []
  rw [List.length_nil, Nat.zero_add] at hb
  refine ⟨by omega, fun ns hs hm => ⟨hd_d, h ns ⟨hs, fun j => ?_⟩⟩⟩
  rw [hm j, foldP_mem]
  simp
end Q63
namespace Q63
open PySem L2 DL
def bnds (B : List Int) (s e : Int) : List Int := ([s] ++ B.filter fun b => decide (s < b ∧ b < e)) ++ [e]
def notS (cs : List Ct) (B : List Int) (s e : Int) : List Ct := ((bnds B s e).zip (bnds B s e).tail).filter fun p => decide (p.1 < p.2 ∧ manyO cs p.1 = 0)
def inD (s e : Int) : D → Bool
  | .int b => decide (s < b ∧ b < e)
  | _ => false
def notD (cs : List Ct) : D → Bool
  | .tuple [.int x, .int y] => decide (x < y ∧ manyO cs x = 0)
  | _ => false
theorem d_not_shown {cs : List Ct} {s e : Int} (l : cs.length ≤ 31) {m : Nat} {P : D → Nat → Prop} (h : ∀ B, BorC cs B → P (.list ((notS cs B s e).map pairD)) 0) : r__not_shown [.d (cutsD cs), .d (.int s), .d (.int e)] m P := by
  refine ⟨(by show 1 ≤ 1000000; omega), rfl, rfl, d_bounds l fun B b => ?_⟩
  have lB : B.length ≤ 64 := by
    have := len_sub b.asc (ys := cs.foldl accP []) fun x hx => (foldP_mem cs []).mpr (.inr ((b.mem x).mp hx))
    have := foldP_len cs []
    rw [List.length_nil] at this
    omega
  have h := h B b
  refine ⟨by rw [List.length_map]; omega, ⟨by simp, fun j hj => by simp at hj; rcases hj with rfl; rfl⟩, ?_⟩
  refine lcL_filt (ρ := [.im (cutsD cs), .im (.int s), .im (.int e), .no, .no, .no, .no]) (inD s e) id _ [] ?_ ?_
  · intro d hd Q R hQ hR
    obtain ⟨x, hx, rfl⟩ := List.mem_map.mp hd
    have yes : s < x ∧ x < e → ∀ ρ3, wipeE ρ3 [6] = [.im (cutsD cs), .im (.int s), .im (.int e), .no, .no, .no, .no] → Q (.int x) ρ3 := fun z => hQ (decide_eq_true z)
    have no : ¬ (s < x ∧ x < e) → ∀ ρ3, wipeE ρ3 [6] = [.im (cutsD cs), .im (.int s), .im (.int e), .no, .no, .no, .no] → R ρ3 := fun z => hR (decide_eq_false z)
    by_cases a : s < x
    · by_cases b : x < e
      · simp [raw, startE, arSl, sSeq, sIf, sRet, sRetN, sNo, sSet, sSetN, sExpr, sAsg, dCall, dCallO, aCons, aNil, aOra, dV, hS, hV, dC, d2, see, seeAll, dCB, DL.gCons, DL.gNil, dChain, bD, bAnd, bOr, bNot, dAnd, dOr, dNot, dNeg, dIf, dIsi, bTruth, truD, lCons, lNil, dTup, dLst, isD, gCmp, gAdd, DL.gSub, gIs, gIsNot, gLen, gN, gTupT, gConsT, gNoT, ownL, dSl, oI, oNo, a, b]
        exact yes ⟨a, b⟩ _ rfl
      · simp [raw, startE, arSl, sSeq, sIf, sRet, sRetN, sNo, sSet, sSetN, sExpr, sAsg, dCall, dCallO, aCons, aNil, aOra, dV, hS, hV, dC, d2, see, seeAll, dCB, DL.gCons, DL.gNil, dChain, bD, bAnd, bOr, bNot, dAnd, dOr, dNot, dNeg, dIf, dIsi, bTruth, truD, lCons, lNil, dTup, dLst, isD, gCmp, gAdd, DL.gSub, gIs, gIsNot, gLen, gN, gTupT, gConsT, gNoT, ownL, dSl, oI, oNo, a, b]
        exact no (fun z => b z.2) _ rfl
    · simp [raw, startE, arSl, sSeq, sIf, sRet, sRetN, sNo, sSet, sSetN, sExpr, sAsg, dCall, dCallO, aCons, aNil, aOra, dV, hS, hV, dC, d2, see, seeAll, dCB, DL.gCons, DL.gNil, dChain, bD, bAnd, bOr, bNot, dAnd, dOr, dNot, dNeg, dIf, dIsi, bTruth, truD, lCons, lNil, dTup, dLst, isD, gCmp, gAdd, DL.gSub, gIs, gIsNot, gLen, gN, gTupT, gConsT, gNoT, ownL, dSl, oI, oNo, a]
      exact no (fun z => a z.1) _ rfl
  · have e1 : ([] : List D) ++ ((B.map PyData.int).filter (inD s e)).map id = (B.filter fun b => decide (s < b ∧ b < e)).map PyData.int := by
      rw [List.nil_append, List.map_id, List.filter_map]
      rfl
    rw [e1]
    have lf : ((B.filter fun b => decide (s < b ∧ b < e)).map PyData.int).length ≤ 64 := by
      rw [List.length_map]
      exact Nat.le_trans (List.length_filter_le ..) lB
    refine ⟨(by show 1 + _ ≤ 1000000; omega), (by show 1 ≤ 1000000; omega), (by rw [List.length_append]; show 1 + _ + 1 ≤ 1000000; omega), ?_⟩
    have eb : [PyData.int s] ++ (B.filter fun b => decide (s < b ∧ b < e)).map PyData.int ++ [PyData.int e] = (bnds B s e).map PyData.int := by
      unfold bnds
      rw [List.map_append, List.map_append]
      rfl
    have lb : (bnds B s e).length ≤ 70 := by
      rw [List.length_map] at lf
      unfold bnds
      rw [List.length_append, List.length_append]
      show 1 + _ + 1 ≤ 70
      omega
    rw [eb]
    clear eb lf e1
    unfold notS at h
    generalize bnds B s e = L at h lb ⊢
    have lz : ((L.map PyData.int).zip (L.map PyData.int).tail).length ≤ 70 := by
      rw [List.length_zip, List.length_map]
      omega
    refine ⟨trivial, by have := Nat.min_le_left (L.map PyData.int).length (cutD (L.map PyData.int) (some 1) none).length; rw [List.length_map] at this ⊢; omega, ?_⟩
    rw [zip_tail]
    have ez : ((L.map PyData.int).zip (L.map PyData.int).tail).map pairT = (L.zip L.tail).map pairD := by
      rw [← List.map_tail, List.zip_map, List.map_map]
      rfl
    rw [ez]
    have lz2 : (L.zip L.tail).length ≤ 70 := by
      rw [List.length_zip]
      omega
    generalize L.zip L.tail = Z at h lz2 ⊢
    refine ⟨by rw [List.length_map]; omega, ⟨by simp, fun j hj => by simp at hj; rcases hj with rfl; rfl⟩, ?_⟩
    refine lcL_filt (ρ := [.im (cutsD cs), .im (.int s), .im (.int e), .im (.list (L.map PyData.int)), .im (.list (Z.map pairD)), .no, .no]) (notD cs) id _ [] ?_ ?_
    · intro d hd Q R hQ hR
      obtain ⟨p, hp, rfl⟩ := List.mem_map.mp hd
      refine ⟨trivial, p0 ?_⟩
      refine ⟨trivial, p1 ?_⟩
      show if decide (p.1 < p.2) = true then _ else _
      by_cases a : p.1 < p.2
      · rw [if_pos (decide_eq_true a)]
        refine ⟨trivial, p0 ?_⟩
        refine ⟨rfl, rfl, d_many_over (by omega) ⟨rfl, rfl, ?_⟩⟩
        rw [eqi]
        by_cases z : manyO cs p.1 = 0
        · have z' : ((manyO cs p.1 : Nat) : Int) = 0 := by omega
          rw [decide_eq_true z']
          exact hQ (decide_eq_true ⟨a, z⟩) _ rfl
        · have z' : ¬ ((manyO cs p.1 : Nat) : Int) = 0 := by omega
          rw [decide_eq_false z']
          exact hR (decide_eq_false fun w => z w.2) _ rfl
      · rw [if_neg (by simpa using a)]
        exact hR (decide_eq_false fun z => a z.1) _ rfl
    · have e2 : ([] : List D) ++ ((Z.map pairD).filter (notD cs)).map id = (Z.filter fun p => decide (p.1 < p.2 ∧ manyO cs p.1 = 0)).map pairD := by
        rw [List.nil_append, List.map_id, List.filter_map]
        rfl
      rw [e2]
      exact ⟨hd_d, h⟩
theorem bnds_zip (B : List Int) (s e : Int) : (bnds B s e).zip (bnds B s e).tail = (s :: B.filter fun b => decide (s < b ∧ b < e)).zip ((B.filter fun b => decide (s < b ∧ b < e)) ++ [e]) := by
  unfold bnds
  generalize (B.filter fun b => decide (s < b ∧ b < e)) = F
  have key : ∀ (F : List Int) (x : Int), ((x :: F) ++ [e]).zip (F ++ [e]) = (x :: F).zip (F ++ [e]) := by
    intro F
    induction F with
    | nil => intro x; rfl
    | cons g F ih =>
      intro x
      have := ih g
      show (x, g) :: ((g :: F) ++ [e]).zip (F ++ [e]) = (x, g) :: (g :: F).zip (F ++ [e])
      rw [this]
  exact key F s
end Q63
namespace Q63
open PySem L2 DL
theorem join_id : ∀ (ps acc : List Ct), (∀ q ∈ acc ++ ps, ∀ p ∈ ps, q.2 ≠ p.1) → joinP ps acc = acc ++ ps
  | [], acc, _ => (List.append_nil acc).symm
  | p :: ps, acc, h => by
    have e : addP acc p.1 p.2 = acc ++ [p] := by
      unfold addP
      cases z : acc.getLast? with
      | none =>
        have : acc = [] := by simpa using z
        subst this
        rfl
      | some q =>
        have ne := h q (List.mem_append_left _ (List.mem_of_getLast? z)) p List.mem_cons_self
        show (if q.2 = p.1 then acc.dropLast ++ [(q.1, p.2)] else acc ++ [(p.1, p.2)]) = _
        rw [if_neg ne]
    show joinP ps (addP acc p.1 p.2) = _
    rw [e, join_id ps (acc ++ [p]) fun q hq r hr => h q (by rw [List.append_assoc] at hq; exact hq) r (List.mem_cons_of_mem _ hr), List.append_assoc]
    rfl
theorem sg_one (g : Int → Bool) (x e : Int) (k : ∀ f, x ≤ f → f < e → g f = g x) : src (([(x, e)] : List Ct).filter fun p => decide (p.1 < p.2) && g p.1) = (rng x e).filter g := by
    by_cases z : x < e
    · cases y : g x with
      | true =>
        have e1 : List.filter (fun p : Ct => decide (p.1 < p.2) && g p.1) [(x, e)] = [(x, e)] := by
          rw [List.filter_cons_of_pos (by show (decide (x < e) && g x) = true; rw [decide_eq_true z, y]; rfl)]
          rfl
        rw [e1, List.filter_eq_self.mpr fun f hf => ?_]
        · show rng x e ++ [] = _
          rw [List.append_nil]
        · have := rng_mem.mp hf
          rw [k f this.1 this.2]
          exact y
      | false =>
        have e1 : List.filter (fun p : Ct => decide (p.1 < p.2) && g p.1) [(x, e)] = [] := by
          rw [List.filter_cons_of_neg (by show ¬ (decide (x < e) && g x) = true; rw [y]; simp)]
          rfl
        rw [e1, List.filter_eq_nil_iff.mpr fun f hf => ?_]
        · rfl
        · have := rng_mem.mp hf
          rw [k f this.1 this.2]
          simp [y]
    · have e1 : List.filter (fun p : Ct => decide (p.1 < p.2) && g p.1) [(x, e)] = [] := by
        rw [List.filter_cons_of_neg (by show ¬ (decide (x < e) && g x) = true; rw [decide_eq_false z]; simp)]
        rfl
      rw [e1, rng_nil (by omega)]
      rfl
theorem seg_src (g : Int → Bool) : ∀ (F : List Int) (x e : Int), (∀ y ∈ F, x < y) → F.Pairwise (· < ·) → (∀ y ∈ F, y ≤ e) → (∀ p ∈ (x :: F).zip (F ++ [e]), ∀ f, p.1 ≤ f → f < p.2 → g f = g p.1) →
    src (((x :: F).zip (F ++ [e])).filter fun p => decide (p.1 < p.2) && g p.1) = (rng x e).filter g
  | [], x, e, _, _, _, k => sg_one g x e (k (x, e) List.mem_cons_self)
  | y :: F, x, e, lo, so, hi, k => by
    have so2 := List.pairwise_cons.mp so
    have xy := lo y List.mem_cons_self
    have ye := hi y List.mem_cons_self
    have ih := seg_src g F y e so2.1 so2.2 (fun z hz => hi z (List.mem_cons_of_mem _ hz)) fun p hp => k p (List.mem_cons_of_mem _ hp)
    have one := sg_one g x y (k (x, y) List.mem_cons_self)
    have e1 : (x :: y :: F).zip (y :: F ++ [e]) = [(x, y)] ++ (y :: F).zip (F ++ [e]) := rfl
    rw [e1, List.filter_append, src_app, ih, rng_split (show x ≤ y by omega) ye, List.filter_append, ← one]
theorem no_between {e : Int} : ∀ (F : List Int) (x : Int), (∀ y ∈ F, x < y) → F.Pairwise (· < ·) → ∀ p ∈ (x :: F).zip (F ++ [e]), ∀ y ∈ F, ¬ (p.1 < y ∧ y < p.2)
  | [], _, _, _, _, _, _, z => nomatch z
  | g :: F, x, lo, so, p, hp, y, hy => by
    have so2 := List.pairwise_cons.mp so
    have hp : p ∈ (x, g) :: (g :: F).zip (F ++ [e]) := hp
    (rcases List.mem_cons.mp hp with rfl | hp)
    · rintro ⟨_, h⟩
      (rcases List.mem_cons.mp hy with rfl | hy)
      · exact absurd h (Int.lt_irrefl _)
      · have := so2.1 y hy
        have h : y < g := h
        omega
    · (rcases List.mem_cons.mp hy with rfl | hy)
      · rintro ⟨h, _⟩
        rcases List.mem_cons.mp (List.of_mem_zip hp).1 with e1 | m
        · omega
        · have := so2.1 _ m
          omega
      · exact no_between F g so2.1 so2.2 p hp y hy
theorem many_same {cs : List Ct} {x f : Int} (xf : x ≤ f) (h : ∀ q ∈ cs, ¬ (x < q.1 ∧ q.1 ≤ f) ∧ ¬ (x < q.2 ∧ q.2 ≤ f)) : manyO cs f = manyO cs x := by
  unfold manyO
  congr 1
  (refine List.filter_congr fun q hq => ?_)
  have := h q hq
  unfold over
  by_cases z : q.1 ≤ x ∧ x < q.2
  · rw [decide_eq_true z, decide_eq_true (by omega)]
  · rw [decide_eq_false z, decide_eq_false (by omega)]
section
variable {cs : List Ct} {B : List Int} {s e : Int} (b : BorC cs B)
include b
theorem in_lo : ∀ y ∈ B.filter fun b => decide (s < b ∧ b < e), s < y := fun _ hy => (of_decide_eq_true (List.mem_filter.mp hy).2).1
theorem pair_in {p : Ct} (hp : p ∈ (s :: B.filter fun b => decide (s < b ∧ b < e)).zip ((B.filter fun b => decide (s < b ∧ b < e)) ++ [e])) : s ≤ p.1 ∧ p.2 ≤ e := by
  have h1 := (List.of_mem_zip hp).1
  have h2 := (List.of_mem_zip hp).2
  constructor
  · rcases List.mem_cons.mp h1 with w | w
    · omega
    · have := of_decide_eq_true (List.mem_filter.mp w).2
      omega
  · rcases List.mem_append.mp h2 with w | w
    · have := of_decide_eq_true (List.mem_filter.mp w).2
      omega
    · rw [List.mem_singleton.mp w]
      omega
theorem gap_same {p : Ct} (hp : p ∈ (s :: B.filter fun b => decide (s < b ∧ b < e)).zip ((B.filter fun b => decide (s < b ∧ b < e)) ++ [e])) {f : Int} (h1 : p.1 ≤ f) (h2 : f < p.2) : manyO cs f = manyO cs p.1 := by
  have i := pair_in b hp
  have no := no_between (e := e) _ s (in_lo b) (b.asc.filter _) p hp
  refine many_same h1 fun q hq => ⟨fun z => ?_, fun z => ?_⟩
  · exact no q.1 (List.mem_filter.mpr ⟨(b.mem q.1).mpr ⟨q, hq, .inl rfl⟩, decide_eq_true (by omega)⟩) (by omega)
  · exact no q.2 (List.mem_filter.mpr ⟨(b.mem q.2).mpr ⟨q, hq, .inr rfl⟩, decide_eq_true (by omega)⟩) (by omega)
theorem gap_src : src (notS cs B s e) = (rng s e).filter fun f => decide (f ∉ src cs) := by
  unfold notS
  rw [bnds_zip]
  have k := seg_src (fun f => decide (f ∉ src cs)) (B.filter fun b => decide (s < b ∧ b < e)) s e (in_lo b) (b.asc.filter _) (fun y hy => by
    have := (of_decide_eq_true (List.mem_filter.mp hy).2).2
    omega) fun p hp f h1 h2 => by
      have m := gap_same b hp h1 h2
      have h : f ∉ src cs ↔ p.1 ∉ src cs := by rw [← many_src, ← many_src, m]
      exact decide_eq_decide.mpr h
  rw [← k]
  congr 1
  refine List.filter_congr fun p _ => ?_
  by_cases z : p.1 < p.2
  · by_cases y : manyO cs p.1 = 0
    · rw [decide_eq_true (⟨z, y⟩ : p.1 < p.2 ∧ manyO cs p.1 = 0), decide_eq_true z, decide_eq_true (many_src.mp y)]
      rfl
    · rw [decide_eq_false (fun w => y w.2), decide_eq_true z, decide_eq_false fun w => y (many_src.mpr w)]
      rfl
  · rw [decide_eq_false (fun w => z w.1), decide_eq_false z]
    rfl
theorem gap_is (v : Val cs) : notS cs B s e = strP ((rng s e).filter fun f => decide (f ∉ src cs)) [] := by
  have vn : Val (notS cs B s e) := fun p hp => (of_decide_eq_true (List.mem_filter.mp hp).2).1
  rw [← gap_src b, strP_src _ _ vn, join_id _ [] fun p hp q hq eq_ => ?_, List.nil_append]
  rw [List.nil_append] at hp
  unfold notS at hp hq
  rw [bnds_zip] at hp hq
  have hp := List.mem_filter.mp hp
  have hq := List.mem_filter.mp hq
  have pp := of_decide_eq_true hp.2
  have qq := of_decide_eq_true hq.2
  have ip := pair_in b hp.1
  have mq : q.1 ∈ B := by
    rcases List.mem_cons.mp (List.of_mem_zip hq.1).1 with w | w
    · omega
    · exact (List.mem_filter.mp w).1
  obtain ⟨r, hr, w⟩ := (b.mem q.1).mp mq
  have vr := v r hr
  rcases w with w | w
  · refine many_src.mp qq.2 (List.mem_flatMap.mpr ⟨r, hr, rng_mem.mpr (by omega)⟩)
  · have m := gap_same b hp.1 (f := p.2 - 1) (by omega) (by omega)
    rw [pp.2] at m
    exact many_src.mp m (List.mem_flatMap.mpr ⟨r, hr, rng_mem.mpr (by omega)⟩)
end
theorem rng_count {f : Int} : ∀ (n : Nat) (a b : Int), b - a = n → (rng a b).countP (fun y => decide (y = f)) = if a ≤ f ∧ f < b then 1 else 0
  | 0, a, b, h => by
    rw [rng_nil (by omega), if_neg (by omega)]
    rfl
  | n + 1, a, b, h => by
    have ih := rng_count (f := f) n a (b - 1) (by omega)
    have e : rng a b = rng a (b - 1) ++ [b - 1] := by
      have := rng_succ (a := a) (b := b - 1) (by omega)
      rw [show b - 1 + 1 = b by omega] at this
      exact this
    rw [e, List.countP_append, ih]
    by_cases z : f = b - 1
    · rw [if_neg (by omega), if_pos (by omega)]
      simp [z]
    · have e0 : [b - 1].countP (fun y => decide (y = f)) = 0 := by
        have : ¬ b - 1 = f := fun w => z w.symm
        simp [this]
      rw [e0]
      by_cases y : a ≤ f ∧ f < b - 1
      · rw [if_pos y, if_pos (by omega)]
      · rw [if_neg y, if_neg (by omega)]
theorem src_count {f : Int} : ∀ (cs : List Ct), Val cs → (src cs).countP (fun y => decide (y = f)) = manyO cs f
  | [], _ => rfl
  | p :: cs, v => by
    have vp := v p List.mem_cons_self
    rw [src_cons, List.countP_append, src_count cs fun q m => v q (List.mem_cons_of_mem _ m), rng_count (p.2 - p.1).toNat p.1 p.2 (by omega)]
    unfold manyO
    rw [List.filter_cons]
    unfold over
    by_cases z : p.1 ≤ f ∧ f < p.2
    · rw [if_pos z, decide_eq_true z, if_pos rfl, List.length_cons]
      omega
    · rw [if_neg z, decide_eq_false z, if_neg Bool.false_ne_true]
      omega
def twi (cs : List Ct) (B : List Int) : List Ct := (B.zip B.tail).filter fun p => decide (1 < manyO cs p.1)
theorem twi_is {cs : List Ct} {B : List Int} (b : BorC cs B) (v : Val cs) {lo hi : Int} (h : ∀ p ∈ cs, lo ≤ p.1 ∧ p.2 ≤ hi) : joinP (twi cs B) [] = strP ((rng lo hi).filter fun f => decide (1 < manyO cs f)) [] := by
  have out : ∀ f, manyO cs f ≠ 0 → f ∈ src cs := fun f z => Classical.byContradiction fun n => z (many_src.mpr n)
  cases B with
  | nil =>
    have e : (rng lo hi).filter (fun f => decide (1 < manyO cs f)) = [] := by
      refine List.filter_eq_nil_iff.mpr fun f _ z => ?_
      have z := of_decide_eq_true z
      obtain ⟨q, hq, _⟩ := List.mem_flatMap.mp (out f (by omega))
      exact nomatch (b.mem q.1).mpr ⟨q, hq, .inl rfl⟩
    rw [e]
    rfl
  | cons x F =>
    have so := List.pairwise_cons.mp b.asc
    rcases List.eq_nil_or_concat F with rfl | ⟨ini, e, rfl⟩
    · -- one border alone: there is no stretch
      have e : (rng lo hi).filter (fun f => decide (1 < manyO cs f)) = [] := by
        refine List.filter_eq_nil_iff.mpr fun f _ z => ?_
        have z := of_decide_eq_true z
        obtain ⟨q, hq, _⟩ := List.mem_flatMap.mp (out f (by omega))
        have h1 := List.mem_singleton.mp ((b.mem q.1).mpr ⟨q, hq, .inl rfl⟩)
        have h2 := List.mem_singleton.mp ((b.mem q.2).mpr ⟨q, hq, .inr rfl⟩)
        have := v q hq
        omega
      rw [e]
      rfl
    · rw [List.concat_eq_append] at b so ⊢
      have so3 := List.pairwise_append.mp so.2
      have lo1 : ∀ y ∈ ini, x < y := fun y hy => so.1 y (List.mem_append_left _ hy)
      have xe : x < e := so.1 e (by simp)
      have hi1 : ∀ y ∈ ini, y < e := fun y hy => so3.2.2 y hy e (by simp)
      have memB : ∀ j, j ∈ x :: (ini ++ [e]) → x ≤ j ∧ j ≤ e := fun j hj => by
        rcases List.mem_cons.mp hj with rfl | hj
        · omega
        · rcases List.mem_append.mp hj with hj | hj
          · have := lo1 j hj
            have := hi1 j hj
            omega
          · rw [List.mem_singleton.mp hj]
            omega
      have ez : (x :: (ini ++ [e])).zip (x :: (ini ++ [e])).tail = (x :: ini).zip (ini ++ [e]) := by
        have key : ∀ (F : List Int) (x : Int), ((x :: F) ++ [e]).zip (F ++ [e]) = (x :: F).zip (F ++ [e]) := by
          intro F
          induction F with
          | nil => intro x; rfl
          | cons g F ih =>
            intro x
            have := ih g
            show (x, g) :: ((g :: F) ++ [e]).zip (F ++ [e]) = (x, g) :: (g :: F).zip (F ++ [e])
            rw [this]
        exact key ini x
      have no := no_between (e := e) ini x lo1 so3.1
      have k := seg_src (fun f => decide (1 < manyO cs f)) ini x e lo1 so3.1 (fun y hy => by have := hi1 y hy; omega) fun p hp f h1 h2 => by
        have m : manyO cs f = manyO cs p.1 := by
          have hp1 : x ≤ p.1 := by
            rcases List.mem_cons.mp (List.of_mem_zip hp).1 with w | w
            · omega
            · have := lo1 _ w
              omega
          have hp2 : p.2 ≤ e := by
            rcases List.mem_append.mp (List.of_mem_zip hp).2 with w | w
            · have := hi1 _ w
              omega
            · rw [List.mem_singleton.mp w]
              omega
          have away : ∀ j ∈ x :: (ini ++ [e]), ¬ (p.1 < j ∧ j ≤ f) := fun j hj z => by
            rcases List.mem_cons.mp hj with rfl | hj
            · omega
            · rcases List.mem_append.mp hj with hj | hj
              · exact no p hp j hj (by omega)
              · have := List.mem_singleton.mp hj
                omega
          exact many_same h1 fun q hq => ⟨away q.1 ((b.mem q.1).mpr ⟨q, hq, .inl rfl⟩), away q.2 ((b.mem q.2).mpr ⟨q, hq, .inr rfl⟩)⟩
        show decide (1 < manyO cs f) = decide (1 < manyO cs p.1)
        rw [m]
      have asc : ∀ p ∈ (x :: ini).zip (ini ++ [e]), p.1 < p.2 := by
        have key : ∀ (F : List Int) (x : Int), (∀ y ∈ F, x < y) → F.Pairwise (· < ·) → (∀ y ∈ F, y < e) → x < e → ∀ p ∈ (x :: F).zip (F ++ [e]), p.1 < p.2 := by
          intro F
          induction F with
          | nil =>
            intro x _ _ _ h p hp
            rw [List.mem_singleton.mp hp]
            exact h
          | cons g F ih =>
            intro x h1 h2 h3 h4 p hp
            have h2 := List.pairwise_cons.mp h2
            (rcases List.mem_cons.mp hp with rfl | hp)
            · exact h1 g List.mem_cons_self
            · exact ih g h2.1 h2.2 (fun y hy => h3 y (List.mem_cons_of_mem _ hy)) (h3 g List.mem_cons_self) p hp
        exact key ini x lo1 so3.1 hi1 xe
      have et : twi cs (x :: (ini ++ [e])) = ((x :: ini).zip (ini ++ [e])).filter fun p => decide (p.1 < p.2) && decide (1 < manyO cs p.1) := by
        unfold twi
        rw [ez]
        (refine List.filter_congr fun p hp => ?_)
        rw [decide_eq_true (asc p hp)]
        rfl
      have vt : Val (twi cs (x :: (ini ++ [e]))) := by
        rw [et]
        exact fun p hp => asc p (List.mem_filter.mp hp).1
      rw [← strP_src _ _ vt, et, k]
      congr 1
      have none_ : ∀ a c : Int, (∀ f, a ≤ f → f < c → f < x ∨ e ≤ f) → (rng a c).filter (fun f => decide (1 < manyO cs f)) = [] := fun a c ha => by
        refine List.filter_eq_nil_iff.mpr fun f hf z => ?_
        have z := of_decide_eq_true z
        have hf := rng_mem.mp hf
        obtain ⟨q, hq, m⟩ := List.mem_flatMap.mp (out f (by omega))
        have m := rng_mem.mp m
        have h1 := memB q.1 ((b.mem q.1).mpr ⟨q, hq, .inl rfl⟩)
        have h2 := memB q.2 ((b.mem q.2).mpr ⟨q, hq, .inr rfl⟩)
        have := ha f hf.1 hf.2
        omega
      have l1 : lo ≤ x := by
        obtain ⟨q, hq, w⟩ := (b.mem x).mp List.mem_cons_self
        have := h q hq
        have := v q hq
        omega
      have l2 : e ≤ hi := by
        obtain ⟨q, hq, w⟩ := (b.mem e).mp (by simp)
        have := h q hq
        have := v q hq
        omega
      rw [rng_split l1 (show x ≤ hi by omega), rng_split (show x ≤ e by omega) l2, List.filter_append, List.filter_append, none_ lo x fun f _ h => .inl h, none_ e hi fun f h _ => .inr h, List.nil_append, List.append_nil]
end Q63
namespace Q63
open PySem L2 DL
structure Cw (cs : List Ct) : Prop where
  ok : ∀ p ∈ cs, 0 ≤ p.1 ∧ p.1 < p.2 ∧ p.2 ≤ 100
  len : cs.length ≤ 20
  all : lenC cs ≤ 200
theorem Cw.g {cs : List Ct} (c : Cw cs) : GCut cs := ⟨fun p hp => ⟨(c.ok p hp).1, (c.ok p hp).2.1, by have := (c.ok p hp).2.2; omega⟩, by have := c.len; omega⟩
theorem d_length {cs : List Ct} {m : Nat} {P : D → Nat → Prop} (g : GCut cs) (h : P (.int (lenC cs)) 0) : r_length [.d (cutsD cs)] m P := by
  have l := g.len
  exact ⟨rfl, rfl, d_need_cuts g ⟨rfl, rfl, d_length_of (by omega) ⟨hd_d, h⟩⟩⟩
theorem d_joinedT {ps : List Ct} {m : Nat} {P : D → Nat → Prop} (l : ps.length < 1000000) (h : P (cutsD (joinP ps [])) 0) : r__joined [.d (cutsD ps)] m P := by
  refine ⟨by decide, ?_⟩
  show forL _ _ _ (ps.map pairD) [.im (cutsD ps), .ow (.list ([].map pairD)), .no, .no]
  exact j_loop ps [] _ _ (by simpa using l) fun s2 s3 => ⟨trivial, hd_d, h⟩
theorem d_plain {cs : List Ct} {m : Nat} {P : D → Nat → Prop} (g : GCut cs) (h : P (cutsD (joinP cs [])) 0) : r_plain [.d (cutsD cs)] m P := by
  have l := g.len
  exact ⟨rfl, rfl, d_need_cuts g ⟨rfl, rfl, d_joinedT (by omega) ⟨hd_d, h⟩⟩⟩
theorem cuts_ok (F : List Ct) : okD (cutsD F) := by
  have o := okD_pairs F
  have o : SeqAt.shaped (.list (F.map pairD)) = true := o
  show SeqAt.shaped (.tuple (F.map pairD)) = true
  unfold SeqAt.shaped at o ⊢
  simpa [PyData.canLay0, PyData.depth] using o
theorem eqv_cuts (F G : List Ct) : PyData.eqv (cutsD F) (cutsD G) = decide (F = G) := by
  have key : ∀ F G : List Ct, PyData.eqvAll (F.map pairD) (G.map pairD) = decide (F = G) := by
    intro F
    induction F with
    | nil =>
      intro G
      cases G with
      | nil => rfl
      | cons g G => simp [PyData.eqvAll]
    | cons f F ih =>
      intro G
      cases G with
      | nil => simp [PyData.eqvAll]
      | cons g G =>
        obtain ⟨f1, f2⟩ := f
        obtain ⟨g1, g2⟩ := g
        rw [List.map_cons, List.map_cons, PyData.eqvAll, ih G]
        have e : PyData.eqv (pairD (f1, f2)) (pairD (g1, g2)) = (decide (f1 = g1) && decide (f2 = g2)) := by
          simp [pairD, PyData.eqv, PyData.eqvAll]
          rfl
        rw [e]
        by_cases a : f1 = g1 <;> by_cases b : f2 = g2 <;> by_cases c : F = G <;> simp [a, b, c]
  show PyData.eqv (.tuple (F.map pairD)) (.tuple (G.map pairD)) = _
  rw [PyData.eqv, key]
theorem d_alike {a b : List Ct} {m : Nat} {P : D → Nat → Prop} (ga : GCut a) (gb : GCut b) (h : P (.bool (decide (joinP a [] = joinP b []))) 0) : r_alike_cuts [.d (cutsD a), .d (cutsD b)] m P := by
  have la := ga.len
  have lb := gb.len
  refine ⟨rfl, rfl, d_need_cuts ga ⟨rfl, rfl, d_need_cuts gb ?_⟩⟩
  refine ⟨rfl, rfl, d_joinedT (by omega) ⟨rfl, rfl, d_joinedT (by omega) ⟨cuts_ok _, cuts_ok _, hd_d, ?_⟩⟩⟩
  show P (.bool (PyData.eqv (cutsD (joinP a [])) (cutsD (joinP b [])))) 0
  rw [eqv_cuts]
  exact h
theorem alike_is {a b : List Ct} (va : Val a) (vb : Val b) : decide (joinP a [] = joinP b []) = decide (src a = src b) := by
  refine decide_eq_decide.mpr ⟨fun h => ?_, fun h => ?_⟩
  · have h1 := (src_joinP a [] va fun _ z => nomatch z).2
    have h2 := (src_joinP b [] vb fun _ z => nomatch z).2
    rw [h, h2] at h1
    exact h1.symm
  · rw [← strP_src _ _ va, ← strP_src _ _ vb, h]
theorem d_source {cs : List Ct} {f : Int} (g : GCut cs) (h0 : 0 ≤ f) (h1 : f < lenC cs) (hl : lenC cs ≤ 1000000) {m : Nat} {P : D → Nat → Prop} (h : P (.int (getS cs f)) 0) : r_source [.d (cutsD cs), .d (.int f)] m P := by
  have l := g.len
  refine ⟨rfl, rfl, d_need_cuts g ?_⟩
  refine ⟨rfl, rfl, d_is_within ?_⟩
  rw [decide_eq_true h0, decide_eq_true (show f ≤ 1000000000000 by omega)]
  refine ⟨trivial, rfl, rfl, d_length_of (by omega) ?_⟩
  show if decide (lenC cs ≤ f) = true then _ else _
  rw [if_neg (by simp; omega)]
  refine ⟨rfl, rfl, d_place_of g.val h0 h1 ?_⟩
  refine ⟨rfl, rfl, hd_d, ?_⟩
  rw [(place_old cs f g.val h0 h1).1]
  exact h
theorem dx_source {cs : List Ct} {f : Int} (g : GCut cs) (h0 : 0 ≤ f) (h1 : lenC cs ≤ f) (hl : f ≤ 1000000) {m : Nat} {P : D → Nat → Prop} {PX : Exn → Nat → Prop} (h : PX ⟨"Nothing", none⟩ 0) : rx_source [.d (cutsD cs), .d (.int f)] m P PX := by
  have l := g.len
  refine ⟨rfl, rfl, dx_need_cuts g ?_⟩
  refine ⟨rfl, rfl, d_is_within ?_⟩
  rw [decide_eq_true h0, decide_eq_true (show f ≤ 1000000000000 by omega)]
  refine ⟨trivial, rfl, rfl, d_length_of (by omega) ?_⟩
  show if decide (lenC cs ≤ f) = true then _ else _
  rw [if_pos (decide_eq_true h1)]
  exact ⟨hd_d, h⟩
theorem d_lost {cs : List Ct} {e : Int} (c : Cw cs) (h0 : 0 ≤ e) (h1 : e ≤ 1000) {m : Nat} {P : D → Nat → Prop} (h : P (cutsD (strP ((rng 0 e).filter fun f => decide (f ∉ src cs)) [])) 0) : r_lost [.d (cutsD cs), .d (.int e)] m P := by
  have l := c.len
  refine ⟨rfl, rfl, d_need_cuts c.g ?_⟩
  refine ⟨rfl, rfl, d_is_within ?_⟩
  rw [decide_eq_true h0, decide_eq_true (show e ≤ 1000000000000 by omega)]
  refine ⟨rfl, rfl, d_not_shown (by omega) fun B b => ?_⟩
  rw [gap_is b c.g.val]
  exact ⟨hd_d, h⟩
def twD (cs : List Ct) : D → Bool
  | .tuple [.int x, .int _] => decide (1 < manyO cs x)
  | _ => false
theorem d_twice {cs : List Ct} (c : Cw cs) {m : Nat} {P : D → Nat → Prop} (h : P (cutsD (strP ((rng 0 200).filter fun f => decide (1 < manyO cs f)) [])) 0) : r_twice [.d (cutsD cs)] m P := by
  have l := c.len
  refine ⟨rfl, rfl, d_need_cuts c.g ?_⟩
  refine ⟨rfl, rfl, d_bounds (by omega) fun B b => ?_⟩
  have lB : B.length ≤ 64 := by
    have := len_sub b.asc (ys := cs.foldl accP []) fun x hx => (foldP_mem cs []).mpr (.inr ((b.mem x).mp hx))
    have := foldP_len cs []
    rw [List.length_nil] at this
    omega
  have lz : (B.zip B.tail).length ≤ 64 := by
    rw [List.length_zip]
    omega
  have tw := twi_is b c.g.val (lo := 0) (hi := 200) fun p hp => ⟨(c.ok p hp).1, by have := (c.ok p hp).2.2; omega⟩
  have ez : zipD (B.map PyData.int) (cutD (B.map PyData.int) (some 1) none) = (B.zip B.tail).map pairD := by
    rw [zip_tail, ← List.map_tail, List.zip_map, List.map_map]
    rfl
  refine ⟨trivial, by rw [ez, List.length_map]; omega, ⟨by simp, fun j hj => by simp at hj; rcases hj with rfl; rfl⟩, ?_⟩
  rw [ez]
  refine lcL_filt (ρ := [.im (cutsD cs), .im (.list (B.map PyData.int)), .no]) (twD cs) id _ [] ?_ ?_
  · intro d hd Q R hQ hR
    obtain ⟨p, hp, rfl⟩ := List.mem_map.mp hd
    refine ⟨trivial, p0 ?_⟩
    refine ⟨rfl, rfl, d_many_over (by omega) ?_⟩
    show if decide ((1 : Int) < ((manyO cs p.1 : Nat) : Int)) = true then _ else _
    by_cases z : 1 < manyO cs p.1
    · rw [if_pos (decide_eq_true (by omega))]
      exact hQ (decide_eq_true z) _ rfl
    · rw [if_neg (by simp; omega)]
      exact hR (decide_eq_false z) _ rfl
  · have e2 : ([] : List D) ++ (((B.zip B.tail).map pairD).filter (twD cs)).map id = (twi cs B).map pairD := by
      rw [List.nil_append, List.map_id, List.filter_map]
      rfl
    rw [e2]
    have lt : (twi cs B).length ≤ (B.zip B.tail).length := List.length_filter_le ..
    refine ⟨rfl, rfl, d_joinedL (by omega) ?_⟩
    rw [tw]
    exact ⟨hd_d, h⟩
end Q63
namespace Q63
open PySem L2 DL
theorem lenC_nil : lenC [] = 0 := rfl
theorem lenC_app : ∀ a b : List Ct, lenC (a ++ b) = lenC a + lenC b
  | [], b => by
    rw [lenC_nil, Int.zero_add]
    rfl
  | p :: a, b => by
    rw [List.cons_append, lenC_cons, lenC_cons, lenC_app a b]
    omega
theorem lenC_join {cs : List Ct} (v : Val cs) : lenC (joinP cs []) = lenC cs := by
  have h := src_joinP cs [] v fun _ z => nomatch z
  rw [← src_len h.1, ← src_len v, h.2]
  rfl
def In (lo hi : Int) (cs : List Ct) : Prop := ∀ p ∈ cs, lo ≤ p.1 ∧ p.2 ≤ hi
theorem addP_in {lo hi s e : Int} {acc : List Ct} (h : In lo hi acc) (h1 : lo ≤ s) (h2 : e ≤ hi) : In lo hi (addP acc s e) := by
  unfold addP
  cases z : acc.getLast? with
  | none =>
    intro p m
    rcases List.mem_append.mp m with m | m
    · exact h p m
    · rw [List.mem_singleton.mp m]
      exact ⟨h1, h2⟩
  | some q =>
    have hq := h q (List.mem_of_getLast? z)
    intro p m
    have m : p ∈ (if q.2 = s then acc.dropLast ++ [(q.1, e)] else acc ++ [(s, e)]) := m
    split at m
    · rcases List.mem_append.mp m with m | m
      · exact h p (List.dropLast_subset acc m)
      · rw [List.mem_singleton.mp m]
        exact ⟨hq.1, h2⟩
    · rcases List.mem_append.mp m with m | m
      · exact h p m
      · rw [List.mem_singleton.mp m]
        exact ⟨h1, h2⟩
theorem joinP_in {lo hi : Int} : ∀ (ps acc : List Ct), In lo hi ps → In lo hi acc → In lo hi (joinP ps acc)
  | [], _, _, h => h
  | p :: ps, acc, h, ha => joinP_in ps (addP acc p.1 p.2) (fun q m => h q (List.mem_cons_of_mem _ m)) (addP_in ha (h p List.mem_cons_self).1 (h p List.mem_cons_self).2)
theorem Cw.join {cs : List Ct} (c : Cw cs) : Cw (joinP cs []) := by
  have h := src_joinP cs [] c.g.val fun _ z => nomatch z
  have i := joinP_in (lo := 0) (hi := 100) cs [] (fun p hp => ⟨(c.ok p hp).1, (c.ok p hp).2.2⟩) fun _ z => nomatch z
  have l := joinP_len cs []
  have lc := c.len
  have la := c.all
  rw [List.length_nil] at l
  exact ⟨fun p hp => ⟨(i p hp).1, h.1 p hp, (i p hp).2⟩, by omega, by rw [lenC_join c.g.val]; omega⟩
theorem d_otherwise {cs : List Ct} (c : Cw cs) (l : cs.length ≤ 19) {m : Nat} {P : D → Nat → Prop} (hm : m < 1020000) (h : ∀ (ws : List Ct) (m' : Nat), Cw ws → lenC ws = lenC cs → m' ≤ m + 4 → P (cutsD ws) m') : r__law_otherwise [.ora, .d (cutsD cs)] m P := by
  refine ⟨trivial, by show 0 ≤ 1000000; omega, cuts_ok cs, cuts_ok [], ?_⟩
  show if PyData.eqv (cutsD cs) (cutsD []) = true then _ else _
  rw [eqv_cuts]
  by_cases z : cs = []
  · rw [if_pos (decide_eq_true z)]
    exact h cs m c rfl (by omega)
  · rw [if_neg (by simpa using z)]
    have lp : 0 < cs.length := List.length_pos_iff.mpr z
    refine ⟨trivial, trivial, rfl, rfl, rfl, ((cs.length : Nat) : Int), by rw [List.length_map], by omega, by omega, by omega, fun i i0 i1 => ?_⟩
    obtain ⟨k, rfl⟩ : ∃ k : Nat, i = (k : Int) := ⟨i.toNat, by omega⟩
    have hk : k < cs.length := by omega
    have e3 : cs = cs.take k ++ cs[k] :: cs.drop (k + 1) := by
      rw [← List.drop_eq_getElem_cons hk, List.take_append_drop]
    have at_ := pair_at (List.drop_eq_getElem_cons hk)
    have ok := c.ok _ (List.getElem_mem hk)
    generalize hp : cs[k] = p at e3 at_ ok
    refine ⟨trivial, trivial, pairD p, at_, rfl, rfl, ?_⟩
    have lk : k ≤ (cs.map pairD).length := by
      rw [List.length_map]
      omega
    have lk1 : k + 1 ≤ (cs.map pairD).length := by
      rw [List.length_map]
      omega
    have l1 : (cs.take k).length = k := by
      rw [List.length_take]
      omega
    have l2 : (cs.drop (k + 1)).length = cs.length - (k + 1) := List.length_drop
    have ll := c.len
    have la := c.all
    refine ⟨trivial, trivial, ?_⟩
    show if decide (1 < p.2 - p.1) = true then _ else _
    by_cases y : 1 < p.2 - p.1
    · rw [if_pos (decide_eq_true y)]
      refine ⟨trivial, rfl, rfl, rfl, 2, rfl, by omega, by omega, by omega, fun j j0 j1 => ⟨rfl, rfl, ?_⟩⟩
      show if PyData.eqv (.int j) (.int 0) = true then _ else _
      rw [eqi]
      by_cases w : j = 0
      · rw [if_pos (decide_eq_true w)]
        refine ⟨trivial, trivial, trivial, trivial, rfl, rfl, rfl, p.2 - p.1 - 1, rfl, by omega, by omega, by omega, fun x x0 x1 => ?_⟩
        refine ⟨trivial, (by show 2 ≤ 1000000; omega), (by show 2 ≤ 1000000; omega), (by show 2 ≤ 1000000; omega), ?_⟩
        have eh : cutD (cs.map pairD) none (some (k : Int)) = (cs.take k).map pairD := by rw [cut_hi lk, List.map_take]
        have el : cutD (cs.map pairD) (some ((k : Int) + 1)) none = (cs.drop (k + 1)).map pairD := by
          have e1 : (k : Int) + 1 = ((k + 1 : Nat) : Int) := by omega
          rw [e1, cut_lo lk1, List.map_drop]
        refine ⟨by rw [eh, List.length_map]; show _ + 2 ≤ _; omega, trivial, trivial, by rw [eh, el, List.length_append, List.length_map, List.length_map]; show _ + 2 + _ ≤ _; omega, ?_⟩
        rw [eh, el]
        have e5 : lenC (cs.take k ++ [(p.1, p.1 + 1 + x), (p.1 + 1 + x, p.2)] ++ cs.drop (k + 1)) = lenC cs := by
          rw [lenC_app, lenC_app]
          have e6 : lenC cs = lenC (cs.take k ++ p :: cs.drop (k + 1)) := congrArg lenC e3
          rw [e6, lenC_app, lenC_cons, lenC_cons, lenC_cons, lenC_nil]
          show lenC (cs.take k) + ((p.1 + 1 + x - p.1) + ((p.2 - (p.1 + 1 + x)) + 0)) + lenC (cs.drop (k + 1)) = _
          omega
        have e7 : (cs.take k ++ [(p.1, p.1 + 1 + x), (p.1 + 1 + x, p.2)] ++ cs.drop (k + 1)).map pairD = (cs.take k).map pairD ++ [.tuple [.int p.1, .int (p.1 + 1 + x)], .tuple [.int (p.1 + 1 + x), .int p.2]] ++ (cs.drop (k + 1)).map pairD := by
          rw [List.map_append, List.map_append]
          rfl
        have := h (cs.take k ++ [(p.1, p.1 + 1 + x), (p.1 + 1 + x, p.2)] ++ cs.drop (k + 1)) (m + 1 + 1 + 1) ⟨fun q hq => ?_, ?_, by omega⟩ e5 (by omega)
        · unfold cutsD at this
          rw [e7] at this
          exact this
        · (rcases List.mem_append.mp hq with hq | hq)
          · (rcases List.mem_append.mp hq with hq | hq)
            · exact c.ok q (List.mem_of_mem_take hq)
            · (rcases List.mem_cons.mp hq with rfl | hq)
              · show 0 ≤ p.1 ∧ p.1 < p.1 + 1 + x ∧ p.1 + 1 + x ≤ 100
                omega
              · (rw [List.mem_singleton.mp hq])
                show 0 ≤ p.1 + 1 + x ∧ p.1 + 1 + x < p.2 ∧ p.2 ≤ 100
                omega
          · exact c.ok q (List.mem_of_mem_drop hq)
        · rw [List.length_append, List.length_append]
          show _ + 2 + _ ≤ 20
          omega
      · rw [if_neg (by simpa using w)]
        exact ⟨rfl, rfl, d_plain c.g (h _ _ c.join (lenC_join c.g.val) (by omega))⟩
    · rw [if_neg (by simpa using y)]
      exact ⟨rfl, rfl, d_plain c.g (h _ _ c.join (lenC_join c.g.val) (by omega))⟩
end Q63
namespace Q63
open PySem L2 DL
theorem sh_okL {k n : Nat} {xs : List D} (h : Sh k n (.list xs)) (hk : k ≤ 60) (hn : n ≤ 66000) : DL.okR (.list xs) := by
  refine ⟨h.nd, h.sh, Nat.le_trans h.dp hk, ?_⟩
  have := PyData.shown_le_bulk 13 (by omega) _ h.lv
  have := h.bk
  omega
theorem sh_ct {p : Ct} (h0 : 0 ≤ p.1) (h1 : p.1 ≤ 999) (h2 : 0 ≤ p.2) (h3 : p.2 ≤ 999) : Sh 1 2 (pairD p) := by
  refine (sh_tup (k := 0) (n := 0) (ds := [.int p.1, .int p.2]) fun d hd => ?_).mono (Nat.le_refl _) (by simp)
  simp at hd
  rcases hd with rfl | rfl
  · exact sh_int h0 h1
  · exact sh_int h2 h3
theorem sh_cuts {cs : List Ct} (h : ∀ p ∈ cs, 0 ≤ p.1 ∧ p.1 < p.2 ∧ p.2 ≤ 999) : Sh 2 (3 * cs.length) (cutsD cs) := by
  refine (sh_tup (k := 1) (n := 2) (ds := cs.map pairD) fun d hd => ?_).mono (Nat.le_refl _) (by rw [List.length_map]; exact Nat.le_refl _)
  obtain ⟨p, hp, rfl⟩ := List.mem_map.mp hd
  obtain ⟨a, b, c⟩ := h p hp
  exact sh_ct a (by omega) (by omega) c
def rr8 : SM := sRet (d2 gEqS (hV (dCB gReprA (DL.gCons (hV (dLst (lCons (dCall 2 r_lost (aCons (dV 1) (aCons (dV 4) (aNil)))) (lCons (dCall 1 r_twice (aCons (dV 1) (aNil))) (lNil))))) (DL.gNil)))) (hV (dCB gReprA (DL.gCons (hV (dLst (lCons (dV 5) (lCons (dV 6) (lNil))))) (DL.gNil)))))
def rr7 : SM := sSeq (sSet 6 (dCall 1 r__law_stretches (aCons (dLc (iRange1 (lCons (dC (.int 200)) (lNil))) (gN 9) (bD (d2 gGt (hV (dCnt (dV 7) (dV 9))) (hV (dC (.int 1))))) (dV 9) [9]) (aNil)))) rr8
def rr6 : SM := sSeq (sSet 5 (dCall 1 r__law_stretches (aCons (dLc (iRange1 (lCons (dV 4) (lNil))) (gN 9) (bD (d2 gNotIn (hS 9) (hS 7))) (dV 9) [9]) (aNil)))) rr7
def rr5 : SM := sSeq (sSet 4 (dCallO 0 2 s_next (aOra 0 (aCons (dC (.int 30)) (aNil))))) rr6
def rr4 : SM := sSeq (sIf (bD (d2 gNe (hV (dGate 0 gRs 2 rx_source (aCons (dV 1) (aCons (d2 gAdd (hV (dCB gLen (DL.gCons (hS 7) (DL.gNil)))) (hV (dCallO 0 2 s_next (aOra 0 (aCons (dC (.int 3)) (aNil)))))) (aNil))))) (hV (dTup (lCons (dC (.str ("nothing" : Str))) (lCons (dC .none) (lNil))))))) (sRet (dC (.bool false))) (sNo)) rr5
def rr3 : SM := sSeq (sIf (bD (d2 gNeS (hV (dCB gReprA (DL.gCons (hS 3) (DL.gNil)))) (hV (dCB gReprA (DL.gCons (hV (dLst (lCons (dCB gLen (DL.gCons (hS 7) (DL.gNil))) (lCons (dCall 1 r__law_stretches (aCons (dV 7) (aNil))) (lCons (dV 7) (lCons (d2 gEq (hS 7) (hS 8)) (lNil))))))) (DL.gNil)))))) (sRet (dC (.bool false))) (sNo)) rr4
def rr2 : SM := sSeq (sSet 3 (dLst (lCons (dCall 1 r_length (aCons (dV 1) (aNil))) (lCons (dCall 1 r_plain (aCons (dV 1) (aNil))) (lCons (dLc (iRange1 (lCons (dCB gLen (DL.gCons (hS 7) (DL.gNil))) (lNil))) (gN 9) (bYes) (dCall 2 r_source (aCons (dV 1) (aCons (dV 9) (aNil)))) [9]) (lCons (dCall 2 r_alike_cuts (aCons (dV 1) (aCons (dV 2) (aNil)))) (lNil))))))) rr3
def rr1 : SM := sSeq (sAsg (dTup (lCons (dCall 1 r__law_sources (aCons (dV 1) (aNil))) (lCons (dCall 1 r__law_sources (aCons (dV 2) (aNil))) (lNil)))) (gTupT 2 (gConsT (gN 7) (gConsT (gN 8) (gNoT))))) rr2
theorem rr_is : g__law_right = rr1 := rfl
theorem set_row {i : Nat} {f : DM} {R : SM} {E : DE} {ρ : DL.Env} (h : f ρ fun d ρ1 => R E (ρ1.set i (.im d))) : sSeq (sSet i f) R E ρ := h
theorem if_ne {f g : DM} {A R : SM} {E : DE} {ρ : DL.Env} (h : f ρ fun d ρ1 => g ρ1 fun e ρ2 => okD d ∧ okD e ∧ (if (!PyData.eqv d e) = true then A { E with nx := R E } ρ2 else R E ρ2)) : sSeq (sIf (bD (d2 gNe (hV f) (hV g))) A (sNo)) R E ρ := h
theorem rgD_rng (a b : Int) : rgD a b = (rng a b).map PyData.int := by
  unfold rgD rng
  rw [List.map_map]
  rfl
theorem eqv_intsL : ∀ a b : List Int, PyData.eqv (.list (a.map PyData.int)) (.list (b.map PyData.int)) = decide (a = b) := by
  have key : ∀ a b : List Int, PyData.eqvAll (a.map PyData.int) (b.map PyData.int) = decide (a = b) := by
    intro a
    induction a with
    | nil =>
      intro b
      cases b with
      | nil => rfl
      | cons y b => simp [PyData.eqvAll]
    | cons x a ih =>
      intro b
      cases b with
      | nil => simp [PyData.eqvAll]
      | cons y b =>
        rw [List.map_cons, List.map_cons, PyData.eqvAll, ih b, eqi]
        by_cases p : x = y <;> by_cases q : a = b <;> simp [p, q]
  intro a b
  rw [PyData.eqv, key]
theorem any_ints (ns : List Int) (k : Int) : ((ns.map PyData.int).any fun z => PyData.eqv z (.int k)) = decide (k ∈ ns) := by
  induction ns with
  | nil => rfl
  | cons a ns ih =>
    rw [List.map_cons, List.any_cons, ih, eqi]
    by_cases p : a = k
    · simp [p]
    · have q : ¬ k = a := fun w => p w.symm
      simp [p, q]
theorem sh_ints {ns : List Int} (h : ∀ k ∈ ns, 0 ≤ k ∧ k ≤ 999) : Sh 1 ns.length (.list (ns.map PyData.int)) := by
  refine (sh_lst (k := 0) (n := 0) (ds := ns.map PyData.int) fun d hd => ?_).mono (Nat.le_refl _) (by rw [List.length_map]; omega)
  obtain ⟨k, hk, rfl⟩ := List.mem_map.mp hd
  exact sh_int (h k hk).1 (h k hk).2
theorem str_in {lo hi : Int} : ∀ (fs : List Int) (acc : List Ct), (∀ f ∈ fs, lo ≤ f ∧ f < hi) → In lo hi acc → In lo hi (strP fs acc)
  | [], _, _, h => h
  | f :: fs, acc, h, ha => str_in fs (addP acc f (f + 1)) (fun g m => h g (List.mem_cons_of_mem _ m)) (addP_in ha (h f List.mem_cons_self).1 (by have := (h f List.mem_cons_self).2; omega))
theorem str_val : ∀ (fs : List Int) (acc : List Ct), Val acc → Val (strP fs acc)
  | [], _, h => h
  | f :: fs, acc, h => str_val fs (addP acc f (f + 1)) (src_addP h (by omega)).1
theorem str_len : ∀ (fs : List Int) (acc : List Ct), (strP fs acc).length ≤ acc.length + fs.length
  | [], _ => Nat.le_refl _
  | f :: fs, acc => by
    have h1 := str_len fs (addP acc f (f + 1))
    have h2 := addP_len acc f (f + 1)
    show (strP fs (addP acc f (f + 1))).length ≤ _
    rw [List.length_cons]
    omega
theorem sh_strP {fs : List Int} {hi : Int} (h : ∀ f ∈ fs, 0 ≤ f ∧ f < hi) (hh : hi ≤ 999) (l : fs.length ≤ 200) : Sh 2 600 (cutsD (strP fs [])) := by
  have i := str_in fs [] h fun _ z => nomatch z
  have v := str_val fs [] fun _ z => nomatch z
  have ll := str_len fs []
  rw [List.length_nil] at ll
  exact (sh_cuts fun p hp => ⟨(i p hp).1, v p hp, by have := (i p hp).2; omega⟩).mono (Nat.le_refl _) (by omega)
theorem gate_src {cs : List Ct} (c : Cw cs) {ρ ρ1 : DL.Env} {P : D → DL.Env → Prop} {fa : AM} {L : Int} (h0 : 0 ≤ L) (h1 : lenC cs ≤ L) (hl : L ≤ 100000) (hm : ∃ m, ρ[0]? = some (.ora m)) (ha : ∀ K : List Ar → DL.Env → Prop, (∀ x : Int, 0 ≤ x → x < 3 → K [.d (cutsD cs), .d (.int (L + x))] ρ1) → fa ρ K)
    (h : P (.tuple [.str ("nothing" : Str), .none]) ρ1) : dGate 0 gRs 2 rx_source fa ρ P := by
  refine ⟨hm, ha _ fun x x0 x3 => ⟨rfl, rfl, dx_source c.g (by omega) (by omega) (by omega) ?_⟩⟩
  exact ⟨⟨"Nothing", "nothing", none⟩, by simp [gRs], rfl, trivial, h⟩
end Q63
namespace Q63
open PySem L2 DL
def toldD (a b : List Ct) : D := .list [.int (lenC a), cutsD (joinP a []), .list ((src a).map PyData.int), .bool (decide (src a = src b))]
theorem Cw.src_l {a : List Ct} (ca : Cw a) : ((src a).length : Int) = lenC a := src_len ca.g.val
theorem Cw.src_in {a : List Ct} (ca : Cw a) : ∀ k ∈ src a, 0 ≤ k ∧ k < 100 := fun k hk => by
  obtain ⟨p, hp, hk⟩ := List.mem_flatMap.mp hk
  have := rng_mem.mp hk
  have := ca.ok p hp
  omega
section
variable {a b : List Ct} (ca : Cw a) (cb : Cw b)
include ca cb
theorem told_ok : DL.okR (toldD a b) := by
  have la := ca.all
  have ls := ca.src_l
  have lj := ca.join.len
  have nn := len_nn ca.g.val
  refine sh_okL (k := 3) (n := 4 * 300) ((sh_lst (k := 2) (n := 299) (ds := [.int (lenC a), cutsD (joinP a []), .list ((src a).map PyData.int), .bool (decide (src a = src b))]) fun d hd => ?_).mono (Nat.le_refl _) (by simp)) (by omega) (by omega)
  simp only [List.mem_cons, List.not_mem_nil, or_false] at hd
  rcases hd with rfl | rfl | rfl | rfl
  · exact (sh_int nn (by omega)).mono (by omega) (by omega)
  · exact (sh_cuts fun p hp => by have := ca.join.ok p hp; omega).mono (by omega) (by omega)
  · exact (sh_ints fun k hk => by have := ca.src_in k hk; omega).mono (by omega) (by omega)
  · exact (sh_bool _).mono (by omega) (by omega)
theorem look_ok {l : Int} (l0 : 0 ≤ l) (l1 : l ≤ 30) : DL.okR (.list [cutsD (strP ((rng 0 l).filter fun f => decide (f ∉ src a)) []), cutsD (strP ((rng 0 200).filter fun f => decide (1 < manyO a f)) [])]) := by
  refine sh_okL (k := 3) (n := 2 * 601) ((sh_lst (k := 2) (n := 600) (ds := [cutsD (strP ((rng 0 l).filter fun f => decide (f ∉ src a)) []), cutsD (strP ((rng 0 200).filter fun f => decide (1 < manyO a f)) [])]) fun d hd => ?_).mono (Nat.le_refl _) (by simp)) (by omega) (by omega)
  have r1 := rng_len (a := 0) (b := l) (by omega)
  have r2 := rng_len (a := 0) (b := 200) (by omega)
  have f1 := List.length_filter_le (fun f => decide (f ∉ src a)) (rng 0 l)
  have f2 := List.length_filter_le (fun f => decide (1 < manyO a f)) (rng 0 200)
  simp only [List.mem_cons, List.not_mem_nil, or_false] at hd
  rcases hd with rfl | rfl
  · exact sh_strP (hi := 30) (fun f hf => by have := rng_mem.mp (List.mem_filter.mp hf).1; omega) (by omega) (by omega)
  · exact sh_strP (hi := 200) (fun f hf => by have := rng_mem.mp (List.mem_filter.mp hf).1; omega) (by omega) (by omega)
end
def nfD (a : List Ct) : D → Bool
  | .int k => decide (k ∉ src a)
  | _ => false
def moD (a : List Ct) : D → Bool
  | .int k => decide (1 < manyO a k)
  | _ => false
def frI (a : List Ct) : D → D
  | .int k => .int (getS a k)
  | _ => .none
section
variable {a b : List Ct} {m : Nat} {E : DE} {s3 s4 s5 s6 s9 : Sl} (ca : Cw a) (cb : Cw b)
include ca cb
theorem r_8 {l : Int} (l0 : 0 ≤ l) (l1 : l ≤ 30) (k : ∀ ρ : DL.Env, ρ[0]? = some (.ora m) → E.rt (.bool true) ρ) : rr8 E [.ora m, .im (cutsD a), .im (cutsD b), s3, .im (.int l), .im (cutsD (strP ((rng 0 l).filter fun f => decide (f ∉ src a)) [])), .im (cutsD (strP ((rng 0 200).filter fun f => decide (1 < manyO a f)) [])), .im (.list ((src a).map PyData.int)), .im (.list ((src b).map PyData.int)), s9] := by
  have o := look_ok ca cb l0 l1
  unfold rr8
  refine ⟨rfl, rfl, d_lost ca l0 (by omega) ?_⟩
  refine ⟨rfl, rfl, d_twice ca ?_⟩
  refine ⟨(by show 2 ≤ 1000000; omega), o, (by show 2 ≤ 1000000; omega), o, ?_⟩
  generalize DL.shA (.list [cutsD (strP ((rng 0 l).filter fun f => decide (f ∉ src a)) []), cutsD (strP ((rng 0 200).filter fun f => decide (1 < manyO a f)) [])]) = z
  show E.rt (.bool (decide (z = z))) _
  rw [decide_eq_true rfl]
  exact k _ rfl
theorem r_7 {l : Int} (l0 : 0 ≤ l) (l1 : l ≤ 30) (k : ∀ ρ : DL.Env, ρ[0]? = some (.ora m) → E.rt (.bool true) ρ) : rr7 E [.ora m, .im (cutsD a), .im (cutsD b), s3, .im (.int l), .im (cutsD (strP ((rng 0 l).filter fun f => decide (f ∉ src a)) [])), s6, .im (.list ((src a).map PyData.int)), .im (.list ((src b).map PyData.int)), .no] := by
  have h8 := fun E => r_8 (m := m) (E := E) (s3 := s3) (s9 := .no) ca cb l0 l1
  have r2 := rng_len (a := 0) (b := 200) (by omega)
  unfold rr7
  refine set_row ⟨⟨by omega, by omega⟩, ?_⟩
  rw [rgD_rng]
  refine ⟨by rw [List.length_map]; omega, ⟨by simp, fun j hj => by simp at hj; rcases hj with rfl; rfl⟩, ?_⟩
  refine lcL_filt (ρ := [.ora m, .im (cutsD a), .im (cutsD b), s3, .im (.int l), .im (cutsD (strP ((rng 0 l).filter fun f => decide (f ∉ src a)) [])), s6, .im (.list ((src a).map PyData.int)), .im (.list ((src b).map PyData.int)), .no]) (moD a) id _ [] ?_ ?_
  · intro d hd Q R hQ hR
    obtain ⟨x, hx, rfl⟩ := List.mem_map.mp hd
    refine ⟨⟨_, rfl⟩, src a, x, rfl, rfl, ?_⟩
    show if decide ((1 : Int) < (((src a).countP fun y => decide (y = x) : Nat) : Int)) = true then _ else _
    rw [src_count a ca.g.val]
    by_cases z : 1 < manyO a x
    · rw [if_pos (decide_eq_true (by omega))]
      exact hQ (decide_eq_true z) _ rfl
    · rw [if_neg (by simp; omega)]
      exact hR (decide_eq_false z) _ rfl
  · have e2 : ([] : List D) ++ (((rng 0 200).map PyData.int).filter (moD a)).map id = ((rng 0 200).filter fun f => decide (1 < manyO a f)).map PyData.int := by
      rw [List.nil_append, List.map_id, List.filter_map]
      rfl
    rw [e2]
    have f2 := List.length_filter_le (fun f => decide (1 < manyO a f)) (rng 0 200)
    refine ⟨rfl, rfl, d_stretches (by omega) ?_⟩
    exact h8 _ k
theorem r_6 {l : Int} (l0 : 0 ≤ l) (l1 : l ≤ 30) (k : ∀ ρ : DL.Env, ρ[0]? = some (.ora m) → E.rt (.bool true) ρ) : rr6 E [.ora m, .im (cutsD a), .im (cutsD b), s3, .im (.int l), s5, s6, .im (.list ((src a).map PyData.int)), .im (.list ((src b).map PyData.int)), .no] := by
  have h7 := fun E => r_7 (m := m) (E := E) (s3 := s3) (s6 := s6) ca cb l0 l1
  have r2 := rng_len (a := 0) (b := l) (by omega)
  unfold rr6
  refine set_row ⟨⟨by omega, by omega⟩, ?_⟩
  rw [rgD_rng]
  refine ⟨by rw [List.length_map]; omega, ⟨by simp, fun j hj => by simp at hj; rcases hj with rfl; rfl⟩, ?_⟩
  refine lcL_filt (ρ := [.ora m, .im (cutsD a), .im (cutsD b), s3, .im (.int l), s5, s6, .im (.list ((src a).map PyData.int)), .im (.list ((src b).map PyData.int)), .no]) (nfD a) id _ [] ?_ ?_
  · intro d hd Q R hQ hR
    obtain ⟨x, hx, rfl⟩ := List.mem_map.mp hd
    refine ⟨trivial, trivial, rfl, okD_ints _, ?_⟩
    show if (!((src a).map PyData.int).any fun z => PyData.eqv z (.int x)) = true then _ else _
    rw [any_ints]
    by_cases z : x ∈ src a
    · rw [decide_eq_true z]
      exact hR (decide_eq_false fun w => w z) _ rfl
    · rw [decide_eq_false z]
      exact hQ (decide_eq_true z) _ rfl
  · have e2 : ([] : List D) ++ (((rng 0 l).map PyData.int).filter (nfD a)).map id = ((rng 0 l).filter fun f => decide (f ∉ src a)).map PyData.int := by
      rw [List.nil_append, List.map_id, List.filter_map]
      rfl
    rw [e2]
    have f2 := List.length_filter_le (fun f => decide (f ∉ src a)) (rng 0 l)
    refine ⟨rfl, rfl, d_stretches (by omega) ?_⟩
    exact h7 _ k
theorem r_4 (hm : m < 1010000) (k : ∀ m' (ρ : DL.Env), m' ≤ m + 2 → ρ[0]? = some (.ora m') → E.rt (.bool true) ρ) : rr4 E [.ora m, .im (cutsD a), .im (cutsD b), s3, s4, s5, s6, .im (.list ((src a).map PyData.int)), .im (.list ((src b).map PyData.int)), .no] := by
  have ls := ca.src_l
  have la := ca.all
  unfold rr4
  have o : okD (.tuple [.str ("nothing" : Str), .none]) := by unfold okD; decide +kernel
  have e : PyData.eqv (.tuple [.str ("nothing" : Str), .none]) (.tuple [.str ("nothing" : Str), .none]) = true := by decide +kernel
  have nn := len_nn ca.g.val
  refine if_ne (gate_src ca (L := ((((src a).map PyData.int).length : Nat) : Int)) (ρ1 := [.ora (m + 1), .im (cutsD a), .im (cutsD b), s3, s4, s5, s6, .im (.list ((src a).map PyData.int)), .im (.list ((src b).map PyData.int)), .no]) (by omega) (by rw [List.length_map]; omega) (by rw [List.length_map]; omega) ⟨m, rfl⟩ (fun K hK => ?_) ?_)
  · refine ⟨trivial, trivial, rfl, rfl, rfl, 3, rfl, by omega, by omega, by omega, fun x x0 x1 => ?_⟩
    exact hK x x0 x1
  · refine ⟨(by show 2 ≤ 1000000; omega), o, o, ?_⟩
    rw [e, if_neg (by decide)]
    unfold rr5
    refine set_row ⟨trivial, rfl, rfl, rfl, 30, rfl, by omega, by omega, by omega, fun l l0 l1 => ?_⟩
    exact r_6 ca cb l0 (by omega) fun ρ hρ => k _ ρ (by omega) hρ
theorem r_3 (hm : m < 1010000) (k : ∀ m' (ρ : DL.Env), m' ≤ m + 2 → ρ[0]? = some (.ora m') → E.rt (.bool true) ρ) : rr3 E [.ora m, .im (cutsD a), .im (cutsD b), .im (toldD a b), s4, s5, s6, .im (.list ((src a).map PyData.int)), .im (.list ((src b).map PyData.int)), .no] := by
  have h4 := fun E => r_4 (m := m) (E := E) (s3 := .im (toldD a b)) (s4 := s4) (s5 := s5) (s6 := s6) ca cb hm
  have ls := ca.src_l
  have la := ca.all
  have o := told_ok ca cb
  have ed : (PyData.list [.int ((((src a).map PyData.int).length : Nat) : Int), cutsD (strP (src a) []), .list ((src a).map PyData.int), .bool (PyData.eqv (.list ((src a).map PyData.int)) (.list ((src b).map PyData.int)))]) = toldD a b := by
    unfold toldD
    rw [List.length_map, ls, strP_src _ _ ca.g.val, eqv_intsL]
  unfold rr3
  refine ⟨trivial, o, ?_⟩
  refine ⟨trivial, rfl, rfl, d_stretches (by omega) ?_⟩
  refine ⟨trivial, trivial, okD_ints _, okD_ints _, (by show 4 ≤ 1000000; omega), ?_⟩
  rw [ed]
  refine ⟨o, ?_⟩
  generalize DL.shA (toldD a b) = z
  show if (!decide (z = z)) = true then _ else _
  rw [decide_eq_true rfl, if_neg (by decide)]
  exact h4 _ k
end
end Q63
namespace Q63
open PySem L2 DL
section
variable {a b : List Ct} (ca : Cw a) (cb : Cw b)
include ca cb
theorem r_2 {m : Nat} {E : DE} {s3 s4 s5 s6 : Sl} (hm : m < 1010000) (k : ∀ m' (ρ : DL.Env), m' ≤ m + 2 → ρ[0]? = some (.ora m') → E.rt (.bool true) ρ) : rr2 E [.ora m, .im (cutsD a), .im (cutsD b), s3, s4, s5, s6, .im (.list ((src a).map PyData.int)), .im (.list ((src b).map PyData.int)), .no] := by
  have h3 := fun E => r_3 (m := m) (E := E) (s4 := s4) (s5 := s5) (s6 := s6) ca cb hm
  have ls := ca.src_l
  have la := ca.all
  have nn := len_nn ca.g.val
  have ex : (rng 0 (lenC a)).map (getS a) = src a := by
    have r := rng_len (a := 0) (b := lenC a) (by omega)
    refine List.ext_getElem (by rw [List.length_map]; omega) fun i h1 h2 => ?_
    rw [List.length_map] at h1
    have g := rng_get (a := 0) (b := lenC a) (i := i) (by omega)
    rw [List.getElem?_eq_getElem h1] at g
    rw [List.getElem_map, Option.some.inj g]
    unfold getS
    (have e : ((0 : Int) + (i : Int)).toNat = i := by omega)
    rw [e, List.getD_eq_getElem?_getD, List.getElem?_eq_getElem h2]
    rfl
  unfold rr2
  refine set_row ⟨rfl, rfl, d_length ca.g ?_⟩
  refine ⟨rfl, rfl, d_plain ca.g ?_⟩
  refine ⟨trivial, ⟨by omega, by rw [List.length_map]; omega⟩, ?_⟩
  rw [List.length_map, ls, rgD_rng]
  have r := rng_len (a := 0) (b := lenC a) (by omega)
  refine ⟨by rw [List.length_map]; omega, ⟨by simp, fun j hj => by simp at hj; rcases hj with rfl; rfl⟩, ?_⟩
  refine lcL_map (ρ := [.ora m, .im (cutsD a), .im (cutsD b), s3, s4, s5, s6, .im (.list ((src a).map PyData.int)), .im (.list ((src b).map PyData.int)), .no]) (frI a) _ [] ?_ ?_
  · intro d hd Q hQ
    obtain ⟨x, hx, rfl⟩ := List.mem_map.mp hd
    have hx := rng_mem.mp hx
    exact ⟨rfl, rfl, d_source ca.g hx.1 hx.2 (by omega) (hQ _ rfl)⟩
  · have e2 : ([] : List D) ++ ((rng 0 (lenC a)).map PyData.int).map (frI a) = (src a).map PyData.int := by
      rw [List.nil_append, List.map_map]
      have e3 : frI a ∘ PyData.int = PyData.int ∘ getS a := rfl
      rw [e3, ← List.map_map, ex]
    rw [e2]
    refine ⟨rfl, rfl, d_alike ca.g cb.g ?_⟩
    rw [alike_is ca.g.val cb.g.val]
    refine ⟨(by show 4 ≤ 1000000; omega), ?_⟩
    exact h3 _ k
theorem d_right {m : Nat} {P : D → Nat → Prop} (hm : m < 1010000) (h : ∀ m', m' ≤ m + 2 → P (.bool true) m') : r__law_right [.ora, .d (cutsD a), .d (cutsD b)] m P := by
  show raw g__law_right _ _ _ _
  unfold raw
  rw [rr_is]
  unfold rr1
  have la := ca.all
  have lb := cb.all
  refine ⟨rfl, rfl, d_law_sources (fun p hp => ca.g.ok p hp) (by omega) ?_⟩
  refine ⟨rfl, rfl, d_law_sources (fun p hp => cb.g.ok p hp) (by omega) ?_⟩
  refine ⟨(by show 2 ≤ 1000000; omega), rfl, rfl, ?_⟩
  refine r_2 ca cb hm fun m' ρ hm' hρ => ?_
  show match ρ[0]? with
    | some (Sl.ora m') => P (.bool true) m'
    | _ => _
  rw [hρ]
  exact h m' hm'
end
theorem lenC_rev : ∀ a : List Ct, lenC a.reverse = lenC a
  | [] => rfl
  | p :: a => by
    rw [List.reverse_cons, lenC_app, lenC_rev a, lenC_cons, lenC_cons, lenC_nil]
    omega
abbrev wIn : SM := sIf (bOr (bNot (bTruth (hV (dCallO 1 3 r__law_right (aOra 1 (aCons (dV 3) (aCons (dV 4) (aNil)))))))) (bNot (bTruth (hV (dCallO 1 3 r__law_right (aOra 1 (aCons (dV 4) (aCons (dV 3) (aNil))))))))) (sRet (dC (.bool false))) (sNo)
theorem w_in {S : D} {E : DE} {a : List Ct} {s2 : Sl} (ca : Cw a) : ∀ (bs : List (List Ct)) (m : Nat) (s4 : Sl), (∀ b ∈ bs, Cw b) → m + 4 * bs.length < 1000000 → (∀ m' s4, m' ≤ m + 4 * bs.length → E.nx [.im S, .ora m', s2, .im (cutsD a), s4]) →
    forL (gN 4) wIn E (bs.map cutsD) [.im S, .ora m, s2, .im (cutsD a), s4]
  | [], m, s4, _, _, h => h m s4 (by omega)
  | b :: bs, m, s4, hb, hm, h => by
    rw [List.length_cons] at hm h
    have cb := hb b List.mem_cons_self
    refine ⟨trivial, rfl, rfl, rfl, d_right ca cb (by omega) fun m1 h1 => ?_⟩
    refine ⟨trivial, rfl, rfl, rfl, d_right cb ca (by omega) fun m2 h2 => ?_⟩
    exact w_in ca bs m2 _ (fun b hb' => hb b (List.mem_cons_of_mem _ hb')) (by omega) fun m' s4 h' => h m' s4 (by omega)
abbrev wOne : SM := sSeq (sSet 3 (dCallO 1 3 r__law_cuts (aOra 1 (aCons (dC (.int 8)) (aCons (dC (.int 20)) (aNil)))))) (sFor (iSeq (dTup (lCons (dCallO 1 2 r__law_otherwise (aOra 1 (aCons (dV 3) (aNil)))) (lCons (dCallO 1 3 r__law_cuts (aOra 1 (aCons (dC (.int 3)) (aCons (dC (.int 9)) (aNil))))) (lCons (dRevT (hS 3)) (lCons (d2 gAdd (hS 3) (hS 3)) (lNil))))))) (gN 4) wIn)
theorem dr_cw {B : Int} {cs : List Ct} (d : DrC B cs) (hB : B ≤ 100) (l : cs.length ≤ 8) : Cw cs := by
  have h : ∀ cs : List Ct, (∀ p ∈ cs, p.2 ≤ p.1 + 8) → lenC cs ≤ 8 * cs.length := by
    intro cs
    induction cs with
    | nil =>
      intro _
      exact Int.le_refl _
    | cons p cs ih =>
      intro h
      have := h p List.mem_cons_self
      have := ih fun q m => h q (List.mem_cons_of_mem _ m)
      rw [lenC_cons, List.length_cons]
      omega
  have h8 := h cs fun p hp => (d.ok p hp).2.2.1
  exact ⟨fun p hp => by have := d.ok p hp; omega, by omega, by omega⟩
theorem w_one {S : D} {m : Nat} {E : DE} {s2 s3 s4 : Sl} (hm : m < 900000) (k : ∀ m' s3 s4, m' ≤ m + 200 → E.nx [.im S, .ora m', s2, s3, s4]) : wOne E [.im S, .ora m, s2, s3, s4] := by
  refine ⟨trivial, rfl, rfl, rfl, d_cuts (by omega) (by omega) (by omega) (by omega) (by omega) fun a m1 da la h1 => ?_⟩
  have ca := dr_cw da (by omega) (by omega)
  refine ⟨trivial, rfl, rfl, rfl, d_otherwise ca (by omega) (by omega) fun w m2 cw ew h2 => ?_⟩
  refine ⟨trivial, rfl, rfl, rfl, d_cuts (by omega) (by omega) (by omega) (by omega) (by omega) fun c m3 dc lc h3 => ?_⟩
  have cc := dr_cw dc (by omega) (by omega)
  have cr : Cw a.reverse := ⟨fun p hp => ca.ok p (List.mem_reverse.mp hp), by rw [List.length_reverse]; exact ca.len, by rw [lenC_rev]; exact ca.all⟩
  have c2 : Cw (a ++ a) := by
    have := ca.all
    have l8 : lenC a ≤ 8 * 8 := by
      have h : ∀ cs : List Ct, (∀ p ∈ cs, p.2 ≤ p.1 + 8) → lenC cs ≤ 8 * cs.length := by
        intro cs
        induction cs with
        | nil =>
          intro _
          exact Int.le_refl _
        | cons p cs ih =>
          intro h
          have := h p List.mem_cons_self
          have := ih fun q m => h q (List.mem_cons_of_mem _ m)
          rw [lenC_cons, List.length_cons]
          omega
      have := h a fun p hp => (da.ok p hp).2.2.1
      omega
    refine ⟨fun p hp => ?_, by rw [List.length_append]; omega, by rw [lenC_app]; omega⟩
    rcases List.mem_append.mp hp with hp | hp <;> exact ca.ok p hp
  have go := w_in (S := S) (E := E) (s2 := s2) ca [w, c, a.reverse, a ++ a] m3 s4 (fun b hb => by
    (simp only [List.mem_cons, List.not_mem_nil, or_false] at hb)
    (rcases hb with rfl | rfl | rfl | rfl)
    · exact cw
    · exact cc
    · exact cr
    · exact c2) (by show m3 + 4 * 4 < 1000000; omega) fun m' s4 h' => k m' _ s4 (by have h' : m' ≤ m3 + 4 * 4 := h'; omega)
  refine ⟨trivial, trivial, trivial, by rw [List.length_map]; omega, (by show 4 ≤ 1000000; omega), ?_⟩
  rw [← List.map_reverse, ← List.map_append]
  exact go
theorem w_all {S : D} {E : DE} : ∀ (ks : List D) (m : Nat) (s2 s3 s4 : Sl), m + 200 * ks.length < 900000 → (∀ m' s2 s3 s4, E.nx [.im S, .ora m', s2, s3, s4]) →
    forL (gN 2) wOne E ks [.im S, .ora m, s2, s3, s4]
  | [], m, s2, s3, s4, _, h => h m _ _ _
  | d :: ks, m, s2, s3, s4, hm, h => by
    rw [List.length_cons] at hm
    refine w_one (by omega) fun m' t3 t4 h2 => ?_
    exact w_all ks m' (.im d) t3 t4 (by omega) h
theorem law_says : ∀ ns : List Int, ns.length ≤ 63 → lawSays ns := by
  intro ns hl
  show g_law ⟨fun _ => False, fun d _ => d = .bool true, fun _ => False, fun _ => False⟩ _
  unfold g_law
  refine ⟨trivial, ⟨by omega, by omega⟩, ?_⟩
  refine w_all _ 0 _ _ _ ?_ fun m' _ _ _ => ?_
  · have : (rgD 0 (5 + min ((ns.map PyData.int).length : Int) 8)).length = (5 + min ((ns.map PyData.int).length : Int) 8).toNat := by simp [rgD]
    show 0 + 200 * (rgD 0 (5 + min ((ns.map PyData.int).length : Int) 8)).length < 900000
    omega
  · have g : GCut [(0, 5), (5, 9), (2, 4)] := by
      refine ⟨fun p hp => ?_, by decide⟩
      simp at hp
      rcases hp with rfl | rfl | rfl <;> exact ⟨by decide, by decide, by decide⟩
    have e : joinP [(0, 5), (5, 9), (2, 4)] [] = [(0, 9), (2, 4)] := by decide +kernel
    refine ⟨(by show 2 ≤ 1000000; omega), ?_⟩
    refine ⟨(by show 2 ≤ 1000000; omega), ?_⟩
    refine ⟨(by show 2 ≤ 1000000; omega), ?_⟩
    refine ⟨(by show 3 ≤ 1000000; omega), ?_⟩
    refine ⟨rfl, ?_⟩
    refine ⟨rfl, ?_⟩
    refine d_plain (cs := [(0, 5), (5, 9), (2, 4)]) g ?_
    rw [e]
    refine ⟨(by show 2 ≤ 1000000; omega), ?_⟩
    refine ⟨(by show 2 ≤ 1000000; omega), ?_⟩
    refine ⟨(by show 2 ≤ 1000000; omega), ?_⟩
    have o := cuts_ok [(0, 9), (2, 4)]
    have e2 := eqv_cuts [(0, 9), (2, 4)] [(0, 9), (2, 4)]
    rw [decide_eq_true rfl] at e2
    exact ⟨o, o, congrArg PyData.bool e2⟩
end Q63
namespace Q63
open PySem.Calls PySem PyProof.Rows PySem.W
abbrev hdR : OpenRow := OpenLaw.row PySem.Challenge.rw_captionhouse_k63_whole_cuts_shown
def hdQ : Program := view hdR.prog [45]
def hdN0 : List PySem.Str := [Str.ofString "is_integer", Str.ofString "is_within", Str.ofString "is_tuple", Str.ofString "BadWords", Str.ofString "BadSpoken", Str.ofString "BadRules", Str.ofString "BadFile", Str.ofString "BadCuts", Str.ofString "BadChain", Str.ofString "BadPaper", Str.ofString "BadText", Str.ofString "OutOfPlace", Str.ofString "TooGreat", Str.ofString "Nothing", Str.ofString "MOST_FRAME", Str.ofString "MOST_STRETCHES", Str.ofString "MOST_LENGTH", Str.ofString "need_cuts", Str.ofString "length", Str.ofString "source", Str.ofString "plain", Str.ofString "alike_cuts", Str.ofString "twice", Str.ofString "lost", Str.ofString "is_stretch", Str.ofString "length_of", Str.ofString "_joined", Str.ofString "_place_of", Str.ofString "_bounds_of", Str.ofString "_many_over", Str.ofString "_not_shown", Str.ofString "_law_begun", Str.ofString "_law_next", Str.ofString "_law_of", Str.ofString "_law_outcome", Str.ofString "_law_fault"]
def hdN1 : List PySem.Str := [Str.ofString "_law_cuts", Str.ofString "_law_sources", Str.ofString "_law_stretches", Str.ofString "_law_right", Str.ofString "_law_otherwise"]
def hdN : List PySem.Str := hdN0 ++ (hdN1)
section
local macro_rules
  | `(tactic| o_head $t:term) => `(tactic| (have hk := $t; assumption))
set_option maxRecDepth 100001 in
set_option maxHeartbeats 0 in
theorem hd0 (h : hdR.Holds) : hdR.Holds := by k_head
end
def hdP : Params := by constructor <;> exact default
noncomputable def hdA : List Addr := (hd0.heap_1 hdP).map (·.1)
theorem hdE : ∀ P, hdA = (hd0.heap_1 P).map (·.1) := fun _ => by kernel_rfl
noncomputable def hdC : Addr := DL.codeAt (hd0.heap_1 hdP) "_law_right"
noncomputable def hdT : Addr := DL.tableAt (hd0.heap_1 hdP) hdC
theorem hdT1 (P : Params) : codeHdIn (hd0.heap_1 P) hdC hdT = true := by kernel_rfl
theorem hdT2 (P : Params) : (hd0.heap_1 P).lookup hdT = none := by kernel_rfl
theorem hdG (P : Params) : gRs.map (DL.rowL (hd0.heap_1 P) gRs) = gRs.map (DL.rowR (hd0.heap_1 P) gRs) := by kernel_rfl
noncomputable abbrev hdH : Hook := DL.hookT hd0.heap_1 hdA hdE [hdT]
set_option maxRecDepth 100001 in
set_option maxHeartbeats 0 in
theorem hdRun (w : World) : HandSHeadRun.RunEq hdR hdQ hdH (fun s => (hdA.map (HandSHeadRun.getT s), [hdT].map (HandSHeadRun.getT s))) 20000 hdN w := by
  intro os
  kernel_rfl
end Q63
open PySem PyProof.Rows PySem.W in
set_option maxRecDepth 100100 in
set_option maxHeartbeats 0 in
theorem PySem.Challenge.cw_captionhouse_k63_whole_cuts_shown_holds : PySem.Challenge.rw_captionhouse_k63_whole_cuts_shown.Holds := by
  w_on; o_law
  refine HandSHeadRun.head_any (r := Q63.hdR) (q := Q63.hdQ) (H := Q63.hdH) (ob := fun s => (Q63.hdA.map (HandSHeadRun.getT s), [Q63.hdT].map (HandSHeadRun.getT s))) (M := 20000) (loose := Q63.hdN) (kwd := []) (fun s => congrArg (fun g => (Q63.hdA.map g, [Q63.hdT].map g)) (funext fun b => HandSHeadRun.getT_eq s b)) (by kernel_rfl) (fun s => by kernel_rfl) Q63.hdRun (by rfl) (by rfl) (by rfl) (by rfl) (by first | assumption | decide +kernel) (by decide +kernel) ⟨rfl, rfl, rfl, rfl, rfl, by decide +kernel⟩ ?hw ?hc
  (case hw => w_witness2)
  k_fill
  refine DL.walkGT (l := PySem.Challenge.rw_captionhouse_k63_whole_cuts_shown) (n := 63) (k := 10) (x := "_law_script") (K := Q63.hd0.heap_1) (as := Q63.hdA) (ts := [Q63.hdT]) (cs := fun _ => [(Q63.hdC, Q63.hdT)]) (sp := fun w => Q63.spLawG (_) Q63.hdT) rfl (by decide) rfl ⟨rfl, by decide, by decide⟩ (fun wd p hp => by rw [List.mem_singleton.mp hp]; exact ⟨List.mem_singleton.mpr rfl, Q63.hdT2 _, Q63.hdT1 _⟩) ?F (fun w H a ns hl tb sq see => ⟨a, ns, rfl, sq, hl, tb _ (List.mem_singleton.mpr rfl), fun _ => rfl⟩)
  case F =>
    intro w gl fa h KX G hgl
    refine' Q63.all_mk (PL := Q63.hdT) (cL := Q63.hdC) KX G hgl ?a0 ?l0 ?c0 ?k0 ?a1 ?l1 ?c1 ?k1 ?a2 ?l2 ?c2 ?k2 ?a3 ?l3 ?c3 ?k3 ?a4 ?l4 ?c4 ?k4 ?a5 ?l5 ?c5 ?k5 ?a6 ?l6 ?c6 ?k6 ?a7 ?l7 ?c7 ?k7 ?a8 ?l8 ?c8 ?k8 ?a9 ?l9 ?c9 ?k9 ?a10 ?l10 ?c10 ?k10 ?a11 ?l11 ?c11 ?k11 ?a12 ?l12 ?c12 ?k12 ?a13 ?l13 ?c13 ?k13 ?a14 ?l14 ?c14 ?k14 ?a15 ?l15 ?c15 ?k15 ?a16 ?l16 ?c16 ?k16 ?a17 ?l17 ?c17 ?k17 ?a18 ?l18 ?c18 ?k18 ?a19 ?l19 ?c19 ?k19 ?a20 ?l20 ?c20 ?k20 ?a21 ?l21 ?c21 ?k21 ?a22 ?l22 ?c22 ?k22 ?a23 ?l23 ?c23 ?k23 ?a24 ?l24 ?c24 ?k24 ?a25 ?l25 ?c25 ?k25 ?a26 ?l26 ?c26 ?k26 ?a27 ?l27 ?c27 ?k27 ?hcL (Q63.hdG _) ?xa0 ?xl0 ?xs0 ?xe0 ?xt0 ?xk0 ?xc0 ?xb0 ?xi0 ?xy0 ?xf0 ?xd0 ?xg0 ?xn0 ?xa1 ?xl1 ?xs1 ?xe1 ?xt1 ?xk1 ?xc1 ?xb1 ?xi1 ?xy1 ?xf1 ?xd1 ?xg1 ?xa2 ?xl2 ?xs2 ?xe2 ?xt2 ?xk2 ?xc2 ?xb2 ?xi2 ?xy2 ?xf2 ?xd2 ?xg2 ?xvLookupError ?xvV ?z_LookupError ?z_ValueError ?z_bool ?z_enumerate ?z_int ?z_isinstance ?z_len ?z_list ?z_min ?z_range ?z_repr ?z_sorted ?z_sum ?z_tuple ?z_zip ?v_MOST_FRAME ?v_MOST_LENGTH ?v_MOST_STRETCHES Q63.law_says
    (case a0 => k_is)
    (case l0 => k_is)
    (case c0 => k_is)
    (case k0 => k_is)
    (case a1 => k_is)
    (case l1 => k_is)
    (case c1 => k_is)
    (case k1 => k_is)
    (case a2 => k_is)
    (case l2 => k_is)
    (case c2 => k_is)
    (case k2 => k_is)
    (case a3 => k_is)
    (case l3 => k_is)
    (case c3 => k_is)
    (case k3 => k_is)
    (case a4 => k_is)
    (case l4 => k_is)
    (case c4 => k_is)
    (case k4 => k_is)
    (case a5 => k_is)
    (case l5 => k_is)
    (case c5 => k_is)
    (case k5 => k_is)
    (case a6 => k_is)
    (case l6 => k_is)
    (case c6 => k_is)
    (case k6 => k_is)
    (case a7 => k_is)
    (case l7 => k_is)
    (case c7 => k_is)
    (case k7 => k_is)
    (case a8 => k_is)
    (case l8 => k_is)
    (case c8 => k_is)
    (case k8 => k_is)
    (case a9 => k_is)
    (case l9 => k_is)
    (case c9 => k_is)
    (case k9 => k_is)
    (case a10 => k_is)
    (case l10 => k_is)
    (case c10 => k_is)
    (case k10 => k_is)
    (case a11 => k_is)
    (case l11 => k_is)
    (case c11 => k_is)
    (case k11 => k_is)
    (case a12 => k_is)
    (case l12 => k_is)
    (case c12 => k_is)
    (case k12 => k_is)
    (case a13 => k_is)
    (case l13 => k_is)
    (case c13 => k_is)
    (case k13 => k_is)
    (case a14 => k_is)
    (case l14 => k_is)
    (case c14 => k_is)
    (case k14 => k_is)
    (case a15 => k_is)
    (case l15 => k_is)
    (case c15 => k_is)
    (case k15 => k_is)
    (case a16 => k_is)
    (case l16 => k_is)
    (case c16 => k_is)
    (case k16 => k_is)
    (case a17 => k_is)
    (case l17 => k_is)
    (case c17 => k_is)
    (case k17 => k_is)
    (case a18 => k_is)
    (case l18 => k_is)
    (case c18 => k_is)
    (case k18 => k_is)
    (case a19 => k_is)
    (case l19 => k_is)
    (case c19 => k_is)
    (case k19 => k_is)
    (case a20 => k_is)
    (case l20 => k_is)
    (case c20 => k_is)
    (case k20 => k_is)
    (case a21 => k_is)
    (case l21 => k_is)
    (case c21 => k_is)
    (case k21 => k_is)
    (case a22 => k_is)
    (case l22 => k_is)
    (case c22 => k_is)
    (case k22 => k_is)
    (case a23 => k_is)
    (case l23 => k_is)
    (case c23 => k_is)
    (case k23 => k_is)
    (case a24 => k_is)
    (case l24 => k_is)
    (case c24 => k_is)
    (case k24 => k_is)
    (case a25 => k_is)
    (case l25 => k_is)
    (case c25 => k_is)
    (case k25 => k_is)
    (case a26 => k_is)
    (case l26 => k_is)
    (case c26 => k_is)
    (case k26 => k_is)
    (case a27 => k_is)
    (case l27 => k_is)
    (case c27 => k_is)
    (case k27 => k_is)
    (case xa0 => k_is)
    (case xl0 => k_is)
    (case xs0 => k_is)
    (case xe0 => k_is)
    (case xt0 => k_is)
    (case xk0 => k_is)
    (case xc0 => k_is)
    (case xb0 => k_is)
    (case xi0 => k_is)
    (case xy0 => k_is)
    (case xf0 => k_is)
    (case xd0 => k_is)
    (case xg0 => k_is)
    (case xn0 => k_is)
    (case xa1 => k_is)
    (case xl1 => k_is)
    (case xs1 => k_is)
    (case xe1 => k_is)
    (case xt1 => k_is)
    (case xk1 => k_is)
    (case xc1 => k_is)
    (case xb1 => k_is)
    (case xi1 => k_is)
    (case xy1 => k_is)
    (case xf1 => k_is)
    (case xd1 => k_is)
    (case xg1 => k_is)
    (case xa2 => k_is)
    (case xl2 => k_is)
    (case xs2 => k_is)
    (case xe2 => k_is)
    (case xt2 => k_is)
    (case xk2 => k_is)
    (case xc2 => k_is)
    (case xb2 => k_is)
    (case xi2 => k_is)
    (case xy2 => k_is)
    (case xf2 => k_is)
    (case xd2 => k_is)
    (case xg2 => k_is)
    (case xvLookupError => k_is)
    (case xvV => k_is)
    (case z_LookupError => k_is)
    (case z_ValueError => k_is)
    (case z_bool => k_is)
    (case z_enumerate => k_is)
    (case z_int => k_is)
    (case z_isinstance => k_is)
    (case z_len => k_is)
    (case z_list => k_is)
    (case z_min => k_is)
    (case z_range => k_is)
    (case z_repr => k_is)
    (case z_sorted => k_is)
    (case z_sum => k_is)
    (case z_tuple => k_is)
    (case z_zip => k_is)
    (case v_MOST_FRAME => k_is)
    (case v_MOST_LENGTH => k_is)
    (case v_MOST_STRETCHES => k_is)
    (case hcL => kernel_rfl)

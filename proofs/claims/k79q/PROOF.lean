import PyProof.Rows.All
import Wide.All
import OpenK.AllK
import Wide.FinOn
import HandS.ForMost
import HandS.Flow
import HandS.IsInst
import HandS.Walk
import HandS.Zip
import HandS.Conv
import HandS.Wide
import HandS.TupAny
import HandS.Style
import HandS.SortInts
import KE.GoesMore
import HandS.Deep
import HandS.Text
import HandS.Strs
import HandS.SetBool
import HandS.Comp
import HandS.Gcd
import KE.DataMinMax
import KE.KTupSum
import KE.KMathGC
import HandS.EndBits
import HandS.ExcInit
import HandS.TryOnly
import HandS.WordsExc
import KE.GoesEnum
import HandS.ExcField
import HandS.StrMore
import HandS.TupMul
import HandS.Star
import HandS.Defaults
import PyProof.TupleOfStr
import HandS.FStr
import HandS.TryMany
import KE.KDictKeyed
import PyProof.ListStr
import KE.KDictZip
import KE.GoesZip
import HandS.ListItems
import PyProof.Rows.SetFrom
import HandS.SetKeys
import HandS.DictComp
import HandS.NoneIn
import HandS.Dict
import HandS.Flt
import KE.SortData
import HandS.TupSets
import PySem.Challenge.RW_captionhouse_k79_whole_first_parting_fra
set_option Elab.async false
set_option linter.all false
set_option maxRecDepth 100000
set_option maxHeartbeats 3900000
namespace DL
open PySem L2
abbrev D := PyData
def KD : Key → D
  | .inl i => .int i
  | .inr x => .str x
mutual
/-- the value v is the datum d, in what stands at H -/
inductive At (K : PySem.W.Frag) (H : Hp) : V → D → Prop
  | non : At K H .non .none
  | bl (b : Bool) : At K H (.bl b) (.bool b)
  | int (i : Int) : At K H (.int i) (.int i)
  | str (x : Str) : At K H (.str x) (.str x)
  | lst {a : Addr} {xs : List V} {ds : List D} : SqL K H a xs → AtAll K H xs ds → At K H (.ref a) (.list ds)
  | tup {a : Addr} {xs : List V} {ds : List D} : SqT K H a xs → AtAll K H xs ds → At K H (.ref a) (.tuple ds)
  | dk {a : Addr} {ks : List Key} {xs : List V} {ds : List D} : Rd H a (.dK (ks.zip xs)) → ks ≠ [] → ks.length = xs.length → AtAll K H xs ds → At K H (.ref a) (.dict ((ks.map KD).zip ds))
  | dt {a : Addr} {ks : List (List Key)} {xs : List V} {ds : List D} : H a = some (.dT (ks.zip xs)) → ks.length = xs.length → AtAll K H xs ds → At K H (.ref a) (.dict ((ks.map fun k => PyData.tuple (k.map KD)).zip ds))
inductive AtAll (K : PySem.W.Frag) (H : Hp) : List V → List D → Prop
  | nil : AtAll K H [] []
  | cons {v : V} {vs : List V} {d : D} {ds : List D} : At K H v d → AtAll K H vs ds → AtAll K H (v :: vs) (d :: ds)
end
def Ex (G G' : Hp) : Prop := ∀ a o, G a = some o → G' a = some o
theorem Ex.refl (G : Hp) : Ex G G := fun _ _ h => h
theorem Ex.trans {G G1 G2 : Hp} (a : Ex G G1) (b : Ex G1 G2) : Ex G G2 := fun x o h => b x o (a x o h)
theorem Ex.new {G : Hp} {p : Addr} {o : HO} (h : G p = none) : Ex G (upd G p o) := fun a u e => by
  rw [upd_ne (ne_of_none e h)]
  exact e
theorem Ex.rd {H H' : Hp} {a : Addr} {u : HO} (e : Ex H H') (h : Rd H a u) : Rd H' a u := by
  rcases h with h | ⟨o, h⟩
  · exact Or.inl (e a _ h)
  · exact Or.inr ⟨o, e a _ h⟩
theorem Ex.sl {K : PySem.W.Frag} {H H' : Hp} {a : Addr} {xs : List V} (e : Ex H H') (h : SqL K H a xs) : SqL K H' a xs := by
  rcases h with h | h
  · exact Or.inl (e.rd h)
  · exact Or.inr h
theorem Ex.st {K : PySem.W.Frag} {H H' : Hp} {a : Addr} {xs : List V} (e : Ex H H') (h : SqT K H a xs) : SqT K H' a xs := by
  rcases h with h | h
  · exact Or.inl (e.rd h)
  · exact Or.inr h
theorem At.mono {K : PySem.W.Frag} {H H' : Hp} (e : Ex H H') {v : V} {d : D} (h : At K H v d) : At K H' v d := by
  refine At.rec (motive_1 := fun v d _ => At K H' v d) (motive_2 := fun vs ds _ => AtAll K H' vs ds) ?_ ?_ ?_ ?_ ?_ ?_ ?_ ?_ ?_ ?_ h
  · exact .non
  · exact fun b => .bl b
  · exact fun i => .int i
  · exact fun x => .str x
  · exact fun s _ i => .lst (e.sl s) i
  · exact fun s _ i => .tup (e.st s) i
  · exact fun s n l _ i => .dk (e.rd s) n l i
  · exact fun s l _ i => .dt (e _ _ s) l i
  · exact .nil
  · exact fun _ _ i j => .cons i j
theorem AtAll.mono {K : PySem.W.Frag} {H H' : Hp} (e : Ex H H') : ∀ {vs : List V} {ds : List D}, AtAll K H vs ds → AtAll K H' vs ds
  | _, _, .nil => .nil
  | _, _, .cons h t => .cons (h.mono e) (AtAll.mono e t)
section
variable {K : PySem.W.Frag} {H : Hp}
theorem AtAll.length : ∀ {vs : List V} {ds : List D}, AtAll K H vs ds → vs.length = ds.length
  | _, _, .nil => rfl
  | _, _, .cons _ t => congrArg (· + 1) t.length
theorem AtAll.append : ∀ {vs ws : List V} {ds es : List D}, AtAll K H vs ds → AtAll K H ws es → AtAll K H (vs ++ ws) (ds ++ es)
  | _, _, _, _, .nil, s => s
  | _, _, _, _, .cons r t, s => .cons r (t.append s)
theorem AtAll.take : ∀ {vs : List V} {ds : List D} (n : Nat), AtAll K H vs ds → AtAll K H (vs.take n) (ds.take n)
  | _, _, 0, _ => by simpa using AtAll.nil
  | _, _, _ + 1, .nil => .nil
  | _, _, n + 1, .cons r t => .cons r (t.take n)
theorem AtAll.drop : ∀ {vs : List V} {ds : List D} (n : Nat), AtAll K H vs ds → AtAll K H (vs.drop n) (ds.drop n)
  | _, _, 0, r => r
  | _, _, _ + 1, .nil => .nil
  | _, _, n + 1, .cons _ t => t.drop n
theorem AtAll.get : ∀ {vs : List V} {ds : List D} {i : Nat} {d : D}, AtAll K H vs ds → ds[i]? = some d → ∃ v, vs[i]? = some v ∧ At K H v d
  | _, _, _, _, .nil, e => (by simp at e)
  | _, _, 0, _, .cons r _, e => (by simp at e; subst e; exact ⟨_, rfl, r⟩)
  | _, _, i + 1, d, .cons _ t, e => by
    obtain ⟨v, h1, h2⟩ := t.get (i := i) (d := d) (by simpa using e)
    exact ⟨v, by simpa using h1, h2⟩
theorem AtAll.set {x : V} {d : D} (r : At K H x d) : ∀ {vs : List V} {ds : List D} (i : Nat), AtAll K H vs ds → AtAll K H (vs.set i x) (ds.set i d)
  | _, _, _, .nil => .nil
  | _, _, 0, .cons _ t => (.cons r t)
  | _, _, i + 1, .cons q t => .cons q (AtAll.set r i t)
theorem AtAll.ints : ∀ {vs : List V} {ns : List Int}, AtAll K H vs (ns.map PyData.int) → vs = ns.map V.int
  | _, [], .nil => rfl
  | _, n :: ns, .cons r t => by cases r; rw [t.ints]; rfl
theorem AtAll.ofInts : ∀ (ns : List Int), AtAll K H (ns.map V.int) (ns.map PyData.int)
  | [] => .nil
  | n :: ns => .cons (.int n) (AtAll.ofInts ns)
end
mutual
def nod : D → Bool
  | .list xs => nodAll xs
  | .tuple xs => nodAll xs
  | .dict _ => false
  | _ => true
def nodAll : List D → Bool
  | [] => true
  | x :: xs => nod x && nodAll xs
end
theorem At.dp {K : PySem.W.Frag} {H : Hp} {v : V} {d : D} (h : At K H v d) : nod d = true → Dp K H v d := by
  refine At.rec (motive_1 := fun v d _ => nod d = true → Dp K H v d) (motive_2 := fun vs ds _ => nodAll ds = true → DpAll K H vs ds) ?_ ?_ ?_ ?_ ?_ ?_ ?_ ?_ ?_ ?_ h
  · exact fun _ => .non
  · exact fun b _ => .bl b
  · exact fun i _ => .int i
  · exact fun x _ => .str x
  · exact fun s _ i e => .lst s (i (by simpa [nod] using e))
  · exact fun s _ i e => .tup s (i (by simpa [nod] using e))
  · exact fun _ _ _ _ _ e => by simp [nod] at e
  · exact fun _ _ _ _ e => by simp [nod] at e
  · exact fun _ => .nil
  · exact fun _ _ i j e => by
      simp only [nodAll, Bool.and_eq_true] at e
      exact .cons (i e.1) (j e.2)
end DL
namespace DL
open PySem L2
def Foot : Option Addr → Hp → Addr → Prop
  | none, _, _ => False
  | some q, H, a => a = q ∨ ∃ kvs k, H q = some (.dK kvs) ∧ (k, V.ref a) ∈ kvs
theorem Foot.eqv {p : Option Addr} {H H' : Hp} (h : ∀ q, p = some q → H' q = H q) (a : Addr) : Foot p H' a ↔ Foot p H a := by
  cases p with
  | none => exact Iff.rfl
  | some q =>
    have e := h q rfl
    show (a = q ∨ ∃ kvs k, H' q = some (.dK kvs) ∧ (k, V.ref a) ∈ kvs) ↔ (a = q ∨ ∃ kvs k, H q = some (.dK kvs) ∧ (k, V.ref a) ∈ kvs)
    rw [e]
structure Orc where
  I : Addr → Hp → Prop
  cnt : Addr → Hp → Nat
  al : ∀ q H a, I q H → Foot (some q) H a → H a ≠ none
  st : ∀ q H H', I q H → (∀ a, Foot (some q) H a → H' a = H a) → I q H'
  sc : ∀ q H H', I q H → (∀ a, Foot (some q) H a → H' a = H a) → cnt q H' = cnt q H
/-- no source of numbers -/
def Orc.nil : Orc := ⟨fun _ _ => False, fun _ _ => 0, fun _ _ _ h => h.elim, fun _ _ _ h => h.elim, fun _ _ _ h => h.elim⟩
/-- from F0 (known to stay) and H0 (all) to F and H -/
structure World (R : Orc) (p : Option Addr) (F0 H0 F H : Hp) : Prop where
  ff : Ex F0 F
  fh : Ex F H
  kp : ∀ a o, H0 a = some o → ¬ Foot p H0 a → H a = some o ∧ ¬ Foot p H a
  dom : ∀ a, H0 a ≠ none → H a ≠ none
  fn : ∀ a, H0 a ≠ none → F0 a = none → F a = none
  ft : ∀ a, F a ≠ none → ¬ Foot p H a
  or : ∀ q, p = some q → R.I q H
theorem World.start {R : Orc} {p : Option Addr} {F H : Hp} (fh : Ex F H) (ft : ∀ a, F a ≠ none → ¬ Foot p H a) (or : ∀ q, p = some q → R.I q H) : World R p F H F H :=
  ⟨Ex.refl F, fh, fun _ _ h f => ⟨h, f⟩, fun _ h => h, fun _ _ h => h, ft, or⟩
theorem World.here {R : Orc} {p : Option Addr} {F0 H0 F H : Hp} (w : World R p F0 H0 F H) : World R p F H F H := World.start w.fh w.ft w.or
theorem World.trans {R : Orc} {p : Option Addr} {F0 H0 F H F' H' : Hp} (w : World R p F0 H0 F H) (v : World R p F H F' H') : World R p F0 H0 F' H' := by
  refine ⟨w.ff.trans v.ff, v.fh, fun a o h f => ?_, fun a h => v.dom a (w.dom a h), fun a h f => v.fn a (w.dom a h) (w.fn a h f), v.ft, v.or⟩
  obtain ⟨h1, f1⟩ := w.kp a o h f
  exact v.kp a o h1 f1
theorem World.ofNone {R : Orc} {p : Option Addr} {F0 H0 F H F' H' : Hp} (w : World R p F0 H0 F H) (v : World R none F H F' H') : World R p F H F' H' := by
  have all : ∀ a, H a ≠ none → H' a = H a := fun a h => by
    cases e : H a with
    | none => exact absurd e h
    | some o => exact (v.kp a o e (fun z => z)).1
  have al : ∀ a, Foot p H a → H a ≠ none := fun a h => by
    cases p with
    | none => exact h.elim
    | some q => exact R.al q H a (w.or q rfl) h
  have hq : ∀ q, p = some q → H' q = H q := fun q e => all q (al q (by subst e; exact .inl rfl))
  have ff : ∀ a, Foot p H' a ↔ Foot p H a := Foot.eqv hq
  refine ⟨v.ff, v.fh, fun a o h f => ⟨(v.kp a o h (fun z => z)).1, fun z => f ((ff a).mp z)⟩, v.dom, v.fn, fun a h z => ?_, fun q e => ?_⟩
  · have z' := (ff a).mp z
    cases e : F a with
    | some o => exact w.ft a (by rw [e]; exact Option.some_ne_none o) z'
    | none => exact h (v.fn a (al a z') e)
  · subst e
    exact R.st q H H' (w.or q rfl) fun a h => all a (al a h)
theorem World.foot_al {R : Orc} {p : Option Addr} {F0 H0 F H : Hp} (w : World R p F0 H0 F H) {a : Addr} (h : Foot p H a) : H a ≠ none := by
  cases p with
  | none => exact h.elim
  | some q => exact R.al q H a (w.or q rfl) h
/-- a new object that is known from then on -/
theorem World.newF {R : Orc} {p : Option Addr} {F0 H0 F H : Hp} (w : World R p F0 H0 F H) {q : Addr} (o : HO) (hq : H q = none) : World R none F H (upd F q o) (upd H q o) := by
  refine ⟨?_, ?_, ?_, ?_, ?_, fun _ _ z => z, fun _ e => nomatch e⟩
  · intro a u e
    have : a ≠ q := fun z => by
      have := w.fh a u e
      rw [z, hq] at this
      cases this
    rw [upd_ne this]
    exact e
  · intro a u e
    by_cases h : a = q
    · subst h
      rw [upd_same] at e ⊢
      exact e
    · rw [upd_ne h] at e ⊢
      exact w.fh a u e
  · exact fun a u e _ => ⟨Ex.new hq a u e, fun z => z⟩
  · intro a h
    by_cases e : a = q
    · subst e
      exact absurd hq h
    · rw [upd_ne e]
      exact h
  · intro a h e
    by_cases z : a = q
    · subst z
      exact absurd hq h
    · rw [upd_ne z]
      exact e
/-- a new object that may change -/
theorem World.newO {R : Orc} {p : Option Addr} {F0 H0 F H : Hp} (w : World R p F0 H0 F H) {q : Addr} (o : HO) (hq : H q = none) : World R none F H F (upd H q o) := by
  refine ⟨Ex.refl F, fun a u e => Ex.new hq a u (w.fh a u e), fun a u e _ => ⟨Ex.new hq a u e, fun z => z⟩, fun a h => ?_, fun _ _ e => e, fun _ _ z => z, fun _ e => nomatch e⟩
  by_cases e : a = q
  · subst e
    exact absurd hq h
  · rw [upd_ne e]
    exact h
inductive Sl where
  | no | im (d : D) | ow (d : D) | ora (n : Nat)
structure Cn where
  K : PySem.W.Frag
  R : Orc
  p : Option Addr
  F0 : Hp
  H0 : Hp
/-- an object on the side: a datum's, or just this one -/
inductive XO where
  | d (d : D) | o (o : HO)
instance : Coe D XO := ⟨XO.d⟩
abbrev XX := List (Addr × XO)
/-- a list or dict that nobody else holds -/
def OwnO (K : PySem.W.Frag) (F H : Hp) (a : Addr) : D → Prop
  | .list ds => ∃ vs, H a = some (.lst vs) ∧ AtAll K F vs ds
  | .dict kd => (∃ (ks : List Key) (vs : List V) (ds : List D), kd = (ks.map KD).zip ds ∧ ks ≠ [] ∧ ks.length = vs.length ∧ H a = some (.dK (ks.zip vs)) ∧ AtAll K F vs ds) ∨
      ∃ (ks : List (List Key)) (vs : List V) (ds : List D), kd = (ks.map fun k => PyData.tuple (k.map KD)).zip ds ∧ ks.length = vs.length ∧ H a = some (.dT (ks.zip vs)) ∧ AtAll K F vs ds
  | _ => False
def OwnO.mono {K : PySem.W.Frag} {F F' H H' : Hp} {a : Addr} (e : Ex F F') (h : H' a = H a) : ∀ {d : D}, OwnO K F H a d → OwnO K F' H' a d
  | .list ds, ⟨vs, h1, h2⟩ => ⟨vs, h.trans h1, h2.mono e⟩
  | .dict kd, .inl ⟨ks, vs, ds, h0, hn, hl, h1, h2⟩ => .inl ⟨ks, vs, ds, h0, hn, hl, h.trans h1, h2.mono e⟩
  | .dict kd, .inr ⟨ks, vs, ds, h0, hl, h1, h2⟩ => .inr ⟨ks, vs, ds, h0, hl, h.trans h1, h2.mono e⟩
theorem OwnO.at {K : PySem.W.Frag} {F H : Hp} {a : Addr} : ∀ {d : D}, OwnO K F H a d → ∃ o, H a = some o ∧ ∀ F', Ex F F' → F' a = some o → At K F' (.ref a) d
  | .list ds, ⟨vs, h1, h2⟩ => ⟨_, h1, fun F' e h => .lst (.inl (.inl h)) (h2.mono e)⟩
  | .dict kd, .inl ⟨ks, vs, ds, h0, hn, hl, h1, h2⟩ => ⟨_, h1, fun F' e h => by subst h0; exact .dk (.inl h) hn hl (h2.mono e)⟩
  | .dict kd, .inr ⟨ks, vs, ds, h0, hl, h1, h2⟩ => ⟨_, h1, fun F' e h => by subst h0; exact .dt h hl (h2.mono e)⟩
def OwnX (K : PySem.W.Frag) (F H : Hp) (a : Addr) : XO → Prop
  | .d d => OwnO K F H a d
  | .o o => H a = some o
theorem OwnX.mono {K : PySem.W.Frag} {F F' H H' : Hp} {a : Addr} (e : Ex F F') (h : H' a = H a) : ∀ {x : XO}, OwnX K F H a x → OwnX K F' H' a x
  | .d _, z => OwnO.mono e h z
  | .o _, z => h.trans z
theorem OwnX.some {K : PySem.W.Frag} {F H : Hp} {a : Addr} : ∀ {x : XO}, OwnX K F H a x → ∃ o, H a = some o
  | .d _, z => let ⟨o, h, _⟩ := OwnO.at z; ⟨o, h⟩
  | .o o, z => ⟨o, z⟩
theorem OwnX.at {K : PySem.W.Frag} {F H : Hp} {a : Addr} {d : D} (h : OwnX K F H a (.d d)) : ∃ o, H a = Option.some o ∧ ∀ F', Ex F F' → F' a = Option.some o → At K F' (.ref a) d := OwnO.at h
/-- as it stands at a, the address being younger than the entry -/
structure Own (c : Cn) (F H : Hp) (a : Addr) (d : XO) : Prop where
  o : OwnX c.K F H a d
  f : F a = none
  y : c.H0 a = none
  n : ¬ Foot c.p H a
structure Slots (c : Cn) (F H : Hp) (σ : L2.St) (ρ : List Sl) (xx : XX) : Prop where
  len : ρ.length = σ.length
  im : ∀ (i : Nat) (d : D), ρ[i]? = some (.im d) → ∃ v, σ[i]? = some (some v) ∧ At c.K F v d
  ow : ∀ (i : Nat) (d : D), ρ[i]? = some (.ow d) → ∃ a, σ[i]? = some (some (.ref a)) ∧ Own c F H a d
  dj : ∀ (i j : Nat) (d e : D) (a : Addr), ρ[i]? = some (.ow d) → ρ[j]? = some (.ow e) → σ[i]? = some (some (.ref a)) → σ[j]? = some (some (.ref a)) → i = j
  or : ∀ (i n : Nat), ρ[i]? = some (.ora n) → ∃ q, c.p = some q ∧ σ[i]? = some (some (.ref q)) ∧ c.R.cnt q H ≤ n
  ou : ∀ (i j m n : Nat), ρ[i]? = some (.ora m) → ρ[j]? = some (.ora n) → i = j
  ex : ∀ p ∈ xx, Own c F H p.1 p.2 ∧ ∀ (i : Nat) (e : D), ρ[i]? = some (.ow e) → σ[i]? ≠ some (some (.ref p.1))
  xd : (xx.map (·.1)).Nodup
structure Rel (c : Cn) (F H : Hp) (σ : L2.St) (ρ : List Sl) (xx : XX) : Prop where
  w : World c.R c.p c.F0 c.H0 F H
  s : Slots c F H σ ρ xx
theorem Own.step {c : Cn} {F H F' H' : Hp} {a : Addr} {d : XO} (h : Own c F H a d) (v : World c.R c.p F H F' H') : Own c F' H' a d := by
  obtain ⟨o, ho⟩ := h.o.some
  obtain ⟨h1, h2⟩ := v.kp a o ho h.n
  exact ⟨h.o.mono v.ff (h1.trans ho.symm), v.fn a (by rw [ho]; exact Option.some_ne_none o) h.f, h.y, h2⟩
theorem Slots.step {c : Cn} {F H F' H' : Hp} {σ : L2.St} {ρ : List Sl} {xx : XX} (s : Slots c F H σ ρ xx) (v : World c.R c.p F H F' H') (hq : ∀ q, c.p = some q → c.R.cnt q H' ≤ c.R.cnt q H) : Slots c F' H' σ ρ xx := by
  refine ⟨s.len, fun i d e => ?_, fun i d e => ?_, s.dj, fun i n e => ?_, s.ou, fun p hp => ⟨(s.ex p hp).1.step v, (s.ex p hp).2⟩, s.xd⟩
  · obtain ⟨u, h1, h2⟩ := s.im i d e
    exact ⟨u, h1, h2.mono v.ff⟩
  · obtain ⟨a, h1, h2⟩ := s.ow i d e
    exact ⟨a, h1, h2.step v⟩
  · obtain ⟨q, h1, h2, h3⟩ := s.or i n e
    exact ⟨q, h1, h2, Nat.le_trans (hq q h1) h3⟩
theorem Rel.step {c : Cn} {F H F' H' : Hp} {σ : L2.St} {ρ : List Sl} {xx : XX} (r : Rel c F H σ ρ xx) (v : World c.R c.p F H F' H') (hq : ∀ q, c.p = some q → c.R.cnt q H' ≤ c.R.cnt q H) : Rel c F' H' σ ρ xx := ⟨r.w.trans v, r.s.step v hq⟩
theorem Rel.stepN {c : Cn} {F H F' H' : Hp} {σ : L2.St} {ρ : List Sl} {xx : XX} (r : Rel c F H σ ρ xx) (v : World c.R none F H F' H') : Rel c F' H' σ ρ xx := r.step (r.w.ofNone v) fun q e => by
  refine Nat.le_of_eq (c.R.sc q H H' (r.w.or q e) fun a ha => ?_)
  have al := c.R.al q H a (r.w.or q e) ha
  cases z : H a with
  | none => exact absurd z al
  | some o => exact (v.kp a o z fun y => y).1
theorem ora_back {ρ : List Sl} {k : Nat} {x : Sl} (hx : ∀ m, x ≠ .ora m) {i m : Nat} (q : (ρ.set k x)[i]? = some (.ora m)) : ρ[i]? = some (.ora m) := by
  rw [List.getElem?_set] at q
  by_cases z : k = i
  · rw [if_pos z] at q
    split at q
    · exact absurd (Option.some.inj q) (hx m)
    · cases q
  · rw [if_neg z] at q
    exact q
theorem ou_set {ρ : List Sl} {k : Nat} {x : Sl} (hx : ∀ m, x ≠ .ora m) (h : ∀ (i j m n : Nat), ρ[i]? = some (.ora m) → ρ[j]? = some (.ora n) → i = j) : ∀ (i j m n : Nat), (ρ.set k x)[i]? = some (.ora m) → (ρ.set k x)[j]? = some (.ora n) → i = j :=
  fun i j m n a b => h i j m n (ora_back hx a) (ora_back hx b)
theorem Rel.apart {c : Cn} {F H : Hp} {σ : L2.St} {ρ : List Sl} {xx : XX} (r : Rel c F H σ ρ xx) {a : Addr} {o : HO} (n : ¬ Foot c.p H a) : ∀ (i n : Nat), ρ[i]? = some (.ora n) → ∃ q, c.p = some q ∧ σ[i]? = some (some (.ref q)) ∧ c.R.cnt q (upd H a o) ≤ n := by
  intro i m e
  obtain ⟨q, h1, h2, h3⟩ := r.s.or i m e
  refine ⟨q, h1, h2, ?_⟩
  rw [c.R.sc q H _ (r.w.or q h1) fun b hb => ?_]
  · exact h3
  · rw [upd_ne]
    intro z
    subst z
    exact n (by rw [h1]; exact hb)
/-- an own object becomes known -/
theorem Rel.freeze {c : Cn} {F H : Hp} {σ : L2.St} {ρ : List Sl} {xx : XX} (r : Rel c F H σ ρ xx) {i : Nat} {d : D} (e : ρ[i]? = some (.ow d)) :
    ∃ F' v, σ[i]? = some (some v) ∧ Ex F F' ∧ At c.K F' v d ∧ Rel c F' H σ (ρ.set i (.im d)) xx := by
  obtain ⟨a, h1, h2⟩ := r.s.ow i d e
  obtain ⟨o, ho, at_⟩ := h2.o.at
  have ef : Ex F (upd F a o) := Ex.new h2.f
  have hi : i < ρ.length := (List.getElem?_eq_some_iff.mp e).1
  refine ⟨upd F a o, .ref a, h1, ef, at_ _ ef upd_same, ⟨?_, ?_⟩⟩
  · refine ⟨r.w.ff.trans ef, fun b u q => ?_, r.w.kp, r.w.dom, fun b h f => ?_, fun b h => ?_, r.w.or⟩
    · by_cases z : b = a
      · subst z
        rw [upd_same] at q
        cases q
        exact ho
      · rw [upd_ne z] at q
        exact r.w.fh b u q
    · by_cases z : b = a
      · subst z
        exact absurd h2.y h
      · rw [upd_ne z]
        exact r.w.fn b h f
    · by_cases z : b = a
      · subst z
        exact h2.n
      · rw [upd_ne z] at h
        exact r.w.ft b h
  · refine ⟨by simpa using r.s.len, fun j x q => ?_, fun j x q => ?_, fun j k x y b q1 q2 s1 s2 => ?_, fun j n q => r.s.or j n (ora_back (by intro m z; cases z) q), ou_set (by intro m z; cases z) r.s.ou, fun p hp => ?_, r.s.xd⟩
    · rw [List.getElem?_set] at q
      by_cases z : i = j
      · subst z
        rw [if_pos rfl, if_pos hi] at q
        cases q
        exact ⟨.ref a, h1, at_ _ ef upd_same⟩
      · rw [if_neg z] at q
        obtain ⟨v, g1, g2⟩ := r.s.im j x q
        exact ⟨v, g1, g2.mono ef⟩
    · rw [List.getElem?_set] at q
      by_cases z : i = j
      · subst z
        rw [if_pos rfl, if_pos hi] at q
        cases q
      · rw [if_neg z] at q
        obtain ⟨b, g1, g2⟩ := r.s.ow j x q
        have hb : b ≠ a := fun zz => by
          subst zz
          exact z (r.s.dj i j d x b e q h1 g1)
        exact ⟨b, g1, ⟨g2.o.mono ef rfl, by rw [upd_ne hb]; exact g2.f, g2.y, g2.n⟩⟩
    · rw [List.getElem?_set] at q1 q2
      by_cases z : i = j
      · subst z
        rw [if_pos rfl, if_pos hi] at q1
        cases q1
      · rw [if_neg z] at q1
        by_cases z2 : i = k
        · subst z2
          rw [if_pos rfl, if_pos hi] at q2
          cases q2
        · rw [if_neg z2] at q2
          exact r.s.dj j k x y b q1 q2 s1 s2
    · obtain ⟨g2, gn⟩ := r.s.ex p hp
      have hb : p.1 ≠ a := fun zz => gn i d e (by rw [zz]; exact h1)
      refine ⟨⟨g2.o.mono ef rfl, by rw [upd_ne hb]; exact g2.f, g2.y, g2.n⟩, fun j x q => ?_⟩
      rw [List.getElem?_set] at q
      by_cases z : i = j
      · subst z
        rw [if_pos rfl, if_pos hi] at q
        cases q
      · rw [if_neg z] at q
        exact gn j x q
/-- an own object changes -/
theorem Rel.mut {c : Cn} {F H : Hp} {σ : L2.St} {ρ : List Sl} {xx : XX} (r : Rel c F H σ ρ xx) {i : Nat} {d d' : D} {a : Addr} {o : HO} (e : ρ[i]? = some (.ow d)) (h1 : σ[i]? = some (some (.ref a)))
    (hn : OwnO c.K F (upd H a o) a d') : Rel c F (upd H a o) σ (ρ.set i (.ow d')) xx := by
  obtain ⟨a', h1', h2⟩ := r.s.ow i d e
  rw [h1] at h1'
  cases h1'
  obtain ⟨o0, ho, _⟩ := h2.o.at
  have hi : i < ρ.length := (List.getElem?_eq_some_iff.mp e).1
  have hq : ∀ q, c.p = some q → upd H a o q = H q := fun q ep => by
    rw [upd_ne]
    intro z
    subst z
    exact h2.n (by rw [ep]; exact .inl rfl)
  have ff : ∀ b, Foot c.p (upd H a o) b ↔ Foot c.p H b := Foot.eqv hq
  refine ⟨⟨r.w.ff, fun b u q => ?_, fun b u q f => ?_, fun b h => ?_, r.w.fn, fun b h z => r.w.ft b h ((ff b).mp z), fun q ep => ?_⟩, ?_⟩
  · rw [upd_ne (fun z => by subst z; rw [h2.f] at q; cases q)]
    exact r.w.fh b u q
  · obtain ⟨g1, g2⟩ := r.w.kp b u q f
    refine ⟨?_, fun z => g2 ((ff b).mp z)⟩
    rw [upd_ne (fun z => by subst z; rw [h2.y] at q; cases q)]
    exact g1
  · by_cases z : b = a
    · subst z
      rw [upd_same]
      exact Option.some_ne_none o
    · rw [upd_ne z]
      exact r.w.dom b h
  · refine c.R.st q H _ (r.w.or q ep) fun b hb => ?_
    rw [upd_ne]
    intro z
    subst z
    exact h2.n (by rw [ep]; exact hb)
  · refine ⟨by simpa using r.s.len, fun j x q => ?_, fun j x q => ?_, fun j k x y b q1 q2 s1 s2 => ?_, fun j n q => r.apart h2.n j n (ora_back (by intro m z; cases z) q), ou_set (by intro m z; cases z) r.s.ou, fun p hp => ?_, r.s.xd⟩
    · rw [List.getElem?_set] at q
      by_cases z : i = j
      · subst z
        rw [if_pos rfl, if_pos hi] at q
        cases q
      · rw [if_neg z] at q
        exact r.s.im j x q
    · rw [List.getElem?_set] at q
      by_cases z : i = j
      · subst z
        rw [if_pos rfl, if_pos hi] at q
        cases q
        exact ⟨a, h1, ⟨hn, h2.f, h2.y, fun z => h2.n ((ff a).mp z)⟩⟩
      · rw [if_neg z] at q
        obtain ⟨b, g1, g2⟩ := r.s.ow j x q
        have hb : b ≠ a := fun zz => by
          subst zz
          exact z (r.s.dj i j d x b e q h1 g1)
        exact ⟨b, g1, ⟨g2.o.mono (Ex.refl F) (upd_ne hb), g2.f, g2.y, fun z => g2.n ((ff b).mp z)⟩⟩
    · have back : ∀ (k : Nat) (y : D), (ρ.set i (.ow d'))[k]? = some (.ow y) → ∃ y', ρ[k]? = some (.ow y') := fun k y q => by
        rw [List.getElem?_set] at q
        by_cases z : i = k
        · subst z
          exact ⟨d, e⟩
        · rw [if_neg z] at q
          exact ⟨y, q⟩
      obtain ⟨x', q1'⟩ := back j x q1
      obtain ⟨y', q2'⟩ := back k y q2
      exact r.s.dj j k x' y' b q1' q2' s1 s2
    · obtain ⟨g2, gn⟩ := r.s.ex p hp
      have hb : p.1 ≠ a := fun zz => gn i d e (by rw [zz]; exact h1)
      refine ⟨⟨g2.o.mono (Ex.refl F) (upd_ne hb), g2.f, g2.y, fun z => g2.n ((ff p.1).mp z)⟩, fun j x q => ?_⟩
      rw [List.getElem?_set] at q
      by_cases z : i = j
      · subst z
        exact gn i d e
      · rw [if_neg z] at q
        exact gn j x q
/-- a new object, held by nobody -/
structure Fresh (c : Cn) (F H : Hp) (σ : L2.St) (ρ : List Sl) (xx : XX) (a : Addr) (d : XO) : Prop where
  own : Own c F H a d
  ne : ∀ (i : Nat) (e : D), ρ[i]? = some (.ow e) → σ[i]? ≠ some (some (.ref a))
  nx : ∀ p ∈ xx, p.1 ≠ a
theorem set_lt {α : Type} {ρ : List α} {i j : Nat} {x y : α} (h : (ρ.set i x)[j]? = some y) : (i = j ∧ i < ρ.length ∧ x = y) ∨ (i ≠ j ∧ ρ[j]? = some y) := by
  rw [List.getElem?_set] at h
  by_cases z : i = j
  · rw [if_pos z] at h
    by_cases hl : i < ρ.length
    · rw [if_pos hl] at h
      exact .inl ⟨z, hl, Option.some.inj h⟩
    · rw [if_neg hl] at h
      cases h
  · rw [if_neg z] at h
    exact .inr ⟨z, h⟩
theorem get_set_ne {α : Type} {ρ : List α} {i j : Nat} {x : α} (h : i ≠ j) : (ρ.set i x)[j]? = ρ[j]? := by rw [List.getElem?_set, if_neg h]
theorem get_set_eq {α : Type} {ρ : List α} {i : Nat} {x : α} (h : i < ρ.length) : (ρ.set i x)[i]? = some x := by rw [List.getElem?_set, if_pos rfl, if_pos h]
theorem Slots.put {c : Cn} {F H : Hp} {σ : L2.St} {ρ : List Sl} {xx : XX} (s : Slots c F H σ ρ xx) {v : V} {x : Sl} (i : Nat)
    (him : ∀ d, x = .im d → At c.K F v d) (how : ∀ d, x = .ow d → ∃ a, v = .ref a ∧ Fresh c F H σ ρ xx a d) (hor : ∀ n, x ≠ .ora n) : Slots c F H (σ.set i (some v)) (ρ.set i x) xx := by
  refine ⟨by simpa using s.len, fun j d q => ?_, fun j d q => ?_, fun j k d e b q1 q2 s1 s2 => ?_, fun j n q => ?_, ou_set hor s.ou, fun p hp => ⟨(s.ex p hp).1, fun j d q => ?_⟩, s.xd⟩
  · rcases set_lt q with ⟨rfl, hl, e⟩ | ⟨z, q⟩
    · exact ⟨v, get_set_eq (by rw [← s.len]; exact hl), him d e⟩
    · obtain ⟨u, g1, g2⟩ := s.im j d q
      exact ⟨u, by rw [get_set_ne z]; exact g1, g2⟩
  · rcases set_lt q with ⟨rfl, hl, e⟩ | ⟨z, q⟩
    · obtain ⟨a, ev, fr⟩ := how d e
      subst ev
      exact ⟨a, get_set_eq (by rw [← s.len]; exact hl), fr.own⟩
    · obtain ⟨u, g1, g2⟩ := s.ow j d q
      exact ⟨u, by rw [get_set_ne z]; exact g1, g2⟩
  · rcases set_lt q1 with ⟨rfl, hl, e1⟩ | ⟨z, q1⟩
    · rcases set_lt q2 with ⟨rfl, _, _⟩ | ⟨z2, q2⟩
      · rfl
      · exfalso
        obtain ⟨a, ev, fr⟩ := how d e1
        rw [get_set_eq (by rw [← s.len]; exact hl)] at s1
        rw [get_set_ne z2] at s2
        cases s1
        cases ev
        exact fr.ne k e q2 s2
    · rcases set_lt q2 with ⟨rfl, hl, e2⟩ | ⟨z2, q2⟩
      · exfalso
        obtain ⟨a, ev, fr⟩ := how e e2
        rw [get_set_eq (by rw [← s.len]; exact hl)] at s2
        rw [get_set_ne z] at s1
        cases s2
        cases ev
        exact fr.ne j d q1 s1
      · rw [get_set_ne z] at s1
        rw [get_set_ne z2] at s2
        exact s.dj j k d e b q1 q2 s1 s2
  · rcases set_lt q with ⟨rfl, hl, e⟩ | ⟨z, q⟩
    · exact absurd e (hor n)
    · obtain ⟨u, g1, g2, g3⟩ := s.or j n q
      exact ⟨u, g1, by rw [get_set_ne z]; exact g2, g3⟩
  · rcases set_lt q with ⟨rfl, hl, e⟩ | ⟨z, q⟩
    · obtain ⟨a, ev, fr⟩ := how d e
      subst ev
      rw [get_set_eq (by rw [← s.len]; exact hl)]
      intro zz
      cases zz
      exact fr.nx p hp rfl
    · rw [get_set_ne z]
      exact (s.ex p hp).2 j d q
theorem Rel.putI {c : Cn} {F H : Hp} {σ : L2.St} {ρ : List Sl} {xx : XX} (r : Rel c F H σ ρ xx) {v : V} {d : D} (i : Nat) (h : At c.K F v d) : Rel c F H (σ.set i (some v)) (ρ.set i (.im d)) xx :=
  ⟨r.w, r.s.put i (fun _ e => by cases e; exact h) (fun _ e => by cases e) (by intro m z; cases z)⟩
theorem Rel.putO {c : Cn} {F H : Hp} {σ : L2.St} {ρ : List Sl} {xx : XX} (r : Rel c F H σ ρ xx) {a : Addr} {d : D} (i : Nat) (h : Fresh c F H σ ρ xx a d) : Rel c F H (σ.set i (some (.ref a))) (ρ.set i (.ow d)) xx :=
  ⟨r.w, r.s.put i (fun _ e => by cases e) (fun _ e => by cases e; exact ⟨a, rfl, h⟩) (by intro m z; cases z)⟩
/-- what an own slot holds becomes known, as a value -/
theorem Fresh.freeze {c : Cn} {F H : Hp} {σ : L2.St} {ρ : List Sl} {xx : XX} {a : Addr} {d : D} (r : Rel c F H σ ρ xx) (h : Fresh c F H σ ρ xx a d) : ∃ F', Ex F F' ∧ At c.K F' (.ref a) d ∧ Rel c F' H σ ρ xx := by
  obtain ⟨o, ho, at_⟩ := h.own.o.at
  have ef : Ex F (upd F a o) := Ex.new h.own.f
  refine ⟨upd F a o, ef, at_ _ ef upd_same, ⟨⟨r.w.ff.trans ef, fun b u q => ?_, r.w.kp, r.w.dom, fun b g f => ?_, fun b g => ?_, r.w.or⟩, ⟨r.s.len, fun j x q => ?_, fun j x q => ?_, r.s.dj, r.s.or, r.s.ou, fun p hp => ?_, r.s.xd⟩⟩⟩
  · by_cases z : b = a
    · subst z
      rw [upd_same] at q
      cases q
      exact ho
    · rw [upd_ne z] at q
      exact r.w.fh b u q
  · by_cases z : b = a
    · subst z
      exact absurd h.own.y g
    · rw [upd_ne z]
      exact r.w.fn b g f
  · by_cases z : b = a
    · subst z
      exact h.own.n
    · rw [upd_ne z] at g
      exact r.w.ft b g
  · obtain ⟨v, g1, g2⟩ := r.s.im j x q
    exact ⟨v, g1, g2.mono ef⟩
  · obtain ⟨b, g1, g2⟩ := r.s.ow j x q
    have hb : b ≠ a := fun zz => by
      subst zz
      exact h.ne j x q g1
    exact ⟨b, g1, ⟨g2.o.mono ef rfl, by rw [upd_ne hb]; exact g2.f, g2.y, g2.n⟩⟩
  · obtain ⟨g2, gn⟩ := r.s.ex p hp
    exact ⟨⟨g2.o.mono ef rfl, by rw [upd_ne (h.nx p hp)]; exact g2.f, g2.y, g2.n⟩, gn⟩
theorem Fresh.new {c : Cn} {F H : Hp} {σ : L2.St} {ρ : List Sl} {xx : XX} (r : Rel c F H σ ρ xx) {q : Addr} {o : HO} {d : XO} (hq : H q = none) (h : OwnX c.K F (upd H q o) q d) :
    Rel c F (upd H q o) σ ρ xx ∧ Fresh c F (upd H q o) σ ρ xx q d := by
  have w := r.w.newO o hq
  refine ⟨r.stepN w, ⟨⟨h, ?_, ?_, fun z => ?_⟩, fun i e q1 q2 => ?_, fun p hp z => ?_⟩⟩
  · cases e : F q with
    | none => rfl
    | some u =>
      have := r.w.fh q u e
      rw [hq] at this
      cases this
  · cases e : c.H0 q with
    | none => rfl
    | some u => exact absurd hq (r.w.dom q (by rw [e]; exact Option.some_ne_none u))
  · have e : ∀ u, c.p = some u → upd H q o u = H u := fun u ep => by
      rw [upd_ne]
      intro zz
      subst zz
      exact r.w.foot_al (a := u) (by rw [ep]; exact .inl rfl) hq
    exact r.w.foot_al ((Foot.eqv e q).mp z) hq
  · obtain ⟨a, g1, g2⟩ := r.s.ow i e q1
    rw [q2] at g1
    cases g1
    obtain ⟨u, hu⟩ := g2.o.some
    rw [hq] at hu
    cases hu
  · obtain ⟨u, hu⟩ := (r.s.ex p hp).1.o.some
    rw [z, hq] at hu
    cases hu
/-- one more object on the side, and off again -/
theorem Rel.pushX {c : Cn} {F H : Hp} {σ : L2.St} {ρ : List Sl} {xx : XX} {a : Addr} {d : XO} (r : Rel c F H σ ρ xx) (h : Fresh c F H σ ρ xx a d) : Rel c F H σ ρ ((a, d) :: xx) := by
  refine ⟨r.w, ⟨r.s.len, r.s.im, r.s.ow, r.s.dj, r.s.or, r.s.ou, fun p hp => ?_, ?_⟩⟩
  · (rcases List.mem_cons.mp hp with rfl | hp)
    · exact ⟨h.own, h.ne⟩
    · exact r.s.ex p hp
  · rw [List.map_cons, List.nodup_cons]
    refine ⟨fun z => ?_, r.s.xd⟩
    obtain ⟨p, hp, e⟩ := List.mem_map.mp z
    exact h.nx p hp e
theorem Rel.popX {c : Cn} {F H : Hp} {σ : L2.St} {ρ : List Sl} {xx : XX} {a : Addr} {d : XO} (r : Rel c F H σ ρ ((a, d) :: xx)) : Rel c F H σ ρ xx ∧ Fresh c F H σ ρ xx a d := by
  have hx := r.s.xd
  rw [List.map_cons, List.nodup_cons] at hx
  have h0 := r.s.ex (a, d) (List.mem_cons_self ..)
  exact ⟨⟨r.w, ⟨r.s.len, r.s.im, r.s.ow, r.s.dj, r.s.or, r.s.ou, fun p hp => r.s.ex p (List.mem_cons_of_mem _ hp), hx.2⟩⟩, ⟨h0.1, h0.2, fun p hp e => hx.1 (List.mem_map.mpr ⟨p, hp, e⟩)⟩⟩
theorem Rel.mutX {c : Cn} {F H : Hp} {σ : L2.St} {ρ : List Sl} {xx : XX} {a : Addr} {d d' : XO} {o : HO} (r : Rel c F H σ ρ ((a, d) :: xx)) (hn : OwnX c.K F (upd H a o) a d') : Rel c F (upd H a o) σ ρ ((a, d') :: xx) := by
  obtain ⟨r0, h2⟩ := r.popX
  have hq : ∀ q, c.p = some q → upd H a o q = H q := fun q ep => by
    rw [upd_ne]
    intro z
    subst z
    exact h2.own.n (by rw [ep]; exact .inl rfl)
  have ff : ∀ b, Foot c.p (upd H a o) b ↔ Foot c.p H b := Foot.eqv hq
  have r1 : Rel c F (upd H a o) σ ρ xx := by
    refine ⟨⟨r0.w.ff, fun b u q => ?_, fun b u q f => ?_, fun b h => ?_, r0.w.fn, fun b h z => r0.w.ft b h ((ff b).mp z), fun q ep => ?_⟩, ⟨r0.s.len, r0.s.im, fun i x q => ?_, r0.s.dj, r0.apart h2.own.n, r0.s.ou, fun p hp => ?_, r0.s.xd⟩⟩
    · rw [upd_ne (fun z => by subst z; rw [h2.own.f] at q; cases q)]
      exact r0.w.fh b u q
    · obtain ⟨g1, g2⟩ := r0.w.kp b u q f
      refine ⟨?_, fun z => g2 ((ff b).mp z)⟩
      rw [upd_ne (fun z => by subst z; rw [h2.own.y] at q; cases q)]
      exact g1
    · by_cases z : b = a
      · subst z
        rw [upd_same]
        exact Option.some_ne_none o
      · rw [upd_ne z]
        exact r0.w.dom b h
    · refine c.R.st q H _ (r0.w.or q ep) fun b hb => ?_
      rw [upd_ne]
      intro z
      subst z
      exact h2.own.n (by rw [ep]; exact hb)
    · obtain ⟨b, g1, g2⟩ := r0.s.ow i x q
      have hb : b ≠ a := fun zz => by
        subst zz
        exact h2.ne i x q g1
      exact ⟨b, g1, ⟨g2.o.mono (Ex.refl F) (upd_ne hb), g2.f, g2.y, fun z => g2.n ((ff b).mp z)⟩⟩
    · obtain ⟨g2, gn⟩ := r0.s.ex p hp
      exact ⟨⟨g2.o.mono (Ex.refl F) (upd_ne (h2.nx p hp)), g2.f, g2.y, fun z => g2.n ((ff p.1).mp z)⟩, gn⟩
  exact r1.pushX ⟨⟨hn, h2.own.f, h2.own.y, fun z => h2.own.n ((ff a).mp z)⟩, h2.ne, h2.nx⟩
theorem Rel.newF {c : Cn} {F H : Hp} {σ : L2.St} {ρ : List Sl} {xx : XX} (r : Rel c F H σ ρ xx) {q : Addr} (o : HO) (hq : H q = none) : Rel c (upd F q o) (upd H q o) σ ρ xx := r.stepN (r.w.newF o hq)
theorem Rel.efF {c : Cn} {F H : Hp} {σ : L2.St} {ρ : List Sl} {xx : XX} (r : Rel c F H σ ρ xx) {q : Addr} (o : HO) (hq : H q = none) : Ex F (upd F q o) := (r.w.newF o hq).ff
end DL
namespace DL
open PySem L2
/-- the count of a source behind a call of a def that draws -/
theorem Rel.drew {c : Cn} {F H F' H' : Hp} {σ : L2.St} {ρ : List Sl} {xx : XX} (r : Rel c F H σ ρ xx) (v : World c.R c.p F H F' H') {i m n : Nat} (e : ρ[i]? = some (.ora m)) (hn : ∀ q, c.p = some q → c.R.cnt q H' ≤ n) : Rel c F' H' σ (ρ.set i (.ora n)) xx := by
  have nr : ∀ {j : Nat} {x : Sl}, (ρ.set i (.ora n))[j]? = some x → (∀ k, x ≠ .ora k) → ρ[j]? = some x := by
    intro j x q hx
    rcases set_lt q with ⟨_, _, z⟩ | ⟨_, q⟩
    · exact absurd z.symm (hx n)
    · exact q
  refine ⟨r.w.trans v, ⟨by simpa using r.s.len, fun j d q => ?_, fun j d q => ?_, fun j k d e' b q1 q2 => ?_, fun j k q => ?_, fun j k a b q1 q2 => ?_, fun p hp => ⟨(r.s.ex p hp).1.step v, fun j d q => (r.s.ex p hp).2 j d (nr q fun _ z => by cases z)⟩, r.s.xd⟩⟩
  · obtain ⟨u, h1, h2⟩ := r.s.im j d (nr q fun _ z => by cases z)
    exact ⟨u, h1, h2.mono v.ff⟩
  · obtain ⟨a, h1, h2⟩ := r.s.ow j d (nr q fun _ z => by cases z)
    exact ⟨a, h1, h2.step v⟩
  · exact r.s.dj j k d e' b (nr q1 fun _ z => by cases z) (nr q2 fun _ z => by cases z)
  · rcases set_lt q with ⟨z, _, y⟩ | ⟨z, q⟩
    · subst z
      cases y
      obtain ⟨p, h1, h2, _⟩ := r.s.or i m e
      exact ⟨p, h1, h2, hn p h1⟩
    · exact absurd (r.s.ou i j m k e q) z
  · have one : ∀ {j a : Nat}, (ρ.set i (.ora n))[j]? = some (.ora a) → i = j := by
      intro j a q
      rcases set_lt q with ⟨z, _, _⟩ | ⟨_, q⟩
      · exact z
      · exact r.s.ou i j m a e q
    exact (one q1).symm.trans (one q2)
end DL
namespace DL
open PySem L2
abbrev Env := List Sl
abbrev DM := Env → (D → Env → Prop) → Prop
abbrev BM := Env → (Bool → Env → Prop) → Prop
inductive Ar where
  | d (x : D) | ora
abbrev LM := Env → (List D → Env → Prop) → Prop
abbrev AM := Env → (List Ar → Env → Prop) → Prop
/-- a value, or what stands in a slot by the time it is wanted -/
inductive Hd where
  | val (d : D) | slot (i : Nat)
abbrev HM := Env → (Hd → Env → Prop) → Prop
def see (ρ : Env) (h : Hd) (k : D → Prop) : Prop := match h with
  | .val d => k d
  | .slot i => match ρ[i]? with
    | some (.im d) => k d
    | some (.ow d) => k d
    | _ => False
def HdAt (c : Cn) (F : Hp) (σ : L2.St) : Hd → V → Prop
  | .val d, v => At c.K F v d
  | .slot i, v => σ[i]? = some (some v)
def tD (c : Cn) (f : DM) : TE := fun σ H Q => ∃ F ρ xx P, Rel c F H σ ρ xx ∧ f ρ P ∧ ∀ d ρ' v F' H', P d ρ' → Ex F F' → Rel c F' H' σ ρ' xx → At c.K F' v d → Q v H'
/-- a new object, held by nobody -/
def tN (c : Cn) (f : DM) : TE := fun σ H Q => ∃ F ρ xx P, Rel c F H σ ρ xx ∧ f ρ P ∧ ∀ d ρ' a F' H', P d ρ' → Ex F F' → Rel c F' H' σ ρ' xx → Fresh c F' H' σ ρ' xx a d → Q (.ref a) H'
def tH (c : Cn) (f : HM) : TE := fun σ H Q => ∃ F ρ xx P, Rel c F H σ ρ xx ∧ f ρ P ∧ ∀ d ρ' v F' H', P d ρ' → Ex F F' → Rel c F' H' σ ρ' xx → HdAt c F' σ d v → Q v H'
def tT (c : Cn) (f : BM) : TT := fun σ H Q => ∃ F ρ xx P, Rel c F H σ ρ xx ∧ f ρ P ∧ ∀ b ρ' F' H', P b ρ' → Ex F F' → Rel c F' H' σ ρ' xx → Q b H'
def tL (c : Cn) (f : LM) : TA := fun σ H Q => ∃ F ρ xx P, Rel c F H σ ρ xx ∧ f ρ P ∧ ∀ ds ρ' vs F' H', P ds ρ' → Ex F F' → Rel c F' H' σ ρ' xx → AtAll c.K F' vs ds → Q vs H'
def ArAt (c : Cn) (F : Hp) : V → Ar → Prop
  | v, .d x => At c.K F v x
  | v, .ora => ∃ q, c.p = some q ∧ v = .ref q
def tAr (c : Cn) (f : AM) : TA := fun σ H Q => ∃ F ρ xx P, Rel c F H σ ρ xx ∧ f ρ P ∧ ∀ ds ρ' vs F' H', P ds ρ' → Ex F F' → Rel c F' H' σ ρ' xx → Paired (ArAt c F') vs ds → Q vs H'
theorem PE.to {X : Cx} {e : Expr} {t t' : TE} (h : PE X e t) (w : ∀ σ H Q, t' σ H Q → t σ H Q) : PE X e t' := ⟨fun pins s σ H Q I q => h.run pins s σ H Q I (w σ H Q q)⟩
theorem PT.to {X : Cx} {e : Expr} {t t' : TT} (h : PT X e t) (w : ∀ σ H Q, t' σ H Q → t σ H Q) : PT X e t' := ⟨fun pins s σ H Q I q => h.run pins s σ H Q I (w σ H Q q)⟩
theorem PA.to {X : Cx} {e : List Expr} {t t' : TA} (h : PA X e t) (w : ∀ σ H Q, t' σ H Q → t σ H Q) : PA X e t' := ⟨fun pos pins s σ H Q I q => h.run pos pins s σ H Q I (w σ H Q q)⟩
/-- what is to be read of a value: known, or the own object of a slot -/
def Bo (c : Cn) (F H : Hp) (v : V) (d : D) : Prop := At c.K F v d ∨ ∃ a, v = .ref a ∧ OwnO c.K F H a d
theorem Bo.at {c : Cn} {F H : Hp} {v : V} {d : D} (e : Ex F H) (h : Bo c F H v d) : At c.K H v d := by
  rcases h with h | ⟨a, rfl, h⟩
  · exact h.mono e
  · obtain ⟨o, ho, k⟩ := h.at
    exact k H e ho
theorem see_bo {c : Cn} {F H : Hp} {σ : L2.St} {ρ : Env} {xx : XX} (r : Rel c F H σ ρ xx) {h : Hd} {v : V} (hv : HdAt c F σ h v) {k : D → Prop} (hs : see ρ h k) : ∃ d, Bo c F H v d ∧ k d := by
  cases h with
  | val d => exact ⟨d, .inl hv, hs⟩
  | slot i =>
    unfold see at hs
    have hv' : σ[i]? = some (some v) := hv
    simp only at hs
    split at hs
    · rename_i d e
      obtain ⟨u, g1, g2⟩ := r.s.im i d e
      rw [hv'] at g1
      cases g1
      exact ⟨d, .inl g2, hs⟩
    · rename_i d e
      obtain ⟨u, g1, g2⟩ := r.s.ow i d e
      rw [hv'] at g1
      cases g1
      exact ⟨d, .inr ⟨u, rfl, g2.o⟩, hs⟩
    · exact hs.elim
theorem HdAt.mono {c : Cn} {F F' : Hp} (e : Ex F F') {σ : L2.St} {h : Hd} {v : V} (x : HdAt c F σ h v) : HdAt c F' σ h v := by
  cases h with
  | val d => exact At.mono e x
  | slot i => exact x
section
variable {X : Cx} {c : Cn} {e a b : Expr} {pos : Pos}
def dC (d : D) : DM := fun ρ P => P d ρ
theorem de_c {t : V} {d : D} (h : PE X e (tC t)) (hd : ∀ F, At c.K F t d) : PE X e (tD c (dC d)) := PE.to h fun σ H Q ⟨F, ρ, xx, P, r, q, k⟩ => k d ρ t F H q (Ex.refl F) r (hd F)
theorem de_int {i : Int} {j : Nat} : PE X (.Constant (.int i) j pos) (tD c (dC (.int i))) := de_c pe_int fun _ => .int i
theorem de_bl {i : Bool} {j : Nat} : PE X (.Constant (.bool i) j pos) (tD c (dC (.bool i))) := de_c pe_bl fun _ => .bl i
theorem de_non {j : Nat} : PE X (.Constant .none j pos) (tD c (dC .none)) := de_c pe_non fun _ => .non
theorem de_str {x : Str} {j : Nat} : PE X (.Constant (.str x) j pos) (tD c (dC (.str x))) := de_c pe_str fun _ => .str x
/-- a name of the module that holds a number, a text -/
theorem de_gint {x : Str} {i : Int} (hg : Gl X x) (hm : ∃ t, X.mg x = some (.int i t)) (hd : (x == ("__debug__" : Str)) = false := by decide) : PE X (.Name x pos) (tD c (dC (.int i))) := by
  obtain ⟨t, hm⟩ := hm
  exact de_c (pe_glob (v := .int i) hg hm ⟨t, rfl⟩ hd) fun _ => .int i
/-- a name of the module that holds a tuple of the top -/
theorem de_gref {x : Str} {u : Addr} {d : D} (hg : Gl X x) (hm : X.mg x = some (.ref u)) (ha : ∀ F, At c.K F (.ref u) d) (hd : (x == ("__debug__" : Str)) = false := by decide) : PE X (.Name x pos) (tD c (dC d)) :=
  de_c (pe_glob (v := .ref u) hg hm rfl hd) ha
/-- the slot's value, which is known from then on -/
def dV (i : Nat) : DM := fun ρ P => match ρ[i]? with
  | some (.im d) => P d ρ
  | some (.ow d) => P d (ρ.set i (.im d))
  | _ => False
theorem de_v {i : Nat} (h : PE X e (tVar i)) : PE X e (tD c (dV i)) := PE.to h fun σ H Q ⟨F, ρ, xx, P, r, q, k⟩ => by
  unfold dV at q
  split at q
  · rename_i d e
    obtain ⟨v, g1, g2⟩ := r.s.im i d e
    exact ⟨v, g1, k d ρ v F H q (Ex.refl F) r g2⟩
  · rename_i d e
    obtain ⟨F', v, g1, g2, g3, g4⟩ := r.freeze e
    exact ⟨v, g1, k d _ v F' H q g2 g4 g3⟩
  · exact q.elim
def hS (i : Nat) : HM := fun ρ P => (match ρ[i]? with
  | some (.im _) => True
  | some (.ow _) => True
  | _ => False) ∧ P (.slot i) ρ
theorem dh_v {i : Nat} (h : PE X e (tVar i)) : PE X e (tH c (hS i)) := PE.to h fun σ H Q ⟨F, ρ, xx, P, r, ⟨q0, q⟩, k⟩ => by
  split at q0
  · rename_i d e
    obtain ⟨v, g1, g2⟩ := r.s.im i d e
    exact ⟨v, g1, k _ ρ v F H q (Ex.refl F) r g1⟩
  · rename_i d e
    obtain ⟨v, g1, g2⟩ := r.s.ow i d e
    exact ⟨.ref v, g1, k _ ρ _ F H q (Ex.refl F) r g1⟩
  · exact q0.elim
def hV (f : DM) : HM := fun ρ P => f ρ fun d ρ' => P (.val d) ρ'
theorem dh_of {f : DM} (h : PE X e (tD c f)) : PE X e (tH c (hV f)) := PE.to h fun σ H Q ⟨F, ρ, xx, P, r, q, k⟩ => ⟨F, ρ, xx, _, r, q, fun d ρ' v F' H' p e r' at_ => k (.val d) ρ' v F' H' p e r' at_⟩
theorem de_n {f : DM} (h : PE X e (tN c f)) : PE X e (tD c f) := PE.to h fun σ H Q ⟨F, ρ, xx, P, r, q, k⟩ => ⟨F, ρ, xx, P, r, q, fun d ρ' a F' H' p e r' fr => by
  obtain ⟨F2, e2, at_, r2⟩ := fr.freeze r'
  exact k d ρ' (.ref a) F2 H' p (e.trans e2) r2 at_⟩
abbrev G2 := D → D → (D → Prop) → Prop
/-- f does on values what g tells of data -/
def Sem2 (X : Cx) (c : Cn) (f : Value → Value → Sem Value) (g : G2) : Prop := ∃ r : R2, OpR X f r ∧ ∀ (F H : Hp) (σ : L2.St) (ρ : Env) (xx : XX) (x y : D) (vx vy : V) (P : D → Prop) (Q : VK), Rel c F H σ ρ xx → Bo c F H vx x → Bo c F H vy y → g x y P →
  (∀ z v F' H', P z → Ex F F' → Rel c F' H' σ ρ xx → At c.K F' v z → Q v H') → r vx vy H Q
def d2 (g : G2) (fa fb : HM) : DM := fun ρ P => fa ρ fun x ρ1 => fb ρ1 fun y ρ2 => see ρ2 x fun dx => see ρ2 y fun dy => g dx dy fun z => P z ρ2
theorem d2_use {r : R2} {g : G2} {fa fb : HM} {ta tb : TE} (hr : ∀ (F H : Hp) (σ : L2.St) (ρ : Env) (xx : XX) (x y : D) (vx vy : V) (P : D → Prop) (Q : VK), Rel c F H σ ρ xx → Bo c F H vx x → Bo c F H vy y → g x y P →
    (∀ z v F' H', P z → Ex F F' → Rel c F' H' σ ρ xx → At c.K F' v z → Q v H') → r vx vy H Q) (ea : ta = tH c fa) (eb : tb = tH c fb) : ∀ σ H Q, tD c (d2 g fa fb) σ H Q → tOp r ta tb σ H Q := by
  rintro σ H Q ⟨F, ρ, xx, P, rel, q, k⟩
  subst ea eb
  refine ⟨F, ρ, xx, _, rel, q, fun x ρ1 v F1 H1 q1 e1 r1 h1 => ?_⟩
  refine ⟨F1, ρ1, xx, _, r1, q1, fun y ρ2 u F2 H2 q2 e2 r2 h2 => ?_⟩
  obtain ⟨dx, bx, q2⟩ := see_bo r2 (h1.mono e2) q2
  obtain ⟨dy, by_, q2⟩ := see_bo r2 h2 q2
  exact hr F2 H2 σ ρ2 xx dx dy v u _ Q r2 bx by_ q2 fun z w F' H' pz ez rz az => k z ρ2 w F' H' pz ((e1.trans e2).trans ez) rz az
theorem de_bin {op : Operator} {g : G2} {fa fb : HM} (hs : Sem2 X c (binaryOp op) g) (ha : PE X a (tH c fa)) (hb : PE X b (tH c fb)) : PE X (.BinOp a op b pos) (tD c (d2 g fa fb)) := by
  obtain ⟨r, ho, hr⟩ := hs
  exact PE.to (pe_op ho ha hb) (d2_use hr rfl rfl)
theorem de_cmp {op : CmpOp} {g : G2} {fa fb : HM} (hs : Sem2 X c (compareOp op) g) (ha : PE X a (tH c fa)) (hb : PE X b (tH c fb)) (hm : behindInMarks op b = false) : PE X (.Compare a [op] [b] pos) (tD c (d2 g fa fb)) := by
  obtain ⟨r, ho, hr⟩ := hs
  exact PE.to (pe_cmpR ho ha hb hm) (d2_use hr rfl rfl)
/-- a test: what is a bool -/
def bD (f : DM) : BM := fun ρ P => f ρ fun d ρ' => match d with
  | .bool b => P b ρ'
  | _ => False
theorem bD_use {f : DM} {t : TE} (et : t = tD c f) : ∀ σ H Q, tT c (bD f) σ H Q → (t σ H fun x H' => ∃ k, x = .bl k ∧ Q k H') := by
  rintro σ H Q ⟨F, ρ, xx, P, rel, q, k⟩
  subst et
  refine ⟨F, ρ, xx, _, rel, q, fun d ρ' v F' H' p e r at_ => ?_⟩
  cases d <;> first | exact p.elim | (cases at_; exact ⟨_, rfl, k _ ρ' F' H' p e r⟩)
theorem dt_cmp {op : CmpOp} {g : G2} {fa fb : HM} (hs : Sem2 X c (compareOp op) g) (ha : PE X a (tH c fa)) (hb : PE X b (tH c fb)) (hm : behindInMarks op b = false) : PT X (.Compare a [op] [b] pos) (tT c (bD (d2 g fa fb))) := by
  obtain ⟨r, ho, hr⟩ := hs
  refine PT.to (pt_cmpR ho ha hb hm) fun σ H Q h => d2_use hr rfl rfl σ H _ ?_
  exact bD_use rfl σ H Q h
/-- a < b < e -/
def dChain (g g' : G2) (fa fb fc : HM) : DM := fun ρ P => fa ρ fun x ρ1 => fb ρ1 fun y ρ2 => see ρ2 x fun dx => see ρ2 y fun dy => g dx dy fun z => match z with
  | .bool true => fc ρ2 fun w ρ3 => see ρ3 y fun dy' => see ρ3 w fun dw => g' dy' dw fun z' => P z' ρ3
  | .bool false => P (.bool false) ρ2
  | _ => False
theorem dChain_use {r r' : R2} {g g' : G2} {fa fb fc : HM} {ta tb tc : TE} (hr : ∀ (F H : Hp) (σ : L2.St) (ρ : Env) (xx : XX) (x y : D) (vx vy : V) (P : D → Prop) (Q : VK), Rel c F H σ ρ xx → Bo c F H vx x → Bo c F H vy y → g x y P →
    (∀ z v F' H', P z → Ex F F' → Rel c F' H' σ ρ xx → At c.K F' v z → Q v H') → r vx vy H Q)
    (hr' : ∀ (F H : Hp) (σ : L2.St) (ρ : Env) (xx : XX) (x y : D) (vx vy : V) (P : D → Prop) (Q : VK), Rel c F H σ ρ xx → Bo c F H vx x → Bo c F H vy y → g' x y P →
    (∀ z v F' H', P z → Ex F F' → Rel c F' H' σ ρ xx → At c.K F' v z → Q v H') → r' vx vy H Q) (ea : ta = tH c fa) (eb : tb = tH c fb) (ec : tc = tH c fc) : ∀ σ H Q, tD c (dChain g g' fa fb fc) σ H Q → tChain r r' ta tb tc σ H Q := by
  rintro σ H Q ⟨F, ρ, xx, P, rel, q, k⟩
  subst ea eb ec
  refine ⟨F, ρ, xx, _, rel, q, fun x ρ1 v F1 H1 q1 e1 r1 h1 => ?_⟩
  refine ⟨F1, ρ1, xx, _, r1, q1, fun y ρ2 u F2 H2 q2 e2 r2 h2 => ?_⟩
  obtain ⟨dx, bx, q2⟩ := see_bo r2 (h1.mono e2) q2
  obtain ⟨dy, by_, q2⟩ := see_bo r2 h2 q2
  refine hr F2 H2 σ ρ2 xx dx dy v u _ _ r2 bx by_ q2 fun z w F' H' pz ez rz az => ?_
  split at pz
  · cases az
    refine ⟨true, rfl, ?_⟩
    rw [if_pos rfl]
    refine ⟨F', ρ2, xx, _, rz, pz, fun t ρ3 s F3 H3 q3 e3 r3 h3 => ?_⟩
    obtain ⟨dy', by', q3⟩ := see_bo r3 (h2.mono (ez.trans e3)) q3
    obtain ⟨dw, bw, q3⟩ := see_bo r3 h3 q3
    exact hr' F3 H3 σ ρ3 xx dy' dw u s _ Q r3 by' bw q3 fun z' w' F4 H4 p4 e4 r4 a4 => k z' ρ3 w' F4 H4 p4 ((((e1.trans e2).trans ez).trans e3).trans e4) r4 a4
  · cases az
    refine ⟨false, rfl, ?_⟩
    (rw [if_neg Bool.false_ne_true])
    exact k _ ρ2 _ F' H' pz ((e1.trans e2).trans ez) rz (.bl false)
  · exact pz.elim
theorem de_chain {e3 : Expr} {op op' : CmpOp} {g g' : G2} {fa fb fc : HM} (hs : Sem2 X c (compareOp op) g) (hs' : Sem2 X c (compareOp op') g') (ha : PE X a (tH c fa)) (hb : PE X b (tH c fb)) (hc : PE X e3 (tH c fc)) (hm : lastMarks [op, op'] [b, e3] = false) :
    PE X (.Compare a [op, op'] [b, e3] pos) (tD c (dChain g g' fa fb fc)) := by
  obtain ⟨r, ho, hr⟩ := hs
  obtain ⟨r', ho', hr'⟩ := hs'
  exact PE.to (pe_chain ho ho' ha hb hc hm) (dChain_use hr hr' rfl rfl rfl)
def bAnd (f g : BM) : BM := fun ρ P => f ρ fun b ρ1 => if b = true then g ρ1 P else P false ρ1
def bOr (f g : BM) : BM := fun ρ P => f ρ fun b ρ1 => if b = true then P true ρ1 else g ρ1 P
def bNot (f : BM) : BM := fun ρ P => f ρ fun b ρ1 => P (!b) ρ1
variable {rest : List Expr}
theorem dw_and {f g : BM} (ha : PT X a (tT c f)) (hb : PW X (.BoolOp .And (b :: rest) pos) (tT c g)) : PW X (.BoolOp .And (a :: b :: rest) pos) (tT c (bAnd f g)) := by
  have h := pw_and ha hb
  refine ⟨fun wh pins s σ H Q I q => h.run wh pins s σ H Q I ?_⟩
  obtain ⟨F, ρ, xx, P, rel, q, k⟩ := q
  refine ⟨F, ρ, xx, _, rel, q, fun t ρ1 F1 H1 q1 e1 r1 => ?_⟩
  cases t with
  | true => exact ⟨F1, ρ1, xx, P, r1, q1, fun t' ρ2 F2 H2 q2 e2 r2 => k t' ρ2 F2 H2 q2 (e1.trans e2) r2⟩
  | false => exact k false ρ1 F1 H1 q1 e1 r1
theorem dw_or {f g : BM} (ha : PT X a (tT c f)) (hb : PW X (.BoolOp .Or (b :: rest) pos) (tT c g)) : PW X (.BoolOp .Or (a :: b :: rest) pos) (tT c (bOr f g)) := by
  have h := pw_or ha hb
  refine ⟨fun wh pins s σ H Q I q => h.run wh pins s σ H Q I ?_⟩
  obtain ⟨F, ρ, xx, P, rel, q, k⟩ := q
  refine ⟨F, ρ, xx, _, rel, q, fun t ρ1 F1 H1 q1 e1 r1 => ?_⟩
  cases t with
  | true => exact k true ρ1 F1 H1 q1 e1 r1
  | false => exact ⟨F1, ρ1, xx, P, r1, q1, fun t' ρ2 F2 H2 q2 e2 r2 => k t' ρ2 F2 H2 q2 (e1.trans e2) r2⟩
theorem dt_not {f : BM} (ha : PT X a (tT c f)) : PT X (.UnaryOp .Not a pos) (tT c (bNot f)) :=
  PT.to (pt_not ha) fun σ H Q ⟨F, ρ, xx, P, rel, q, k⟩ => ⟨F, ρ, xx, _, rel, q, fun t ρ1 F1 H1 q1 e1 r1 => k _ ρ1 F1 H1 q1 e1 r1⟩
/-- the same as values, of bools -/
def dAnd (f g : DM) : DM := fun ρ P => f ρ fun d ρ1 => match d with
  | .bool true => g ρ1 P
  | .bool false => P (.bool false) ρ1
  | _ => False
def dOr (f g : DM) : DM := fun ρ P => f ρ fun d ρ1 => match d with
  | .bool true => P (.bool true) ρ1
  | .bool false => g ρ1 P
  | _ => False
def dNot (f : DM) : DM := fun ρ P => f ρ fun d ρ1 => match d with
  | .bool b => P (.bool (!b)) ρ1
  | _ => False
theorem de_and {f g : DM} (ha : PE X a (tD c f)) (hb : PE X (.BoolOp .And (b :: rest) pos) (tD c g)) : PE X (.BoolOp .And (a :: b :: rest) pos) (tD c (dAnd f g)) :=
  PE.to (pe_and ha hb) fun σ H Q ⟨F, ρ, xx, P, rel, q, k⟩ => ⟨F, ρ, xx, _, rel, q, fun d ρ1 v F1 H1 q1 e1 r1 a1 => by
    split at q1
    · cases a1
      exact ⟨true, rfl, F1, ρ1, xx, P, r1, q1, fun t' ρ2 v2 F2 H2 q2 e2 r2 a2 => k t' ρ2 v2 F2 H2 q2 (e1.trans e2) r2 a2⟩
    · cases a1
      exact ⟨false, rfl, k _ ρ1 _ F1 H1 q1 e1 r1 (.bl false)⟩
    · exact q1.elim⟩
theorem de_not {f : DM} (ha : PE X a (tD c f)) : PE X (.UnaryOp .Not a pos) (tD c (dNot f)) :=
  PE.to (pe_not ha) fun σ H Q ⟨F, ρ, xx, P, rel, q, k⟩ => ⟨F, ρ, xx, _, rel, q, fun d ρ1 v F1 H1 q1 e1 r1 a1 => by
    cases d <;> first | exact q1.elim | (cases a1; exact ⟨_, rfl, k _ ρ1 _ F1 H1 q1 e1 r1 (.bl _)⟩)⟩
def dIf (t : BM) (f g : DM) : DM := fun ρ P => t ρ fun b ρ1 => if b = true then f ρ1 P else g ρ1 P
theorem de_if {e3 : Expr} {t : BM} {f g : DM} (hc : PT X e3 (tT c t)) (ha : PE X a (tD c f)) (hb : PE X b (tD c g)) : PE X (.IfExp e3 a b pos) (tD c (dIf t f g)) :=
  PE.to (pe_ifExp hc ha hb) fun σ H Q ⟨F, ρ, xx, P, rel, q, k⟩ => ⟨F, ρ, xx, _, rel, q, fun d ρ1 F1 H1 q1 e1 r1 => by
    cases d with
    | true => exact ⟨F1, ρ1, xx, P, r1, q1, fun t' ρ2 v2 F2 H2 q2 e2 r2 a2 => k t' ρ2 v2 F2 H2 q2 (e1.trans e2) r2 a2⟩
    | false => exact ⟨F1, ρ1, xx, P, r1, q1, fun t' ρ2 v2 F2 H2 q2 e2 r2 a2 => k t' ρ2 v2 F2 H2 q2 (e1.trans e2) r2 a2⟩⟩
/-- by truth -/
def truD : D → Bool
  | .none => false
  | .bool b => b
  | .int i => i != 0
  | .str x => x.length != 0
  | .list xs => !xs.isEmpty
  | .tuple xs => !xs.isEmpty
  | .dict xs => !xs.isEmpty
def lNil : LM := fun ρ P => P [] ρ
def lCons (f : DM) (g : LM) : LM := fun ρ P => f ρ fun d ρ1 => g ρ1 fun ds ρ2 => P (d :: ds) ρ2
theorem dl_nil : PA X [] (tL c lNil) := PA.to pa_nil fun σ H Q ⟨F, ρ, xx, P, rel, q, k⟩ => k [] ρ [] F H q (Ex.refl F) rel .nil
theorem dl_cons {es : List Expr} {f : DM} {g : LM} (ha : PE X e (tD c f)) (hr : PA X es (tL c g)) (hs : starEach (e :: es) X.env = (false, eval e X.env) :: starEach es X.env := by rfl) : PA X (e :: es) (tL c (lCons f g)) :=
  PA.to (pa_cons ha hr hs) fun σ H Q ⟨F, ρ, xx, P, rel, q, k⟩ => ⟨F, ρ, xx, _, rel, q, fun d ρ1 v F1 H1 q1 e1 r1 a1 => ⟨F1, ρ1, xx, _, r1, q1, fun ds ρ2 vs F2 H2 q2 e2 r2 a2 =>
    k (d :: ds) ρ2 (v :: vs) F2 H2 q2 (e1.trans e2) r2 (.cons (a1.mono e2) a2)⟩⟩
def dTup (f : LM) : DM := fun ρ P => f ρ fun ds ρ1 => ds.length ≤ 1000000 ∧ P (.tuple ds) ρ1
def dLst (f : LM) : DM := fun ρ P => f ρ fun ds ρ1 => ds.length ≤ 1000000 ∧ P (.list ds) ρ1
theorem sz {n : Nat} (h : n ≤ 1000000) : n ≤ sizeLine := Nat.le_trans h (by rw [sizeLine_eq]; decide)
theorem szl {n : Nat} (h : n ≤ 1000000) : n < sizeLine := Nat.lt_of_le_of_lt h (by rw [sizeLine_eq]; decide)
theorem de_tup {es : List Expr} {x1 : Nat} {f : LM} (h : PA X es (tL c f)) : PE X (.Tuple es x1 pos) (tD c (dTup f)) :=
  PE.to (pe_tup h) fun σ H Q ⟨F, ρ, xx, P, rel, q, k⟩ => ⟨F, ρ, xx, _, rel, q, fun ds ρ1 vs F1 H1 q1 e1 r1 a1 => ⟨sz (by rw [a1.length]; exact q1.1), fun p hp => by
    have e2 := r1.efF (.tup vs) hp
    exact k _ ρ1 _ _ _ q1.2 (e1.trans e2) (r1.newF _ hp) (.tup (.inl (.inl upd_same)) (a1.mono e2))⟩⟩
theorem dn_lst {es : List Expr} {f : LM} (h : PA X es (tL c f)) : PE X (.List es pos) (tN c (dLst f)) :=
  PE.to (pe_lst h) fun σ H Q ⟨F, ρ, xx, P, rel, q, k⟩ => ⟨F, ρ, xx, _, rel, q, fun ds ρ1 vs F1 H1 q1 e1 r1 a1 => ⟨sz (by rw [a1.length]; exact q1.1), fun p hp => by
    obtain ⟨r2, fr⟩ := Fresh.new (o := .lst vs) (d := .d <| .list ds) r1 hp ⟨vs, upd_same, a1⟩
    exact k _ ρ1 _ _ _ q1.2 e1 r2 fr⟩⟩
/-- arguments of a call of an own def: the source of numbers may be among them -/
def aNil : AM := fun ρ P => P [] ρ
def aCons (f : DM) (g : AM) : AM := fun ρ P => f ρ fun d ρ1 => g ρ1 fun ds ρ2 => P (.d d :: ds) ρ2
def aOra (i : Nat) (g : AM) : AM := fun ρ P => (match ρ[i]? with
  | some (.ora _) => True
  | _ => False) ∧ g ρ fun ds ρ2 => P (.ora :: ds) ρ2
theorem ArAt.mono {F F' : Hp} (e : Ex F F') {v : V} {x : Ar} (h : ArAt c F v x) : ArAt c F' v x := by
  cases x with
  | d x => exact At.mono e h
  | ora => exact h
theorem da_nil : PA X [] (tAr c aNil) := PA.to pa_nil fun σ H Q ⟨F, ρ, xx, P, rel, q, k⟩ => k [] ρ [] F H q (Ex.refl F) rel .nil
theorem da_cons {es : List Expr} {f : DM} {g : AM} (ha : PE X e (tD c f)) (hr : PA X es (tAr c g)) (hs : starEach (e :: es) X.env = (false, eval e X.env) :: starEach es X.env := by rfl) : PA X (e :: es) (tAr c (aCons f g)) :=
  PA.to (pa_cons ha hr hs) fun σ H Q ⟨F, ρ, xx, P, rel, q, k⟩ => ⟨F, ρ, xx, _, rel, q, fun d ρ1 v F1 H1 q1 e1 r1 a1 => ⟨F1, ρ1, xx, _, r1, q1, fun ds ρ2 vs F2 H2 q2 e2 r2 a2 =>
    k (.d d :: ds) ρ2 (v :: vs) F2 H2 q2 (e1.trans e2) r2 (.cons (show ArAt c F2 v (.d d) from a1.mono e2) a2)⟩⟩
theorem da_ora {es : List Expr} {i : Nat} {g : AM} (ha : PE X e (tVar i)) (hr : PA X es (tAr c g)) (hs : starEach (e :: es) X.env = (false, eval e X.env) :: starEach es X.env := by rfl) : PA X (e :: es) (tAr c (aOra i g)) :=
  PA.to (pa_cons ha hr hs) fun σ H Q ⟨F, ρ, xx, P, rel, ⟨q0, q⟩, k⟩ => by
    split at q0
    · rename_i e0
      obtain ⟨p, h1, h2, _⟩ := rel.s.or i _ e0
      exact ⟨.ref p, h2, F, ρ, xx, _, rel, q, fun ds ρ2 vs F2 H2 q2 e2 r2 a2 => k (.ora :: ds) ρ2 (.ref p :: vs) F2 H2 q2 e2 r2 (.cons (show ArAt c F2 (.ref p) .ora from ⟨p, h1, rfl⟩) a2)⟩
    · exact q0.elim
end
end DL
namespace DL
open PySem L2
open PyProof.Rows in
theorem op_catLL {X : Cx} : OpR X (binaryOp .Add) (fun x y H Q => ∃ l b xs zs, x = .ref l ∧ y = .ref b ∧ SqL X.K H l xs ∧ SqL X.K H b zs ∧ xs.length + zs.length ≤ sizeLine ∧ ∀ p, H p = none → Q (.ref p) (upd H p (.lst (xs ++ zs)))) := by
  (intro pins s σ H x y v u Q I rx ry h)
  (obtain ⟨l, b, xs, zs, rfl, rfl, hH, hB, hz, q⟩ := h)
  cases rx
  cases ry
  obtain ⟨its, r, pl, _⟩ := I.list hH
  obtain ⟨its2, r2, pl2, _⟩ := I.list hB
  obtain ⟨⟨cls, dd, data, sl⟩, n, ho, hc, hd0, hd⟩ := id pl
  obtain ⟨⟨cls2, dd2, data2, sl2⟩, n2, ho2, hc2, hd02, hd2⟩ := id pl2
  simp only at hc hd hc2 hd2 hd0 hd02
  subst hc hd hc2 hd2
  have e : its.toArray ++ its2.toArray = (its ++ its2).toArray := by simp
  have h1 := r.length
  have h2 := r2.length
  refine concat_meets ⟨_, ho, rfl⟩ ⟨_, ho2, rfl⟩ noFill_list_add seq_list_add PySem.F.slot_list_add PySem.F.entry_list_add (PySem.F.args_list_add_2 _ _) (list_addW l b its.toArray its2.toArray n n2 dd dd2 sl sl2 (by simp only [List.size_toArray]; omega)) ⟨ho, ho2, ?_⟩
  rw [e]
  (exact ⟨.ref _, _, I.lnew (t' := s.toks) (r.append r2) (by rw [List.length_append]; omega), rfl, q _ I.fresh⟩)
open PyProof.Rows in
theorem op_repA {X : Cx} : OpR X (binaryOp .Mult) (fun x y H Q => ∃ l k xs, x = .ref l ∧ y = .int k ∧ SqL X.K H l xs ∧ -(2 ^ 63) ≤ k ∧ k < 2 ^ 63 ∧ xs.length * k.toNat ≤ sizeLine ∧
    ∀ p, H p = none → Q (.ref p) (upd H p (.lst (List.replicate k.toNat xs).flatten))) := by
  (intro pins s σ H x y v u Q I rx ry h)
  (obtain ⟨l, k, xs, rfl, rfl, hH, h1, h2, hz, q⟩ := h)
  cases rx
  obtain ⟨t, rfl⟩ := ry
  obtain ⟨its, r, pl, _⟩ := I.list hH
  obtain ⟨⟨cls, dd, data, sl⟩, n, ho, hc, hd0, hd⟩ := id pl
  simp only at hc hd hd0
  subst hc hd
  have hl := r.length
  have hsz' : its.toArray.size * k.toNat ≤ 2 ^ 24 := by rw [List.size_toArray, ← hl]; rw [sizeLine_eq] at hz; omega
  refine wpAny_binaryOp_repeat_ref (T := "list") (U := "int") (by decide) ⟨_, ho, rfl⟩ (fun s' => typeIs_int s' k t) noFill_list_mul F.fills_int_mul F.slot_int_rmul repeat_list F.slot_int_index.lookup
    (call_meets F.slot_int_rmul (typeIs_int s k t) F.entry_int_rmul (F.args_int_rmul_2 _ _) (lm_int_rmul_list_any k t l its.toArray n dd sl)
      ⟨ho, rfl, ⟨_, ho, rfl⟩,
        call_meets F.slot_list_mul ⟨_, ho, rfl⟩ F.entry_list_mul (F.args_list_mul_2 _ _)
        (lm_list_mul_any l its.toArray n dd sl k t (by simp [Builtin.List.listFitsIndex]; omega) (by omega) (by simp [Builtin.List.listTooLong, sizeLine]; omega))
        ⟨ho, ?_⟩⟩)
  rw [listMul_foldl_if]
  (exact ⟨.ref _, _, I.lnew (t' := s.toks) (r.rep k.toNat) (by rw [PyProof.Rows.lm_len_rep_flat, Nat.mul_comm]; exact hz), rfl, q _ I.fresh⟩)
section
variable {c : Cn} {F H : Hp} {v : V}
theorem bo_int {i : Int} (h : Bo c F H v (.int i)) : v = .int i := by
  rcases h with h | ⟨a, _, h⟩
  · cases h; rfl
  · exact h.elim
theorem bo_bl {i : Bool} (h : Bo c F H v (.bool i)) : v = .bl i := by
  rcases h with h | ⟨a, _, h⟩
  · cases h; rfl
  · exact h.elim
theorem bo_str {i : Str} (h : Bo c F H v (.str i)) : v = .str i := by
  rcases h with h | ⟨a, _, h⟩
  · cases h; rfl
  · exact h.elim
theorem bo_non (h : Bo c F H v .none) : v = .non := by
  rcases h with h | ⟨a, _, h⟩
  · cases h; rfl
  · exact h.elim
theorem bo_lst {ds : List D} (e : Ex F H) (h : Bo c F H v (.list ds)) : ∃ a xs, v = .ref a ∧ SqL c.K H a xs ∧ AtAll c.K F xs ds := by
  rcases h with h | ⟨a, rfl, vs, h1, h2⟩
  · cases h with
    | lst s t => exact ⟨_, _, rfl, e.sl s, t⟩
  · exact ⟨a, vs, rfl, SqL.of h1, h2⟩
theorem bo_tup {ds : List D} (e : Ex F H) (h : Bo c F H v (.tuple ds)) : ∃ a xs, v = .ref a ∧ SqT c.K F a xs ∧ SqT c.K H a xs ∧ AtAll c.K F xs ds := by
  rcases h with h | ⟨a, rfl, h⟩
  · cases h with
    | tup s t => exact ⟨_, _, rfl, s, e.st s, t⟩
  · exact h.elim
end
def gAdd : G2 := fun x y P => match x, y with
  | .int i, .int j => P (.int (i + j))
  | .str a, .str b => a.length + b.length ≤ 1000000 ∧ P (.str (a ++ b))
  | .list xs, .list ys => xs.length + ys.length ≤ 1000000 ∧ P (.list (xs ++ ys))
  | .tuple xs, .tuple ys => xs.length + ys.length ≤ 1000000 ∧ P (.tuple (xs ++ ys))
  | _, _ => False
def gSub : G2 := fun x y P => match x, y with
  | .int i, .int j => P (.int (i - j))
  | _, _ => False
def gMul : G2 := fun x y P => match x, y with
  | .int i, .int j => ((-(2 ^ 64) < i ∧ i < 2 ^ 64) ∨ (-(2 ^ 64) < j ∧ j < 2 ^ 64)) ∧ P (.int (i * j))
  | .list xs, .int k => (-(2 ^ 63) ≤ k ∧ k < 2 ^ 63) ∧ xs.length * k.toNat ≤ 1000000 ∧ P (.list (List.replicate k.toNat xs).flatten)
  | _, _ => False
def gDiv : G2 := fun x y P => match x, y with
  | .int i, .int j => (0 < j ∧ j < 1073741824) ∧ P (.int (i / j))
  | _, _ => False
def gMod : G2 := fun x y P => match x, y with
  | .int i, .int j => 0 < j ∧ P (.int (i % j))
  | _, _ => False
def gPow : G2 := fun x y P => match x, y with
  | .int i, .int j => (0 ≤ j ∧ j ≤ 1000000 ∧ i.natAbs < 2 ^ 64) ∧ P (.int (i ^ j.toNat))
  | _, _ => False
theorem AtAll.nil_iff {K : PySem.W.Frag} {H : Hp} {vs : List V} {ds : List D} (h : AtAll K H vs ds) : vs = [] ↔ ds = [] := by cases h <;> simp
section
variable {X : Cx} {c : Cn}
theorem sem_add (hK : X.K = c.K) : Sem2 X c (binaryOp .Add) gAdd := by
  refine ⟨_, (op_add.or op_add_str).or (op_catLL.or L2.op_catA), fun F H σ ρ xx x y vx vy P Q r bx by_ g k => ?_⟩
  have e := r.w.fh
  unfold gAdd at g
  split at g
  · cases bo_int bx; cases bo_int by_
    exact .inl (.inl ⟨_, _, rfl, rfl, k _ _ F H g (Ex.refl F) r (.int _)⟩)
  · cases bo_str bx; cases bo_str by_
    exact .inl (.inr ⟨_, _, rfl, rfl, sz g.1, k _ _ F H g.2 (Ex.refl F) r (.str _)⟩)
  · obtain ⟨a, xs, rfl, s1, t1⟩ := bo_lst e bx
    obtain ⟨b, ys, rfl, s2, t2⟩ := bo_lst e by_
    refine .inr (.inl ⟨a, b, xs, ys, rfl, rfl, by rw [hK]; exact s1, by rw [hK]; exact s2, sz (by rw [t1.length, t2.length]; exact g.1), fun p hp => ?_⟩)
    have e2 := r.efF (.lst (xs ++ ys)) hp
    exact k _ _ _ _ g.2 e2 (r.newF _ hp) (.lst (.inl (.inl upd_same)) ((t1.append t2).mono e2))
  · obtain ⟨a, xs, rfl, f1, s1, t1⟩ := bo_tup e bx
    obtain ⟨b, ys, rfl, f2, s2, t2⟩ := bo_tup e by_
    refine .inr (.inr ⟨a, b, xs, ys, rfl, rfl, by rw [hK]; exact s1, by rw [hK]; exact s2, sz (by rw [t1.length, t2.length]; exact g.1), fun z => ?_, fun _ z => ?_, fun _ _ p hp => ?_⟩)
    · refine k _ _ F H g.2 (Ex.refl F) r ?_
      rw [t1.nil_iff.mp z, List.nil_append]
      exact .tup f2 t2
    · refine k _ _ F H g.2 (Ex.refl F) r ?_
      rw [t2.nil_iff.mp z, List.append_nil]
      exact .tup f1 t1
    · have e2 := r.efF (.tup (xs ++ ys)) hp
      exact k _ _ _ _ g.2 e2 (r.newF _ hp) (.tup (.inl (.inl upd_same)) ((t1.append t2).mono e2))
  · exact g.elim
theorem sem_sub : Sem2 X c (binaryOp .Sub) gSub := by
  refine ⟨_, op_sub, fun F H σ ρ xx x y vx vy P Q r bx by_ g k => ?_⟩
  unfold gSub at g
  split at g
  · cases bo_int bx; cases bo_int by_
    exact ⟨_, _, rfl, rfl, k _ _ F H g (Ex.refl F) r (.int _)⟩
  · exact g.elim
theorem AtAll.rep {K : PySem.W.Frag} {H : Hp} {vs : List V} {ds : List D} (h : AtAll K H vs ds) : ∀ n : Nat, AtAll K H (List.replicate n vs).flatten (List.replicate n ds).flatten
  | 0 => .nil
  | n + 1 => by
    (rw [List.replicate_succ, List.replicate_succ, List.flatten_cons, List.flatten_cons])
    exact h.append (AtAll.rep h n)
theorem sem_mul (hK : X.K = c.K) : Sem2 X c (binaryOp .Mult) gMul := by
  refine ⟨_, op_mul.or op_repA, fun F H σ ρ xx x y vx vy P Q r bx by_ g k => ?_⟩
  have e := r.w.fh
  unfold gMul at g
  split at g
  · cases bo_int bx; cases bo_int by_
    exact .inl ⟨_, _, rfl, rfl, g.1, k _ _ F H g.2 (Ex.refl F) r (.int _)⟩
  · obtain ⟨a, xs, rfl, s1, t1⟩ := bo_lst e bx
    cases bo_int by_
    refine .inr ⟨a, _, xs, rfl, rfl, by rw [hK]; exact s1, g.1.1, g.1.2, sz (by rw [t1.length]; exact g.2.1), fun p hp => ?_⟩
    exact k _ _ _ _ g.2.2 (r.efF _ hp) (r.newF _ hp) (.lst (.inl (.inl upd_same)) ((t1.rep _).mono (r.efF _ hp)))
  · exact g.elim
theorem sem_div : Sem2 X c (binaryOp .FloorDiv) gDiv := by
  refine ⟨_, op_fdiv, fun F H σ ρ xx x y vx vy P Q r bx by_ g k => ?_⟩
  unfold gDiv at g
  split at g
  · cases bo_int bx; cases bo_int by_
    exact ⟨_, _, rfl, rfl, g.1, k _ _ F H g.2 (Ex.refl F) r (.int _)⟩
  · exact g.elim
theorem sem_mod : Sem2 X c (binaryOp .Mod) gMod := by
  refine ⟨_, op_mod, fun F H σ ρ xx x y vx vy P Q r bx by_ g k => ?_⟩
  unfold gMod at g
  split at g
  · cases bo_int bx; cases bo_int by_
    exact ⟨_, _, rfl, rfl, g.1, k _ _ F H g.2 (Ex.refl F) r (.int _)⟩
  · exact g.elim
theorem sem_pow : Sem2 X c (binaryOp .Pow) gPow := by
  refine ⟨_, op_pow, fun F H σ ρ xx x y vx vy P Q r bx by_ g k => ?_⟩
  unfold gPow at g
  split at g
  · cases bo_int bx; cases bo_int by_
    exact ⟨_, _, rfl, rfl, g.1, k _ _ F H g.2 (Ex.refl F) r (.int _)⟩
  · exact g.elim
def gCmp (p : Int → Int → Bool) : G2 := fun x y P => match x, y with
  | .int i, .int j => P (.bool (p i j))
  | _, _ => False
theorem sem_cmp {op : CmpOp} {p : Int → Int → Bool} (h : OpR X (compareOp op) (rI0 fun i j => .bl (p i j))) : Sem2 X c (compareOp op) (gCmp p) := by
  refine ⟨_, h, fun F H σ ρ xx x y vx vy P Q r bx by_ g k => ?_⟩
  unfold gCmp at g
  split at g
  · cases bo_int bx; cases bo_int by_
    exact ⟨_, _, rfl, rfl, k _ _ F H g (Ex.refl F) r (.bl _)⟩
  · exact g.elim
abbrev gLt : G2 := gCmp fun i j => decide (i < j)
abbrev gLe : G2 := gCmp fun i j => decide (i ≤ j)
abbrev gGt : G2 := gCmp fun i j => decide (j < i)
abbrev gGe : G2 := gCmp fun i j => decide (j ≤ i)
theorem sem_lt : Sem2 X c (compareOp .Lt) gLt := sem_cmp op_lt
theorem sem_le : Sem2 X c (compareOp .LtE) gLe := sem_cmp op_le
theorem sem_gt : Sem2 X c (compareOp .Gt) gGt := sem_cmp op_gt
theorem sem_ge : Sem2 X c (compareOp .GtE) gGe := sem_cmp op_ge
def isN : D → Bool
  | .none => true
  | _ => false
def gIs : G2 := fun x y P => match y with
  | .none => P (.bool (isN x))
  | _ => False
def gIsNot : G2 := fun x y P => match y with
  | .none => P (.bool (!isN x))
  | _ => False
theorem isN_dec {F H : Hp} {v : V} {d : D} (h : Bo c F H v d) : decide (v = .non) = isN d := by
  rcases h with h | ⟨a, rfl, _⟩
  · cases h <;> rfl
  · cases d <;> first | rfl | (rename_i h; exact h.elim)
theorem sem_is : Sem2 X c (compareOp .Is) gIs := by
  refine ⟨_, op_isN, fun F H σ ρ xx x y vx vy P Q r bx by_ g k => ?_⟩
  unfold gIs at g
  split at g
  · cases bo_non by_
    refine ⟨rfl, ?_⟩
    rw [isN_dec bx]
    exact k _ _ F H g (Ex.refl F) r (.bl _)
  · exact g.elim
theorem sem_isnot : Sem2 X c (compareOp .IsNot) gIsNot := by
  refine ⟨_, op_notN, fun F H σ ρ xx x y vx vy P Q r bx by_ g k => ?_⟩
  unfold gIsNot at g
  split at g
  · cases bo_non by_
    refine ⟨rfl, ?_⟩
    rw [isN_dec bx]
    exact k _ _ F H g (Ex.refl F) r (.bl _)
  · exact g.elim
/-- == of data: texts of signs, no dicts, not too deep -/
def okD (d : D) : Prop := SeqAt.shaped d = true
theorem okD.nod {d : D} (h : okD d) : nod d = true := by
  have h1 : d.canLay0 = true := SeqAt.canLay_of_shaped h
  have all : ∀ d : D, d.canLay0 = true → DL.nod d = true := fun d => by
    refine PyData.rec (motive_1 := fun d => d.canLay0 = true → DL.nod d = true) (motive_2 := fun ds => PyData.canLayAll0 ds = true → DL.nodAll ds = true) (motive_3 := fun _ => True) (motive_4 := fun _ => True) ?_ ?_ ?_ ?_ ?_ ?_ ?_ ?_ ?_ ?_ ?_ ?_ d
    · exact fun _ => rfl
    · exact fun _ _ => rfl
    · exact fun _ _ => rfl
    · exact fun _ _ => rfl
    · exact fun xs ih h => by simp only [DL.nod]; exact ih (by simpa only [PyData.canLay0] using h)
    · exact fun xs ih h => by simp only [DL.nod]; exact ih (by simpa only [PyData.canLay0] using h)
    · exact fun _ _ h => by simp [PyData.canLay0] at h
    · exact fun _ => rfl
    · exact fun x xs i j h => by
        simp only [PyData.canLayAll0, Bool.and_eq_true] at h
        simp only [DL.nodAll, Bool.and_eq_true]
        exact ⟨i h.1, j h.2⟩
    all_goals (intros; trivial)
  exact all d h1
def gEq : G2 := fun x y P => okD x ∧ okD y ∧ P (.bool (PyData.eqv x y))
def gNe : G2 := fun x y P => okD x ∧ okD y ∧ P (.bool (!PyData.eqv x y))
theorem sem_eq (hK : X.K = c.K) (hu : X.A.units + 64 < cLine) : Sem2 X c (compareOp .Eq) gEq := by
  refine ⟨_, op_eqD hu, fun F H σ ρ xx x y vx vy P Q r bx by_ g k => ?_⟩
  have e := r.w.fh
  refine ⟨x, y, by rw [hK]; exact (bx.at e).dp g.1.nod, by rw [hK]; exact (by_.at e).dp g.2.1.nod, g.1, g.2.1, k _ _ F H g.2.2 (Ex.refl F) r (.bl _)⟩
theorem sem_ne (hK : X.K = c.K) (hu : X.A.units + 64 < cLine) : Sem2 X c (compareOp .NotEq) gNe := by
  refine ⟨_, op_neD hu, fun F H σ ρ xx x y vx vy P Q r bx by_ g k => ?_⟩
  have e := r.w.fh
  refine ⟨x, y, by rw [hK]; exact (bx.at e).dp g.1.nod, by rw [hK]; exact (by_.at e).dp g.2.1.nod, g.1, g.2.1, k _ _ F H g.2.2 (Ex.refl F) r (.bl _)⟩
def gIx : G2 := fun x y P => match x, y with
  | .list xs, .int i => ∃ d, atI xs i = some d ∧ P d
  | .tuple xs, .int i => ∃ d, atI xs i = some d ∧ P d
  | .str z, .int i => z.length ≤ 1000000 ∧ ∃ n, atI z.cps.toList i = some n ∧ P (.str ⟨#[n]⟩)
  | _, _ => False
theorem atI_at {K : PySem.W.Frag} {F : Hp} {xs : List V} {ds : List D} (t : AtAll K F xs ds) {i : Int} {d : D} (h : atI ds i = some d) : ∃ v, atI xs i = some v ∧ At K F v d := by
  unfold atI at h ⊢
  rw [t.length]
  cases e : ixN ds.length i with
  | none => (rw [e] at h; cases h)
  | some j =>
    rw [e] at h
    exact t.get h
theorem ix_use (hK : X.K = c.K) : ∀ (F H : Hp) (σ : L2.St) (ρ : Env) (xx : XX) (x y : D) (vx vy : V) (P : D → Prop) (Q : VK), Rel c F H σ ρ xx → Bo c F H vx x → Bo c F H vy y → gIx x y P →
    (∀ z v F' H', P z → Ex F F' → Rel c F' H' σ ρ xx → At c.K F' v z → Q v H') → rIx X.K vx vy H Q := fun F H σ ρ xx x y vx vy P Q r bx by_ g k => by
  have e := r.w.fh
  unfold gIx at g
  split at g
  · obtain ⟨a, xs, rfl, s1, t1⟩ := bo_lst e bx
    cases bo_int by_
    obtain ⟨d, h1, h2⟩ := g
    obtain ⟨u, h3, h4⟩ := atI_at t1 h1
    exact .inl ⟨a, xs, _, u, rfl, rfl, by rw [hK]; exact s1, h3, k _ _ F H h2 (Ex.refl F) r h4⟩
  · obtain ⟨a, xs, rfl, _, s1, t1⟩ := bo_tup e bx
    cases bo_int by_
    obtain ⟨d, h1, h2⟩ := g
    obtain ⟨u, h3, h4⟩ := atI_at t1 h1
    exact .inr (.inl ⟨a, xs, _, u, rfl, rfl, by rw [hK]; exact s1, h3, k _ _ F H h2 (Ex.refl F) r h4⟩)
  · cases bo_str bx; cases bo_int by_
    obtain ⟨hz, n, h1, h2⟩ := g
    exact .inr (.inr ⟨_, _, n, rfl, rfl, sz hz, h1, k _ _ F H h2 (Ex.refl F) r (.str _)⟩)
  · exact g.elim
theorem de_ix {a b : Expr} {pos : Pos} {fa fb : HM} (hK : X.K = c.K) (ha : PE X a (tH c fa)) (hb : PE X b (tH c fb)) (hs : PlainIx b) : PE X (.Subscript a b pos) (tD c (d2 gIx fa fb)) :=
  PE.to (pe_ix ix_seq ha hb hs) (d2_use (ix_use hK) rfl rfl)
abbrev OM := Env → (Option Int → Env → Prop) → Prop
def tOI (c : Cn) (f : OM) : TO := fun σ H Q => ∃ F ρ xx P, Rel c F H σ ρ xx ∧ f ρ P ∧ ∀ o ρ' F' H', P o ρ' → Ex F F' → Rel c F' H' σ ρ' xx → Q o H'
def oNo : OM := fun ρ P => P none ρ
def oI (f : DM) : OM := fun ρ P => f ρ fun d ρ' => match d with
  | .int i => P (some i) ρ'
  | _ => False
theorem PO.to {e : Option Expr} {t t' : TO} (h : PO X e t) (w : ∀ σ H Q, t' σ H Q → t σ H Q) : PO X e t' := ⟨fun pins s σ H Q I q => h.run pins s σ H Q I (w σ H Q q)⟩
theorem do_no : PO X none (tOI c oNo) := PO.to po_none fun σ H Q ⟨F, ρ, xx, P, r, q, k⟩ => k none ρ F H q (Ex.refl F) r
theorem do_i {e : Expr} {f : DM} (h : PE X e (tD c f)) : PO X (some e) (tOI c (oI f)) := PO.to (po_some h) fun σ H Q ⟨F, ρ, xx, P, r, q, k⟩ => ⟨F, ρ, xx, _, r, q, fun d ρ' v F' H' p e r' a => by
  cases d <;> first | exact p.elim | (cases a; exact ⟨_, rfl, k _ ρ' F' H' p e r'⟩)⟩
/-- xs[lo:hi] -/
def cutD (xs : List D) (lo hi : Option Int) : List D := (xs.drop (HT.sIx xs.length 0 lo)).take (HT.sIx xs.length xs.length hi - HT.sIx xs.length 0 lo)
theorem cut_at {K : PySem.W.Frag} {F : Hp} {xs : List V} {ds : List D} (t : AtAll K F xs ds) (lo hi : Option Int) : AtAll K F (cutV xs lo hi) (cutD ds lo hi) := by
  unfold cutV cutD
  rw [t.length]
  exact (t.drop _).take _
def dSl (fa : HM) (fl fu : OM) : DM := fun ρ P => fa ρ fun h ρ1 => fl ρ1 fun lo ρ2 => fu ρ2 fun hi ρ3 => see ρ3 h fun d => match d with
  | .list xs => P (.list (cutD xs lo hi)) ρ3
  | .tuple xs => P (.tuple (cutD xs lo hi)) ρ3
  | .str z => z.length ≤ 1000000 ∧ P (.str (cutS z lo hi)) ρ3
  | _ => False
end
end DL
namespace DL
open PySem L2
section
variable {X : Cx} {c : Cn} {e : Expr} {pos : Pos}
theorem de_sl {lo hi : Option Expr} {p2 : Pos} {fa : HM} {fl fu : OM} (hK : X.K = c.K) (he : PE X e (tH c fa)) (hl : PO X lo (tOI c fl)) (hu : PO X hi (tOI c fu)) : PE X (.Subscript e (.Slice lo hi none p2) pos) (tD c (dSl fa fl fu)) := by
  refine PE.to (pe_slice ((sl_list.or sl_tupA).or sl_str) he hl hu) ?_
  rintro σ H Q ⟨F, ρ, xx, P, rel, q, k⟩
  refine ⟨F, ρ, xx, _, rel, q, fun h ρ1 v F1 H1 q1 e1 r1 h1 => ⟨F1, ρ1, xx, _, r1, q1, fun o ρ2 F2 H2 q2 e2 r2 => ⟨F2, ρ2, xx, _, r2, q2, fun u ρ3 F3 H3 q3 e3 r3 => ?_⟩⟩⟩
  obtain ⟨d, bd, q3⟩ := see_bo r3 (h1.mono (e2.trans e3)) q3
  have ex := r3.w.fh
  split at q3
  · obtain ⟨a, xs, rfl, s1, t1⟩ := bo_lst ex bd
    refine .inl (.inl ⟨a, xs, rfl, by rw [hK]; exact s1, fun p hp => ?_⟩)
    exact k _ ρ3 _ _ _ q3 (((e1.trans e2).trans e3).trans (r3.efF _ hp)) (r3.newF _ hp) (.lst (.inl (.inl upd_same)) ((cut_at t1 o u).mono (r3.efF _ hp)))
  · obtain ⟨a, xs, rfl, f1, s1, t1⟩ := bo_tup ex bd
    refine .inl (.inr ⟨a, xs, rfl, by rw [hK]; exact s1, fun hw => ?_, fun _ p hp => ?_⟩)
    · refine k _ ρ3 _ F3 H3 q3 ((e1.trans e2).trans e3) r3 ?_
      have hc := cut_at t1 o u
      have hz : cutV xs o u = xs := by
        unfold cutV
        rw [hw.1, hw.2]
        simp
      rw [hz] at hc
      exact .tup f1 hc
    · exact k _ ρ3 _ _ _ q3 (((e1.trans e2).trans e3).trans (r3.efF _ hp)) (r3.newF _ hp) (.tup (.inl (.inl upd_same)) ((cut_at t1 o u).mono (r3.efF _ hp)))
  · cases bo_str bd
    exact .inr ⟨_, rfl, sz q3.1, k _ ρ3 _ F3 H3 q3.2 ((e1.trans e2).trans e3) r3 (.str _)⟩
  · exact q3.elim
theorem tru_of {F H : Hp} {v : V} {d : D} (r : Ex F H) (b : Bo c F H v d) (hd : ∀ s, d = .str s → s.length ≤ 1000000) (hn : ∀ kd, d ≠ .dict kd) : TruV c.K v H (truD d) := by
  cases d with
  | none => cases bo_non b; rfl
  | bool x => cases bo_bl b; rfl
  | int i => cases bo_int b; rfl
  | str s =>
    cases bo_str b
    refine ⟨sz (hd s rfl), ?_⟩
    show (s.length != 0) = ((s.length : Int) != 0)
    cases h : s.length with
    | zero => rfl
    | succ n =>
      have h1 : (n + 1 != 0) = true := by simp
      have h2 : (((n + 1 : Nat) : Int) != 0) = true := by simp only [bne_iff_ne, ne_eq]; omega
      rw [h1, h2]
  | list xs =>
    obtain ⟨a, ys, rfl, s1, t1⟩ := bo_lst r b
    refine .inl ⟨ys, s1, ?_⟩
    cases t1 <;> rfl
  | tuple xs =>
    obtain ⟨a, ys, rfl, _, s1, t1⟩ := bo_tup r b
    refine .inr (.inl ⟨ys, s1, ?_⟩)
    cases t1 <;> rfl
  | dict kd => exact absurd rfl (hn kd)
def bTruth (f : HM) : BM := fun ρ P => f ρ fun h ρ1 => see ρ1 h fun d => match d with
  | .str s => s.length ≤ 1000000 ∧ P (truD (.str s)) ρ1
  | .dict _ => False
  | d => P (truD d) ρ1
theorem dt_truth {f : HM} (hK : X.K = c.K) (ha : PE X e (tH c f)) (he : ∀ whole, isTrue e X.env whole = (do let v ← whole; standAt e.pos; holding [v] (truthy v)) := by intro _; rfl) : PT X e (tT c (bTruth f)) := by
  refine PT.to (pt_truth ha he) ?_
  rintro σ H Q ⟨F, ρ, xx, P, rel, q, k⟩
  refine ⟨F, ρ, xx, _, rel, q, fun h ρ1 v F1 H1 q1 e1 r1 h1 => ?_⟩
  obtain ⟨d, bd, q1⟩ := see_bo r1 h1 q1
  rw [hK]
  cases d with
  | str s => exact ⟨_, tru_of r1.w.fh bd (fun t ht => by cases ht; exact q1.1) (fun _ z => by cases z), k _ ρ1 F1 H1 q1.2 e1 r1⟩
  | dict kd => exact q1.elim
  | _ => exact ⟨_, tru_of r1.w.fh bd (fun t ht => by cases ht) (fun _ z => by cases z), k _ ρ1 F1 H1 q1 e1 r1⟩
abbrev HLM := Env → (List Hd → Env → Prop) → Prop
def tHL (c : Cn) (f : HLM) : TA := fun σ H Q => ∃ F ρ xx P, Rel c F H σ ρ xx ∧ f ρ P ∧ ∀ hs ρ' vs F' H', P hs ρ' → Ex F F' → Rel c F' H' σ ρ' xx → Paired (fun v h => HdAt c F' σ h v) vs hs → Q vs H'
def gNil : HLM := fun ρ P => P [] ρ
def gCons (f : HM) (g : HLM) : HLM := fun ρ P => f ρ fun h ρ1 => g ρ1 fun hs ρ2 => P (h :: hs) ρ2
theorem dg_nil : PA X [] (tHL c gNil) := PA.to pa_nil fun σ H Q ⟨F, ρ, xx, P, rel, q, k⟩ => k [] ρ [] F H q (Ex.refl F) rel .nil
theorem dg_cons {es : List Expr} {f : HM} {g : HLM} (ha : PE X e (tH c f)) (hr : PA X es (tHL c g)) (hs : starEach (e :: es) X.env = (false, eval e X.env) :: starEach es X.env := by rfl) : PA X (e :: es) (tHL c (gCons f g)) :=
  PA.to (pa_cons ha hr hs) fun σ H Q ⟨F, ρ, xx, P, rel, q, k⟩ => ⟨F, ρ, xx, _, rel, q, fun d ρ1 v F1 H1 q1 e1 r1 a1 => ⟨F1, ρ1, xx, _, r1, q1, fun ds ρ2 vs F2 H2 q2 e2 r2 a2 =>
    k (d :: ds) ρ2 (v :: vs) F2 H2 q2 (e1.trans e2) r2 (.cons (a1.mono e2) a2)⟩⟩
def seeAll (ρ : Env) : List Hd → (List D → Prop) → Prop
  | [], k => k []
  | h :: hs, k => see ρ h fun d => seeAll ρ hs fun ds => k (d :: ds)
theorem seeAll_bo {F H : Hp} {σ : L2.St} {ρ : Env} {xx : XX} (r : Rel c F H σ ρ xx) : ∀ {vs : List V} {hs : List Hd}, Paired (fun v h => HdAt c F σ h v) vs hs → ∀ {k : List D → Prop}, seeAll ρ hs k → ∃ ds, Paired (Bo c F H) vs ds ∧ k ds
  | _, _, .nil, k, h => ⟨[], .nil, h⟩
  | _, _, .cons h t, k, q => by
    obtain ⟨d, b, q⟩ := see_bo r h q
    obtain ⟨ds, bs, q⟩ := seeAll_bo r t q
    exact ⟨d :: ds, .cons b bs, q⟩
abbrev GC := List D → (D → Prop) → Prop
def SemC (X : Cx) (c : Cn) (f : Value) (g : GC) : Prop := ∃ r : List V → Hp → VK → Prop, CallR X f r ∧ ∀ (F H : Hp) (σ : L2.St) (ρ : Env) (xx : XX) (ds : List D) (vs : List V) (P : D → Prop) (Q : VK), Rel c F H σ ρ xx → Paired (Bo c F H) vs ds → g ds P →
  (∀ z v F' H', P z → Ex F F' → Rel c F' H' σ ρ xx → At c.K F' v z → Q v H') → r vs H Q
def dCB (g : GC) (f : HLM) : DM := fun ρ P => f ρ fun hs ρ1 => seeAll ρ1 hs fun ds => g ds fun z => P z ρ1
theorem dCB_use {f : Value} {g : GC} {fh : HLM} {r : List V → Hp → VK → Prop} (hr : ∀ (F H : Hp) (σ : L2.St) (ρ : Env) (xx : XX) (ds : List D) (vs : List V) (P : D → Prop) (Q : VK), Rel c F H σ ρ xx → Paired (Bo c F H) vs ds → g ds P →
    (∀ z v F' H', P z → Ex F F' → Rel c F' H' σ ρ xx → At c.K F' v z → Q v H') → r vs H Q) : ∀ σ H Q, tD c (dCB g fh) σ H Q → tCB r (tHL c fh) σ H Q := by
  rintro σ H Q ⟨F, ρ, xx, P, rel, q, k⟩
  refine ⟨F, ρ, xx, _, rel, q, fun hs ρ1 vs F1 H1 q1 e1 r1 h1 => ?_⟩
  obtain ⟨ds, bs, q1⟩ := seeAll_bo r1 h1 q1
  exact hr F1 H1 σ ρ1 xx ds vs _ Q r1 bs q1 fun z v F' H' pz ez rz az => k z ρ1 v F' H' pz (e1.trans ez) rz az
variable {x : Str} {p : Pos} {es : List Expr} {fh : HLM} {g : GC}
theorem de_cb {id : String} (hs : SemC X c (.builtin id) g) (hg : Gl X x) (hm : X.mg x = none) (hv : bootBuiltins x = some (.builtin id)) (ha : PA X (e :: es) (tHL c fh)) (hn : x ≠ "__name__" := by decide) (hdb : (x == ("__debug__" : Str)) = false := by decide)
    (he : starEach (e :: es) X.env = (false, eval e X.env) :: starEach es X.env := by rfl) (hpl : (backTo pos (starEach es X.env)).any (·.1) = false := by rfl) : PE X (.Call (.Name x p) (e :: es) [] pos) (tD c (dCB g fh)) := by
  obtain ⟨r, ho, hr⟩ := hs
  exact PE.to (pe_callB ho hg hm hv ha hn hdb he hpl) (dCB_use (f := .none) hr)
theorem de_ct {T : String} (hs : SemC X c (.type T) g) (hg : Gl X x) (hm : X.mg x = none) (hv : bootBuiltins x = some (.type T)) (ha : PA X (e :: es) (tHL c fh)) (hn : x ≠ "__name__" := by decide) (hdb : (x == ("__debug__" : Str)) = false := by decide)
    (he : starEach (e :: es) X.env = (false, eval e X.env) :: starEach es X.env := by rfl) (hpl : (backTo pos (starEach es X.env)).any (·.1) = false := by rfl) : PE X (.Call (.Name x p) (e :: es) [] pos) (tD c (dCB g fh)) := by
  obtain ⟨r, ho, hr⟩ := hs
  exact PE.to (pe_callTy ho hg hm hv ha hn hdb he hpl) (dCB_use (f := .none) hr)
theorem pr1 {R : V → D → Prop} {vs : List V} {d : D} (h : Paired R vs [d]) : ∃ v, vs = [v] ∧ R v d := by
  cases h with
  | cons a t => cases t; exact ⟨_, rfl, a⟩
theorem pr2 {R : V → D → Prop} {vs : List V} {d d' : D} (h : Paired R vs [d, d']) : ∃ v u, vs = [v, u] ∧ R v d ∧ R u d' := by
  cases h with
  | cons a t => cases t with
    | cons b t => cases t; exact ⟨_, _, rfl, a, b⟩
def gLen : GC := fun ds P => match ds with
  | [.list xs] => P (.int xs.length)
  | [.tuple xs] => P (.int xs.length)
  | [.str s] => s.length ≤ 1000000 ∧ P (.int s.length)
  | _ => False
theorem sem_len (hK : X.K = c.K) : SemC X c (.builtin "len") gLen := by
  refine ⟨_, call_len, fun F H σ ρ xx ds vs P Q r bs g k => ?_⟩
  unfold gLen at g
  split at g
  · obtain ⟨v, rfl, b⟩ := pr1 bs
    obtain ⟨a, ys, rfl, s1, t1⟩ := bo_lst r.w.fh b
    exact ⟨_, _, rfl, .inl ⟨ys, by rw [hK]; exact s1, rfl⟩, by rw [t1.length]; exact k _ _ F H g (Ex.refl F) r (.int _)⟩
  · obtain ⟨v, rfl, b⟩ := pr1 bs
    obtain ⟨a, ys, rfl, _, s1, t1⟩ := bo_tup r.w.fh b
    exact ⟨_, _, rfl, .inr ⟨ys, by rw [hK]; exact s1, rfl⟩, by rw [t1.length]; exact k _ _ F H g (Ex.refl F) r (.int _)⟩
  · obtain ⟨v, rfl, b⟩ := pr1 bs
    cases bo_str b
    exact ⟨_, _, rfl, ⟨sz g.1, rfl⟩, k _ _ F H g.2 (Ex.refl F) r (.int _)⟩
  · exact g.elim
def gInt : GC := fun ds P => match ds with
  | [.int i] => P (.int i)
  | [.bool b] => P (.int (if b then 1 else 0))
  | _ => False
theorem sem_int : SemC X c (.type "int") gInt := by
  refine ⟨_, call_int1, fun F H σ ρ xx ds vs P Q r bs g k => ?_⟩
  unfold gInt at g
  split at g
  · obtain ⟨v, rfl, b⟩ := pr1 bs
    cases bo_int b
    exact .inl ⟨_, rfl, k _ _ F H g (Ex.refl F) r (.int _)⟩
  · obtain ⟨v, rfl, b⟩ := pr1 bs
    cases bo_bl b
    exact .inr ⟨_, rfl, k _ _ F H g (Ex.refl F) r (.int _)⟩
  · exact g.elim
/-- a list of numbers, of truths -/
def ofInts : List D → Option (List Int)
  | [] => some []
  | .int i :: ds => (ofInts ds).map (i :: ·)
  | _ :: _ => none
theorem ofInts_eq : ∀ {ds : List D} {ns : List Int}, ofInts ds = some ns → ds = ns.map PyData.int
  | [], ns, h => by cases h; rfl
  | .int i :: ds, ns, h => by
    unfold ofInts at h
    cases e : ofInts ds with
    | none => (rw [e] at h; cases h)
    | some ms =>
      rw [e] at h
      cases h
      rw [ofInts_eq e]
      rfl
  | .none :: _, _, h => nomatch h
  | .bool _ :: _, _, h => nomatch h
  | .str _ :: _, _, h => nomatch h
  | .list _ :: _, _, h => nomatch h
  | .tuple _ :: _, _, h => nomatch h
  | .dict _ :: _, _, h => nomatch h
/-- a built-in over one list of numbers -/
def gIL (k : List Int → (D → Prop) → Prop) : GC := fun ds P => match ds with
  | [.list xs] => ∃ ns, ofInts xs = some ns ∧ k ns P
  | _ => False
theorem gil_use {k0 : List Int → (D → Prop) → Prop} {F H : Hp} {σ : L2.St} {ρ : Env} {xx : XX} {ds : List D} {vs : List V} {P : D → Prop} (r : Rel c F H σ ρ xx) (bs : Paired (Bo c F H) vs ds) (g : gIL k0 ds P) : ∃ a ns, vs = [V.ref a] ∧ SqL c.K H a (ns.map V.int) ∧ k0 ns P := by
  unfold gIL at g
  split at g
  · obtain ⟨v, rfl, b⟩ := pr1 bs
    obtain ⟨ns, hn, g⟩ := g
    obtain ⟨a, ys, rfl, s1, t1⟩ := bo_lst r.w.fh b
    rw [ofInts_eq hn] at t1
    rw [t1.ints] at s1
    exact ⟨a, ns, rfl, s1, g⟩
  · exact g.elim
def gMin : GC := fun ds P => match ds with
  | [.int i, .int j] => P (.int (min i j))
  | ds => gIL (fun ns P => ns ≠ [] ∧ ∀ m, m ∈ ns → (∀ y, y ∈ ns → m ≤ y) → P (.int m)) ds P
theorem sem_min (hK : X.K = c.K) (hc : X.calm = true) : SemC X c (.builtin "min") gMin :=
  ⟨_, CallR.or (call_min2 hc) (cr_min hc), fun F H σ ρ xx ds vs P Q r bs g k => by
    unfold gMin at g
    split at g
    · obtain ⟨v, u, rfl, b1, b2⟩ := pr2 bs
      cases bo_int b1; cases bo_int b2
      rename_i i j
      refine .inl ⟨i, j, rfl, ?_⟩
      have e : (if j < i then j else i) = min i j := by split <;> omega
      rw [e]
      exact k _ _ F H g (Ex.refl F) r (.int _)
    · obtain ⟨a, ns, rfl, s1, hne, g⟩ := gil_use r bs g
      exact .inr ⟨a, ns, rfl, by rw [hK]; exact s1, List.length_pos_iff.mpr hne, fun m h1 h2 => k _ _ F H (g m h1 h2) (Ex.refl F) r (.int _)⟩⟩
def gTuple : GC := fun ds P => match ds with
  | [.list xs] => P (.tuple xs)
  | [.tuple xs] => P (.tuple xs)
  | _ => False
theorem sem_tuple (hK : X.K = c.K) : SemC X c (.type "tuple") gTuple := by
  refine ⟨_, call_tuple_of, fun F H σ ρ xx ds vs P Q r bs g k => ?_⟩
  unfold gTuple at g
  split at g
  · obtain ⟨v, rfl, b⟩ := pr1 bs
    obtain ⟨a, ys, rfl, s1, t1⟩ := bo_lst r.w.fh b
    exact ⟨a, ys, rfl, .inl ⟨by rw [hK]; exact s1, fun q hq => k _ _ _ _ g (r.efF _ hq) (r.newF _ hq) (.tup (.inl (.inl upd_same)) (t1.mono (r.efF _ hq)))⟩⟩
  · obtain ⟨v, rfl, b⟩ := pr1 bs
    obtain ⟨a, ys, rfl, f1, s1, t1⟩ := bo_tup r.w.fh b
    exact ⟨a, ys, rfl, .inr ⟨by rw [hK]; exact s1, k _ _ F H g (Ex.refl F) r (.tup f1 t1)⟩⟩
  · exact g.elim
end
end DL
namespace DL
open PySem L2
structure DE where
  nx : Env → Prop
  rt : D → Env → Prop
  bk : Env → Prop
  ct : Env → Prop
abbrev SM := DE → Env → Prop
def tS (c : Cn) (g : SM) : TS := fun Z σ H => ∃ F ρ xx E, Rel c F H σ ρ xx ∧ g E ρ ∧ (∀ ρ' σ' F' H', E.nx ρ' → Ex F F' → Rel c F' H' σ' ρ' xx → Z.nx σ' H') ∧ (∀ d v ρ' σ' F' H', E.rt d ρ' → Rel c F' H' σ' ρ' xx → At c.K F' v d → Z.rt v H') ∧
  (∀ ρ' σ' F' H', E.bk ρ' → Ex F F' → Rel c F' H' σ' ρ' xx → Z.bk σ' H') ∧ (∀ ρ' σ' F' H', E.ct ρ' → Ex F F' → Rel c F' H' σ' ρ' xx → Z.ct σ' H')
theorem PS.to {X : Cx} {st : Stmt} {t t' : TS} (h : PS X st t) (w : ∀ Z σ H, t' Z σ H → t Z σ H) : PS X st t' := ⟨fun pins s σ H Z I q => h.run pins s σ H Z I (w Z σ H q)⟩
theorem PSs.to {X : Cx} {st : List Stmt} {t t' : TS} (h : PSs X st t) (w : ∀ Z σ H, t' Z σ H → t Z σ H) : PSs X st t' := ⟨fun pins s σ H Z I q => h.run pins s σ H Z I (w Z σ H q)⟩
section
variable {X : Cx} {c : Cn} {st : Stmt} {rest : List Stmt} {e : Expr} {pos : Pos}
def sSeq (g h : SM) : SM := fun E ρ => g { E with nx := h E } ρ
def sNo : SM := fun E ρ => E.nx ρ
theorem ds_cons {g h : SM} (h1 : PS X st (tS c g)) (h2 : PSs X rest (tS c h)) : PSs X (st :: rest) (tS c (sSeq g h)) :=
  PSs.to (pss_cons h1 h2) fun Z σ H ⟨F, ρ, xx, E, rel, q, n, r, b, t⟩ => ⟨F, ρ, xx, _, rel, q, fun ρ' σ' F' H' p e rel' => ⟨F', ρ', xx, E, rel', p, fun ρ2 σ2 F2 H2 p2 e2 => n ρ2 σ2 F2 H2 p2 (e.trans e2), r,
    fun ρ2 σ2 F2 H2 p2 e2 => b ρ2 σ2 F2 H2 p2 (e.trans e2), fun ρ2 σ2 F2 H2 p2 e2 => t ρ2 σ2 F2 H2 p2 (e.trans e2)⟩, r, b, t⟩
theorem ds_one {g : SM} (h1 : PS X st (tS c g)) : PSs X [st] (tS c g) := pss_one h1
theorem ds_nil : PSs X [] (tS c sNo) := PSs.to pss_nil fun Z σ H ⟨F, ρ, xx, E, rel, q, n, r, b, t⟩ => n ρ σ F H q (Ex.refl F) rel
def sNever : SM := fun _ _ => False
theorem ds_never : PSs X rest (tS c sNever) := PSs.to pss_never fun Z σ H ⟨F, ρ, xx, E, rel, q, n, r, b, t⟩ => q.elim
def sRet (f : DM) : SM := fun E ρ => f ρ fun d ρ1 => E.rt d ρ1
theorem dp_ret {f : DM} (h : PE X e (tD c f)) : PS X (.Return (some e) pos) (tS c (sRet f)) :=
  PS.to (ps_ret h) fun Z σ H ⟨F, ρ, xx, E, rel, q, n, r, b, t⟩ => ⟨F, ρ, xx, _, rel, q, fun d ρ' v F' H' p e r' a => r d v ρ' σ F' H' p r' a⟩
def sRetN : SM := fun E ρ => E.rt .none ρ
def sIf (t : BM) (g h : SM) : SM := fun E ρ => t ρ fun b ρ1 => if b = true then g E ρ1 else h E ρ1
theorem dp_if {t : BM} {a b : List Stmt} {g h : SM} (hc : PT X e (tT c t)) (ha : PSs X a (tS c g)) (hb : PSs X b (tS c h)) : PS X (.If e a b pos) (tS c (sIf t g h)) :=
  PS.to (ps_if hc ha hb) fun Z σ H ⟨F, ρ, xx, E, rel, q, n, r, b, t⟩ => ⟨F, ρ, xx, _, rel, q, fun d ρ1 F1 H1 q1 e1 r1 => by
    have go : ∀ {g : SM}, g E ρ1 → tS c g Z σ H1 := fun q => ⟨F1, ρ1, xx, E, r1, q, fun ρ2 σ2 F2 H2 p2 e2 => n ρ2 σ2 F2 H2 p2 (e1.trans e2), r,
      fun ρ2 σ2 F2 H2 p2 e2 => b ρ2 σ2 F2 H2 p2 (e1.trans e2), fun ρ2 σ2 F2 H2 p2 e2 => t ρ2 σ2 F2 H2 p2 (e1.trans e2)⟩
    cases d with
    | true => exact go q1
    | false => exact go q1⟩
def sExpr (f : DM) : SM := fun E ρ => f ρ fun _ ρ1 => E.nx ρ1
theorem dp_expr {f : DM} (h : PE X e (tD c f)) (hs : swapsWith e none pos.line X.env = pure false := by rfl) : PS X (.Expr e pos) (tS c (sExpr f)) :=
  PS.to (ps_expr h hs) fun Z σ H ⟨F, ρ, xx, E, rel, q, n, r, b, t⟩ => ⟨F, ρ, xx, _, rel, q, fun d ρ' v F' H' p e r' a => n ρ' σ F' H' p e r'⟩
abbrev TM := D → Env → (Env → Prop) → Prop
def Only (js : List Nat) (σ σ' : L2.St) : Prop := ∀ vs : List Nat, (∀ j ∈ js, j ∈ vs) → wipe σ' vs = wipe σ vs
def tG (c : Cn) (js : List Nat) (t : TM) : TG := fun v σ H Q => ∃ F ρ xx d P, Rel c F H σ ρ xx ∧ At c.K F v d ∧ t d ρ P ∧ ∀ ρ' σ' F' H', P ρ' → Only js σ σ' → Ex F F' → Rel c F' H' σ' ρ' xx → Q σ' H'
abbrev TMs := List D → Env → (Env → Prop) → Prop
def tGs (c : Cn) (js : List Nat) (t : TMs) : TGs := fun vs σ H Q => ∃ F ρ xx ds P, Rel c F H σ ρ xx ∧ AtAll c.K F vs ds ∧ t ds ρ P ∧ ∀ ρ' σ' F' H', P ρ' → Only js σ σ' → Ex F F' → Rel c F' H' σ' ρ' xx → Q σ' H'
theorem PG.to {tg : Expr} {t t' : TG} (h : PG X tg t) (w : ∀ v σ H Q, t' v σ H Q → t v σ H Q) : PG X tg t' := ⟨fun pins s σ H v u Q I r q => h.run pins s σ H v u Q I r (w v σ H Q q)⟩
theorem PGs.to {ts : List Expr} {t t' : TGs} (h : PGs X ts t) (w : ∀ v σ H Q, t' v σ H Q → t v σ H Q) : PGs X ts t' := ⟨fun pins s σ H v u Q I r q => h.run pins s σ H v u Q I r (w v σ H Q q)⟩
theorem only_set (i : Nat) (σ : L2.St) (v : V) : Only [i] σ (σ.set i (some v)) := fun vs h => by
  have hi : i ∈ vs := h i (List.mem_singleton.mpr rfl)
  clear h
  induction vs with
  | nil => cases hi
  | cons w ws ih =>
    show (wipe (σ.set i (some v)) ws).set w none = (wipe σ ws).set w none
    by_cases hw : i ∈ ws
    · rw [ih hw]
    · have e : w = i := by
        rcases List.mem_cons.mp hi with h | h
        · exact h.symm
        · exact absurd h hw
      subst e
      have z : ∀ ws : List Nat, wipe (σ.set w (some v)) ws = (wipe σ ws).set w (some v) ∨ w ∈ ws := fun ws => by
        induction ws with
        | nil => exact .inl rfl
        | cons y ys ih2 =>
          by_cases h1 : w = y
          · exact .inr (by rw [h1]; exact List.mem_cons_self ..)
          · rcases ih2 with h2 | h2
            · left
              show (wipe (σ.set w (some v)) ys).set y none = ((wipe σ ys).set y none).set w (some v)
              rw [h2, List.set_comm _ _ h1]
            · exact .inr (List.mem_cons_of_mem _ h2)
      rcases z ws with h2 | h2
      · rw [h2, List.set_set]
      · exact absurd h2 hw
theorem Only.trans {js ks : List Nat} {σ σ' σ'' : L2.St} (a : Only js σ σ') (b : Only ks σ' σ'') : Only (js ++ ks) σ σ'' := fun vs h =>
  (b vs fun j hj => h j (List.mem_append_right _ hj)).trans (a vs fun j hj => h j (List.mem_append_left _ hj))
def gN (i : Nat) : TM := fun d ρ P => P (ρ.set i (.im d))
theorem dg_name {i : Nat} {x : Str} (hN : X.N.Nodup) (hi : X.N[i]? = some x) (hx : Loc X.env.scope x) (hf : X.fn x = true ∨ X.env.scope.names.lookup x = some .local := by first | exact .inl rfl | exact .inr rfl | assumption) : PG X (.Name x pos) (tG c [i] (gN i)) :=
  PG.to (pg_name hN hi hx hf) fun v σ H Q ⟨F, ρ, xx, d, P, rel, a, q, k⟩ => k _ _ F H q (only_set i σ v) (Ex.refl F) (rel.putI i a)
def gNoT : TMs := fun ds ρ P => ds = [] ∧ P ρ
def gConsT (t : TM) (u : TMs) : TMs := fun ds ρ P => match ds with
  | d :: ds => t d ρ fun ρ1 => u ds ρ1 P
  | [] => False
theorem dgs_nil : PGs X [] (tGs c [] gNoT) := PGs.to pgs_nil fun v σ H Q ⟨F, ρ, xx, ds, P, rel, a, ⟨e, q⟩, k⟩ => by
  subst e
  cases a
  exact ⟨rfl, k _ _ F H q (fun _ _ => rfl) (Ex.refl F) rel⟩
theorem dgs_cons {tg : Expr} {ts : List Expr} {js ks : List Nat} {t : TM} {u : TMs} (h1 : PG X tg (tG c js t)) (h2 : PGs X ts (tGs c ks u))
    (hs : (assignEach (tg :: ts) X.env).map (·.2) = assign tg X.env :: (assignEach ts X.env).map (·.2) := by rfl) : PGs X (tg :: ts) (tGs c (js ++ ks) (gConsT t u)) :=
  PGs.to (pgs_cons h1 h2 hs) fun v σ H Q ⟨F, ρ, xx, ds, P, rel, a, q, k⟩ => by
    cases a with
    | nil => exact False.elim q
    | cons a1 a2 => exact ⟨_, _, rfl, F, ρ, xx, _, _, rel, a1, q, fun ρ1 σ1 F1 H1 q1 o1 e1 r1 => ⟨F1, ρ1, xx, _, P, r1, a2.mono e1, q1, fun ρ2 σ2 F2 H2 q2 o2 e2 r2 => k ρ2 σ2 F2 H2 q2 (o1.trans o2) (e1.trans e2) r2⟩⟩
def gTupT (n : Nat) (t : TMs) : TM := fun d ρ P => match d with
  | .tuple ds => ds.length = n ∧ t ds ρ P
  | _ => False
theorem dg_tup {es : List Expr} {k : Nat} {js : List Nat} {t : TMs} {n : Nat} (hK : X.K = c.K) (hc : X.calm = true) (h : PGs X es (tGs c js t))
    (hn : (assignEach es X.env).length = n := by rfl) (hst : (assignEach es X.env).findIdx? (·.1) = none := by rfl) : PG X (.Tuple es k pos) (tG c js (gTupT n t)) :=
  PG.to (pg_tup hc h hn hst) fun v σ H Q ⟨F, ρ, xx, d, P, rel, a, q, k⟩ => by
    cases a with
    | tup s1 a1 => exact ⟨_, _, rfl, by rw [hK]; exact rel.w.fh.st s1, by rw [a1.length]; exact q.1, F, ρ, xx, _, P, rel, a1, q.2, k⟩
    | _ => exact False.elim q
def sAsg (f : DM) (t : TM) : SM := fun E ρ => f ρ fun d ρ1 => t d ρ1 E.nx
theorem dp_asg {tg : Expr} {f : DM} {js : List Nat} {t : TM} (he : PE X e (tD c f)) (hg : PG X tg (tG c js t)) (hs : swapsWithSole [tg] e pos.line X.env = pure false := by rfl) (hw : swappedStores [tg] e X.env = pure none := by rfl)
    (h1 : (assignEach [tg] X.env).map (·.2) = [assign tg X.env] := by rfl) : PS X (.Assign [tg] e pos) (tS c (sAsg f t)) :=
  PS.to (ps_asg he hg hs hw h1) fun Z σ H ⟨F, ρ, xx, E, rel, q, n, r, b, t⟩ => ⟨F, ρ, xx, _, rel, q, fun d ρ' v F' H' p e r' a => ⟨F', ρ', xx, d, _, r', a, p, fun ρ2 σ2 F2 H2 p2 _ e2 r2 => n ρ2 σ2 F2 H2 p2 (e.trans e2) r2⟩⟩
def sSet (i : Nat) (f : DM) : SM := fun E ρ => f ρ fun d ρ1 => E.nx (ρ1.set i (.im d))
def sSetN (i : Nat) (f : DM) : SM := fun E ρ => f ρ fun d ρ1 => E.nx (ρ1.set i (.ow d))
theorem set_use {i : Nat} {f : DM} {te : TE} (et : te = tD c f) : ∀ Z σ H, tS c (sSet i f) Z σ H → tAsg te (gName i) Z σ H := by
  subst et
  exact fun Z σ H ⟨F, ρ, xx, E, rel, q, n, r, b, t⟩ => ⟨F, ρ, xx, _, rel, q, fun d ρ' v F' H' p e r' a => n _ _ F' H' p e (r'.putI i a)⟩
theorem setN_use {i : Nat} {f : DM} {te : TE} (et : te = tN c f) : ∀ Z σ H, tS c (sSetN i f) Z σ H → tAsg te (gName i) Z σ H := by
  subst et
  exact fun Z σ H ⟨F, ρ, xx, E, rel, q, n, r, b, t⟩ => ⟨F, ρ, xx, _, rel, q, fun d ρ' v F' H' p e r' a => n _ _ F' H' p e (r'.putO i a)⟩
variable {x : Str} {i : Nat} {pos' : Pos}
theorem dp_set {f : DM} (hN : X.N.Nodup) (hi : X.N[i]? = some x) (hx : Loc X.env.scope x) (he : PE X e (tD c f)) (hs : swapsWith e (some (.Name x pos')) pos.line X.env = pure false := by rfl)
    (hf : X.fn x = true ∨ X.env.scope.names.lookup x = some .local := by first | exact .inl rfl | exact .inr rfl | assumption) : PS X (.Assign [.Name x pos'] e pos) (tS c (sSet i f)) := PS.to (ps_set hN hi hx he hs hf) (set_use rfl)
theorem dp_setN {f : DM} (hN : X.N.Nodup) (hi : X.N[i]? = some x) (hx : Loc X.env.scope x) (he : PE X e (tN c f)) (hs : swapsWith e (some (.Name x pos')) pos.line X.env = pure false := by rfl)
    (hf : X.fn x = true ∨ X.env.scope.names.lookup x = some .local := by first | exact .inl rfl | exact .inr rfl | assumption) : PS X (.Assign [.Name x pos'] e pos) (tS c (sSetN i f)) := PS.to (ps_set hN hi hx he hs hf) (setN_use rfl)
/-- a, b = x, y -/
def sPar (i j : Nat) (f : LM) : SM := fun E ρ => f ρ fun ds ρ1 => match ds with
  | [a, b] => E.nx ((ρ1.set i (.im a)).set j (.im b))
  | _ => False
theorem dp_par {j : Nat} {y : Str} {a b : Expr} {f : LM} {px py pt : Pos} {kt k2 : Nat} {pt2 : Pos} (hc : X.calm = true) (hN : X.N.Nodup) (hi : X.N[i]? = some x) (hj : X.N[j]? = some y) (hij : i ≠ j)
    (hx : X.env.scope.names.lookup x = some .local) (hy : X.env.scope.names.lookup y = some .local) (ha : PA X [a, b] (tL c f))
    (hw : (swappedStores [.Tuple [.Name x px, .Name y py] kt pt] (.Tuple [a, b] k2 pt2) X.env = pure (some [x, y])))
    (hs : swapsWithSole [.Tuple [.Name x px, .Name y py] kt pt] (.Tuple [a, b] k2 pt2) pos.line X.env = pure false
      := by rfl) :
    PS X (.Assign [.Tuple [.Name x px, .Name y py] kt pt] (.Tuple [a, b] k2 pt2) pos) (tS c (sPar i j f)) :=
  PS.to (ps_par hc hN hi hj hij hx hy ha hw hs) fun Z σ H ⟨F, ρ, xx, E, rel, q, n, r, bb, t⟩ => ⟨F, ρ, xx, _, rel, q, fun ds ρ' vs F' H' p e r' a => by
    split at p
    · cases a with
      | cons a1 a2 => cases a2 with
        | cons a2 a3 =>
          cases a3
          exact ⟨_, _, rfl, n _ _ F' H' p e ((r'.putI i a1).putI j a2)⟩
    · exact p.elim⟩
/-- x += e -/
def sAug (i : Nat) (g : G2) (f : HM) : SM := fun E ρ => (match ρ[i]? with
  | some (.im _) => True
  | _ => False) ∧ f ρ fun h ρ1 => match ρ1[i]? with
  | some (.im d) => see ρ1 h fun dy => g d dy fun z => E.nx (ρ1.set i (.im z))
  | _ => False
def ipG (r : R2) : TIp := fun x y H Q => r x y H Q
theorem dp_aug {op : Operator} {g : G2} {f : HM} (hN : X.N.Nodup) (hi : X.N[i]? = some x) (hx : Loc X.env.scope x) (he : PE X e (tH c f)) (hs : Sem2 X c (inplaceOp op) g)
    (hf : X.fn x = true ∨ X.env.scope.names.lookup x = some .local := by first | exact .inl rfl | exact .inr rfl | assumption) : PS X (.AugAssign (.Name x pos') op e pos) (tS c (sAug i g f)) := by
  obtain ⟨r, ho, hr⟩ := hs
  refine PS.to (ps_aug (ti := ipG r) hN hi hx he ho hf) ?_
  rintro Z σ H ⟨F, ρ, xx, E, rel, ⟨q0, q⟩, n, rr, b, t⟩
  split at q0
  · rename_i d e0
    obtain ⟨v, g1, g2⟩ := rel.s.im i d e0
    refine ⟨v, g1, F, ρ, xx, _, rel, q, fun h ρ1 u F1 H1 q1 e1 r1 h1 => ?_⟩
    split at q1
    · rename_i d1 e2
      obtain ⟨v', g1', g2'⟩ := r1.s.im i d1 e2
      rw [g1] at g1'
      cases g1'
      obtain ⟨dy, by_, q1⟩ := see_bo r1 h1 q1
      exact hr F1 H1 σ ρ1 xx d1 dy v u _ _ r1 (.inl g2') by_ q1 fun z w F2 H2 pz ez rz az => n _ _ F2 H2 pz (e1.trans ez) (rz.putI i az)
    · exact q1.elim
  · exact q0.elim
abbrev IM := Env → (List D → Env → Prop) → Prop
def ItOk (c : Cn) (J : It) (ds : List D) (F : Hp) : Prop := ∀ (i : Nat) (F' H : Hp) (σ : L2.St) (ρ : Env) (xx : XX), Ex F F' → Rel c F' H σ ρ xx →
  (∀ d, ds[i]? = some d → J.go i H ∧ ∀ x H', J.yld i H x H' → ∃ F2, Ex F' F2 ∧ Rel c F2 H' σ ρ xx ∧ At c.K F2 x d) ∧ (ds.length = i → J.stop i H)
def tI (c : Cn) (f : IM) : TI := fun σ H R => ∃ F ρ xx P, Rel c F H σ ρ xx ∧ f ρ P ∧ ∀ ds ρ' J F' H', P ds ρ' → Ex F F' → Rel c F' H' σ ρ' xx → ItOk c J ds F' → R J H'
theorem PI.to {tg iter : Expr} {t t' : TI} (h : PI X tg iter t) (w : ∀ σ H Q, t' σ H Q → t σ H Q) : PI X tg iter t' := ⟨fun pins s σ H Q I q => h.run pins s σ H Q I (w σ H Q q)⟩
def forL (t : TM) (body : SM) (E : DE) : List D → Env → Prop
  | [], ρ => E.nx ρ
  | d :: ds, ρ => t d ρ fun ρ1 => body ⟨forL t body E ds, E.rt, E.nx, forL t body E ds⟩ ρ1
def sFor (f : IM) (t : TM) (body : SM) : SM := fun E ρ => f ρ fun ds ρ1 => forL t body E ds ρ1
theorem dp_for {tg iter : Expr} {body : List Stmt} {f : IM} {js : List Nat} {t : TM} {g : SM} (hp : PassesOwn (model X.prog X.w) X.A X.env X.xe) (hc : X.calm = true) (hi : PI X tg iter (tI c f)) (hg : PG X tg (tG c js t)) (hb : PSs X body (tS c g))
    (hs : ∀ x, foldedSetIterable iter X.env x = pure x := by intro _; rfl) : PS X (.For tg iter body [] pos) (tS c (sFor f t g)) := by
  refine PS.to (ps_for hp hc hi hg hb hs) ?_
  rintro Z σ H ⟨F, ρ, xx, E, rel, q, n, r, b, ct⟩
  refine ⟨F, ρ, xx, _, rel, q, fun ds ρ1 J F1 H1 q1 e1 r1 ok => ?_⟩
  refine ⟨fun i m σ' H' => ∃ F' ρ', Ex F1 F' ∧ Rel c F' H' σ' ρ' xx ∧ m = ds.length - i ∧ i ≤ ds.length ∧ forL t g E (ds.drop i) ρ', ⟨ds.length, F1, ρ1, Ex.refl F1, r1, by omega, Nat.zero_le _, by rw [List.drop_zero]; exact q1⟩, ?_⟩
  rintro i m σ' H' ⟨F', ρ', e2, r2, rfl, hi, q2⟩
  obtain ⟨o1, o2⟩ := ok i F' H' σ' ρ' xx e2 r2
  by_cases hlt : i < ds.length
  · have hd : ds[i]? = some ds[i] := List.getElem?_eq_getElem hlt
    obtain ⟨go, yl⟩ := o1 _ hd
    rw [List.drop_eq_getElem_cons hlt] at q2
    have q2 : t ds[i] ρ' fun ρ1 => g ⟨forL t g E (ds.drop (i + 1)), E.rt, E.nx, forL t g E (ds.drop (i + 1))⟩ ρ1 := q2
    refine .inr ⟨go, fun σ2 H2 => ∃ F2 ρ2, Ex F1 F2 ∧ Rel c F2 H2 σ2 ρ2 xx ∧ forL t g E (ds.drop (i + 1)) ρ2, fun σ2 H2 ⟨F2, ρ2, a1, a2, a3⟩ => ⟨ds.length - (i + 1), by omega, F2, ρ2, a1, a2, rfl, by omega, a3⟩, fun v H2 y => ?_⟩
    obtain ⟨F2, e3, r3, a3⟩ := yl v H2 y
    refine ⟨F2, ρ', xx, _, _, r3, a3, q2, fun ρ4 σ4 F4 H4 q4 _ e4 r4 => ?_⟩
    exact ⟨F4, ρ4, xx, _, r4, q4, fun ρ5 σ5 F5 H5 q5 e5 r5 => ⟨F5, ρ5, ((e2.trans e3).trans e4).trans e5, r5, q5⟩, r, fun ρ5 σ5 F5 H5 q5 e5 r5 => n ρ5 σ5 F5 H5 q5 ((((e1.trans e2).trans e3).trans e4).trans e5) r5, fun ρ5 σ5 F5 H5 q5 e5 r5 => ⟨F5, ρ5, ((e2.trans e3).trans e4).trans e5, r5, q5⟩⟩
  · have e : i = ds.length := by omega
    subst e
    rw [List.drop_length] at q2
    exact .inl ⟨o2 rfl, n ρ' σ' F' H' q2 (e1.trans e2) r2⟩
theorem itOk_list {a : Addr} {F : Hp} {ds : List D} {ys : List V} {K : PySem.W.Frag} (hK : K = c.K) (s : SqL c.K F a ys) (t : AtAll c.K F ys ds) : ItOk c (Itl K a) ds F := by
  subst hK
  intro i F' H σ ρ xx e r
  have sq := r.w.fh.sl (e.sl s)
  refine ⟨fun d hd => ?_, fun hl => ⟨ys, sq, by rw [t.length]; exact Nat.le_of_eq hl⟩⟩
  obtain ⟨v, hv, av⟩ := t.get hd
  refine ⟨⟨ys, v, sq, hv⟩, fun x H' ⟨eh, y⟩ => ?_⟩
  subst eh
  have := y ys sq
  rw [hv] at this
  cases this
  exact ⟨F', Ex.refl _, r, av.mono e⟩
theorem itOk_tup {a : Addr} {F : Hp} {ds : List D} {ys : List V} {K : PySem.W.Frag} (hK : K = c.K) (s : SqT c.K F a ys) (t : AtAll c.K F ys ds) : ItOk c (Itt K a) ds F := by
  subst hK
  intro i F' H σ ρ xx e r
  have sq := r.w.fh.st (e.st s)
  refine ⟨fun d hd => ?_, fun hl => ⟨ys, sq, by rw [t.length]; exact Nat.le_of_eq hl⟩⟩
  obtain ⟨v, hv, av⟩ := t.get hd
  refine ⟨⟨ys, v, sq, hv⟩, fun x H' ⟨eh, y⟩ => ?_⟩
  subst eh
  have := y ys sq
  rw [hv] at this
  cases this
  exact ⟨F', Ex.refl _, r, av.mono e⟩
/-- an iterator over a list, a tuple, a text: by what the value is -/
def iAny (K : PySem.W.Frag) (tl : TE) : TI := fun σ H R => tl σ H fun x H1 => (∃ a, x = .ref a ∧ (((∃ xs, SqL K H1 a xs) ∧ R (Itl K a) H1) ∨ ((∃ xs, SqT K H1 a xs) ∧ R (Itt K a) H1))) ∨ ∃ z, x = .str z ∧ R (Its z) H1
theorem pi_any {tg l : Expr} {tl : TE} (hl : PE X l tl) : PI X tg l (iAny X.K tl) := by
  (refine ⟨fun pins s σ H R I h => ?_⟩)
  refine thn (hl.run pins s σ H _ I h) fun v s1 ⟨x, H1, I1, r1, q⟩ => ?_
  have fin : ∀ b, b ∈ [s1.heap.objs.size] → FpOk X pins H1 b := fun b hb => by
    obtain rfl := List.mem_singleton.mp hb
    (exact I1.fpOk (Nat.le_refl _) (I1.hok.fresh (Nat.le_refl _)))
  rcases q with ⟨a, ex, q⟩ | ⟨z, ex, q⟩
  · subst ex
    cases r1
    rcases q with ⟨⟨xs, hs⟩, q⟩ | ⟨⟨xs, hs⟩, q⟩
    · obtain ⟨its, rv, pl, hz⟩ := I1.list hs
      exact wpAny_pyIter_list pl.isList ⟨_, [s1.heap.objs.size], _, _, H1, rfl, I1.kept (t' := s1.toks) fun b o q => Heap.get?_push_of_some _ q, turn_list a _,
        ⟨_, Heap.get?_push_size _ rfl, rfl, rfl⟩, fin, q⟩
    · obtain ⟨its, rv, pl, hz⟩ := I1.tuple hs
      exact wpAny_pyIter_tuple (show s1.heap.IsTuple a its.toArray from pl) ⟨_, [s1.heap.objs.size], _, _, H1, rfl, I1.kept (t' := s1.toks) fun b o q => Heap.get?_push_of_some _ q, turn_tuple a _,
        ⟨_, Heap.get?_push_size _ rfl, rfl, rfl⟩, fin, q⟩
  · subst ex
    obtain ⟨t, rfl⟩ := r1
    cases ha : z.cps.all (· < 128)
    · exact wpAny_pyIter_wide ha (pi_one (tk := s1.toks) I1 _ (turn_str _ z t "str_iterator" (.inr rfl)) ⟨_, Heap.get?_push_size _ rfl, rfl, rfl⟩ q)
    · exact wpAny_pyIter_ascii ha (pi_one (tk := s1.toks) I1 _ (turn_str _ z t "str_ascii_iterator" (.inl rfl)) ⟨_, Heap.get?_push_size _ rfl, rfl, rfl⟩ q)
def signs (z : Str) : List D := z.cps.toList.map fun n => .str ⟨#[n]⟩
theorem itOk_str {z : Str} {F : Hp} : ItOk c (Its z) (signs z) F := by
  intro i F' H σ ρ xx e r
  refine ⟨fun d hd => ?_, fun hl => ?_⟩
  · unfold signs at hd
    rw [List.getElem?_map] at hd
    cases hn : z.cps.toList[i]? with
    | none => rw [hn] at hd; cases hd
    | some n =>
      rw [hn] at hd
      cases hd
      have hi : z.cps[i]? = some n := by simpa using hn
      refine ⟨?_, fun x H' ⟨eh, m, y, ev⟩ => ?_⟩
      · have := (Array.getElem?_eq_some_iff.mp hi).1
        exact this
      · subst eh ev
        rw [hi] at y
        cases y
        exact ⟨F', Ex.refl _, r, .str _⟩
  · unfold signs at hl
    rw [List.length_map, Array.length_toList] at hl
    exact Nat.le_of_eq hl
def iSeq (f : DM) : IM := fun ρ P => f ρ fun d ρ1 => match d with
  | .list ds => P ds ρ1
  | .tuple ds => P ds ρ1
  | .str z => P (signs z) ρ1
  | _ => False
theorem di_seq {tg l : Expr} {f : DM} (hK : X.K = c.K) (hl : PE X l (tD c f)) : PI X tg l (tI c (iSeq f)) := by
  refine PI.to (pi_any hl) ?_
  rintro σ H R ⟨F, ρ, xx, P, rel, q, k⟩
  refine ⟨F, ρ, xx, _, rel, q, fun d ρ1 v F1 H1 q1 e1 r1 a1 => ?_⟩
  split at q1
  · cases a1 with
    | lst s1 t1 => exact .inl ⟨_, rfl, .inl ⟨⟨_, by rw [hK]; exact r1.w.fh.sl s1⟩, k _ ρ1 _ F1 H1 q1 e1 r1 (itOk_list hK s1 t1)⟩⟩
  · cases a1 with
    | tup s1 t1 => exact .inl ⟨_, rfl, .inr ⟨⟨_, by rw [hK]; exact r1.w.fh.st s1⟩, k _ ρ1 _ F1 H1 q1 e1 r1 (itOk_tup hK s1 t1)⟩⟩
  · cases a1
    exact .inr ⟨_, rfl, k _ ρ1 _ F1 H1 q1 e1 r1 itOk_str⟩
  · exact q1.elim
/-- range(n), range(a, b) -/
def rgD (lo hi : Int) : List D := (List.range (hi - lo).toNat).map fun i => .int (lo + (i : Nat))
theorem itOk_range {lo : Int} {n : Nat} {F : Hp} : ItOk c (Itr lo n) ((List.range n).map fun i => .int (lo + (i : Nat))) F := by
  intro i F' H σ ρ xx e r
  refine ⟨fun d hd => ?_, fun hl => show n ≤ i by simp at hl; omega⟩
  rw [List.getElem?_map] at hd
  cases hn : (List.range n)[i]? with
  | none => rw [hn] at hd; cases hd
  | some j =>
    rw [hn] at hd
    cases hd
    obtain ⟨hi, ej⟩ := List.getElem?_eq_some_iff.mp hn
    rw [List.getElem_range] at ej
    subst ej
    refine ⟨show i < n by simpa using hi, fun x H' ⟨eh, y⟩ => ?_⟩
    subst eh y
    exact ⟨F', Ex.refl _, r, .int _⟩
def iRange1 (f : LM) : IM := fun ρ P => f ρ fun ds ρ1 => match ds with
  | [.int n] => (-(2 ^ 62) ≤ n ∧ n < 2 ^ 62) ∧ P (rgD 0 n) ρ1
  | _ => False
theorem di_range1 {tg a : Expr} {f : LM} {p : Pos} (hg : Gl X "range") (hm : X.mg "range" = none) (ha : PA X [a] (tL c f)) (hs : starEach [a] X.env = [(false, eval a X.env)] := by rfl) : PI X tg (.Call (.Name "range" p) [a] [] pos) (tI c (iRange1 f)) := by
  refine PI.to (pi_range1 hg hm ha hs) ?_
  rintro σ H R ⟨F, ρ, xx, P, rel, q, k⟩
  refine ⟨F, ρ, xx, _, rel, q, fun ds ρ1 vs F1 H1 q1 e1 r1 a1 => ?_⟩
  split at q1
  · rename_i n
    cases a1 with
    | cons a b =>
      cases b
      cases a
      have hr : rgD 0 n = (List.range n.toNat).map fun i => PyData.int (0 + (i : Nat)) := by
        unfold rgD
        rw [Int.sub_zero]
      rw [hr] at q1
      exact ⟨n, rfl, q1.1.1, q1.1.2, k _ ρ1 _ F1 H1 q1.2 e1 r1 itOk_range⟩
  · exact q1.elim
/-- while -/
def sWhile (t : BM) (body : SM) : SM := fun E ρ => ∃ W : Nat → Env → Prop, (∃ m, W m ρ) ∧ ∀ m ρ, W m ρ → t ρ fun b ρ1 => if b = true then body ⟨fun ρ' => ∃ m', m' < m ∧ W m' ρ', E.rt, E.nx, fun ρ' => ∃ m', m' < m ∧ W m' ρ'⟩ ρ1 else E.nx ρ1
theorem dp_while {t : BM} {body : List Stmt} {g : SM} (hp : PassesOwn (model X.prog X.w) X.A X.env X.xe) (hc : PT X e (tT c t)) (hb : PSs X body (tS c g)) : PS X (.While e body [] pos) (tS c (sWhile t g)) := by
  refine PS.to (ps_while hp hc hb) ?_
  rintro Z σ H ⟨F, ρ, xx, E, rel, ⟨W, ⟨m0, w0⟩, turn⟩, n, r, b, ct⟩
  refine ⟨fun m σ' H' => ∃ F' ρ', Ex F F' ∧ Rel c F' H' σ' ρ' xx ∧ W m ρ', ⟨m0, F, ρ, Ex.refl F, rel, w0⟩, ?_⟩
  rintro m σ' H' ⟨F', ρ', e1, r1, w1⟩
  refine ⟨F', ρ', xx, _, r1, turn m ρ' w1, fun bb ρ2 F2 H2 q2 e2 r2 => ?_⟩
  cases bb with
  | true =>
    refine ⟨fun σ3 H3 => ∃ F3 ρ3, Ex F F3 ∧ Rel c F3 H3 σ3 ρ3 xx ∧ ∃ m', m' < m ∧ W m' ρ3, fun σ3 H3 ⟨F3, ρ3, a1, a2, m', a3, a4⟩ => ⟨m', a3, F3, ρ3, a1, a2, a4⟩, ?_⟩
    exact ⟨F2, ρ2, xx, _, r2, q2, fun ρ3 σ3 F3 H3 q3 e3 r3 => ⟨F3, ρ3, (e1.trans e2).trans e3, r3, q3⟩, r, fun ρ3 σ3 F3 H3 q3 e3 r3 => n ρ3 σ3 F3 H3 q3 ((e1.trans e2).trans e3) r3, fun ρ3 σ3 F3 H3 q3 e3 r3 => ⟨F3, ρ3, (e1.trans e2).trans e3, r3, q3⟩⟩
  | false => exact n ρ2 σ' F2 H2 q2 (e1.trans e2) r2
end
end DL
namespace DL
open PySem L2
section
open PyProof.Rows
variable {prog : Program} {w : PySem.World} {A : Around} {E : Value → Shared → Prop} {s : Shared}
/-- enumerate(v), where iter(v) begins with the object o -/
theorem enum_one {v : Value} {o : Obj} {Z : Heap → Prop} {Q : Value → Shared → Prop} (B : Begins v o Z) (f : Z s.heap)
    (h : ∀ h2 : Heap, h2.get? s.heap.objs.size = some o → IsEnum h2 (s.heap.objs.size + 1) s.heap.objs.size 0 .none → (∀ b z, s.heap.get? b = some z → h2.get? b = some z) → Q (.ref (s.heap.objs.size + 1)) { s with heap := h2 }) :
    wpAny (model prog w) A (call (.type "enumerate") [v]) Q E s := by
  have new : Meets (Builtin.«enumerate.__new__» ⟨[.type "enumerate", v], []⟩) (fun _ R s1 => Z s1.heap ∧ R (.ok (.ret (.ref (s1.heap.push o).objs.size))) { s1 with heap := (s1.heap.push o).push { cls := .type "enumerate", data := .fields #[.none, .bool false, .ref s1.heap.objs.size, rawInt 0, .none, .none] } }) := by
    refine .of_wp fun prog w A R s1 z => ?_
    have begins : ∀ {A' : Around} {E : Value → Shared → Prop} {Q : Value → Shared → Prop}, Q (.ref s1.heap.objs.size) { s1 with heap := s1.heap.push o } → wpAny (model prog w) A' (pyIter v) Q E s1 := fun q => B.iter prog w _ _ s1 _ z.1 q
    have isa := sub_enumerate
    have fin := z.2
    clear z
    cases s1
    wp_walk using begins
    apply wpAny_stack_any
    intro st
    apply wpAny_pure
    split
    case _ c _ _ _ _ _ =>
      rcases c == Value.type "enumerate" with _ | _ <;> (wp_walk using begins) <;> exact ⟨_, rfl, fin⟩
    case _ =>
      wp_walk using begins
      exact ⟨_, rfl, fin⟩
  have at1 : (s.heap.push o).objs.size = s.heap.objs.size + 1 := Heap.size_push ..
  refine callType_new F.called_enumerate (by decide) (F.typeCall_enumerate_1 v) (F.newCall_enumerate_1 v) (F.args_object_init_2 · v) F.entry_enumerate_new new ?_
  rw [at1]
  have made := Heap.get?_push_size (s.heap.push o) (o := { cls := .type "enumerate", data := .fields #[.none, .bool false, .ref s.heap.objs.size, rawInt 0, .none, .none] }) rfl
  rw [at1] at made
  exact ⟨f, ⟨_, made, rfl⟩, h _ (Heap.get?_push_of_some _ (Heap.get?_push_size _ B.free)) made fun b z q => Heap.get?_push_of_some _ (Heap.get?_push_of_some _ q)⟩
/-- where an enumerate over the tuple a stands: e the enumerate, it the tuple's iterator -/
structure EnT (a e it : Addr) (i : Nat) (h : Heap) : Prop where
  en : ∃ old, IsEnum h e it ((i : Nat) : Int) old
  ti : h.IsTupleIter it a i
  e_it : e ≠ it
  a_it : a ≠ it
  a_e : a ≠ e
theorem EnT.move {a e it : Addr} {i : Nat} {h h' : Heap} (x : EnT a e it i h) (ke : ∀ o, h.get? e = some o → h'.get? e = some o) (ki : ∀ o, h.get? it = some o → h'.get? it = some o) : EnT a e it i h' :=
  ⟨x.en.imp fun _ q => ke _ q, x.ti.at ki, x.e_it, x.a_it, x.a_e⟩
/-- its next item, over the heap alone -/
theorem EnT.step {a e it : Addr} {i : Nat} {its : List Value} {u : Value} {R : Shared → Prop} {elts : List Expr} {kk : Nat} {tpos : Pos} (x : EnT a e it i s.heap) (calm : A.in1.handled = none) (p : s.heap.IsTuple a its.toArray) (hu : its[i]? = some u)
    (h : ∀ (h2 : Heap) (tk : Nat), EnT a e it (i + 1) h2 → h2.get? s.heap.objs.size = some { cls := .type "tuple", data := .seq #[.int i tk, u] } → (∀ b o, b ≠ e → b ≠ it → s.heap.get? b = some o → h2.get? b = some o) → R { s with heap := h2, toks := tk + 1 }) :
    wpAny (model prog w) A (pyNext (.ref e)) (fun r s1 => r = some (.ref s.heap.objs.size) ∧ wpAny (model prog w) A (letOwnedTupleGo (.Tuple elts kk tpos) (.ref e) (.ref s.heap.objs.size)) (fun _ s2 => R s2) E s1) E s := by
  obtain ⟨⟨old, en⟩, ti, n1, n2, n3⟩ := x
  have new : s.heap.objs.size ≠ e := Nat.ne_of_gt (Heap.lt_size en)
  have few : i < its.toArray.size := (List.getElem?_eq_some_iff.mp hu).1
  refine wpAny_pyNext_enum_itemD (Draws.tuple (prog := prog) (w := w) calm it a n2 its.toArray) en ⟨ti, p⟩ few n1 (List.not_mem_cons_of_ne_of_not_mem n1 (List.not_mem_cons_of_ne_of_not_mem (Ne.symm n3) List.not_mem_nil)) ?_
  rintro y h1 tk hy own st1 tup - kept
  have : y = u := Option.some.inj (Eq.trans (by simpa using hy.symm) hu)
  subst this
  refine ⟨rfl, wpAny_letOwnedTupleGo_enum (s := { s with heap := h1, toks := tk + 1 }) own fun h2 en2 sb => h h2 tk ⟨⟨_, by rw [Int.natCast_succ]; exact en2⟩, st1.1.at fun o q => (sb.2 it (Ne.symm n1)).trans q, n1, n2, n3⟩ ((sb.2 _ new).trans tup) ?_⟩
  exact fun b o be bi q => (sb.2 b be).trans (kept b o be bi q)
end
/-- each item of a sequence with its number, in a new pair -/
def numbered (S : Hp → List V → Prop) : It where
  go i H := ∃ xs x, S H xs ∧ xs[i]? = some x
  yld i H v H' := ∃ T x, v = .ref T ∧ H T = none ∧ H' = upd H T (.tup [.int (i : Nat), x]) ∧ ∀ xs, S H xs → xs[i]? = some x
  stop i H := ∃ xs, S H xs ∧ xs.length = i
abbrev IteT (K : PySem.W.Frag) (a : Addr) : It := numbered fun H xs => SqT K H a xs
open PyProof.Rows in
theorem turn_enumT {P : Program} {w : PySem.World} {K : PySem.W.Frag} {elts : List Expr} {kk : Nat} {tpos : Pos} (a e it : Addr) : Turn P w K (.Tuple elts kk tpos) (IteT K a) [e, it] e (EnT a e it) := by
  have two : ∀ {p : Addr → Prop}, p e → p it → ∀ b ∈ [e, it], p b := fun pe pi => List.forall_mem_cons.mpr ⟨pe, List.forall_mem_cons.mpr ⟨pi, fun _ z => nomatch z⟩⟩
  constructor
  · exact List.mem_cons_self
  · rintro i h ⟨⟨old, en⟩, ⟨o, ho, -, hd⟩, -⟩
    exact two ⟨_, en, fun v q => nomatch q⟩ ⟨o, ho, fun v q => by rw [hd] at q; exact nomatch q⟩
  · exact fun i h h' x k => x.move (k e List.mem_cons_self) (k it (List.mem_cons_of_mem _ List.mem_cons_self))
  · rintro X rfl rfl rfl calm i pins s σ H E I away x ⟨xs, y, sq, hy⟩
    obtain ⟨its, rv, p, -⟩ := I.tuple sq
    obtain ⟨u, hu, ru⟩ := rv.get hy
    have le : e < s.heap.objs.size := x.en.elim fun _ q => Heap.lt_size q
    have li : it < s.heap.objs.size := x.ti.elim fun _ q => Heap.lt_size q.1
    refine wpAny_mono (x.step (R := fun s2 => ∃ y' H', Inv X pins σ H' s2 ∧ RelV y' (.ref s.heap.objs.size) ∧ (IteT X.K a).yld i H y' H' ∧ EnT a e it (i + 1) s2.heap ∧ ∀ b ∈ [e, it], H' b = none) (I.ok.hd calm) p hu ?_) (fun r s1 q => ⟨_, q⟩) fun _ _ q => q
    intro h2 tk x2 tup kept
    refine ⟨.ref s.heap.objs.size, upd H s.heap.objs.size (.tup [.int (i : Nat), y]), ?_, rfl, ⟨_, y, rfl, I.hok.fresh (Nat.le_refl _), rfl, fun ys q => by rw [I.tuple_inj q sq]; exact hy⟩, x2, two ?_ ?_⟩
    · refine I.turnedNew (ch := [e, it]) (t' := tk + 1) (fun b ob nb q => kept b ob (fun z => nb (z ▸ List.mem_cons_self)) (fun z => nb (z ▸ List.mem_cons_of_mem _ List.mem_cons_self)) q) away (Nat.le_refl _) ?_
      exact ⟨by show 2 ≤ sizeLine; decide, _, .cons ⟨tk, rfl⟩ (.cons ru .nil), _, tup, rfl, _, rfl⟩
    · exact (upd_ne (Nat.ne_of_lt le)).trans (away e List.mem_cons_self).1
    · exact (upd_ne (Nat.ne_of_lt li)).trans (away it (List.mem_cons_of_mem _ List.mem_cons_self)).1
  · rintro X rfl rfl rfl calm i pins s σ H E I away x ⟨xs, sq, hi⟩
    obtain ⟨its, rv, p, -⟩ := I.tuple sq
    obtain ⟨old, en⟩ := x.en
    have at_end : s.heap.IsTupleIter it a its.toArray.size := by
      have : its.toArray.size = i := by rw [List.size_toArray, ← rv.length, hi]
      rw [this]
      exact x.ti
    obtain ⟨-, f1, f2, f3, f4, f5⟩ := away it (List.mem_cons_of_mem _ List.mem_cons_self)
    have quiet : X.A.in1.handled = none := I.ok.hd calm
    exact wpAny_pyNext_enum_endD (Draws.tuple (prog := X.prog) (w := X.w) quiet it a x.a_it its.toArray) en ⟨at_end, p⟩ fun h2 kept =>
      ⟨rfl, I.turned (t' := s.toks) (fun b o nb q => kept b o nb q) (away it (List.mem_cons_of_mem _ List.mem_cons_self)).1 f1 f3 f4 f5⟩
  · exact fun A i s Q E x q => x.en.elim fun _ en => wpAny_pyIter_enum en q
section
variable {X : Cx} {c : Cn}
/-- enumerate(x), of a list or a tuple -/
def iEnumA (K : PySem.W.Frag) (ta : TA) : TI := fun σ H R => ta σ H fun vs H1 => ∃ a xs, vs = [.ref a] ∧ ((SqL K H1 a xs ∧ R (Ite K a) H1) ∨ (SqT K H1 a xs ∧ R (IteT K a) H1))
open PyProof.Rows in
theorem pi_enumA {e : Expr} {ta : TA} {p pos tpos : Pos} {elts : List Expr} {kk : Nat} (hg : Gl X "enumerate") (hm : X.mg "enumerate" = none) (ha : PA X [e] ta) (hs : starEach [e] X.env = [(false, eval e X.env)] := by rfl) :
    PI X (.Tuple elts kk tpos) (.Call (.Name "enumerate" p) [e] [] pos) (iEnumA X.K ta) := by
  constructor
  intro pins s σ H R I h
  refine Call_ (ld_blt I hg hm boot_enumerate (PyProof.Rows.callWith_type1 (thn (ha.run pos pins s σ H _ I h) ?_) hs rfl))
  rintro us s1 ⟨vs, H1, I1, r1, a, xs, rfl, q⟩
  obtain _ | ⟨r, _ | _⟩ := r1
  cases r
  have new : ∀ b, s1.heap.objs.size ≤ b → FpOk X pins H1 b := fun b le => I1.fpOk le (I1.hok.fresh le)
  have news : ∀ b ∈ [s1.heap.objs.size + 1, s1.heap.objs.size], FpOk X pins H1 b := fun b hb => new b (by
    (simp only [List.mem_cons, List.not_mem_nil, or_false] at hb)
    omega)
  refine q.elim (fun ⟨sq, q⟩ => ?_) fun ⟨sq, q⟩ => ?_
  · obtain ⟨its, -, p1, -⟩ := I1.list sq
    refine enum_one (begins_list a its.toArray) p1.isList fun h2 hi he kept => wpAny_pyIter_enum he ?_
    exact ⟨_, _, _, _, H1, rfl, I1.kept (t' := s1.toks) kept, turn_enum a _ s1.heap.objs.size, ⟨⟨_, he⟩, ⟨_, hi, rfl, rfl⟩, Nat.succ_ne_self _⟩, news, q⟩
  · obtain ⟨its, -, p1, -⟩ := I1.tuple sq
    have lt : a < s1.heap.objs.size := p1.elim fun _ z => Heap.lt_size z.1
    refine enum_one (begins_tuple a its.toArray) p1 fun h2 hi he kept => wpAny_pyIter_enum he ?_
    exact ⟨_, _, _, _, H1, rfl, I1.kept (t' := s1.toks) kept, turn_enumT a _ s1.heap.objs.size, ⟨⟨_, he⟩, ⟨_, hi, rfl, rfl⟩, Nat.succ_ne_self _, Nat.ne_of_lt lt, Nat.ne_of_lt (Nat.lt_succ_of_lt lt)⟩, news, q⟩
def enD (ds : List D) : List D := ds.mapIdx fun i d => .tuple [.int (i : Nat), d]
theorem enD_get {ds : List D} {i : Nat} {d : D} (h : (enD ds)[i]? = some d) : ∃ e, ds[i]? = some e ∧ d = .tuple [.int (i : Nat), e] := by
  unfold enD at h
  rw [List.getElem?_mapIdx] at h
  cases e : ds[i]? with
  | none => (rw [e] at h; cases h)
  | some x => rw [e] at h; cases h; exact ⟨x, rfl, rfl⟩
theorem enD_length (ds : List D) : (enD ds).length = ds.length := by unfold enD; simp
theorem pair_new {F H : Hp} {σ : L2.St} {ρ : Env} {xx : XX} (r : Rel c F H σ ρ xx) {T : Addr} {x y : V} {d e : D} (hT : H T = none) (hx : At c.K F x d) (hy : At c.K F y e) :
    ∃ F2, Ex F F2 ∧ Rel c F2 (upd H T (.tup [x, y])) σ ρ xx ∧ At c.K F2 (.ref T) (.tuple [d, e]) :=
  ⟨_, r.efF _ hT, r.newF _ hT, .tup (.inl (.inl upd_same)) (.cons (hx.mono (r.efF _ hT)) (.cons (hy.mono (r.efF _ hT)) .nil))⟩
theorem itOk_enum {K : PySem.W.Frag} (hK : K = c.K) {a : Addr} {F : Hp} {ds : List D} {ys : List V} (s : SqL c.K F a ys) (t : AtAll c.K F ys ds) : ItOk c (Ite K a) (enD ds) F := by
  subst hK
  intro i F' H σ ρ xx e r
  have sq := r.w.fh.sl (e.sl s)
  refine ⟨fun d hd => ?_, fun hl => ⟨ys, sq, by rw [t.length, ← enD_length]; exact Nat.le_of_eq hl⟩⟩
  obtain ⟨d0, h0, ed⟩ := enD_get hd
  subst ed
  obtain ⟨v, hv, av⟩ := t.get h0
  refine ⟨⟨ys, v, sq, hv⟩, fun x H' ⟨T, y, ex, hT, eh, hy⟩ => ?_⟩
  subst ex eh
  have := hy ys sq
  rw [hv] at this
  cases this
  exact pair_new r hT (.int _) (av.mono e)
theorem itOk_enumT {K : PySem.W.Frag} (hK : K = c.K) {a : Addr} {F : Hp} {ds : List D} {ys : List V} (s : SqT c.K F a ys) (t : AtAll c.K F ys ds) : ItOk c (IteT K a) (enD ds) F := by
  subst hK
  intro i F' H σ ρ xx e r
  have sq := r.w.fh.st (e.st s)
  refine ⟨fun d hd => ?_, fun hl => ⟨ys, sq, by rw [t.length, ← enD_length]; exact hl⟩⟩
  obtain ⟨d0, h0, ed⟩ := enD_get hd
  subst ed
  obtain ⟨v, hv, av⟩ := t.get h0
  refine ⟨⟨ys, v, sq, hv⟩, fun x H' ⟨T, y, ex, hT, eh, hy⟩ => ?_⟩
  subst ex eh
  have := hy ys sq
  rw [hv] at this
  cases this
  exact pair_new r hT (.int _) (av.mono e)
def iEn (f : LM) : IM := fun ρ P => f ρ fun ds ρ1 => match ds with
  | [.list xs] => P (enD xs) ρ1
  | [.tuple xs] => P (enD xs) ρ1
  | _ => False
theorem di_enum {e : Expr} {f : LM} {p pos tpos : Pos} {elts : List Expr} {kk : Nat} (hK : X.K = c.K) (hg : Gl X "enumerate") (hm : X.mg "enumerate" = none) (ha : PA X [e] (tL c f)) (hs : starEach [e] X.env = [(false, eval e X.env)] := by rfl) :
    PI X (.Tuple elts kk tpos) (.Call (.Name "enumerate" p) [e] [] pos) (tI c (iEn f)) := by
  refine PI.to (pi_enumA hg hm ha hs) ?_
  rintro σ H R ⟨F, ρ, xx, P, rel, q, k⟩
  refine ⟨F, ρ, xx, _, rel, q, fun ds ρ1 vs F1 H1 q1 e1 r1 a1 => ?_⟩
  split at q1
  · cases a1 with
    | cons a t =>
      cases t
      cases a with
      | lst s1 t1 => exact ⟨_, _, rfl, .inl ⟨by rw [hK]; exact r1.w.fh.sl s1, k _ ρ1 _ F1 H1 q1 e1 r1 (itOk_enum hK s1 t1)⟩⟩
  · cases a1 with
    | cons a t =>
      cases t
      cases a with
      | tup s1 t1 => exact ⟨_, _, rfl, .inr ⟨by rw [hK]; exact r1.w.fh.st s1, k _ ρ1 _ F1 H1 q1 e1 r1 (itOk_enumT hK s1 t1)⟩⟩
  · exact q1.elim
end
end DL
namespace DL
open PySem L2
section
variable {c : Cn}
def wipeE (ρ : Env) : List Nat → Env
  | [] => ρ
  | v :: vs => (wipeE ρ vs).set v .no
def backE (ρ0 : Env) (ρ : Env) : List Nat → Env
  | [] => ρ
  | v :: vs => backE ρ0 (ρ.set v (ρ0.getD v .no)) vs
def plainS : Sl → Bool
  | .no => true
  | .im _ => true
  | _ => false
def okV (ρ : Env) (vs : List Nat) : Prop := vs.Nodup ∧ ∀ j ∈ vs, plainS (ρ.getD j .no) = true
theorem Slots.forget {F H : Hp} {σ : L2.St} {ρ : Env} {xx : XX} (s : Slots c F H σ ρ xx) (i : Nat) : Slots c F H (σ.set i none) (ρ.set i .no) xx := by
  have sg : ∀ {j : Nat}, i ≠ j → (σ.set i none)[j]? = σ[j]? := fun h => by rw [List.getElem?_set, if_neg h]
  refine ⟨by simpa using s.len, fun j d q => ?_, fun j d q => ?_, fun j k d e b q1 q2 s1 s2 => ?_, fun j n q => ?_, ou_set (by intro m z; cases z) s.ou, fun p hp => ⟨(s.ex p hp).1, fun j d q => ?_⟩, s.xd⟩
  · rcases set_lt q with ⟨_, _, e⟩ | ⟨z, q⟩
    · cases e
    · rw [sg z]
      exact s.im j d q
  · rcases set_lt q with ⟨_, _, e⟩ | ⟨z, q⟩
    · cases e
    · rw [sg z]
      exact s.ow j d q
  · rcases set_lt q1 with ⟨_, _, e⟩ | ⟨z, q1⟩
    · cases e
    · rcases set_lt q2 with ⟨_, _, e⟩ | ⟨z2, q2⟩
      · cases e
      · rw [sg z] at s1
        rw [sg z2] at s2
        exact s.dj j k d _ b q1 q2 s1 s2
  · rcases set_lt q with ⟨_, _, e⟩ | ⟨z, q⟩
    · cases e
    · rw [sg z]
      exact s.or j n q
  · rcases set_lt q with ⟨_, _, e⟩ | ⟨z, q⟩
    · cases e
    · rw [sg z]
      exact (s.ex p hp).2 j d q
theorem Rel.wipe {F H : Hp} {σ : L2.St} {ρ : Env} {xx : XX} (r : Rel c F H σ ρ xx) : ∀ vs : List Nat, Rel c F H (wipe σ vs) (wipeE ρ vs) xx
  | [] => r
  | v :: vs => ⟨r.w, (Rel.wipe r vs).s.forget v⟩
/-- a plain slot comes back -/
theorem Slots.recall {F H : Hp} {σ : L2.St} {ρ : Env} {xx : XX} {i : Nat} {x : Sl} (s : Slots c F H (σ.set i none) ρ xx) (hp : plainS x = true) (hx : ∀ d, x = .im d → ∃ v, σ[i]? = some (some v) ∧ At c.K F v d) : Slots c F H σ (ρ.set i x) xx := by
  have sg : ∀ {j : Nat}, i ≠ j → (σ.set i none)[j]? = σ[j]? := fun h => by rw [List.getElem?_set, if_neg h]
  refine ⟨by simpa using s.len, fun j d q => ?_, fun j d q => ?_, fun j k d e b q1 q2 s1 s2 => ?_, fun j n q => ?_, ou_set (by intro m z; subst z; cases hp) s.ou, fun p hpx => ⟨(s.ex p hpx).1, fun j d q => ?_⟩, s.xd⟩
  · rcases set_lt q with ⟨z, _, e⟩ | ⟨z, q⟩
    · rw [← z]
      exact hx d e
    · rw [← sg z]
      exact s.im j d q
  · rcases set_lt q with ⟨_, _, e⟩ | ⟨z, q⟩
    · subst e
      cases hp
    · rw [← sg z]
      exact s.ow j d q
  · rcases set_lt q1 with ⟨_, _, e⟩ | ⟨z, q1⟩
    · subst e
      cases hp
    · rcases set_lt q2 with ⟨_, _, e⟩ | ⟨z2, q2⟩
      · subst e
        cases hp
      · rw [← sg z] at s1
        rw [← sg z2] at s2
        exact s.dj j k d _ b q1 q2 s1 s2
  · rcases set_lt q with ⟨_, _, e⟩ | ⟨z, q⟩
    · subst e
      cases hp
    · rw [← sg z]
      exact s.or j n q
  · rcases set_lt q with ⟨_, _, e⟩ | ⟨z, q⟩
    · subst e
      cases hp
    · rw [← sg z]
      exact (s.ex p hpx).2 j d q
theorem wipe_get {σ : L2.St} {i : Nat} : ∀ {vs : List Nat}, i ∉ vs → (wipe σ vs)[i]? = σ[i]?
  | [], _ => rfl
  | v :: vs, h => by
    show ((wipe σ vs).set v none)[i]? = σ[i]?
    rw [List.getElem?_set, if_neg (fun z => h (by rw [z]; exact List.mem_cons_self ..)), wipe_get (fun z => h (List.mem_cons_of_mem _ z))]
theorem Rel.back {F H F' H' : Hp} {σ : L2.St} {ρ0 : Env} {xx yy : XX} (r0 : Rel c F H σ ρ0 yy) (e : Ex F F') : ∀ (vs : List Nat) (ρ : Env), okV ρ0 vs → Rel c F' H' (L2.wipe σ vs) ρ xx → Rel c F' H' σ (backE ρ0 ρ vs) xx
  | [], ρ, _, r => r
  | v :: vs, ρ, ok, r => by
    obtain ⟨nd, pl⟩ := ok
    rw [List.nodup_cons] at nd
    have hv := pl v (List.mem_cons_self ..)
    refine Rel.back r0 e vs _ ⟨nd.2, fun j hj => pl j (List.mem_cons_of_mem _ hj)⟩ ⟨r.w, Slots.recall (σ := L2.wipe σ vs) r.s hv fun d ed => ?_⟩
    have g : ρ0[v]? = some (.im d) := by
      rw [List.getD_eq_getElem?_getD] at ed
      cases q : ρ0[v]? with
      | none => rw [q] at ed; cases ed
      | some x => rw [q] at ed; exact congrArg some ed
    obtain ⟨u, h1, h2⟩ := r0.s.im v d g
    exact ⟨u, by rw [wipe_get nd.1]; exact h1, h2.mono e⟩
def lcL (t : TM) (b : BM) (f : DM) (vs : List Nat) (K : List D → Env → Prop) : List D → List D → Env → Prop
  | [], acc, ρ => K acc ρ
  | d :: ds, acc, ρ => t d ρ fun ρ1 => b ρ1 fun k ρ2 => if k = true then f ρ2 fun y ρ3 => lcL t b f vs K ds (acc ++ [y]) (wipeE ρ3 vs) else lcL t b f vs K ds acc (wipeE ρ2 vs)
def dLc (i : IM) (t : TM) (b : BM) (f : DM) (vs : List Nat) : DM := fun ρ P => i ρ fun ds ρ1 => ds.length ≤ 1000000 ∧ okV ρ1 vs ∧ lcL t b f vs (fun acc ρ' => P (.list acc) (backE ρ1 ρ' vs)) ds [] (wipeE ρ1 vs)
theorem lc_use {i : IM} {t : TM} {b : BM} {f : DM} {vs js : List Nat} (hj : ∀ j ∈ js, j ∈ vs) {wi : TI} {g : TG} {tt : TT} {te : TE} (e1 : wi = tI c i) (e2 : g = tG c js t) (e3 : tt = tT c b) (e4 : te = tD c f) :
    ∀ σ H Q, tN c (dLc i t b f vs) σ H Q → tLc wi g tt te vs σ H Q := by
  subst e1 e2 e3 e4
  rintro σ H Q ⟨F, ρ, xx, P, rel, q, k⟩
  refine ⟨F, ρ, xx, _, rel, q, fun ds ρ1 J F1 H1 ⟨hlen, hok, q1⟩ e1 r1 ok A hA => ?_⟩
  obtain ⟨rA, frA⟩ := Fresh.new (o := .lst []) (d := .d (.list [])) r1 hA ⟨[], upd_same, .nil⟩
  refine ⟨fun n m H' => ∃ F' ρ' acc, Ex F1 F' ∧ Rel c F' H' (wipe σ vs) ρ' ((A, .d (.list acc)) :: xx) ∧ m = ds.length - n ∧ n ≤ ds.length ∧ acc.length ≤ n ∧ lcL t b f vs (fun acc ρ' => P (.list acc) (backE ρ1 ρ' vs)) (ds.drop n) acc ρ',
    ⟨ds.length, F1, _, [], Ex.refl F1, (rA.pushX frA).wipe vs, by omega, Nat.zero_le _, Nat.zero_le _, by rw [List.drop_zero]; exact q1⟩, ?_⟩
  rintro n m H' ⟨F', ρ', acc, e2, r2, rfl, hn, ha, q2⟩
  obtain ⟨o1, o2⟩ := ok n F' H' (wipe σ vs) ρ' _ e2 r2
  by_cases hlt : n < ds.length
  · have hd : ds[n]? = some ds[n] := List.getElem?_eq_getElem hlt
    obtain ⟨go, yl⟩ := o1 _ hd
    rw [List.drop_eq_getElem_cons hlt] at q2
    have q2 : t ds[n] ρ' fun ρ2 => b ρ2 fun k ρ3 => if k = true then f ρ3 fun y ρ4 => lcL t b f vs (fun acc ρ' => P (.list acc) (backE ρ1 ρ' vs)) (ds.drop (n + 1)) (acc ++ [y]) (wipeE ρ4 vs) else lcL t b f vs (fun acc ρ' => P (.list acc) (backE ρ1 ρ' vs)) (ds.drop (n + 1)) acc (wipeE ρ3 vs) := q2
    refine .inr ⟨go, fun H2 => ∃ F2 ρ2 acc2, Ex F1 F2 ∧ Rel c F2 H2 (wipe σ vs) ρ2 ((A, .d (.list acc2)) :: xx) ∧ acc2.length ≤ n + 1 ∧ lcL t b f vs (fun acc ρ' => P (.list acc) (backE ρ1 ρ' vs)) (ds.drop (n + 1)) acc2 ρ2,
      fun H2 ⟨F2, ρ2, acc2, a1, a2, a3, a4⟩ => ⟨ds.length - (n + 1), by omega, F2, ρ2, acc2, a1, a2, rfl, by omega, a3, a4⟩, fun v H2 y => ?_⟩
    obtain ⟨F2, e3, r3, a3⟩ := yl v H2 y
    refine ⟨F2, ρ', _, _, _, r3, a3, q2, fun ρ4 σ4 F4 H4 q4 on e4 r4 => ⟨?_, F4, ρ4, _, _, r4, q4, fun bb ρ5 F5 H5 q5 e5 r5 => ?_⟩⟩
    · have h := on vs hj
      rw [h]
      -- wiping twice
      have w2 : ∀ (us : List Nat) (σ : L2.St) (i : Nat), i ∈ us → (wipe σ us).set i none = wipe σ us := fun us => by
        induction us with
        | nil => intro σ i hi; cases hi
        | cons u us ih =>
          intro σ i hi
          show ((wipe σ us).set u none).set i none = (wipe σ us).set u none
          by_cases e : u = i
          · subst e
            rw [List.set_set]
          · rw [List.set_comm _ _ e, ih σ i ((List.mem_cons.mp hi).resolve_left fun z => e z.symm)]
      have w3 : ∀ (us ws : List Nat) (σ : L2.St), (∀ i ∈ us, i ∈ ws) → wipe (wipe σ ws) us = wipe σ ws := fun us => by
        induction us with
        | nil => intro ws σ _; rfl
        | cons u us ih =>
          intro ws σ hs
          show (wipe (wipe σ ws) us).set u none = wipe σ ws
          rw [ih ws σ fun i hi => hs i (List.mem_cons_of_mem _ hi)]
          exact w2 ws σ u (hs u (List.mem_cons_self ..))
      exact w3 vs vs σ fun _ h => h
    · have hw : wipe σ4 vs = wipe σ vs := by
        have h := on vs hj
        rw [h]
        have w2 : ∀ (us : List Nat) (σ : L2.St) (i : Nat), i ∈ us → (wipe σ us).set i none = wipe σ us := fun us => by
          induction us with
          | nil => intro σ i hi; cases hi
          | cons u us ih =>
            intro σ i hi
            show ((wipe σ us).set u none).set i none = (wipe σ us).set u none
            by_cases e : u = i
            · subst e
              rw [List.set_set]
            · rw [List.set_comm _ _ e, ih σ i ((List.mem_cons.mp hi).resolve_left fun z => e z.symm)]
        have w3 : ∀ (us ws : List Nat) (σ : L2.St), (∀ i ∈ us, i ∈ ws) → wipe (wipe σ ws) us = wipe σ ws := fun us => by
          induction us with
          | nil => intro ws σ _; rfl
          | cons u us ih =>
            intro ws σ hs
            show (wipe (wipe σ ws) us).set u none = wipe σ ws
            rw [ih ws σ fun i hi => hs i (List.mem_cons_of_mem _ hi)]
            exact w2 ws σ u (hs u (List.mem_cons_self ..))
        exact w3 vs vs σ fun _ h => h
      cases bb with
      | false =>
        rw [if_neg Bool.false_ne_true] at q5
        show ∃ F' ρ' acc2, _
        refine ⟨F5, wipeE ρ5 vs, acc, ((e2.trans e3).trans e4).trans e5, ?_, by omega, q5⟩
        have := r5.wipe vs
        rw [hw] at this
        exact this
      | true =>
        rw [if_pos rfl] at q5
        show tD c f σ4 H5 _
        refine ⟨F5, ρ5, _, _, r5, q5, fun y ρ6 u F6 H6 q6 e6 r6 a6 => ?_⟩
        obtain ⟨vv, g1, g2⟩ := (r6.s.ex (A, .d (.list acc)) (List.mem_cons_self ..)).1.o
        have r7 := r6.mutX (o := .lst (vv ++ [u])) (d' := .d (.list (acc ++ [y]))) ⟨_, upd_same, g2.append (.cons a6 .nil)⟩
        refine ⟨vv, g1, szl (by rw [g2.length]; omega), F6, wipeE ρ6 vs, acc ++ [y], (((e2.trans e3).trans e4).trans e5).trans e6, ?_, by rw [List.length_append]; simp only [List.length_singleton]; omega, q6⟩
        have := r7.wipe vs
        rw [hw] at this
        exact this
  · have en : n = ds.length := by omega
    subst en
    rw [List.drop_length] at q2
    have q2 : P (.list acc) (backE ρ1 ρ' vs) := q2
    obtain ⟨r5, fr⟩ := (Rel.back r1 e2 vs ρ' hok r2).popX
    exact .inl ⟨o2 rfl, k _ _ A F' H' q2 (e1.trans e2) r5 fr⟩
def bYes : BM := fun ρ P => P true ρ
theorem dts_nil {X : Cx} : PTs X [] (tT c bYes) := ⟨fun pins s σ H Q I ⟨F, ρ, xx, P, rel, q, k⟩ => pts_nil.run pins s σ H Q I (k true ρ F H q (Ex.refl F) rel)⟩
variable {X : Cx} {elt tg iter : Expr} {ifs : List Expr} {scope : Scope} {own : List (Str × Nat)} {pos : Pos} {i : IM} {t : TM} {js : List Nat} {b : BM} {f : DM}
theorem dn_lc (hc : X.calm = true) (hN : X.N.Nodup) (hi : PI X tg iter (tI c i)) (ok : BlkOk X.N X.env.scope scope own) (hj : ∀ j ∈ js, j ∈ own.map (·.2))
    (hg : ∀ (s : Shared) (H : Hp) (C : Addr) (cl : List (Str × Addr)) (fp : List Addr), PG (X.blk s H scope (compEnvC scope cl C X.env) fp) tg (tG c js t)) (ht : ∀ (s : Shared) (H : Hp) (C : Addr) (cl : List (Str × Addr)) (fp : List Addr), PTs (X.blk s H scope (compEnvC scope cl C X.env) fp) ifs (tT c b))
    (he : ∀ (s : Shared) (H : Hp) (C : Addr) (cl : List (Str × Addr)) (fp : List Addr), PE (X.blk s H scope (compEnvC scope cl C X.env) fp) elt (tD c f)) (hs : ∀ x, foldedSetIterable iter X.env x = pure x := by intro _; rfl) :
    PE X (.ListComp elt [⟨tg, iter, ifs, 0⟩] scope pos) (tN c (dLc i t b f (own.map (·.2)))) := PE.to (pe_lc hc hN hi ok hg ht he hs) (lc_use hj rfl rfl rfl rfl)
end
end DL
namespace DL
open PySem L2
structure FnG (pr : Program) (wd : PySem.World) (K : PySem.W.Frag) (gl : Str → Option Value) (bas : Heap) (k : Nat) (f : Addr) (fd : FuncData) (ps : List Str) (sp : Sp) : Prop where
  many : ∀ vs H Q E, sp vs H Q E → vs.length = ps.length
  go : ∀ (A : Around) (out : List PySem.Env) (sh : Shared) (H : Hp) (ar : Args) (us : List Value) (vs : List V) (Q : VK) (E : XK), A.guards = some [] → Room k A →
    Env0 pr wd K gl bas A out sh H → BindsTo sh fd ar (ps.zip us) → Vals vs us → sp vs H Q E → codeAny (model pr wd) A (.call (.ref f) ar) (CR CX0 out pr wd H sh Q E) sh
theorem FnG.more {pr : Program} {wd : PySem.World} {K : PySem.W.Frag} {gl : Str → Option Value} {bas : Heap} {j k : Nat} {f : Addr} {fd : FuncData} {ps : List Str} {sp : Sp} (F : FnG pr wd K gl bas j f fd ps sp) (h : j ≤ k) : FnG pr wd K gl bas k f fd ps sp :=
  ⟨F.many, fun A out sh H ar us vs Q E g r => F.go A out sh H ar us vs Q E g (r.mono h)⟩
theorem FnG.of {pr : Program} {wd : PySem.World} {K : PySem.W.Frag} {gl : Str → Option Value} {bas : Heap} {k : Nat} {f : Addr} {x qual : Str} {st : Stmt} {fd : FuncData} {N ps : List Str} {sp : Sp} (F : L2.Fun K x qual st f fd) (S : FnScope N ps (defScope st))
    (len : (∀ vs H Q E, sp vs H Q E → vs.length = ps.length))
    (body : ∀ (cdv : Value) (A : Around) (out : List PySem.Env) (sh : Shared) (H : Hp) (vs : List V) (Q : VK) (E : XK), A.guards = some [] → Room k (A.deeper (PyProof.Rows.envOfC qual (defScope st) sh.heap.objs.size f cdv)) → sp vs H Q E →
      ∃ t, PSs (cxOf CX0 pr wd K gl bas N qual (defScope st) f cdv A out sh H E).nox (defBody st) t ∧ t { nx := fun _ H' => Q .non H', rt := Q } (start N vs) H) : FnG pr wd K gl bas (k + 1) f fd ps sp := by
  obtain ⟨oc, od, kV, doc, pm, an, cdv, ct, osl, efd, lk, hc⟩ := F.ex
  refine ⟨len, fun A out sh H ar us vs Q E hg room env bnd vals says => ?_⟩
  have heapK : K.In sh.heap := PySem.W.Frag.In.keeps env.mod.kin fun b o e => (env.bs b o e).1
  have noLim : sh.heap.NoLimit := Heap.NoLimit.keeps env.mod.nolimit fun b o e => (env.bs b o e).1
  have kinds : ∀ y ∈ ps.zip us, (defScope st).names.lookup y.1 = some .local ∨ ((defScope st).names.lookup y.1 = some .cell ∧ ((cellsFrom (sh.heap.objs.size + 1) (defScope st).names []).lookup y.1).isSome = true) := by
    rintro ⟨n, v⟩ hy
    exact (S.par n (List.of_mem_zip hy).1).imp id fun q => ⟨q, PySem.W.cellsFrom_some _ _ _ (.inl q)⟩
  rw [efd] at lk bnd
  refine codeAny_call_function room.depth (heapK _ _ lk) rfl S.co S.gen rfl (PySem.W.codeRec_of heapK hc) (bnd _ _ _ _ (wpAny_newFunctionEnv_cells S.kind kinds ?_))
  intro env1 he s1 xc
  subst he
  refine ⟨noLim.keeps xc.toInCall.keep, codeAny_func ?_⟩
  obtain ⟨t, ht, hq⟩ := body cdv A out sh H vs Q E hg (room.deeper _) says
  have inv : Inv (cxOf CX0 pr wd K gl bas N qual (defScope st) f cdv A out sh H E) [] (start N vs) H s1 := inv_start S room.hd env (len _ _ _ _ says) vals xc
  refine wpAny_mono (ht.nox.run [] s1 (start N vs) H _ inv hq) ?_ fun _ _ z => z
  intro fl s2 hs
  cases fl with
  | ret u =>
    (obtain ⟨v, σ', H', J, rv, q⟩ := hs)
    exact ⟨v, H', J.os, J.bare, J.base, J.hok, rv, q⟩
  | next =>
    obtain ⟨σ', H', J, q⟩ := hs
    exact ⟨V.non, H', J.os, J.bare, J.base, J.hok, rfl, q⟩
  | brk => exact (hs.choose_spec.choose_spec.2 : False).elim
  | cont => exact (hs.choose_spec.choose_spec.2 : False).elim
section
variable {X : Cx} {k : Nat} {f : Addr} {fd : FuncData} {ps : List Str} {sp : Sp} {x : Str} {p pos : Pos} {e : Expr} {es : List Expr} {t : TA}
theorem pe_callG (F : FnG X.prog X.w X.K X.mg X.base k f fd ps sp) (hg : X.A.guards = some []) (hr : Room k X.A) (gx : Gl X x) (hm : X.mg x = some (.ref f)) (hk : PySem.W.keepIn X.K (.ref f) = true) (hb : Binds X.K fd ps [])
    (ha : PA X (e :: es) t) (hdb : (x == ("__debug__" : Str)) = false := by decide)
    (he : starEach (e :: es) X.env = (false, eval e X.env) :: starEach es X.env := by rfl)
    (hpl : (backTo pos (starEach es X.env)).any (·.1) = false := by rfl) :
    PE X (.Call (.Name x p) (e :: es) [] pos) (tCall sp [] (fun _ _ _ => False) t) := by
  constructor
  intro pins s σ H Q I h
  refine wpAny_Call_Name_kw (ld_glob I gx hm (PySem.W.callWith_K (h₀ := X.base) I.ok.mod.kin hk (thn (ha.run pos pins s σ H _ I h) ?_) he hpl) hdb)
  rintro us s1 ⟨vs, H1, I1, r, q⟩
  refine ⟨I1.kIn, ?_⟩
  rw [List.append_nil] at q
  have hl : us.length = ps.length := by rw [← r.length]; exact F.many _ _ _ _ q
  have bd := hb s1 us I1.kIn (by rw [List.append_nil]; exact hl)
  rw [List.append_nil] at bd
  refine wpAny_call (codeAny_mono (F.go X.A X.stack s1 H1 ⟨us, []⟩ us vs Q _ hg hr I1.env0 bd r q) ?_)
  intro res s' hq
  match res, hq with
  | .error _, z => exact (z : False).elim
  | .ok (.ret u), z => exact I1.after z
end
/-- what a def says of its arguments and of the count of the source: S as m P: from these some d comes back, the count being m' then, with P d m' -/
abbrev SpD := List Ar → Nat → (D → Nat → Prop) → Prop
/-- the source is passed as the first argument, if at all -/
def oraAt (as : List Ar) : Prop := ∀ i, as[i]? = some Ar.ora → i = 0
def spD (K : PySem.W.Frag) (R : Orc) (n : Nat) (S : SpD) : Sp := fun vs H Q _ => ∃ (q : Option Addr) (F : Hp) (as : List Ar) (m : Nat) (P : D → Nat → Prop), World R q F H F H ∧ Paired (ArAt ⟨K, R, q, F, H⟩ F) vs as ∧ as.length = n ∧ oraAt as ∧ (q = none ∨ as[0]? = some .ora) ∧ (∀ p, q = some p → R.cnt p H ≤ m) ∧ S as m P ∧
  ∀ d m' v F' H', P d m' → World R q F H F' H' → (∀ p, q = some p → R.cnt p H' ≤ m') → At K F' v d → Q v H'
theorem paired_len {α β : Type} {R : α → β → Prop} : ∀ {xs : List α} {ys : List β}, Paired R xs ys → xs.length = ys.length
  | _, _, .nil => rfl
  | _, _, .cons _ t => congrArg Nat.succ (paired_len t)
theorem paired_get {α β : Type} {R : α → β → Prop} : ∀ {xs : List α} {ys : List β} {i : Nat} {y : β}, Paired R xs ys → ys[i]? = some y → ∃ x, xs[i]? = some x ∧ R x y
  | _, _, 0, _, .cons h _, e => by cases e; exact ⟨_, rfl, h⟩
  | _, _, i + 1, _, .cons _ t, e => paired_get (i := i) t e
/-- a call that draws nothing -/
def isD : Ar → Bool
  | .d _ => true
  | .ora => false
def dCall (n : Nat) (S : SpD) (f : AM) : DM := fun ρ P => f ρ fun as ρ1 => as.length = n ∧ as.all isD = true ∧ S as 0 fun d _ => P d ρ1
/-- a call that draws, the source standing in slot i -/
def dCallO (i n : Nat) (S : SpD) (f : AM) : DM := fun ρ P => f ρ fun as ρ1 => as.length = n ∧ as.head?.map isD = some false ∧ as.tail.all isD = true ∧ match ρ1[i]? with
  | some (.ora m) => S as m fun d m' => P d (ρ1.set i (.ora m'))
  | _ => False
theorem all_isD {as : List Ar} (h : as.all isD = true) (i : Nat) : as[i]? ≠ some .ora := fun e => by
  have := List.all_eq_true.mp h _ (List.mem_of_getElem? e)
  cases this
section
variable {X : Cx} {c : Cn} {k : Nat} {f : Addr} {fd : FuncData} {ps : List Str} {S : SpD} {x : Str} {p pos : Pos} {e : Expr} {es : List Expr} {fa : AM} {n : Nat}
theorem de_call (hK : X.K = c.K) (F : FnG X.prog X.w X.K X.mg X.base k f fd ps (spD X.K c.R n S)) (hg : X.A.guards = some []) (hr : Room k X.A) (gx : Gl X x) (hm : X.mg x = some (.ref f)) (hk : PySem.W.keepIn X.K (.ref f) = true) (hb : Binds X.K fd ps [])
    (ha : PA X (e :: es) (tAr c fa)) (hdb : (x == ("__debug__" : Str)) = false := by decide) (he : starEach (e :: es) X.env = (false, eval e X.env) :: starEach es X.env := by rfl) (hpl : (backTo pos (starEach es X.env)).any (·.1) = false := by rfl) :
    PE X (.Call (.Name x p) (e :: es) [] pos) (tD c (dCall n S fa)) := by
  refine PE.to (pe_callG F hg hr gx hm hk hb ha hdb he hpl) ?_
  rintro σ H Q ⟨F0, ρ, xx, P, rel, q, k0⟩
  refine ⟨F0, ρ, xx, _, rel, q, ?_⟩
  rintro as ρ1 vs F1 H1 ⟨hl, hd, hs⟩ e1 r1 pr
  rw [List.append_nil]
  have w0 : World c.R none F1 H1 F1 H1 := World.start r1.w.fh (fun _ _ z => z) fun _ z => nomatch z
  have pr' : Paired (ArAt ⟨X.K, c.R, none, F1, H1⟩ F1) vs as := by
    clear hs hl
    induction pr with
    | nil => exact .nil
    | @cons v a vs' as' h1 h2 ih =>
      (simp only [List.all_cons, Bool.and_eq_true] at hd)
      cases a with
      | d y =>
        refine .cons ?_ (ih hd.2)
        show At X.K F1 v y
        rw [hK]
        exact h1
      | ora => cases hd.1
  refine ⟨none, F1, as, 0, _, w0, pr', hl, fun i z => absurd z (all_isD hd i), .inl rfl, (fun _ z => nomatch z), hs, ?_⟩
  intro d m' v F2 H2 pd wd _ at_
  rw [hK] at at_
  exact k0 d ρ1 v F2 H2 pd (e1.trans wd.ff) (r1.stepN wd) at_
theorem de_callO {i : Nat} (hK : X.K = c.K) (F : FnG X.prog X.w X.K X.mg X.base k f fd ps (spD X.K c.R n S)) (hg : X.A.guards = some []) (hr : Room k X.A) (gx : Gl X x) (hm : X.mg x = some (.ref f)) (hk : PySem.W.keepIn X.K (.ref f) = true) (hb : Binds X.K fd ps [])
    (ha : PA X (e :: es) (tAr c fa)) (hdb : (x == ("__debug__" : Str)) = false := by decide) (he : starEach (e :: es) X.env = (false, eval e X.env) :: starEach es X.env := by rfl) (hpl : (backTo pos (starEach es X.env)).any (·.1) = false := by rfl) :
    PE X (.Call (.Name x p) (e :: es) [] pos) (tD c (dCallO i n S fa)) := by
  refine PE.to (pe_callG F hg hr gx hm hk hb ha hdb he hpl) ?_
  rintro σ H Q ⟨F0, ρ, xx, P, rel, q, k0⟩
  refine ⟨F0, ρ, xx, _, rel, q, ?_⟩
  rintro as ρ1 vs F1 H1 ⟨hl, hh, hd, hs⟩ e1 r1 pr
  rw [List.append_nil]
  split at hs
  · rename_i m em
    obtain ⟨u, h1, h2, h3⟩ := r1.s.or i m em
    have h0 : as[0]? = some Ar.ora := by
      cases as with
      | nil => cases hh
      | cons a t =>
        cases a with
        | d y => cases hh
        | ora => rfl
    refine ⟨c.p, F1, as, m, _, r1.w.here, ?_, hl, fun j z => ?_, .inr h0, fun y z => ?_, hs, ?_⟩
    · rw [hK]
      exact pr
    · cases j with
      | zero => rfl
      | succ j =>
        cases as with
        | nil => cases z
        | cons a t => exact absurd z (all_isD hd j)
    · rw [h1] at z
      cases z
      exact h3
    · intro d m' v F2 H2 pd wd hc at_
      rw [hK] at at_
      exact k0 d _ v F2 H2 pd (e1.trans wd.ff) (r1.drew wd em hc) at_
  · exact hs.elim
end
def arSl (m : Nat) : Ar → Sl
  | .d x => .im x
  | .ora => .ora m
def startE (N : Nat) (as : List Ar) (m : Nat) : Env := as.map (arSl m) ++ List.replicate (N - as.length) .no
theorem rel_start {K : PySem.W.Frag} {R : Orc} {q : Option Addr} {F H : Hp} {vs : List V} {as : List Ar} {N : List Str} {m : Nat} (w : World R q F H F H) (h : Paired (ArAt ⟨K, R, q, F, H⟩ F) vs as) (ho : oraAt as) (hm : ∀ p, q = some p → R.cnt p H ≤ m) : Rel ⟨K, R, q, F, H⟩ F H (start N vs) (startE N.length as m) [] := by
  have hl := paired_len h
  have get : ∀ (i : Nat) (s : Sl), (startE N.length as m)[i]? = some s → s = .no ∨ ∃ a v, as[i]? = some a ∧ vs[i]? = some v ∧ s = arSl m a ∧ (start N vs)[i]? = some (some v) := by
    intro i s e
    unfold startE at e
    unfold L2.start
    by_cases hi : i < as.length
    · rw [List.getElem?_append_left (by simpa using hi), List.getElem?_map] at e
      rw [List.getElem?_append_left (by simpa [hl] using hi), List.getElem?_map]
      have e1 : as[i]? = some as[i] := List.getElem?_eq_getElem hi
      have e2 : vs[i]? = some (vs[i]'(by rw [hl]; exact hi)) := List.getElem?_eq_getElem _
      rw [e1] at e
      cases e
      exact .inr ⟨_, _, e1, e2, rfl, by rw [e2]; rfl⟩
    · rw [List.getElem?_append_right (by simpa using hi), List.getElem?_replicate] at e
      split at e
      · cases e
        exact .inl rfl
      · cases e
  have atOf : ∀ {i : Nat} {a : Ar} {v : V}, as[i]? = some a → vs[i]? = some v → ArAt ⟨K, R, q, F, H⟩ F v a := by
    intro i a v h1 h2
    obtain ⟨v', g1, g2⟩ := paired_get h h1
    rw [h2] at g1
    cases g1
    exact g2
  refine ⟨w, ?_, ?_, ?_, ?_, ?_, ?_, (fun p hp => nomatch hp), List.nodup_nil⟩
  · unfold startE L2.start
    simp [hl]
  · intro i d e
    rcases get i _ e with z | ⟨a, v, g1, g2, g3, g4⟩
    · cases z
    · cases a with
      | d x => cases g3; exact ⟨v, g4, atOf g1 g2⟩
      | ora => cases g3
  · intro i d e
    rcases get i _ e with z | ⟨a, v, g1, g2, g3, g4⟩
    · cases z
    · cases a <;> cases g3
  · intro i j d e b z
    rcases get i _ z with z | ⟨a, v, g1, g2, g3, g4⟩
    · cases z
    · cases a <;> cases g3
  · intro i n e
    rcases get i _ e with z | ⟨a, v, g1, g2, g3, g4⟩
    · cases z
    · cases a with
      | d x => cases g3
      | ora =>
        obtain ⟨q', e1, e2⟩ := atOf g1 g2
        cases g3
        cases e2
        exact ⟨q', e1, g4, hm q' e1⟩
  · have one : ∀ {i n : Nat}, (startE N.length as m)[i]? = some (.ora n) → i = 0 := by
      intro i n e
      rcases get i _ e with z | ⟨a, v, g1, g2, g3, g4⟩
      · cases z
      · cases a with
        | d x => cases g3
        | ora => exact ho i g1
    intro i j a b e1 e2
    exact (one e1).trans (one e2).symm
/-- what a body says, as a promise -/
def raw (g : SM) (N : Nat) : SpD := fun as m P =>
  g ⟨fun (ρ : DL.Env) => match ρ[0]? with
    | some (Sl.ora m') => P .none m'
    | _ => as.head?.map isD ≠ some false ∧ P .none 0,
  fun (d : D) (ρ : DL.Env) => match ρ[0]? with
    | some (Sl.ora m') => P d m'
    | _ => as.head?.map isD ≠ some false ∧ P d 0, fun _ => False, fun _ => False⟩ (startE N as m)
/-- a def by its body in data -/
theorem FnG.data {pr : Program} {wd : PySem.World} {K : PySem.W.Frag} {gl : Str → Option Value} {bas : Heap} {k n : Nat} {f : Addr} {x qual : Str} {st : Stmt} {fd : FuncData} {N ps : List Str} {R : Orc} {g : SM} (F : L2.Fun K x qual st f fd) (Sc : FnScope N ps (defScope st)) (hn : n = ps.length)
    (body : ∀ (cdv : Value) (A : Around) (out : List PySem.Env) (sh : Shared) (H : Hp) (E : XK) (q : Option Addr) (F : Hp), A.guards = some [] → Room k (A.deeper (PyProof.Rows.envOfC qual (defScope st) sh.heap.objs.size f cdv)) →
      PSs (cxOf CX0 pr wd K gl bas N qual (defScope st) f cdv A out sh H E).nox (defBody st) (tS ⟨K, R, q, F, H⟩ g)) : FnG pr wd K gl bas (k + 1) f fd ps (spD K R n (raw g N.length)) := by
  refine FnG.of F Sc (fun vs H Q E ⟨q, F0, as, m, P, w, pa, hl, _⟩ => by rw [paired_len pa, hl, hn]) fun cdv A out sh H vs Q E hg hr ⟨q, F0, as, m, P, w, pa, hl, ho, hq, hm, says, k0⟩ => ?_
  have fin : ∀ (d : D) (v : V) (ρ' : DL.Env) (σ' : L2.St) (F' H' : Hp), (match ρ'[0]? with
      | some (Sl.ora m') => P d m'
      | _ => as.head?.map isD ≠ some false ∧ P d 0) → Rel ⟨K, R, q, F0, H⟩ F' H' σ' ρ' [] → At K F' v d → Q v H' := by
    intro d v ρ' σ' F' H' p r a
    split at p
    · rename_i m' e
      obtain ⟨y, h1, _, h3⟩ := r.s.or 0 m' e
      exact k0 d m' v F' H' p r.w (fun z hz => by
        have hz' : q = some z := hz
        have h1' : q = some y := h1
        rw [hz'] at h1'
        cases h1'
        exact h3) a
    · obtain ⟨p1, p2⟩ := p
      have qn : q = none := hq.resolve_right fun z => p1 (by
        cases as with
        | nil => cases z
        | cons b t => cases z; rfl)
      exact k0 d 0 v F' H' p2 r.w (fun z hz => by rw [qn] at hz; cases hz) a
  refine ⟨_, body cdv A out sh H E q F0 hg hr, F0, _, [], _, rel_start w pa ho hm, says, ?_, ?_, ?_, ?_⟩
  · exact fun ρ' σ' F' H' p e r => fin .none .non ρ' σ' F' H' p r .non
  · exact fun d v ρ' σ' F' H' p r a => fin d v ρ' σ' F' H' p r a
  · exact fun ρ' σ' F' H' p => p.elim
  · exact fun ρ' σ' F' H' p => p.elim
theorem pss_some {X : Cx} {st : List Stmt} {ι : Type} {t : ι → TS} (h : ∀ i, PSs X st (t i)) : PSs X st (fun Z σ H => ∃ i, t i Z σ H) := ⟨fun pins s σ H Z I ⟨i, q⟩ => (h i).run pins s σ H Z I q⟩
end DL
namespace DL
open PySem L2
/-- a def under its name -/
def Cd (pr : Program) (wd : PySem.World) (K : PySem.W.Frag) (gl : Str → Option Value) (bas : Heap) (R : Orc) (k : Nat) (x : Str) (n : Nat) (S : SpD) : Prop :=
  ∃ (f : Addr) (fd : FuncData) (ps : List Str), FnG pr wd K gl bas k f fd ps (spD K R n S) ∧ gl x = some (.ref f) ∧ PySem.W.keepIn K (.ref f) = true ∧ Binds K fd ps []
theorem Cd.more {pr : Program} {wd : PySem.World} {K : PySem.W.Frag} {gl : Str → Option Value} {bas : Heap} {R : Orc} {j k : Nat} {x : Str} {n : Nat} {S : SpD} (C : Cd pr wd K gl bas R j x n S) (h : j ≤ k) : Cd pr wd K gl bas R k x n S := by
  obtain ⟨f, fd, ps, F, a, b, d⟩ := C
  exact ⟨f, fd, ps, F.more h, a, b, d⟩
theorem de_cd {X : Cx} {c : Cn} {k n : Nat} {S : SpD} {x : Str} {p pos : Pos} {e : Expr} {es : List Expr} {fa : AM} (C : Cd X.prog X.w X.K X.mg X.base c.R k x n S) (hK : X.K = c.K) (hg : X.A.guards = some []) (hr : Room k X.A) (gx : Gl X x)
    (ha : PA X (e :: es) (tAr c fa)) (hdb : (x == ("__debug__" : Str)) = false := by decide) (he : starEach (e :: es) X.env = (false, eval e X.env) :: starEach es X.env := by rfl) (hpl : (backTo pos (starEach es X.env)).any (·.1) = false := by rfl) :
    PE X (.Call (.Name x p) (e :: es) [] pos) (tD c (dCall n S fa)) := by
  obtain ⟨f, fd, ps, F, a, b, d⟩ := C
  exact de_call hK F hg hr gx a b d ha hdb he hpl
theorem hu64 {A : Around} {k : Nat} (hr : Room k A) : A.units + 64 < cLine := by have := hr.un; omega
theorem hu65 {A : Around} {k : Nat} (hr : Room k A) : A.units + 65 < cLine := by have := hr.un; omega
theorem de_cdO {X : Cx} {c : Cn} {k n i : Nat} {S : SpD} {x : Str} {p pos : Pos} {e : Expr} {es : List Expr} {fa : AM} (C : Cd X.prog X.w X.K X.mg X.base c.R k x n S) (hK : X.K = c.K) (hg : X.A.guards = some []) (hr : Room k X.A) (gx : Gl X x)
    (ha : PA X (e :: es) (tAr c fa)) (hdb : (x == ("__debug__" : Str)) = false := by decide) (he : starEach (e :: es) X.env = (false, eval e X.env) :: starEach es X.env := by rfl) (hpl : (backTo pos (starEach es X.env)).any (·.1) = false := by rfl) :
    PE X (.Call (.Name x p) (e :: es) [] pos) (tD c (dCallO i n S fa)) := by
  obtain ⟨f, fd, ps, F, a, b, d⟩ := C
  exact de_callO hK F hg hr gx a b d ha hdb he hpl
end DL
namespace DL
open PySem L2
section
variable {X : Cx} {c : Cn} {e a b : Expr} {pos : Pos}
def tyN : D → String
  | .none => "NoneType"
  | .bool _ => "bool"
  | .int _ => "int"
  | .str _ => "str"
  | .list _ => "list"
  | .tuple _ => "tuple"
  | .dict _ => "dict"
theorem tyx_of {F H : Hp} {v : V} {d : D} (e : Ex F H) (b : Bo c F H v d) : TyX c.K H v (.type (tyN d)) := by
  have a := b.at e
  have sq : ∀ {p : Addr} {o : HO} {T : String}, Rd H p o → (H p = some o → TyX c.K H (.ref p) (.type T)) → (∀ q, H p = some (.frz q o) → TyX c.K H (.ref p) (.type T)) → TyX c.K H (.ref p) (.type T) :=
    fun h k1 k2 => h.elim k1 fun ⟨q, z⟩ => k2 q z
  clear b
  cases a with
  | non => exact .base .non
  | bl b => exact .base (.bl b)
  | int i => exact .base (.int i)
  | str x => exact .base (.str x)
  | lst s t =>
    rcases s with h | ⟨o, its, n, h1, h2, _⟩
    · exact sq h (fun z => .base (.lst z)) fun q z => .base (.frz z)
    · exact .kList h1 h2
  | tup s t =>
    rcases s with h | ⟨o, its, n, h1, h2, _⟩
    · exact sq h (fun z => .base (.tup z)) fun q z => .fTuple z
    · exact .kTuple h1 h2
  | dk r n l t => exact sq r (fun z => .base (.dK z)) fun q z => .fDict z
  | dt r l t => exact .base (.dT r)
def dIsi (T : String) (f : HM) : DM := fun ρ P => f ρ fun h ρ1 => see ρ1 h fun d => ∃ k, kitB (tyN d) T = some k ∧ P (.bool k) ρ1
theorem de_isi {T : String} {y : Str} {p p2 : Pos} {f : HM} (hK : X.K = c.K) (hg : Gl X "isinstance") (hm : X.mg "isinstance" = none) (hy : Gl X y) (hmy : X.mg y = none) (hv : bootBuiltins y = some (.type T)) (ha : PE X e (tH c f))
    (hb : bootBuiltins "isinstance" = some (.builtin "isinstance") := by decide +kernel) (hn : y ≠ "__name__" := by decide) (hd : (y == ("__debug__" : Str)) = false := by decide)
    (s1 : starEach [e, .Name y p2] X.env = (false, eval e X.env) :: starEach [.Name y p2] X.env := by rfl) (s2 : starEach [.Name y p2] X.env = (false, eval (.Name y p2) X.env) :: starEach [] X.env := by rfl) (hpl : (backTo pos (starEach [.Name y p2] X.env)).any (·.1) = false := by rfl) :
    PE X (.Call (.Name "isinstance" p) [e, .Name y p2] [] pos) (tD c (dIsi T f)) := by
  refine PE.to (pe_callB call_isi hg hm hb (pa_cons ha (pa_cons (pe_bltn (v := .ty T) hy hmy hv rfl hn hd) pa_nil s2) s1) (by decide) (by decide) s1 hpl) ?_
  rintro σ H Q ⟨F, ρ, xx, P, rel, q, k⟩
  refine ⟨F, ρ, xx, _, rel, q, fun h ρ1 v F1 H1 q1 e1 r1 h1 => ?_⟩
  obtain ⟨d, bo, b, hk, q2⟩ := see_bo r1 h1 q1
  have ty := tyx_of r1.w.fh bo
  rw [← hK] at ty
  exact ⟨v, .ty T, _, _, b, rfl, .ty T, ty, kit_ty hk, k _ ρ1 _ F1 H1 q2 e1 r1 (.bl b)⟩
def gIn : G2 := fun x y P => match y with
  | .list ds => okD x ∧ okD y ∧ P (.bool (ds.any fun z => PyData.eqv z x))
  | _ => False
theorem sem_in (hK : X.K = c.K) (hu : X.A.units + 65 < cLine) : Sem2 X c (compareOp .In) gIn := by
  refine ⟨_, op_inD hu, fun F H σ ρ xx x y vx vy P Q r bx by_ g k => ?_⟩
  unfold gIn at g
  split at g
  · rename_i ds
    obtain ⟨ox, oy, q⟩ := g
    have a1 := (bx.at r.w.fh).dp ox.nod
    have a2 := (by_.at r.w.fh).dp oy.nod
    rw [← hK] at a1 a2
    exact ⟨x, ds, a1, a2, ox, oy, k _ _ F H q (Ex.refl F) r (.bl _)⟩
  · exact g.elim
def dNeg (f : DM) : DM := fun ρ P => f ρ fun d ρ1 => match d with
  | .int i => P (.int (-i)) ρ1
  | _ => False
theorem de_neg {f : DM} (ha : PE X a (tD c f)) : PE X (.UnaryOp .USub a pos) (tD c (dNeg f)) := PE.to (pe_un un_neg ha) fun σ H Q ⟨F, ρ, xx, P, rel, q, k⟩ => ⟨F, ρ, xx, _, rel, q, fun d ρ1 v F1 H1 q1 e1 r1 a1 => by
  split at q1
  · cases a1
    exact ⟨_, rfl, k _ ρ1 _ F1 H1 q1 e1 r1 (.int _)⟩
  · exact q1.elim⟩
def gRepr : GC := fun ds P => match ds with
  | [d] => nod d = true ∧ d.showable = true ∧ d.depth ≤ 60 ∧ d.shown.length ≤ 1000000 ∧ P (.str d.shown)
  | _ => False
def gReprS : GC := fun ds P => match ds with
  | [.list xs] => gRepr [.list xs] P
  | [.tuple xs] => gRepr [.tuple xs] P
  | _ => False
theorem ref_of_bo {F H : Hp} {v : V} {d : D} (b : Bo c F H v d) : (∃ a, v = .ref a) ∨ (d = .none ∧ v = .non) ∨ (∃ i, d = .int i ∧ v = .int i) ∨ (∃ i, d = .bool i ∧ v = .bl i) ∨ (∃ i, d = .str i ∧ v = .str i) := by
  rcases b with b | ⟨a, rfl, _⟩
  · cases b with
    | non => exact .inr (.inl ⟨rfl, rfl⟩)
    | bl b => exact .inr (.inr (.inr (.inl ⟨_, rfl, rfl⟩)))
    | int i => exact .inr (.inr (.inl ⟨_, rfl, rfl⟩))
    | str x => exact .inr (.inr (.inr (.inr ⟨_, rfl, rfl⟩)))
    | lst s t => exact .inl ⟨_, rfl⟩
    | tup s t => exact .inl ⟨_, rfl⟩
    | dk r n l t => exact .inl ⟨_, rfl⟩
    | dt r l t => exact .inl ⟨_, rfl⟩
  · exact .inl ⟨a, rfl⟩
def rRp (K : PySem.W.Frag) : List V → Hp → VK → Prop := fun vs H Q => ∃ a d, vs = [.ref a] ∧ Dp K H (.ref a) d ∧ nod d = true ∧ d.showable = true ∧ d.depth ≤ 60 ∧ d.shown.length ≤ 1000000 ∧ Q (.str d.shown) H
end
mutual
theorem nod_dict : ∀ d : D, nod d = true → d.hasDict = false
  | .none, _ => by simp [PyData.hasDict]
  | .bool _, _ => by simp [PyData.hasDict]
  | .int _, _ => by simp [PyData.hasDict]
  | .str _, _ => by simp [PyData.hasDict]
  | .list xs, h => by
    simp only [PyData.hasDict]
    exact nod_dictAll xs (by simpa [nod] using h)
  | .tuple xs, h => by
    simp only [PyData.hasDict]
    exact nod_dictAll xs (by simpa [nod] using h)
  | .dict _, h => by simp [nod] at h
theorem nod_dictAll : ∀ ds : List D, nodAll ds = true → PyData.hasDictAll ds = false
  | [], _ => by simp [PyData.hasDictAll]
  | x :: xs, h => by
    simp only [nodAll, Bool.and_eq_true] at h
    simp only [PyData.hasDictAll, Bool.or_eq_false_iff]
    exact ⟨nod_dict x h.1, nod_dictAll xs h.2⟩
end
section
variable {X : Cx} {c : Cn} {e a b : Expr} {pos : Pos}
theorem call_rp (hg : X.A.guards = some []) (hu : X.A.units + 64 < cLine) : CallR X (.builtin "repr") (rRp X.K) := by
  (intro pins s σ H xs us Q I r h)
  obtain ⟨a, d, rfl, hd, h1, h2, h3, h4, q⟩ := h
  obtain ⟨u, rfl, rv⟩ := vals1 r
  cases rv
  obtain ⟨as, rd⟩ := Dp.reads I d _ _ hd rfl
  refine repr_of_reads' rd h2 (PyData.noDict_hsm (nod_dict _ h1)) hg (by omega) (fun _ _ e => e) (fun h' u tk hk => ⟨.str d.shown, H, I.kept hk, ⟨u, rfl⟩, q⟩) (sz h4)
theorem sem_repr (hK : X.K = c.K) (hg : X.A.guards = some []) (hu : X.A.units + 64 < cLine) : SemC X c (.builtin "repr") gReprS := by
  refine ⟨_, call_rp hg hu, fun F H σ ρ xx ds vs P Q r bs g k => ?_⟩
  have key : ∀ d, ds = [d] → (∀ v, Bo c F H v d → ∃ a, v = .ref a) → gRepr [d] P → rRp X.K vs H Q := fun d hds hv gd => by
    subst hds
    obtain ⟨v, rfl, b⟩ := pr1 bs
    obtain ⟨a, rfl⟩ := hv v b
    obtain ⟨g1, g2, g3, g4, g5⟩ := gd
    have a1 := (b.at r.w.fh).dp g1
    rw [← hK] at a1
    exact ⟨a, d, rfl, a1, g1, g2, g3, g4, k _ _ F H g5 (Ex.refl F) r (.str _)⟩
  unfold gReprS at g
  split at g
  · rename_i xs
    refine key _ rfl (fun v b => ?_) g
    rcases ref_of_bo b with z | ⟨z, _⟩ | ⟨_, z, _⟩ | ⟨_, z, _⟩ | ⟨_, z, _⟩
    · exact z
    all_goals cases z
  · rename_i xs
    refine key _ rfl (fun v b => ?_) g
    rcases ref_of_bo b with z | ⟨z, _⟩ | ⟨_, z, _⟩ | ⟨_, z, _⟩ | ⟨_, z, _⟩
    · exact z
    all_goals cases z
  · exact g.elim
end
end DL
namespace DL
open PySem L2
section
variable {X : Cx} {c : Cn} {e a b : Expr} {pos : Pos}
def ownL (ρ : Env) (i : Nat) (k : List D → Prop) : Prop := match ρ[i]? with
  | some (.ow (.list ds)) => k ds
  | _ => False
theorem ownL_get {F H : Hp} {σ : L2.St} {ρ : Env} {xx : XX} (r : Rel c F H σ ρ xx) {i : Nat} {k : List D → Prop} (h : ownL ρ i k) : ∃ ds p vs, ρ[i]? = some (.ow (.list ds)) ∧ σ[i]? = some (some (.ref p)) ∧ H p = some (.lst vs) ∧ AtAll c.K F vs ds ∧ k ds := by
  unfold ownL at h
  split at h
  · rename_i ds e
    obtain ⟨p, g1, g2⟩ := r.s.ow i _ e
    obtain ⟨vs, h1, h2⟩ := g2.o
    exact ⟨ds, p, vs, e, g1, h1, h2, h⟩
  · exact h.elim
def sApp (i : Nat) (f : DM) : SM := fun E ρ => ownL ρ i (fun _ => True) ∧ f ρ fun d ρ1 => ownL ρ1 i fun ds => ds.length < 1000000 ∧ E.nx (ρ1.set i (.ow (.list (ds ++ [d]))))
theorem app_use {i : Nat} {f : DM} {te : TE} (et : te = tD c f) (hK : X.K = c.K) : ∀ Z σ H, tS c (sApp i f) Z σ H → tDrop (tBM X.K "list" rAppend (tVar i) (tCons te tNil)) Z σ H := by
  subst et
  rintro Z σ H ⟨F, ρ, xx, E, rel, ⟨q0, q⟩, n, rr, b, t⟩
  obtain ⟨ds0, p0, vs0, g1, g2, g3, g4, _⟩ := ownL_get rel q0
  refine ⟨.ref p0, g2, .inl ⟨rfl, vs0, SqL.of g3⟩, F, ρ, xx, _, rel, q, fun d ρ1 v F1 H1 q1 e1 r1 a1 => ?_⟩
  obtain ⟨ds, p, vs, h1, h2, h3, h4, hl, hn⟩ := ownL_get r1 q1
  have ep : p0 = p := by
    rw [g2] at h2
    cases h2
    rfl
  subst ep
  refine ⟨p0, vs, v, rfl, rfl, h3, szl (by rw [h4.length]; omega), ?_⟩
  exact n _ σ F1 _ hn e1 (r1.mut h1 h2 ⟨_, upd_same, h4.append (.cons a1 .nil)⟩)
theorem dp_app {x : Str} {i : Nat} {px apos cpos : Pos} {f : DM} (hK : X.K = c.K) (ho : PE X (.Name x px) (tVar i)) (ha : PE X e (tD c f))
    (hbase : attributeBase (.Name x px) "append" X.env (eval (.Name x px) X.env) = eval (.Name x px) X.env := by rfl)
    (hfew : ((backTo cpos (starEach [e] X.env)).all (fun x => !x.1)
        && (backToKw cpos (keywordEach [] X.env)).all (fun x => x.1.isSome)
      && decide (([e] : List Expr).length + ([] : List Keyword).length
          + (if ([] : List Keyword).isEmpty then 0 else 1) < 30)) = true := by rfl)
    (hline : (apos.endLine == cpos.line) = true := by rfl) (hs : starEach [e] X.env = (false, eval e X.env) :: starEach [] X.env := by rfl) (hplain : (backTo cpos (starEach [] X.env)).any (·.1) = false := by rfl)
    (hsw : swapsWith (.Call (.Attribute (.Name x px) "append" apos) [e] [] cpos) none pos.line X.env = pure false := by rfl) : PS X (.Expr (.Call (.Attribute (.Name x px) "append" apos) [e] [] cpos) pos) (tS c (sApp i f)) :=
  PS.to (ps_expr (pe_bm PySem.F.plainAttrs_list PySem.F.slot_list_append PySem.F.type_list_append mt_append ho (pa_cons ha pa_nil hs) hbase hfew hline hs hplain) hsw) (app_use rfl hK)
def sPut (i : Nat) (fi fe : DM) : SM := fun E ρ => fe ρ fun d ρ1 => ownL ρ1 i (fun _ => True) ∧ fi ρ1 fun k ρ2 => ownL ρ2 i fun ds => match k with
  | .int z => ∃ j, ixN ds.length z = some j ∧ E.nx (ρ2.set i (.ow (.list (ds.set j d))))
  | _ => False
theorem put_use {i : Nat} {fi fe : DM} {te ti : TE} (et : te = tD c fe) (ei : ti = tD c fi) : ∀ Z σ H, tS c (sPut i fi fe) Z σ H → tAsg te (L2.gSub (tVar i) ti rSetL) Z σ H := by
  subst et ei
  rintro Z σ H ⟨F, ρ, xx, E, rel, q, n, rr, b, t⟩
  refine ⟨F, ρ, xx, _, rel, q, fun d ρ1 v F1 H1 ⟨q0, q1⟩ e1 r1 a1 => ?_⟩
  obtain ⟨ds0, p0, vs0, g1, g2, g3, g4, _⟩ := ownL_get r1 q0
  refine ⟨.ref p0, g2, F1, ρ1, xx, _, r1, q1, fun k ρ2 u F2 H2 q2 e2 r2 a2 => ?_⟩
  obtain ⟨ds, p, vs, h1, h2, h3, h4, hk⟩ := ownL_get r2 q2
  have ep : p0 = p := by
    rw [g2] at h2
    cases h2
    rfl
  subst ep
  split at hk
  · rename_i z
    cases a2
    obtain ⟨j, hj, hn⟩ := hk
    refine ⟨p0, vs, z, j, rfl, rfl, h3, by rw [h4.length]; exact hj, ?_⟩
    exact n _ σ F2 _ hn (e1.trans e2) (r2.mut h1 h2 ⟨_, upd_same, h4.set (a1.mono e2) j⟩)
  · exact hk.elim
end
end DL
namespace DL
open PySem L2
section
variable {X : Cx} {c : Cn} {e a b : Expr} {pos : Pos}
theorem dp_put {x : Str} {i : Nat} {ix : Expr} {px tpos : Pos} {fi fe : DM} (ho : PE X (.Name x px) (tVar i)) (hi : PE X ix (tD c fi)) (he : PE X e (tD c fe))
    (hsub : ∀ v, assign (.Subscript (.Name x px) ix tpos) X.env v = (do
      let ov ← holding [v] (eval (.Name x px) X.env)
      let iv ← holding [v, ov] (eval ix X.env)
      standAt tpos
      (holding [v, ov, iv] (setItem ov iv v))
      release [v, ov, iv] []) := by intro _; rfl)
    (hs : swapsWithSole [.Subscript (.Name x px) ix tpos] e pos.line X.env = pure false := by rfl) (hw : swappedStores [.Subscript (.Name x px) ix tpos] e X.env = pure none := by rfl)
    (h1 : (assignEach [.Subscript (.Name x px) ix tpos] X.env).map (·.2) = [assign (.Subscript (.Name x px) ix tpos) X.env] := by rfl) : PS X (.Assign [.Subscript (.Name x px) ix tpos] e pos) (tS c (sPut i fi fe)) :=
  PS.to (ps_asg he (pg_sub ho hi set_list hsub) hs hw h1) (put_use rfl rfl)
def ofStrs : List D → Option (List Str)
  | [] => some []
  | .str x :: r => (ofStrs r).map (x :: ·)
  | _ => none
theorem ofStrs_eq : ∀ {ds : List D} {ns : List Str}, ofStrs ds = some ns → ds = ns.map PyData.str
  | [], ns, h => by cases h; rfl
  | .str x :: r, ns, h => by
    unfold ofStrs at h
    cases e : ofStrs r with
    | none => (rw [e] at h; cases h)
    | some m =>
      rw [e] at h
      cases h
      rw [ofStrs_eq e]
      rfl
  | .none :: _, _, h => by cases h
  | .bool _ :: _, _, h => by cases h
  | .int _ :: _, _, h => by cases h
  | .list _ :: _, _, h => by cases h
  | .tuple _ :: _, _, h => by cases h
  | .dict _ :: _, _, h => by cases h
theorem ofStrs_map : ∀ (ns : List Str), ofStrs (ns.map PyData.str) = some ns
  | [] => rfl
  | n :: r => by
    show (ofStrs (r.map PyData.str)).map (n :: ·) = _
    rw [ofStrs_map r]
    rfl
end
end DL
namespace DL
open PySem L2
end DL
namespace DL
open PySem L2
section
variable {X : Cx} {c : Cn}
/-- two texts -/
def gEqS : G2 := fun x y P => match x, y with
  | .str a, .str b => P (.bool (decide (a = b)))
  | _, _ => False
def gNeS : G2 := fun x y P => match x, y with
  | .str a, .str b => P (.bool (!decide (a = b)))
  | _, _ => False
theorem dec_strs {a b : Str} : decide (V.str a = V.str b) = decide (a = b) := by
  by_cases h : a = b
  · subst h
    simp
  · simp [h]
theorem sem_eqS : Sem2 X c (compareOp .Eq) gEqS := by
  refine ⟨_, op_eq, fun F H σ ρ xx x y vx vy P Q r bx by_ g k => ?_⟩
  unfold gEqS at g
  split at g
  · cases bo_str bx
    cases bo_str by_
    refine ⟨rfl, ?_⟩
    rw [dec_strs]
    exact k _ _ F H g (Ex.refl F) r (.bl _)
  · exact g.elim
theorem sem_neS : Sem2 X c (compareOp .NotEq) gNeS := by
  refine ⟨_, op_ne, fun F H σ ρ xx x y vx vy P Q r bx by_ g k => ?_⟩
  unfold gNeS at g
  split at g
  · cases bo_str bx
    cases bo_str by_
    refine ⟨rfl, ?_⟩
    rw [dec_strs]
    exact k _ _ F H g (Ex.refl F) r (.bl _)
  · exact g.elim
end
end DL
namespace DL
open PySem L2 PySem.Spec PyProof.Rows
end DL
namespace DL
open PySem L2 PySem.Spec PyProof.Rows
/-- slots that know what the block's own slots knew -/
structure Knows (σ σ' : L2.St) (vs : List Nat) : Prop where
  l : (L2.wipe σ vs).length = σ'.length
  k : ∀ (j : Nat) v, (L2.wipe σ vs)[j]? = some (some v) → σ'[j]? = some (some v)
theorem Knows.of_eq {σ σ' : L2.St} {vs : List Nat} (e : L2.wipe σ' vs = L2.wipe σ vs) : Knows σ σ' vs := ⟨by rw [← e, wipe_length], fun j v q => (L2.wipe_some (show (L2.wipe σ' vs)[j]? = _ from e ▸ q)).1⟩
/-- a block stands open over a new container: what is known within, and what the end gives back -/
structure Opened (X : Cx) (pins : List (Addr × Obj)) (σ : L2.St) (own : List Nat) (Y : Cx) (fp : List Addr) (tn : Nat → Heap → Prop) (C : Addr) (G : Hp) (s : Shared) : Prop where
  inv : Inv Y [] (L2.wipe σ own) G s
  st : tn 0 s.heap
  no : ∀ b ∈ fp, G b = none
  still : ∀ (σ' : L2.St) (G' : Hp) (s' : Shared), Inv Y [] σ' G' s' → (∀ b ∈ fp, G' b = none) → ∀ b ∈ fp, FpOk Y [] G' b
  back : ∀ (σ' : L2.St) (G' : Hp) (s' : Shared), Inv Y [] σ' G' s' → Inv X pins σ G' s' ∧ (∃ m, s'.heap.Ns C m) ∧ FpOk X pins G' C
abbrev heapIn (h : Heap) (scope : Scope) : Heap := pushCells (h.push { cls := .type "dict", data := .dict #[] }) scope.names
abbrev envIn (X : Cx) (h : Heap) (scope : Scope) : PySem.Env := compEnvC scope (cellsFrom (h.objs.size + 1) scope.names (cloFrom X.env.cells scope.names [])) h.objs.size X.env
theorem Opened.of {X : Cx} {pins : List (Addr × Obj)} {σ : L2.St} {H : Hp} {s s3 : Shared} {tg : Expr} {J : It} {fp : List Addr} {it : Addr} {tn : Nat → Heap → Prop} {scope : Scope} {own : List (Str × Nat)} {o : HO} {ob : Obj} (hN : X.N.Nodup) (ok : BlkOk X.N X.env.scope scope own)
    (T : Turn X.prog X.w X.K tg J fp it tn) (st : tn 0 s.heap) (free : ∀ b ∈ fp, FpOk X pins H b) (e3 : s3.heap = s.heap.push ob) (I : Inv X pins σ (upd H s.heap.objs.size o) s3) :
    Opened X pins σ (own.map (·.2)) (X.blk s3 (upd H s.heap.objs.size o) scope (envIn X s3.heap scope) fp) fp tn s3.heap.objs.size (upd H s.heap.objs.size o) { s3 with heap := heapIn s3.heap scope } := by
  have lt : ∀ b ∈ fp, b < s.heap.objs.size := fun b mb => (T.obj 0 _ st b mb).elim fun _ q => Heap.lt_size q.1
  have free3 : ∀ b ∈ fp, FpOk X pins (upd H s.heap.objs.size o) b := fun b mb => ⟨(upd_ne (Nat.ne_of_lt (lt b mb))).trans (free b mb).1, (free b mb).2⟩
  have pushed : ∀ b z, s.heap.get? b = some z → s3.heap.get? b = some z := fun b z q => by rw [e3]; exact Heap.get?_push_of_some _ q
  exact {
    inv := block_start I ok hN fun b mb => ⟨free3 b mb, by rw [e3, Heap.size_push]; exact Nat.lt_succ_of_lt (lt b mb)⟩
    st := T.keep 0 _ _ st fun b _ z q => pushCells_keeps _ _ _ _ (Heap.get?_push_of_some _ (pushed b z q))
    no := fun b mb => (free3 b mb).1
    still := fun σ' G' s' J' n b mb =>
      have away := J'.ok.exf b mb
      ⟨n b mb, away.1, J'.ok.exfs b mb, .inl mb, away.2, fun p hp => (List.not_mem_nil hp).elim⟩
    back := fun σ' G' s' J' => by
      refine ⟨I.call' J'.os J'.base J'.hok J'.bare fun b mb => ?_, J'.loc.elim fun m q => ⟨m, q.1⟩, I.fpOk (Nat.le_refl _) J'.free⟩
      obtain ⟨-, f1, f2, f3, f4, f5⟩ := free3 b mb
      exact ⟨f3, f1, f4, f5⟩ }
end DL
namespace DL
open PySem L2 PySem.Spec PyProof.Rows
end DL
namespace DL
open PySem L2 PySem.Spec PyProof.Rows
end DL
namespace DL
open PySem L2 PySem.Spec PyProof.Rows
end DL
namespace DL
open PySem L2 PySem.Spec PyProof.Rows
end DL
namespace DL
open PySem L2
theorem hd_d {x : D} {as : List Ar} : ((Ar.d x :: as).head?).map isD ≠ some false := by simp [isD]
theorem k_int : kitB "int" "int" = some true := by decide +kernel
theorem k_ib : kitB "int" "bool" = some false := by decide +kernel
theorem k_tt : kitB "tuple" "tuple" = some true := by decide +kernel
theorem k_ss : kitB "str" "str" = some true := by decide +kernel
/-- a comprehension whose items are told by a function -/
theorem lcL_map {t : TM} {f : DM} {vs : List Nat} {K : List D → DL.Env → Prop} {ρ : DL.Env} (g : D → D) : ∀ (ds acc : List D), (∀ d ∈ ds, ∀ Q : D → DL.Env → Prop, (∀ ρ3, wipeE ρ3 vs = ρ → Q (g d) ρ3) → t d ρ fun ρ1 => f ρ1 Q) → K (acc ++ ds.map g) ρ → lcL t bYes f vs K ds acc ρ
  | [], acc, _, hk => by
    show K acc ρ
    simpa using hk
  | d :: ds, acc, h, hk => by
    refine h d (List.mem_cons_self ..) _ fun ρ3 e => ?_
    show lcL t bYes f vs K ds (acc ++ [g d]) (wipeE ρ3 vs)
    rw [e]
    exact lcL_map g ds (acc ++ [g d]) (fun d' hd => h d' (List.mem_cons_of_mem _ hd)) (by simpa using hk)
end DL
namespace DL
open PySem L2
end DL
namespace DL
open PySem L2
def kC : Key := .inr "cells"
def kL : Key := .inr "left"
def kS : Key := .inr "spot"
structure SrcAt (H : Hp) (q c l : Addr) (cs ls : List Int) (k : Nat) : Prop where
  dq : H q = some (.dK [(kC, .ref c), (kL, .ref l), (kS, .int k)])
  dc : H c = some (.lst (cs.map V.int))
  dl : H l = some (.lst (ls.map V.int))
  ne : c ≠ l
  nc : cs.length ≤ 100
  nl : ls.length ≤ 100
def spotOf : Option HO → Nat
  | some (.dK [_, _, (_, .int k)]) => k.toNat
  | _ => 0
theorem SrcAt.foot {H : Hp} {q c l : Addr} {cs ls : List Int} {k : Nat} (s : SrcAt H q c l cs ls k) {a : Addr} (h : Foot (some q) H a) : a = q ∨ a = c ∨ a = l := by
  rcases h with h | ⟨kvs, y, h1, h2⟩
  · exact .inl h
  · rw [s.dq] at h1
    cases h1
    simp only [List.mem_cons, Prod.mk.injEq, List.not_mem_nil, or_false] at h2
    rcases h2 with ⟨_, h⟩ | ⟨_, h⟩ | ⟨_, h⟩
    · cases h; exact .inr (.inl rfl)
    · cases h; exact .inr (.inr rfl)
    · cases h
theorem SrcAt.fq {H : Hp} {q : Addr} : Foot (some q) H q := .inl rfl
theorem SrcAt.fc {H : Hp} {q c l : Addr} {cs ls : List Int} {k : Nat} (s : SrcAt H q c l cs ls k) : Foot (some q) H c := .inr ⟨_, kC, s.dq, List.mem_cons_self ..⟩
theorem SrcAt.fl {H : Hp} {q c l : Addr} {cs ls : List Int} {k : Nat} (s : SrcAt H q c l cs ls k) : Foot (some q) H l := .inr ⟨_, kL, s.dq, List.mem_cons_of_mem _ (List.mem_cons_self ..)⟩
def srcOrc : Orc where
  I q H := ∃ c l cs ls k, SrcAt H q c l cs ls k
  cnt q H := spotOf (H q)
  al q H a h f := by
    obtain ⟨c, l, cs, ls, k, s⟩ := h
    rcases s.foot f with rfl | rfl | rfl
    · rw [s.dq]; exact Option.some_ne_none _
    · rw [s.dc]; exact Option.some_ne_none _
    · rw [s.dl]; exact Option.some_ne_none _
  st q H H' h e := by
    obtain ⟨c, l, cs, ls, k, s⟩ := h
    exact ⟨c, l, cs, ls, k, ⟨(e q SrcAt.fq).trans s.dq, (e c s.fc).trans s.dc, (e l s.fl).trans s.dl, s.ne, s.nc, s.nl⟩⟩
  sc q H H' h e := by rw [e q SrcAt.fq]
/-- H' is H but for the source, which may have new parts -/
structure Tou (q : Addr) (H H' : Hp) : Prop where
  kp : ∀ a, H a ≠ none → ¬ Foot (some q) H a → H' a = H a
  dom : ∀ a, H a ≠ none → H' a ≠ none
  ft : ∀ a, Foot (some q) H' a → Foot (some q) H a ∨ H a = none
theorem Tou.trans {q : Addr} {H H' H'' : Hp} (a : Tou q H H') (b : Tou q H' H'') : Tou q H H'' := by
  refine ⟨fun x h f => ?_, fun x h => b.dom x (a.dom x h), fun x h => ?_⟩
  · rw [b.kp x (a.dom x h) fun z => (a.ft x z).elim f h, a.kp x h f]
  · rcases b.ft x h with h | h
    · exact a.ft x h
    · refine .inr ?_
      cases z : H x with
      | none => rfl
      | some o => exact absurd h (a.dom x (by rw [z]; exact Option.some_ne_none o))
theorem Tou.world {q : Addr} {F H H' : Hp} (t : Tou q H H') (w : World srcOrc (some q) F H F H) (i : srcOrc.I q H') : World srcOrc (some q) F H F H' := by
  have al : ∀ a, F a ≠ none → H a ≠ none := fun a h z => by
    cases e : F a with
    | none => exact h e
    | some o =>
      have := w.fh a o e
      rw [z] at this
      cases this
  refine ⟨Ex.refl F, fun a o e => ?_, fun a o e f => ⟨?_, fun z => ?_⟩, t.dom, fun _ _ e => e, fun a h z => ?_, fun y e => ?_⟩
  · have h0 : F a ≠ none := by rw [e]; exact Option.some_ne_none o
    rw [t.kp a (al a h0) (w.ft a h0)]
    exact w.fh a o e
  · rw [t.kp a (by rw [e]; exact Option.some_ne_none o) f]
    exact e
  · rcases t.ft a z with z | z
    · exact f z
    · rw [e] at z
      cases z
  · rcases t.ft a z with z | z
    · exact w.ft a h z
    · exact al a h z
  · cases e
    exact i
/-- a new object -/
theorem Tou.new {q p : Addr} {o : HO} {H : Hp} (hp : H p = none) (hq : H q ≠ none) : Tou q H (upd H p o) := by
  have nq : q ≠ p := fun z => hq (by rw [z]; exact hp)
  refine ⟨fun a h _ => upd_ne fun z => h (by rw [z]; exact hp), fun a h => ?_, fun a h => .inl ?_⟩
  · by_cases z : a = p
    · exact absurd (by rw [z]; exact hp) h
    · rw [upd_ne z]
      exact h
  · exact (Foot.eqv (p := some q) (fun y e => by cases e; exact upd_ne nq) a).mp h
theorem SrcAt.new {H : Hp} {q c l p : Addr} {cs ls : List Int} {k : Nat} {o : HO} (s : SrcAt H q c l cs ls k) (hp : H p = none) : SrcAt (upd H p o) q c l cs ls k :=
  ⟨(upd_ne (ne_of_none s.dq hp)).trans s.dq, (upd_ne (ne_of_none s.dc hp)).trans s.dc, (upd_ne (ne_of_none s.dl hp)).trans s.dl, s.ne, s.nc, s.nl⟩
theorem SrcAt.setS {H : Hp} {q c l : Addr} {cs ls : List Int} {k : Nat} (s : SrcAt H q c l cs ls k) (k' : Nat) : SrcAt (upd H q (.dK [(kC, .ref c), (kL, .ref l), (kS, .int k')])) q c l cs ls k' := by
  have qc : c ≠ q := fun e => by have := s.dc; rw [e, s.dq] at this; cases this
  have ql : l ≠ q := fun e => by have := s.dl; rw [e, s.dq] at this; cases this
  exact ⟨upd_same, (upd_ne qc).trans s.dc, (upd_ne ql).trans s.dl, s.ne, s.nc, s.nl⟩
theorem SrcAt.setV {H : Hp} {q c l : Addr} {cs ls : List Int} {k : Nat} (s : SrcAt H q c l cs ls k) (ls' : List Int) (z : ls'.length ≤ 100) : SrcAt (upd H l (.lst (ls'.map V.int))) q c l cs ls' k := by
  have ql : q ≠ l := fun e => by have := s.dl; rw [← e, s.dq] at this; cases this
  exact ⟨(upd_ne ql).trans s.dq, (upd_ne s.ne).trans s.dc, upd_same, s.ne, s.nc, z⟩
/-- a store into the dict, or into its list -/
theorem Tou.putQ {H : Hp} {q c l l' : Addr} {cs ls : List Int} {k : Nat} {v : V} (s : SrcAt H q c l cs ls k) (hl : l' = l ∨ H l' = none) (nv : ∀ a, v ≠ .ref a) : Tou q H (upd H q (.dK [(kC, .ref c), (kL, .ref l'), (kS, v)])) := by
  refine ⟨fun a h f => upd_ne fun z => f (by rw [z]; exact SrcAt.fq), fun a h => ?_, fun a h => ?_⟩
  · by_cases z : a = q
    · rw [z, upd_same]; exact Option.some_ne_none _
    · rw [upd_ne z]; exact h
  · rcases h with h | ⟨kvs, y, h1, h2⟩
    · exact .inl (.inl h)
    · rw [upd_same] at h1
      cases h1
      simp only [List.mem_cons, Prod.mk.injEq, List.not_mem_nil, or_false] at h2
      rcases h2 with ⟨_, h⟩ | ⟨_, h⟩ | ⟨_, h⟩
      · cases h; exact .inl s.fc
      · cases h
        rcases hl with hl | hl
        · rw [hl]; exact .inl s.fl
        · exact .inr hl
      · exact absurd h.symm (nv a)
theorem Tou.putL {H : Hp} {q c l : Addr} {cs ls : List Int} {k : Nat} {o : HO} (s : SrcAt H q c l cs ls k) : Tou q H (upd H l o) := by
  have ql : q ≠ l := fun e => by have := s.dl; rw [← e, s.dq] at this; cases this
  refine ⟨fun a h f => upd_ne fun z => f (by rw [z]; exact s.fl), fun a h => ?_, fun a h => .inl ?_⟩
  · by_cases z : a = l
    · rw [z, upd_same]; exact Option.some_ne_none _
    · rw [upd_ne z]; exact h
  · exact (Foot.eqv (p := some q) (fun y e => by cases e; exact upd_ne ql) a).mp h
theorem SrcAt.spot {H : Hp} {q c l : Addr} {cs ls : List Int} {k : Nat} (s : SrcAt H q c l cs ls k) : srcOrc.cnt q H = k := by
  show spotOf (H q) = k
  rw [s.dq]
  rfl
theorem okD_ints (ns : List Int) : okD (.list (ns.map PyData.int)) := by
  have h1 : ∀ ms : List Int, PyData.canLayAll0 (ms.map PyData.int) = true := fun ms => by
    induction ms with
    | nil => rfl
    | cons m r ih => exact Bool.and_eq_true_iff.mpr ⟨rfl, ih⟩
  have h2 : ∀ ms : List Int, PyData.depthAll (ms.map PyData.int) ≤ 1 := fun ms => by
    induction ms with
    | nil => simp [PyData.depthAll]
    | cons m r ih => simp only [List.map_cons, PyData.depthAll, PyData.depth]; omega
  show SeqAt.shaped _ = true
  unfold SeqAt.shaped
  rw [Bool.and_eq_true_iff]
  refine ⟨h1 ns, decide_eq_true ?_⟩
  simp only [PyData.depth]
  have := h2 ns
  omega
theorem dp_ints {K : PySem.W.Frag} {H : Hp} {a : Addr} {ns : List Int} (h : H a = some (.lst (ns.map V.int))) : Dp K H (.ref a) (.list (ns.map PyData.int)) :=
  (At.lst (.inl (.inl h)) (AtAll.ofInts ns)).dp (okD_ints ns).nod
end DL
namespace DL
open PySem L2
section
variable {H : Hp} {q c l : Addr} {cs ls : List Int} {k : Nat} {σ : L2.St} {Q : VK}
theorem rdC (s : SrcAt H q c l cs ls k) (h0 : σ[0]? = some (some (.ref q))) (h : Q (.ref c) H) : tDGet (tVar 0) (tC (.str "cells")) σ H Q := ⟨_, h0, q, _, rfl, DGet.k (k := kC) s.dq, h⟩
theorem rdL (s : SrcAt H q c l cs ls k) (h0 : σ[0]? = some (some (.ref q))) (h : Q (.ref l) H) : tDGet (tVar 0) (tC (.str "left")) σ H Q := ⟨_, h0, q, _, rfl, DGet.k (k := kL) s.dq, h⟩
theorem rdS (s : SrcAt H q c l cs ls k) (h0 : σ[0]? = some (some (.ref q))) (h : Q (.int k) H) : tDGet (tVar 0) (tC (.str "spot")) σ H Q := ⟨_, h0, q, _, rfl, DGet.k (k := kS) s.dq, h⟩
end
end DL
namespace DL
open PySem L2
def leftLen (q : Addr) (H : Hp) : Nat := match H q with
  | some (.dK [_, (_, .ref l), _]) => (match H l with
    | some (.lst xs) => xs.length
    | _ => 0)
  | _ => 0
theorem SrcAt.len {H : Hp} {q c l : Addr} {cs ls : List Int} {k : Nat} (s : SrcAt H q c l cs ls k) : leftLen q H = ls.length := by
  unfold leftLen
  rw [s.dq]
  simp only
  rw [s.dl]
  simp
section
variable {K : PySem.W.Frag} {q c l : Addr} {cs ls : List Int} {k : Nat} {H H0 : Hp} {σ : L2.St}
theorem put_kS {c l : Addr} {k : Nat} {v : V} : putK [(kC, V.ref c), (kL, V.ref l), (kS, V.int k)] kS v = [(kC, V.ref c), (kL, V.ref l), (kS, v)] := rfl
theorem small3 : 3 < sizeLine := by decide +kernel
end
end DL
namespace DL
open PySem L2
end DL
namespace DL
open PySem L2
end DL
namespace DL
open PySem L2
variable {X : Cx} {c : Cn}
def gIsB : G2 := fun x y P => match x, y with
  | .bool a, .bool b => P (.bool (decide (a = b)))
  | _, _ => False
theorem sem_isb : Sem2 X c (compareOp .Is) gIsB := by
  refine ⟨_, op_isBl, fun F H σ ρ xx x y vx vy P Q r bx by_ g k => ?_⟩
  unfold gIsB at g
  split at g
  · cases bo_bl bx
    cases bo_bl by_
    exact ⟨_, _, rfl, rfl, k _ _ F H g (Ex.refl F) r (.bl _)⟩
  · exact g.elim
end DL
namespace DL
open PySem L2
section
variable {X : Cx} {c : Cn}
theorem strs_vs {K : PySem.W.Frag} {F : Hp} : ∀ {vs : List V} {zs : List Str}, AtAll K F vs (zs.map PyData.str) → vs = zs.map V.str
  | _, [], h => by cases h; rfl
  | _, z :: zs, h => by
    cases h with
    | cons a t =>
      cases a
      rw [strs_vs t]
      rfl
/-- a text in a tuple of texts -/
def gInS : G2 := fun x y P => match x, y with
  | .str a, .tuple ds => ∃ zs, ofStrs ds = some zs ∧ P (.bool (zs.any fun z => z == a))
  | _, _ => False
theorem sem_inS (hK : X.K = c.K) : Sem2 X c (compareOp .In) gInS := by
  refine ⟨_, op_in_seq, fun F H σ ρ xx x y vx vy P Q r bx by_ g k => ?_⟩
  unfold gInS at g
  split at g
  · rename_i a ds
    obtain ⟨zs, ez, q⟩ := g
    cases bo_str bx
    obtain ⟨p, xs, rfl, f2, s2, t2⟩ := bo_tup r.w.fh by_
    rw [ofStrs_eq ez] at t2
    have e := strs_vs t2
    subst e
    refine ⟨p, _, rfl, .inr (by rw [hK]; exact s2), rfl, ?_, ?_⟩
    · rw [List.all_eq_true]
      intro v hv
      obtain ⟨z, _, rfl⟩ := List.mem_map.mp hv
      rfl
    · have ea : inV (.str a) (zs.map V.str) = zs.any fun z => z == a := by
        unfold inV
        rw [List.any_map]
        rfl
      show Q (.bl (if false = true then !inV (.str a) (zs.map V.str) else inV (.str a) (zs.map V.str))) H
      rw [if_neg Bool.false_ne_true, ea]
      exact k _ _ F H q (Ex.refl F) r (.bl _)
  · exact g.elim
/-- in a list, or a text in a tuple of texts -/
def gInU : G2 := fun x y P => match y with
  | .list ds => gIn x (.list ds) P
  | y => gInS x y P
theorem sem_inU (hK : X.K = c.K) (hu : X.A.units + 65 < cLine) : Sem2 X c (compareOp .In) gInU := by
  obtain ⟨r1, o1, h1⟩ := sem_in hK hu (X := X) (c := c)
  obtain ⟨r2, o2, h2⟩ := sem_inS hK (X := X) (c := c)
  refine ⟨_, o1.or o2, fun F H σ ρ xx x y vx vy P Q r bx by_ g k => ?_⟩
  unfold gInU at g
  split at g
  · exact .inl (h1 F H σ ρ xx x _ vx vy P Q r bx by_ g k)
  · exact .inr (h2 F H σ ρ xx x _ vx vy P Q r bx by_ g k)
theorem de_gtop {x : Str} {pos : Pos} {d : D} (hg : Gl X x) (h : ∃ u, X.mg x = some (.ref u) ∧ ∀ F, At c.K F (.ref u) d) (hd : (x == ("__debug__" : Str)) = false := by decide) : PE X (.Name x pos) (tD c (dC d)) := by
  obtain ⟨u, hm, ha⟩ := h
  exact de_gref hg hm ha hd
/-- math.gcd -/
def gGcd : GC := fun ds P => match ds with
  | [.int a, .int b] => P (.int ((Nat.gcd a.natAbs b.natAbs : Nat) : Int))
  | _ => False
theorem sem_gcd : SemC X c (.builtin "math.gcd") gGcd := by
  refine ⟨_, cr_gcd, fun F H σ ρ xx ds vs P Q r bs g k => ?_⟩
  unfold gGcd at g
  split at g
  · obtain ⟨v, u, rfl, b1, b2⟩ := pr2 bs
    cases bo_int b1
    cases bo_int b2
    exact ⟨_, _, rfl, k _ _ F H g (Ex.refl F) r (.int _)⟩
  · exact g.elim
variable {x : Str} {p pos : Pos} {e : Expr} {es : List Expr} {fh : HLM} {g : GC}
/-- a module's name for a built-in function, called -/
theorem de_cf {id : String} (hs : SemC X c (.builtin id) g) (hg : Gl X x) (hm : X.mg x = some (.builtin id)) (ha : PA X (e :: es) (tHL c fh)) (hdb : (x == ("__debug__" : Str)) = false := by decide)
    (he : starEach (e :: es) X.env = (false, eval e X.env) :: starEach es X.env := by rfl)
    (hpl : (backTo pos (starEach es X.env)).any (·.1) = false := by rfl) : PE X (.Call (.Name x p) (e :: es) [] pos) (tD c (dCB g fh)) := by
  obtain ⟨r, ho, hr⟩ := hs
  exact PE.to (pe_callBfun ho hg hm ha hdb he hpl) (dCB_use (f := .none) hr)
def gImul : G2 := fun x y P => match x, y with
  | .int i, .int j => ((-(2 ^ 64) < i ∧ i < 2 ^ 64) ∨ (-(2 ^ 64) < j ∧ j < 2 ^ 64)) ∧ P (.int (i * j))
  | _, _ => False
theorem sem_imul : Sem2 X c (inplaceOp .Mult) gImul := by
  refine ⟨_, iop_mul, fun F H σ ρ xx x y vx vy P Q r bx by_ g k => ?_⟩
  unfold gImul at g
  split at g
  · cases bo_int bx
    cases bo_int by_
    exact ⟨_, _, rfl, rfl, g.1, k _ _ F H g.2 (Ex.refl F) r (.int _)⟩
  · exact g.elim
theorem at_top {K : PySem.W.Frag} {u : Addr} {dd : Option Addr} {its : Array Value} {n : Nat} {sl : Array (Option Value)} {zs : List Str} (h : K.lookup u = some ⟨.type "tuple", dd, .seq its n, sl⟩) (hz : its.size ≤ sizeLine) (hv : Vals (zs.map V.str) its.toList) (F : Hp) : At K F (.ref u) (.tuple (zs.map PyData.str)) := by
  refine .tup (.inr ⟨_, _, _, h, rfl, rfl, hz, hv⟩) ?_
  clear hv
  induction zs with
  | nil => exact .nil
  | cons z zs ih => exact .cons (.str z) ih
end
end DL
namespace DL
open PySem L2
end DL
namespace DL
open PySem L2
end DL
namespace DL
open PySem L2
structure SrcB (H : Hp) (q c l : Addr) (cs ls : List Int) (k : Nat) : Prop extends SrcAt H q c l cs ls k where
  len : ls.length = cs.length
  nz : cs ≠ []
def srcOrcB : Orc where
  I q H := ∃ c l cs ls k, SrcB H q c l cs ls k
  cnt q H := spotOf (H q)
  al q H a h f := by
    obtain ⟨c, l, cs, ls, k, s⟩ := h
    exact srcOrc.al q H a ⟨c, l, cs, ls, k, s.toSrcAt⟩ f
  st q H H' h e := by
    obtain ⟨c, l, cs, ls, k, s⟩ := h
    exact ⟨c, l, cs, ls, k, ⟨⟨(e q SrcAt.fq).trans s.dq, (e c s.fc).trans s.dc, (e l s.fl).trans s.dl, s.ne, s.nc, s.nl⟩, s.len, s.nz⟩⟩
  sc q H H' h e := by rw [e q SrcAt.fq]
theorem SrcB.spot {H : Hp} {q c l : Addr} {cs ls : List Int} {k : Nat} (s : SrcB H q c l cs ls k) : srcOrcB.cnt q H = k := s.toSrcAt.spot
theorem Tou.worldB {q : Addr} {F H H' : Hp} (t : Tou q H H') (w : World srcOrcB (some q) F H F H) (i : srcOrcB.I q H') : World srcOrcB (some q) F H F H' := by
  obtain ⟨c, l, cs, ls, k, s⟩ := i
  have w0 : World srcOrc (some q) F H F H := ⟨w.ff, w.fh, w.kp, w.dom, w.fn, w.ft, fun p e => by
    obtain ⟨c, l, cs, ls, k, s⟩ := w.or p e
    exact ⟨c, l, cs, ls, k, s.toSrcAt⟩⟩
  have w1 := t.world w0 ⟨c, l, cs, ls, k, s.toSrcAt⟩
  exact ⟨w1.ff, w1.fh, w1.kp, w1.dom, w1.fn, w1.ft, fun p e => by
    cases e
    exact ⟨c, l, cs, ls, k, s⟩⟩
def spBegunB (K : PySem.W.Frag) : Sp := fun vs H Q _ => ∃ (a : Addr) (ns : List Int), vs = [.ref a] ∧ SqL K H a (ns.map V.int) ∧ ns.length ≤ 63 ∧
  ∀ q c l cs ls H', (∀ b o, H b = some o → H' b = some o) → H q = none → H c = none → H l = none → SrcB H' q c l cs ls 0 → Q (.ref q) H'
/-- a call that leaves all that stands touches no source -/
theorem Tou.of_world {R : Orc} {q : Addr} {F H F' H' : Hp} (w : World R none F H F' H') (hq : H q ≠ none) : Tou q H H' := by
  have kp : ∀ a, H a ≠ none → H' a = H a := fun a h => by
    cases e : H a with
    | none => exact absurd e h
    | some o => exact (w.kp a o e fun z => z).1
  exact ⟨fun a h _ => kp a h, w.dom, fun a h => .inl ((Foot.eqv (p := some q) (fun y e => by cases e; exact kp q hq) a).mp h)⟩
theorem SrcAt.of_world {R : Orc} {q c l : Addr} {cs ls : List Int} {k : Nat} {F H F' H' : Hp} (s : SrcAt H q c l cs ls k) (w : World R none F H F' H') : SrcAt H' q c l cs ls k := by
  have kp : ∀ a o, H a = some o → H' a = some o := fun a o e => (w.kp a o e fun z => z).1
  exact ⟨kp _ _ s.dq, kp _ _ s.dc, kp _ _ s.dl, s.ne, s.nc, s.nl⟩
section
variable {X : Cx} {c : Cn} {a b : Expr} {pos : Pos}
def gAbs : GC := fun ds P => match ds with
  | [.int i] => P (.int (if i < 0 then -i else i))
  | _ => False
theorem sem_abs : SemC X c (.builtin "abs") gAbs :=
  ⟨_, call_abs, fun F H σ ρ xx ds vs P Q r bs g k => by
    unfold gAbs at g
    split at g
    · obtain ⟨v, rfl, b⟩ := pr1 bs
      cases bo_int b
      exact ⟨_, rfl, k _ _ F H g (Ex.refl F) r (.int _)⟩
    · exact g.elim⟩
def sParIN (i j : Nat) (f g : DM) : SM := fun E ρ => f ρ fun d ρ1 => g ρ1 fun d' ρ2 => E.nx ((ρ2.set j (.ow d')).set i (.im d))
theorem parIN_use {i j : Nat} (hij : i ≠ j) {f g : DM} : ∀ Z σ H, tS c (sParIN i j f g) Z σ H → tPar i j (tCons (tD c f) (tCons (tN c g) tNil)) Z σ H := by
  rintro Z σ H ⟨F, ρ, xx, E, rel, q, n, rr, b, t⟩
  refine ⟨F, ρ, xx, _, rel, q, fun d ρ1 v F1 H1 q1 e1 r1 a1 => ?_⟩
  refine ⟨F1, ρ1, xx, _, r1, q1, fun d' ρ2 p F2 H2 q2 e2 r2 f2 => ?_⟩
  refine ⟨_, _, rfl, ?_⟩
  have z := n _ _ F2 H2 q2 (e1.trans e2) ((r2.putO j f2).putI i (a1.mono e2))
  rw [List.set_comm _ _ (Ne.symm hij)] at z
  exact z
theorem dp_parIN {x y : Str} {i j : Nat} {f g : DM} {px py pt : Pos} {kt k2 : Nat} {pt2 : Pos} (hc : X.calm = true) (hN : X.N.Nodup) (hi : X.N[i]? = some x) (hj : X.N[j]? = some y) (hij : i ≠ j)
    (hx : X.env.scope.names.lookup x = some .local) (hy : X.env.scope.names.lookup y = some .local) (ha : PE X a (tD c f)) (hb : PE X b (tN c g))
    (hw : (swappedStores [.Tuple [.Name x px, .Name y py] kt pt] (.Tuple [a, b] k2 pt2) X.env = pure (some [x, y])))
    (hs : swapsWithSole [.Tuple [.Name x px, .Name y py] kt pt] (.Tuple [a, b] k2 pt2) pos.line X.env = pure false := by rfl)
    (s1 : starEach [a, b] X.env = (false, eval a X.env) :: starEach [b] X.env := by rfl) (s2 : starEach [b] X.env = (false, eval b X.env) :: starEach [] X.env := by rfl) :
    PS X (.Assign [.Tuple [.Name x px, .Name y py] kt pt] (.Tuple [a, b] k2 pt2) pos) (tS c (sParIN i j f g)) :=
  PS.to (ps_par hc hN hi hj hij hx hy (pa_cons ha (pa_cons hb pa_nil s2) s1) hw hs) (parIN_use hij)
def gReprB : GC := fun ds P => match ds with
  | [.bool b] => P (.str (if b then "True" else "False"))
  | _ => False
theorem call_reprB : CallR X (.builtin "repr") (fun xs H Q => ∃ b, xs = [.bl b] ∧ Q (.str (if b then "True" else "False")) H) := by
  (intro pins s σ H xs us Q I r h)
  obtain ⟨b, rfl, q⟩ := h
  obtain ⟨u, rfl, rv⟩ := vals1 r
  cases (show u = Value.bool b from rv)
  exact P.repr_of_bool ⟨.str _, H, I.tok _, ⟨_, by cases b <;> rfl⟩, q⟩
theorem sem_reprB : SemC X c (.builtin "repr") gReprB :=
  ⟨_, call_reprB, fun F H σ ρ xx ds vs P Q r bs g k => by
    unfold gReprB at g
    split at g
    · obtain ⟨v, rfl, b⟩ := pr1 bs
      cases bo_bl b
      exact ⟨_, rfl, k _ _ F H g (Ex.refl F) r (.str _)⟩
    · exact g.elim⟩
end
end DL
namespace DL
open PySem L2
section
variable {X : Cx} {c : Cn}
def rLcm : List V → Hp → VK → Prop := fun vs H Q => ∃ a b : Int, vs = [.int a, .int b] ∧ a.natAbs < 2 ^ 64 ∧ b.natAbs < 2 ^ 64 ∧ Q (.int ((Nat.lcm a.natAbs b.natAbs : Nat) : Int)) H
theorem cr_lcm : CallR X (.builtin "math.lcm") rLcm := by
  (intro pins s σ H vs us Q I r h)
  obtain ⟨a, b, rfl, ha, hb, q⟩ := h
  (obtain ⟨t, u, rfl⟩ := Vals.int2 r)
  exact PySem.W.mc_lcm ha hb fun _ => ⟨.int _, H, I.tok _, ⟨_, rfl⟩, q⟩
/-- math.lcm -/
def gLcm : GC := fun ds P => match ds with
  | [.int a, .int b] => (a.natAbs < 2 ^ 64 ∧ b.natAbs < 2 ^ 64) ∧ P (.int ((Nat.lcm a.natAbs b.natAbs : Nat) : Int))
  | _ => False
theorem sem_lcm : SemC X c (.builtin "math.lcm") gLcm := by
  refine ⟨_, cr_lcm, fun F H σ ρ xx ds vs P Q r bs g k => ?_⟩
  unfold gLcm at g
  split at g
  · obtain ⟨v, u, rfl, b1, b2⟩ := pr2 bs
    cases bo_int b1
    cases bo_int b2
    exact ⟨_, _, rfl, g.1.1, g.1.2, k _ _ F H g.2 (Ex.refl F) r (.int _)⟩
  · exact g.elim
end
section
variable {X : Cx} {c : Cn}
def gReprI : GC := fun ds P => match ds with
  | [.int i] => i.natAbs.log2 < 1920 ∧ P (.str (toString i))
  | [.none] => P (.str "None")
  | _ => False
theorem call_reprI : CallR X (.builtin "repr") (fun xs H Q => (∃ i : Int, xs = [.int i] ∧ i.natAbs.log2 < 1920 ∧ Q (.str (toString i)) H) ∨ (xs = [.non] ∧ Q (.str "None") H)) := by
  (intro pins s σ H xs us Q I r h)
  rcases h with ⟨i, rfl, hl, q⟩ | ⟨rfl, q⟩
  · obtain ⟨u, rfl, rv⟩ := vals1 r
    obtain ⟨t, rfl⟩ := (show ∃ t, u = Value.int i t from rv)
    exact P.repr_of_int hl ⟨.str _, H, I.tok _, ⟨_, rfl⟩, q⟩
  · obtain ⟨u, rfl, rv⟩ := vals1 r
    cases (show u = Value.none from rv)
    exact P.repr_of_none ⟨.str _, H, I.tok _, ⟨_, rfl⟩, q⟩
theorem sem_reprI : SemC X c (.builtin "repr") gReprI :=
  ⟨_, call_reprI, fun F H σ ρ xx ds vs P Q r bs g k => by
    unfold gReprI at g
    split at g
    · obtain ⟨v, rfl, b⟩ := pr1 bs
      cases bo_int b
      exact .inl ⟨_, rfl, g.1, k _ _ F H g.2 (Ex.refl F) r (.str _)⟩
    · obtain ⟨v, rfl, b⟩ := pr1 bs
      have e : v = .non := by
        have := isN_dec b
        exact of_decide_eq_true this
      subst e
      exact .inr ⟨rfl, k _ _ F H g (Ex.refl F) r (.str _)⟩
    · exact g.elim⟩
end
section
variable {X : Cx} {c : Cn} {e1 e2 e3 : Expr} {pos : Pos}
def bIf (t f g : BM) : BM := fun ρ P => t ρ fun b ρ1 => if b = true then f ρ1 P else g ρ1 P
theorem dt_if {t f g : BM} (hc : PT X e3 (tT c t)) (ha : PT X e1 (tT c f)) (hb : PT X e2 (tT c g)) : PT X (.IfExp e3 e1 e2 pos) (tT c (bIf t f g)) := by
  (refine ⟨fun pins s σ H Q I h => ?_⟩)
  obtain ⟨F, ρ, xx, P, rel, q, k⟩ := h
  rw [arm_isTrue_IfExp]
  refine wpAny_bind (wpAny_mono (hc.run pins s σ H (fun b H1 => if b = true then tT c f σ H1 Q else tT c g σ H1 Q) I ⟨F, ρ, xx, _, rel, q, fun d ρ1 F1 H1 q1 e1 r1 => ?_⟩) (fun b s1 h1 => ?_) fun _ _ x => x)
  · cases d with
    | true => exact ⟨F1, ρ1, xx, P, r1, q1, fun t' ρ2 F2 H2 q2 e2 r2 => k t' ρ2 F2 H2 q2 (e1.trans e2) r2⟩
    | false => exact ⟨F1, ρ1, xx, P, r1, q1, fun t' ρ2 F2 H2 q2 e2 r2 => k t' ρ2 F2 H2 q2 (e1.trans e2) r2⟩
  · obtain ⟨H1, I1, q1⟩ := h1
    cases b with
    | true => (exact ha.run pins s1 σ H1 Q I1 q1)
    | false => (exact hb.run pins s1 σ H1 Q I1 q1)
end
theorem fnG_never {pr : Program} {wd : PySem.World} {K : PySem.W.Frag} {gl : Str → Option Value} {bas : Heap} {k n : Nat} {f : Addr} {fd : FuncData} {ps : List Str} {R : Orc} : FnG pr wd K gl bas k f fd ps (spD K R n fun _ _ _ => False) :=
  ⟨fun vs H Q E ⟨_, _, _, _, _, _, _, _, _, _, _, says, _⟩ => says.elim, fun A out sh H ar us vs Q E _ _ _ _ _ ⟨_, _, _, _, _, _, _, _, _, _, _, says, _⟩ => says.elim⟩
end DL
namespace DL
open PySem L2
section
variable {X : Cx} {c : Cn} {e a b : Expr} {pos : Pos}
def okR : D → Prop
  | .none => True
  | .bool _ => True
  | .int i => i.natAbs.log2 < 1920
  | .list xs => nod (.list xs) = true ∧ (PyData.list xs).showable = true ∧ (PyData.list xs).depth ≤ 60 ∧ (PyData.list xs).shown.length ≤ 1000000
  | .tuple xs => nod (.tuple xs) = true ∧ (PyData.tuple xs).showable = true ∧ (PyData.tuple xs).depth ≤ 60 ∧ (PyData.tuple xs).shown.length ≤ 1000000
  | _ => False
end
end DL
namespace DL
open PySem L2 PySem.Spec PyProof.Rows
theorem lawG {pr : Program} {wd : PySem.World} {K : PySem.W.Frag} {gl gb : PySem.Str → Option Value} {k : Nat} {fa a : Addr} {fd : FuncData} {x : PySem.Str} {sp : Sp} {s : Shared} {vs : List Value} {ns : List Int}
    (inK : K.In s.heap) (nsG : s.heap.Ns mainGlobals gl) (nsB : s.heap.Ns builtinsNs gb) (bb : ∀ y : PySem.Str, y ≠ "__name__" → gb y = bootBuiltins y) (lim : s.heap.NoLimit) (gen : s.gens = #[])
    (ha : s.heap.get? a = some { cls := .type "list", data := .seq vs.toArray }) (hi : IntsAre vs ns) (hl : ns.length ≤ sizeLine) (room : Room k callerA)
    (F : ∀ bas : Heap, K.In bas → bas.Ns mainGlobals gl → FnG pr wd K gl bas k fa fd [x] sp) (bind : ∀ (s : Shared) (u : Value), BindsTo s fd ⟨[u], []⟩ [(x, u)])
    (says : ∀ H : Hp, SqL K H a (ns.map V.int) → sp [.ref a] H (fun v _ => v = .bl true) fun _ _ _ => False) :
    codeAny (model pr wd) callerA (.call (.ref fa) ⟨[.ref a], []⟩) (fun r s' => r = .ok (.ret (.bool true)) ∧ OldK s.heap s'.heap ∧ s'.os = s.os ∧ AllBare s'.gens) s := by
  have vals := L2.vals_ints hi
  -- the heap H that the def sees: nothing, or the script alone, which stays as it is
  have run : ∀ (H : Hp), (∀ b o, H b = some o → b = a ∧ ∃ ob xs, o = .frz ob (.lst xs)) → SqL K H a (ns.map V.int) → HOk pr wd H s.heap → (H a ≠ none → K.lookup a = none) →
      codeAny (model pr wd) callerA (.call (.ref fa) ⟨[.ref a], []⟩) (fun r s' => r = .ok (.ret (.bool true)) ∧ OldK s.heap s'.heap ∧ s'.os = s.os ∧ AllBare s'.gens) s := by
    intro H only sq hok notK
    have plain : ∀ {b : Addr} {o : Obj}, s.heap.get? b = some o → (∀ es n, o.data = .dict es n → H b = none) := by
      intro b o e es n ed
      cases z : H b with
      | none => rfl
      | some u =>
        obtain ⟨rfl, _⟩ := only b u z
        rw [ha] at e
        cases e
        exact absurd (ed : Data.seq vs.toArray _ = Data.dict es n) (fun y => by cases y)
    have nsOf : ∀ {b : Addr} {m : PySem.Str → Option Value}, s.heap.Ns b m → (hidT s.heap H).Ns b m := by
      rintro b m ⟨o, es, n, e, ed, r⟩
      exact ⟨o, es, n, hidT_get e (plain e es n ed), ed, r⟩
    have inB : K.In (hidT s.heap H) := by
      intro b o e
      refine hidT_get (inK b o e) ?_
      cases z : H b with
      | none => rfl
      | some u =>
        obtain ⟨rfl, _⟩ := only b u z
        rw [notK (by rw [z]; exact Option.some_ne_none u)] at e
        cases e
    obtain ⟨mc, l1, l2⟩ := lim
    have md : Mod K gl (hidT s.heap H) := ⟨inB, nsOf nsG, ⟨gb, nsOf nsB, bb⟩, ⟨mc, nsOf l1, l2⟩⟩
    have env : Env0 pr wd K gl (hidT s.heap H) callerA [] s H := ⟨rfl, md, fun b o e => of_hidT e, Nat.le_of_eq (hidT_size _ _), trivial, fun b hb => (nomatch hb), hok, .of_eq gen⟩
    refine codeAny_mono ((F _ inB (nsOf nsG)).go callerA [] s H ⟨[.ref a], []⟩ [.ref a] [.ref a] _ _ rfl room env (bind s (.ref a)) (.cons rfl .nil) (says H sq)) ?_
    intro r s' z
    match r, z with
    | .error e, z => exact (z : False).elim
    | .ok (.ret u), ⟨v, H', os, bare, un, hok', rv, q⟩ =>
      have q : v = .bl true := q
      subst q
      cases (show u = Value.bool true from rv)
      refine ⟨rfl, OldK.of_keep ?_, os, bare⟩
      intro b o e
      cases z : H b with
      | none => exact un.keep b o e z (fun y => nomatch y) (by simp)
      | some u =>
        obtain ⟨_, ob, xs, rfl⟩ := only b u z
        obtain ⟨p1, _⟩ := hok b _ z
        obtain ⟨p2, _⟩ := hok' b _ (un.frzs b ob _ z)
        rw [e] at p1
        cases p1
        exact p2
  have len := hi.length
  cases z : K.lookup a with
  | some o =>
    have e := inK a o z
    rw [ha] at e
    cases e
    refine run (fun _ => none) (fun _ _ e => nomatch e) (.inr ⟨_, vs.toArray, _, z, rfl, rfl, rfl, ?_, by simpa using vals⟩) (fun _ _ e => nomatch e) fun e => absurd rfl e
    rw [List.size_toArray, len]
    exact hl
  | none =>
    have at1 : ∀ o, (fun b => if b = a then some (HO.frz { cls := .type "list", data := .seq vs.toArray } (.lst (ns.map V.int))) else none) a = some o → o = HO.frz { cls := .type "list", data := .seq vs.toArray } (.lst (ns.map V.int)) := by
      intro o e
      have e : (if a = a then some (HO.frz { cls := .type "list", data := .seq vs.toArray } (.lst (ns.map V.int))) else none) = some o := e
      rw [if_pos rfl] at e
      exact (Option.some.inj e).symm
    refine run (fun b => if b = a then some (HO.frz { cls := .type "list", data := .seq vs.toArray } (.lst (ns.map V.int))) else none) (fun b o e => ?_) (.inl (.inr ⟨{ cls := .type "list", data := .seq vs.toArray }, if_pos rfl⟩)) (fun b o e => ?_) fun _ => z
    · by_cases h : b = a
      · subst h
        exact ⟨rfl, _, _, at1 o e⟩
      · have e : (if b = a then some (HO.frz { cls := .type "list", data := .seq vs.toArray } (.lst (ns.map V.int))) else none) = some o := e
        rw [if_neg h] at e
        cases e
    · by_cases h : b = a
      · subst h
        rw [at1 o e]
        exact ⟨ha, by rw [List.length_map]; exact hl, vs, _, vals, ha⟩
      · have e : (if b = a then some (HO.frz { cls := .type "list", data := .seq vs.toArray } (.lst (ns.map V.int))) else none) = some o := e
        rw [if_neg h] at e
        cases e
theorem walkG {l : PySem.W.OpenLaw} {n k : Nat} {q : Program} {loose : List PySem.Str} {XP : (PySem.Str → Option Value) → Heap → Prop} {YP : PySem.World → Heap → Prop} {d : DefRec} {K : Params → PySem.W.Frag} {sp : PySem.World → Sp} {x : PySem.Str}
    (hn : l.most = some n) (hn2 : n ≤ sizeLine) (hdf : d.params.defaults = []) (room : Room k callerA) (hY : ∀ (wd : PySem.World) (h : Heap), YP wd h → (K wd.params).In h)
    (F : ∀ (wd : PySem.World) (gl : PySem.Str → Option Value) (fa : Addr) (h : Heap), (K wd.params).In h → h.Ns mainGlobals gl → gl d.name = some (.ref fa) →
      ∃ fd : FuncData, (∀ (s : Shared) (u : Value), BindsTo s fd ⟨[u], []⟩ [(x, u)]) ∧ ∀ bas : Heap, (K wd.params).In bas → bas.Ns mainGlobals gl → FnG l.prog wd (K wd.params) gl bas k fa fd [x] (sp wd))
    (says : ∀ (wd : PySem.World) (H : Hp) (a : Addr) (ns : List Int), ns.length ≤ n → SqL (K wd.params) H a (ns.map V.int) → sp wd [.ref a] H (fun v _ => v = .bl true) fun _ _ _ => False) :
    PySem.W.WalkO q loose XP YP l.row.toRowW d [] (fun f vs => PySem.call f vs)
      := by
  refine Att.attach_callB hn hdf ?_
  intro wd s0 s1 gl gb fa o pm cd doc a vs ns G Y ho hd hcd hgl hobj hints hlen _ hg
  obtain ⟨fd, hb, hF⟩ := F wd gl fa _ (hY wd _ Y) G.T.g hgl
  exact lawG (hY wd _ Y) G.T.g G.T.b G.T.builtins G.T.nolimit hg hobj hints (Nat.le_trans hlen hn2) room hF hb fun H sq => says wd H a ns hlen sq
end DL
namespace DL
open PySem L2
structure FnX (pr : Program) (wd : PySem.World) (K : PySem.W.Frag) (gl : Str → Option Value) (bas : Heap) (k : Nat) (f : Addr) (fd : FuncData) (ps : List Str) (sp : Sp) : Prop where
  many : ∀ vs H Q E, sp vs H Q E → vs.length = ps.length
  go : ∀ (A : Around) (out : List PySem.Env) (sh : Shared) (H : Hp) (ar : Args) (us : List Value) (vs : List V) (Q : VK) (E : XK), A.guards = some [] → Room k A →
    Env0 pr wd K gl bas A out sh H → BindsTo sh fd ar (ps.zip us) → Vals vs us → sp vs H Q E → codeAny (model pr wd) A (.call (.ref f) ar) (CR (L2.CX pr wd) out pr wd H sh Q E) sh
theorem FnX.more {pr : Program} {wd : PySem.World} {K : PySem.W.Frag} {gl : Str → Option Value} {bas : Heap} {j k : Nat} {f : Addr} {fd : FuncData} {ps : List Str} {sp : Sp} (F : FnX pr wd K gl bas j f fd ps sp) (h : j ≤ k) : FnX pr wd K gl bas k f fd ps sp :=
  ⟨F.many, fun A out sh H ar us vs Q E g r => F.go A out sh H ar us vs Q E g (r.mono h)⟩
theorem FnX.of {pr : Program} {wd : PySem.World} {K : PySem.W.Frag} {gl : Str → Option Value} {bas : Heap} {k : Nat} {f : Addr} {x qual : Str} {st : Stmt} {fd : FuncData} {N ps : List Str} {sp : Sp} (F : L2.Fun K x qual st f fd) (S : FnScope N ps (defScope st))
    (len : (∀ vs H Q E, sp vs H Q E → vs.length = ps.length))
    (body : ∀ (cdv : Value) (A : Around) (out : List PySem.Env) (sh : Shared) (H : Hp) (vs : List V) (Q : VK) (E : XK), A.guards = some [] → Room k (A.deeper (PyProof.Rows.envOfC qual (defScope st) sh.heap.objs.size f cdv)) → sp vs H Q E →
      ∃ t, PSs (cxOf (L2.CX pr wd) pr wd K gl bas N qual (defScope st) f cdv A out sh H E) (defBody st) t ∧ t { nx := fun _ H' => Q .non H', rt := Q } (start N vs) H) : FnX pr wd K gl bas (k + 1) f fd ps sp := by
  obtain ⟨oc, od, kV, doc, pm, an, cdv, ct, osl, efd, lk, hc⟩ := F.ex
  refine ⟨len, fun A out sh H ar us vs Q E hg room env bnd vals says => ?_⟩
  have heapK : K.In sh.heap := PySem.W.Frag.In.keeps env.mod.kin fun b o e => (env.bs b o e).1
  have noLim : sh.heap.NoLimit := Heap.NoLimit.keeps env.mod.nolimit fun b o e => (env.bs b o e).1
  have kinds : ∀ y ∈ ps.zip us, (defScope st).names.lookup y.1 = some .local ∨ ((defScope st).names.lookup y.1 = some .cell ∧ ((cellsFrom (sh.heap.objs.size + 1) (defScope st).names []).lookup y.1).isSome = true) := by
    rintro ⟨n, v⟩ hy
    exact (S.par n (List.of_mem_zip hy).1).imp id fun q => ⟨q, PySem.W.cellsFrom_some _ _ _ (.inl q)⟩
  rw [efd] at lk bnd
  refine codeAny_call_function room.depth (heapK _ _ lk) rfl S.co S.gen rfl (PySem.W.codeRec_of heapK hc) (bnd _ _ _ _ (wpAny_newFunctionEnv_cells S.kind kinds ?_))
  intro env1 he s1 xc
  subst he
  refine ⟨noLim.keeps xc.toInCall.keep, codeAny_func ?_⟩
  obtain ⟨t, ht, hq⟩ := body cdv A out sh H vs Q E hg (room.deeper _) says
  have inv : Inv (cxOf (L2.CX pr wd) pr wd K gl bas N qual (defScope st) f cdv A out sh H E) [] (start N vs) H s1 := inv_start S room.hd env (len _ _ _ _ says) vals xc
  refine wpAny_mono (ht.run [] s1 (start N vs) H _ inv hq) ?_ fun _ _ z => z
  intro fl s2 hs
  cases fl with
  | ret u =>
    (obtain ⟨v, σ', H', J, rv, q⟩ := hs)
    exact ⟨v, H', J.os, J.bare, J.base, J.hok, rv, q⟩
  | next =>
    obtain ⟨σ', H', J, q⟩ := hs
    exact ⟨V.non, H', J.os, J.bare, J.base, J.hok, rfl, q⟩
  | brk => exact (hs.choose_spec.choose_spec.2 : False).elim
  | cont => exact (hs.choose_spec.choose_spec.2 : False).elim
structure Exn where
  c : Str
  v : Option (Str × D)
def ExAt (gl : Str → Option Value) (K : PySem.W.Frag) (F H : Hp) (x : Exn) (cls : Value) (d : Option Addr) : Prop :=
  ∃ C, gl x.c = some (.ref C) ∧ cls = .ref C ∧ match x.v with
    | none => d = none
    | some (f, y) => ∃ a v, d = some a ∧ H a = some (.xd [(f, v)]) ∧ At K F v y
abbrev SpX := List Ar → Nat → (D → Nat → Prop) → (Exn → Nat → Prop) → Prop
def spX (K : PySem.W.Frag) (gl : Str → Option Value) (R : Orc) (n : Nat) (S : SpX) : Sp := fun vs H Q E => ∃ (q : Option Addr) (F : Hp) (as : List Ar) (m : Nat) (P : D → Nat → Prop) (PX : Exn → Nat → Prop),
  World R q F H F H ∧ Paired (ArAt ⟨K, R, q, F, H⟩ F) vs as ∧ as.length = n ∧ oraAt as ∧ (q = none ∨ as[0]? = some .ora) ∧ (∀ p, q = some p → R.cnt p H ≤ m) ∧ S as m P PX ∧
  (∀ d m' v F' H', P d m' → World R q F H F' H' → (∀ p, q = some p → R.cnt p H' ≤ m') → At K F' v d → Q v H') ∧
  ∀ x m' cls dd F' H', PX x m' → World R q F H F' H' → (∀ p, q = some p → R.cnt p H' ≤ m') → ExAt gl K F' H' x cls dd → E cls dd H'
/-- the wish of a frame about exceptions -/
def wx (gl : Str → Option Value) (c : Cn) (px : Exn → Env → Prop) : WX := fun cls dd σ H => ∃ F ρ xx x, Rel c F H σ ρ xx ∧ px x ρ ∧ ExAt gl c.K F H x cls dd
def CdX (pr : Program) (wd : PySem.World) (K : PySem.W.Frag) (gl : Str → Option Value) (bas : Heap) (R : Orc) (k : Nat) (x : Str) (n : Nat) (S : SpX) : Prop :=
  ∃ (f : Addr) (fd : FuncData) (ps : List Str), FnX pr wd K gl bas k f fd ps (spX K gl R n S) ∧ gl x = some (.ref f) ∧ PySem.W.keepIn K (.ref f) = true ∧ Binds K fd ps []
theorem CdX.more {pr : Program} {wd : PySem.World} {K : PySem.W.Frag} {gl : Str → Option Value} {bas : Heap} {R : Orc} {j k : Nat} {x : Str} {n : Nat} {S : SpX} (C : CdX pr wd K gl bas R j x n S) (h : j ≤ k) : CdX pr wd K gl bas R k x n S := by
  obtain ⟨f, fd, ps, F, a, b, d⟩ := C
  exact ⟨f, fd, ps, F.more h, a, b, d⟩
/-- what a body says, with its exceptions -/
def rawX (g : (Exn → Env → Prop) → SM) (N : Nat) : SpX := fun as m P PX =>
  g (fun x ρ => match ρ[0]? with
    | some (Sl.ora m') => PX x m'
    | _ => as.head?.map isD ≠ some false ∧ PX x 0)
  ⟨fun (ρ : DL.Env) => match ρ[0]? with
    | some (Sl.ora m') => P .none m'
    | _ => as.head?.map isD ≠ some false ∧ P .none 0,
  fun (d : D) (ρ : DL.Env) => match ρ[0]? with
    | some (Sl.ora m') => P d m'
    | _ => as.head?.map isD ≠ some false ∧ P d 0, fun _ => False, fun _ => False⟩ (startE N as m)
theorem FnX.data {pr : Program} {wd : PySem.World} {K : PySem.W.Frag} {gl : Str → Option Value} {bas : Heap} {k n : Nat} {f : Addr} {x qual : Str} {st : Stmt} {fd : FuncData} {N ps : List Str} {R : Orc} {g : (Exn → Env → Prop) → SM} (F : L2.Fun K x qual st f fd) (Sc : FnScope N ps (defScope st)) (hn : n = ps.length)
    (body : ∀ (cdv : Value) (A : Around) (out : List PySem.Env) (sh : Shared) (H : Hp) (E : XK) (q : Option Addr) (F : Hp) (px : Exn → Env → Prop), A.guards = some [] → Room k (A.deeper (PyProof.Rows.envOfC qual (defScope st) sh.heap.objs.size f cdv)) →
      Takes (cxOf (L2.CX pr wd) pr wd K gl bas N qual (defScope st) f cdv A out sh H E) (wx gl ⟨K, R, q, F, H⟩ px) →
      PSs (cxOf (L2.CX pr wd) pr wd K gl bas N qual (defScope st) f cdv A out sh H E) (defBody st) (tS ⟨K, R, q, F, H⟩ (g px))) : FnX pr wd K gl bas (k + 1) f fd ps (spX K gl R n (rawX g N.length)) := by
  refine FnX.of F Sc (fun vs H Q E ⟨q, F0, as, m, P, PX, w, pa, hl, _⟩ => by rw [paired_len pa, hl, hn]) fun cdv A out sh H vs Q E hg hr ⟨q, F0, as, m, P, PX, w, pa, hl, ho, hq, hm, says, k0, kx⟩ => ?_
  have cnt : ∀ {ρ' : DL.Env} {σ' : L2.St} {F' H' : Hp} {xx : XX} {PP : Nat → Prop}, (match ρ'[0]? with
      | some (Sl.ora m') => PP m'
      | _ => as.head?.map isD ≠ some false ∧ PP 0) → Rel ⟨K, R, q, F0, H⟩ F' H' σ' ρ' xx → ∃ m', PP m' ∧ ∀ z, q = some z → R.cnt z H' ≤ m' := by
    intro ρ' σ' F' H' xx PP p r
    split at p
    · rename_i m' e
      obtain ⟨y, h1, _, h3⟩ := r.s.or 0 m' e
      refine ⟨m', p, fun z hz => ?_⟩
      have h1' : q = some y := h1
      rw [hz] at h1'
      cases h1'
      exact h3
    · obtain ⟨p1, p2⟩ := p
      have qn : q = none := hq.resolve_right fun z => p1 (by
        cases as with
        | nil => cases z
        | cons b t => cases z; rfl)
      exact ⟨0, p2, fun z hz => by rw [qn] at hz; cases hz⟩
  have fin : ∀ (d : D) (v : V) (ρ' : DL.Env) (σ' : L2.St) (F' H' : Hp), (match ρ'[0]? with
      | some (Sl.ora m') => P d m'
      | _ => as.head?.map isD ≠ some false ∧ P d 0) → Rel ⟨K, R, q, F0, H⟩ F' H' σ' ρ' [] → At K F' v d → Q v H' := by
    intro d v ρ' σ' F' H' p r a
    obtain ⟨m', h1, h2⟩ := cnt (PP := P d) p r
    exact k0 d m' v F' H' h1 r.w h2 a
  refine ⟨_, body cdv A out sh H E q F0 (fun x ρ => match ρ[0]? with
    | some (Sl.ora m') => PX x m'
    | _ => as.head?.map isD ≠ some false ∧ PX x 0) hg hr ?_, F0, _, [], _, rel_start w pa ho hm, says, ?_, ?_, ?_, ?_⟩
  · refine (takes_of (E := E) rfl rfl rfl rfl).imp fun cls dd σ H' ⟨F', ρ', xx, x, r, p, a⟩ => ?_
    obtain ⟨m', h1, h2⟩ := cnt (PP := PX x) p r
    exact kx x m' cls dd F' H' h1 r.w h2 a
  · exact fun ρ' σ' F' H' p e r => fin .none .non ρ' σ' F' H' p r .non
  · exact fun d v ρ' σ' F' H' p r a => fin d v ρ' σ' F' H' p r a
  · exact fun ρ' σ' F' H' p => p.elim
  · exact fun ρ' σ' F' H' p => p.elim
theorem Rel.bare {c : Cn} {F H : Hp} {σ : L2.St} {ρ : List Sl} {xx : XX} (r : Rel c F H σ ρ xx) : Rel c F H σ ρ [] :=
  ⟨r.w, ⟨r.s.len, r.s.im, r.s.ow, r.s.dj, r.s.or, r.s.ou, (fun _ hp => nomatch hp), List.nodup_nil⟩⟩
end DL
namespace DL
end DL
namespace DL
open PySem L2
end DL
namespace DL
open PySem PyProof.Rows L2 RZ
/-- how far both are gone -/
structure MixGone (z t u p q a b : Addr) (n : Nat) (h : Heap) : Prop where
  zip : IsZip h z t u .none
  its : IsPair h t (.ref p) (.ref q)
  two : ∃ x y, IsPair h u x y
  fst : h.IsTupleIter p a n
  snd : h.IsListIter q b n
theorem five {z t u p q c : Addr} {P : Addr → Prop} (hc : c ∈ [z, t, u, p, q]) (h1 : P z) (h2 : P t) (h3 : P u) (h4 : P p) (h5 : P q) : P c := by
  simp only [List.mem_cons, List.not_mem_nil, or_false] at hc
  rcases hc with rfl | rfl | rfl | rfl | rfl <;> assumption
theorem MixGone.there {z t u p q a b : Addr} {n : Nat} {h : Heap} (m : MixGone z t u p q a b n h) {c : Addr} (hc : c ∈ [z, t, u, p, q]) :
    ∃ o, h.get? c = some o ∧ ∀ v, o.data ≠ .cell v := by
  obtain ⟨k1, k2, ⟨x, y, k3⟩, ⟨o4, e4, _, f4⟩, ⟨o5, e5, _, f5⟩⟩ := m
  refine five (P := fun c => ∃ o, h.get? c = some o ∧ ∀ v, o.data ≠ .cell v) hc ⟨_, k1, ?_⟩ ⟨_, k2, ?_⟩ ⟨_, k3, ?_⟩ ⟨o4, e4, ?_⟩ ⟨o5, e5, ?_⟩
  · exact fun v e => nomatch e
  · exact fun v e => nomatch e
  · exact fun v e => nomatch e
  · exact fun v e => by
      rw [f4] at e
      cases e
  · exact fun v e => by
      rw [f5] at e
      cases e
theorem MixGone.lt {z t u p q a b : Addr} {n : Nat} {h : Heap} (m : MixGone z t u p q a b n h) {c : Addr} (hc : c ∈ [z, t, u, p, q]) : c < h.objs.size := by
  obtain ⟨o, e, _⟩ := m.there hc
  exact Heap.lt_size e
theorem MixGone.keep {z t u p q a b : Addr} {n : Nat} {h h' : Heap} (m : MixGone z t u p q a b n h) (k : ∀ c, c ∈ [z, t, u, p, q] → ∀ o, h.get? c = some o → h'.get? c = some o) : MixGone z t u p q a b n h' := by
  obtain ⟨k1, k2, ⟨x, y, k3⟩, k4, k5⟩ := m
  have kz := k z (by simp)
  have kt := k t (by simp)
  have ku := k u (by simp)
  have kp := k p (by simp)
  have kq := k q (by simp)
  exact ⟨kz _ k1, kt _ k2, ⟨x, y, ku _ k3⟩, k4.at kp, k5.at kq⟩
end DL
namespace DL
open PySem L2
end DL
namespace DL
open PySem PyProof.Rows L2
end DL
namespace DL
open PySem PyProof.Rows L2
end DL
namespace DL
open PySem PyProof.Rows L2
def CdD (pr : Program) (wd : PySem.World) (K : PySem.W.Frag) (gl : Str → Option Value) (bas : Heap) (R : Orc) (k : Nat) (x : Str) (n : Nat) (dds : List D) (S : SpD) : Prop :=
  ∃ (f : Addr) (fd : FuncData) (ps : List Str) (ds : List Value) (dvs : List V), FnG pr wd K gl bas k f fd ps (spD K R (n + dds.length) S) ∧ gl x = some (.ref f) ∧ PySem.W.keepIn K (.ref f) = true ∧ Binds K fd ps ds ∧ Vals dvs ds ∧ ∀ F, AtAll K F dvs dds
theorem CdD.more {pr : Program} {wd : PySem.World} {K : PySem.W.Frag} {gl : Str → Option Value} {bas : Heap} {R : Orc} {j k : Nat} {x : Str} {n : Nat} {dds : List D} {S : SpD} (C : CdD pr wd K gl bas R j x n dds S) (h : j ≤ k) : CdD pr wd K gl bas R k x n dds S := by
  obtain ⟨f, fd, ps, ds, dvs, F, a, b, d, e, u⟩ := C
  exact ⟨f, fd, ps, ds, dvs, F.more h, a, b, d, e, u⟩
end DL
namespace DL
open PySem L2
end DL
namespace DL
open PySem L2
section
variable {c : Cn} {F H : Hp} {σ : L2.St} {ρ : DL.Env} {xx yy : XX}
/-- a list of lists at A, its rows at as -/
structure Nest (K : PySem.W.Frag) (F : Hp) (A : Addr) (as : List Addr) (rows : List (List D)) : Prop where
  o : F A = some (.lst (as.map V.ref))
  n : as.length = rows.length
  r : ∀ (k : Nat) (a : Addr) (r : List D), as[k]? = some a → rows[k]? = some r → ∃ vs, F a = some (.lst vs) ∧ AtAll K F vs r
theorem Nest.mono {K : PySem.W.Frag} {F F' : Hp} {A : Addr} {as : List Addr} {rows : List (List D)} (h : Nest K F A as rows) (e : Ex F F') : Nest K F' A as rows :=
  ⟨e _ _ h.o, h.n, fun k a r h1 h2 => let ⟨vs, q1, q2⟩ := h.r k a r h1 h2; ⟨vs, e _ _ q1, q2.mono e⟩⟩
theorem rows_at {K : PySem.W.Frag} {F : Hp} : ∀ (as : List Addr) (rows : List (List D)), as.length = rows.length → (∀ (k : Nat) (a : Addr) (r : List D), as[k]? = some a → rows[k]? = some r → ∃ vs, F a = some (.lst vs) ∧ AtAll K F vs r) → AtAll K F (as.map V.ref) (rows.map PyData.list)
  | [], [], _, _ => .nil
  | [], _ :: _, h, _ => (by simp at h)
  | _ :: _, [], h, _ => (by simp at h)
  | a :: as, r :: rows, h, k => by
    obtain ⟨vs, q1, q2⟩ := k 0 a r rfl rfl
    exact .cons (.lst (.inl (.inl q1)) q2) (rows_at as rows (by simpa using h) fun j a r h1 h2 => k (j + 1) a r h1 h2)
theorem Nest.at {K : PySem.W.Frag} {F : Hp} {A : Addr} {as : List Addr} {rows : List (List D)} (h : Nest K F A as rows) : At K F (.ref A) (.list (rows.map PyData.list)) := .lst (.inl (.inl h.o)) (rows_at as rows h.n h.r)
end
end DL
namespace DL
open PySem L2
section
variable {K : PySem.W.Frag} {R : Orc} {F H : Hp} {v0 vc : V} {i j r w : Int} {s : Str} {rest : List D}
/-- the row at a, and all else -/
structure WI (K : PySem.W.Frag) (R : Orc) (F G Hw : Hp) (a U : Addr) (as : List Addr) (e : DL.Env) (σ : L2.St) (ds : List D) (H' : Hp) : Prop where
  x : ∃ F' us', Ex G F' ∧ Rel ⟨K, R, none, F, Hw⟩ F' H' σ e [(a, .o (.lst us'))] ∧ AtAll K F' us' ds
  u : H' U = some (.lst (as.map V.ref))
theorem WI.row {G Hw H' : Hp} {a U : Addr} {as : List Addr} {e : DL.Env} {σ : L2.St} {ds : List D} (h : WI K R F G Hw a U as e σ ds H') : ∃ us', H' a = some (.lst us') ∧ us'.length = ds.length := by
  obtain ⟨F', us', _, r, at_⟩ := h.x
  exact ⟨us', (r.s.ex (a, .o (.lst us')) (List.mem_cons_self ..)).1.o, at_.length⟩
theorem WI.put {G Hw H' : Hp} {a U : Addr} {as : List Addr} {e : DL.Env} {σ : L2.St} {ds : List D} {F2 : Hp} {us' : List V} {v : V} {d : D} {k : Nat} (hU : a ≠ U) (ef : Ex G F2) (r : Rel ⟨K, R, none, F, Hw⟩ F2 H' σ e [(a, .o (.lst us'))]) (ha : AtAll K F2 us' ds) (hu : H' U = some (.lst (as.map V.ref))) (hv : At K F2 v d) :
    WI K R F G Hw a U as e σ (ds.set k d) (upd H' a (.lst (us'.set k v))) :=
  ⟨⟨F2, us'.set k v, ef, r.mutX (show upd H' a _ a = _ from upd_same), ha.set hv k⟩, by rw [upd_ne (Ne.symm hU)]; exact hu⟩
end
section
variable {K : PySem.W.Frag} {R : Orc} {F H : Hp} {v0 vc : V} {i j r w : Int} {s : Str} {rest : List D} {Hw : Hp} {a U : Addr} {as : List Addr} {x : Option V} {ds : List D} {Z : Ends}
theorem WI.step {G : Hp} {F2 H2 : Hp} {us : List V} {e : DL.Env} {σ : L2.St} (hw : Hw U = some (.lst (as.map V.ref))) (ef : Ex G F2) (r2 : Rel ⟨K, R, none, F, Hw⟩ F2 H2 σ e [(a, .o (.lst us))]) (ha : AtAll K F2 us ds) : WI K R F G Hw a U as e σ ds H2 :=
  ⟨⟨F2, us, ef, r2, ha⟩, (r2.w.kp U _ hw fun z => z).1⟩
end
end DL
namespace DL
open PySem L2
end DL
namespace DL
open PySem L2
end DL
namespace DL
open PySem L2
end DL
namespace DL
open PySem L2 PyProof.Rows
/-- p, of the class cls, has been caught where the slots are σ and the heap is H -/
structure Catch (X : Cx) (pins : List (Addr × Obj)) (p : Addr) (cls : Value) (d : Option Addr) (σ : L2.St) (H : Hp) (s : Shared) : Prop where
  ok : X.Ok
  new : H p = none
  air : ∃ (B : Heap) (sI : Shared), Inv X pins σ H sI ∧ (∀ b o, sI.heap.get? b = some o → b ∉ frs X.stack → B.get? b = some o) ∧ sI.heap.UpToSlots s.heap ∧ s.os = sI.os ∧ AllBare s.gens ∧ HandSPX.FlyingZ B X.stack p (Zc cls d) s.heap
theorem frs_local {X : Cx} (hs : X.stack = X.env :: X.outer) (hf : X.env.frame = some X.env.locals) : frs X.stack = X.env.locals :: X.fs := by
  rw [hs]
  exact List.filterMap_cons_some hf
section
variable {X : Cx} {pins : List (Addr × Obj)} {p : Addr} {cls : Value} {d : Option Addr} {σ : L2.St} {H : Hp} {s : Shared} {D : Ends}
namespace Catch
theorem inv (c : Catch X pins p cls d σ H s) : Inv X pins σ H s := c.air.elim fun _ q => q.elim fun _ ⟨I, nb, up, os, ag, fl⟩ => I.landed nb fl.1 up os ag
/-- it is no frame of the stack, and it is new to the heap ahead -/
theorem out (c : Catch X pins p cls d σ H s) : p ∉ frs X.stack := fun m => by
  obtain ⟨B, sI, I, nb, up, os, ag, fl⟩ := c.air
  obtain ⟨ob, vs, e, _, hd⟩ := fl.there
  obtain ⟨o', o2, e2, q⟩ := fl.2.2.1.mem m
  cases Option.some.inj (e.symm.trans e2)
  exact q vs hd
theorem fresh (c : Catch X pins p cls d σ H s) : X.ex = [] → X.s_0.heap.get? p = none ∧ ∀ q ∈ X.pn ++ pins, q.1 ≠ p := by
  intro hx
  have out := c.out
  obtain ⟨B, sI, I, nb, up, os, ag, fl⟩ := c.air
  have unseen : ∀ o, sI.heap.get? p ≠ some o := fun o e => by
    have z := (nb p o e out).symm.trans fl.2.1
    cases z
  constructor
  · refine Option.eq_none_iff_forall_not_mem.mpr fun o e => ?_
    obtain ⟨o2, q⟩ := I.base.there p o e (by rw [hx]; exact List.not_mem_nil)
    exact unseen o2 q
  · exact fun q m z => unseen q.2 (z ▸ (I.pin q m).1)
/-- the context in which a suite runs -/
theorem held (c : Catch X pins p cls d σ H s) (hs : X.stack = X.env :: X.outer) (hf : X.env.frame = some X.env.locals) : p ≠ X.env.locals ∧ p ∉ X.fs ∧ ∃ ob, s.heap.get? p = some ob ∧ Zc cls d ob ∧ (∃ vs, ob.data = .fields vs) ∧ Inv (X.suite p ((p, ob) :: (X.pn ++ pins))) [] σ H s := by
  have out := c.out
  rw [frs_local hs hf] at out
  obtain ⟨n1, n2⟩ := List.ne_and_not_mem_of_not_mem_cons out
  obtain ⟨B, sI, I, nb, up, os, ag, fl⟩ := id c.air
  obtain ⟨ob, vs, e, z, hd⟩ := fl.there
  exact ⟨n1, n2, ob, e, z, ⟨vs, hd⟩, c.inv.suite e hd c.new n1 n2⟩
/-- a clause's class is read -/
theorem reads {x : Str} {v : Value} {np : Pos} {Q E : Value → Shared → Prop} (c : Catch X pins p cls d σ H s) (hs : X.stack = X.env :: X.outer) (hf : X.env.frame = some X.env.locals) (hc : Names X x v) (q : Q v s) : wpAny (model X.prog X.w) (X.A.mark (some (.ref p))) (eval (.Name x np) X.env) Q E s := by
  obtain ⟨_, _, ob, _, _, _, S⟩ := c.held hs hf
  rcases hc with ⟨g, nd, m | ⟨m, b, nn⟩⟩
  · exact ld_glob (X := X.suite p ((p, ob) :: (X.pn ++ pins))) S g m q nd
  · exact ld_blt (X := X.suite p ((p, ob) :: (X.pn ++ pins))) S g m b q nn nd
end Catch
end
end DL
namespace DL
open PySem L2 PyProof.Rows
end DL
namespace DL
open PySem L2 PyProof.Rows
end DL
namespace DL
open PySem L2
def CdXD (pr : Program) (wd : PySem.World) (K : PySem.W.Frag) (gl : Str → Option Value) (bas : Heap) (R : Orc) (k : Nat) (x : Str) (n : Nat) (dds : List D) (S : SpX) : Prop :=
  ∃ (f : Addr) (fd : FuncData) (ps : List Str) (ds : List Value) (dvs : List V), FnX pr wd K gl bas k f fd ps (spX K gl R (n + dds.length) S) ∧ gl x = some (.ref f) ∧ PySem.W.keepIn K (.ref f) = true ∧ Binds K fd ps ds ∧ Vals dvs ds ∧ ∀ F, AtAll K F dvs dds
theorem CdXD.more {pr : Program} {wd : PySem.World} {K : PySem.W.Frag} {gl : Str → Option Value} {bas : Heap} {R : Orc} {j k : Nat} {x : Str} {n : Nat} {dds : List D} {S : SpX} (C : CdXD pr wd K gl bas R j x n dds S) (h : j ≤ k) : CdXD pr wd K gl bas R k x n dds S := by
  obtain ⟨f, fd, ps, ds, dvs, F, a, b, d, e, u⟩ := C
  exact ⟨f, fd, ps, ds, dvs, F.more h, a, b, d, e, u⟩
end DL
namespace DL
open PySem L2
end DL
namespace DL
open PySem L2 PySem.Spec PyProof.Rows
mutual
def nkD : D → Option NestedKey
  | .none => some .none
  | .int i => some (.num i)
  | .str x => some (.text x)
  | .tuple ds => (nkAll ds).map .tup
  | _ => none
def nkAll : List D → Option (List NestedKey)
  | [] => some []
  | d :: ds => match nkD d, nkAll ds with
    | some k, some ks => some (k :: ks)
    | _, _ => none
end
theorem nkAll_cons {d : D} {ds : List D} {ks : List NestedKey} (h : nkAll (d :: ds) = some ks) : ∃ k ks', nkD d = some k ∧ nkAll ds = some ks' ∧ ks = k :: ks' := by
  unfold nkAll at h
  split at h
  · rename_i k ks' h1 h2
    cases h
    exact ⟨k, ks', h1, h2, rfl⟩
  · cases h
mutual
theorem nk_inj : ∀ (d e : D) (k : NestedKey), nkD d = some k → nkD e = some k → d = e
  | .none, e, k, h1, h2 => by
    cases (show some NestedKey.none = some k from h1)
    cases e with
    | none => rfl
    | bool b => cases (show (none : Option NestedKey) = some _ from h2)
    | int i => cases (show some (NestedKey.num i) = some .none from h2)
    | str x => cases (show some (NestedKey.text x) = some .none from h2)
    | list xs => cases (show (none : Option NestedKey) = some _ from h2)
    | dict xs => cases (show (none : Option NestedKey) = some _ from h2)
    | tuple xs =>
      obtain ⟨ks, _, z⟩ := Option.map_eq_some_iff.mp (show (nkAll xs).map NestedKey.tup = some _ from h2)
      cases z
  | .bool b, e, k, h1, h2 => by cases (show (none : Option NestedKey) = some _ from h1)
  | .list xs, e, k, h1, h2 => by cases (show (none : Option NestedKey) = some _ from h1)
  | .dict xs, e, k, h1, h2 => by cases (show (none : Option NestedKey) = some _ from h1)
  | .int i, e, k, h1, h2 => by
    cases (show some (NestedKey.num i) = some k from h1)
    cases e with
    | none => cases (show some NestedKey.none = some (.num i) from h2)
    | bool b => cases (show (none : Option NestedKey) = some _ from h2)
    | int j => cases (show some (NestedKey.num j) = some (.num i) from h2); rfl
    | str x => cases (show some (NestedKey.text x) = some (.num i) from h2)
    | list xs => cases (show (none : Option NestedKey) = some _ from h2)
    | dict xs => cases (show (none : Option NestedKey) = some _ from h2)
    | tuple xs =>
      obtain ⟨ks, _, z⟩ := Option.map_eq_some_iff.mp (show (nkAll xs).map NestedKey.tup = some _ from h2)
      cases z
  | .str x, e, k, h1, h2 => by
    cases (show some (NestedKey.text x) = some k from h1)
    cases e with
    | none => cases (show some NestedKey.none = some (.text x) from h2)
    | bool b => cases (show (none : Option NestedKey) = some _ from h2)
    | int j => cases (show some (NestedKey.num j) = some (.text x) from h2)
    | str y => cases (show some (NestedKey.text y) = some (.text x) from h2); rfl
    | list xs => cases (show (none : Option NestedKey) = some _ from h2)
    | dict xs => cases (show (none : Option NestedKey) = some _ from h2)
    | tuple xs =>
      obtain ⟨ks, _, z⟩ := Option.map_eq_some_iff.mp (show (nkAll xs).map NestedKey.tup = some _ from h2)
      cases z
  | .tuple xs, e, k, h1, h2 => by
    obtain ⟨ks, h1', rfl⟩ := Option.map_eq_some_iff.mp (show (nkAll xs).map NestedKey.tup = some _ from h1)
    cases e with
    | none => cases (show some NestedKey.none = some (.tup ks) from h2)
    | bool b => cases (show (none : Option NestedKey) = some _ from h2)
    | int j => cases (show some (NestedKey.num j) = some (.tup ks) from h2)
    | str y => cases (show some (NestedKey.text y) = some (.tup ks) from h2)
    | list xs => cases (show (none : Option NestedKey) = some _ from h2)
    | dict xs => cases (show (none : Option NestedKey) = some _ from h2)
    | tuple ys =>
      obtain ⟨ks', h2', z⟩ := Option.map_eq_some_iff.mp (show (nkAll ys).map NestedKey.tup = some _ from h2)
      cases z
      rw [nkAll_inj xs ys ks h1' h2']
theorem nkAll_inj : ∀ (ds es : List D) (ks : List NestedKey), nkAll ds = some ks → nkAll es = some ks → ds = es
  | [], [], _, _, _ => rfl
  | [], e :: es, ks, h1, h2 => by
    obtain ⟨_, _, _, _, rfl⟩ := nkAll_cons h2
    cases (show some ([] : List NestedKey) = some _ from h1)
  | d :: ds, [], ks, h1, h2 => by
    obtain ⟨_, _, _, _, rfl⟩ := nkAll_cons h1
    cases (show some ([] : List NestedKey) = some _ from h2)
  | d :: ds, e :: es, ks, h1, h2 => by
    obtain ⟨k, ks', a1, a2, rfl⟩ := nkAll_cons h1
    obtain ⟨k', ks'', b1, b2, z⟩ := nkAll_cons h2
    cases z
    rw [nk_inj d e k a1 b1, nkAll_inj ds es ks' a2 b2]
end
section
variable {X : Cx} {pins : List (Addr × Obj)} {σ : L2.St} {H F : Hp} {s : Shared}
mutual
theorem nk_is (I : Inv X pins σ H s) (e : Ex F H) : ∀ (d : D) (v : V) (u : Value) (k : NestedKey), At X.K F v d → nkD d = some k → RelV v u → NestedIs s.heap k u
  | .none, v, u, k, a, h, r => by
    cases (show some NestedKey.none = some k from h)
    cases a
    cases (show u = Value.none from r)
    exact .none
  | .bool b, v, u, k, a, h, r => by cases (show (none : Option NestedKey) = some _ from h)
  | .list xs, v, u, k, a, h, r => by cases (show (none : Option NestedKey) = some _ from h)
  | .dict xs, v, u, k, a, h, r => by cases (show (none : Option NestedKey) = some _ from h)
  | .int i, v, u, k, a, h, r => by
    cases (show some (NestedKey.num i) = some k from h)
    cases a
    (obtain ⟨t, rfl⟩ := (show ∃ t, u = Value.int i t from r))
    exact .int i t
  | .str x, v, u, k, a, h, r => by
    cases (show some (NestedKey.text x) = some k from h)
    cases a
    (obtain ⟨t, rfl⟩ := (show ∃ t, u = Value.str x t from r))
    exact .text x t
  | .tuple ds, v, u, k, a, h, r => by
    obtain ⟨ks, h', rfl⟩ := Option.map_eq_some_iff.mp (show (nkAll ds).map NestedKey.tup = some _ from h)
    cases a with
    | tup sq al =>
      rename_i p xs
      cases (show u = Value.ref p from r)
      obtain ⟨its, rv, ⟨o, ho, hc, n, hd⟩, _⟩ := I.tuple (e.st sq)
      exact .tup ho hc hd (nkAll_is I e ds xs its ks al h' rv)
theorem nkAll_is (I : Inv X pins σ H s) (e : Ex F H) : ∀ (ds : List D) (vs : List V) (us : List Value) (ks : List NestedKey), AtAll X.K F vs ds → nkAll ds = some ks → Vals vs us → NestedAll s.heap ks us
  | [], vs, us, ks, a, h, r => by
    cases (show some ([] : List NestedKey) = some _ from h)
    cases a
    cases r
    exact .nil
  | d :: ds, vs, us, ks, a, h, r => by
    obtain ⟨k, ks', h1, h2, rfl⟩ := nkAll_cons h
    cases a with
    | cons ad al =>
      cases r with
      | cons r1 r2 => exact .cons (nk_is I e d _ _ k ad h1 r1) (nkAll_is I e ds _ _ ks' al h2 r2)
end
end
abbrev NE (β : Type) := NestedKey × Addr × β
def ndE (w : PySem.World) (x : NE Value) : DictEntry := ⟨x.1.hash w, .ref x.2.1, x.2.2⟩
def PV : NE V → NE Value → Prop := fun p q => p.1 = q.1 ∧ p.2.1 = q.2.1 ∧ RelV p.2.2 q.2.2
def NDV (w : PySem.World) (a : Addr) (xs : List (NE V)) (h : Heap) : Prop := xs.length ≤ sizeLine ∧ (a == sysModules) = false ∧ ∃ vs, Paired PV xs vs ∧ ∃ o es ep, h.get? a = some o ∧ o.ExactDict ∧ o.data = .dict es ep ∧ es.toList = vs.map (ndE w) ∧ (vs.map (·.1)).Nodup
def NDO (w : PySem.World) (a : Addr) (xs : List (NE V)) : HO := .ext (NDV w a xs)
/-- a datum whose object is a key -/
def KeyAt (K : PySem.W.Frag) (F : Hp) (b : Addr) (k : NestedKey) (d : D) : Prop := At K F (.ref b) d ∧ nkD d = some k ∧ k.depth ≤ 8
def KeysAt (K : PySem.W.Frag) (F : Hp) (xs : List (NE V)) : Prop := ∀ p ∈ xs, ∃ d, KeyAt K F p.2.1 p.1 d
theorem paired_mem {α β : Type} {R : α → β → Prop} : ∀ {xs : List α} {ys : List β} {y : β}, Paired R xs ys → y ∈ ys → ∃ x ∈ xs, R x y
  | _, _, _, .nil, h => nomatch h
  | x :: xs, z :: ys, y, .cons r t, h => by
    (rcases List.mem_cons.mp h with rfl | h)
    · exact ⟨x, List.mem_cons_self .., r⟩
    · obtain ⟨x', m, q⟩ := paired_mem t h
      exact ⟨x', List.mem_cons_of_mem _ m, q⟩
theorem nd_dict {X : Cx} {pins : List (Addr × Obj)} {σ : L2.St} {H F : Hp} {s : Shared} {a : Addr} {xs : List (NE V)} (I : Inv X pins σ H s) (e : Ex F H) (h : H a = some (NDO X.w a xs)) (hk : KeysAt X.K F xs) :
    xs.length ≤ sizeLine ∧ (a == sysModules) = false ∧ ∃ vs, Paired PV xs vs ∧ s.heap.DictOfH (nestedKind X.prog X.w) a vs := by
  obtain ⟨⟨z, hd, vs, pp, o, es, ep, ho, h1, h2, h3, h4⟩, _⟩ := (show ObjOk X.prog X.w H s.heap a (NDO X.w a xs) from I.hok a _ h)
  refine ⟨z, hd, vs, pp, o, es, ep, ho, h1, h2, h3, fun q hq => ?_, h4⟩
  obtain ⟨p, mp, e1, e2, _⟩ := paired_mem pp hq
  obtain ⟨d, a1, a2, a3⟩ := hk p mp
  rw [← e1, ← e2]
  exact ⟨nk_is I e d _ _ _ a1 a2 rfl, a3⟩
def valN (xs : List (NE V)) (k : NestedKey) : Option V := (xs.find? fun p => decide (p.1 = k)).map (·.2.2)
theorem paired_val {k : NestedKey} : ∀ {xs : List (NE V)} {vs : List (NE Value)}, Paired PV xs vs → RelO (valN xs k) ((atKey vs k).map (·.2))
  | _, _, .nil => True.intro
  | p :: ps, q :: qs, .cons ⟨h1, _, h2⟩ t => by
    by_cases e : p.1 = k
    · (have e' : q.1 = k := h1.symm.trans e)
      (have b : atKey (q :: qs) k = some q.2 := by simp [atKey, List.find?_cons, e'])
      have a : valN (p :: ps) k = some p.2.2 := by simp [valN, List.find?_cons, e]
      rw [a, b]
      exact h2
    · (have e' : ¬ q.1 = k := fun z => e (h1.trans z))
      (have b : atKey (q :: qs) k = atKey qs k := by simp [atKey, List.find?_cons, e'])
      have a : valN (p :: ps) k = valN ps k := by simp [valN, List.find?_cons, e]
      rw [a, b]
      exact paired_val t
theorem valN_some {xs : List (NE V)} {k : NestedKey} {v : V} (h : valN xs k = some v) : ∃ p ∈ xs, p.1 = k ∧ p.2.2 = v := by
  obtain ⟨p, hp, rfl⟩ := Option.map_eq_some_iff.mp h
  exact ⟨p, List.mem_of_find?_eq_some hp, by simpa using List.find?_some hp, rfl⟩
def rNotN (K : PySem.W.Frag) (w : PySem.World) : R2 := fun x y H Q => ∃ a b xs k d F, x = .ref b ∧ y = .ref a ∧ H a = some (NDO w a xs) ∧ Ex F H ∧ KeysAt K F xs ∧ KeyAt K F b k d ∧ Q (.bl (!(valN xs k).isSome)) H
section
variable {X : Cx} {od kx vx : PySem.Expr} {pos pos' : Pos} {td ty tv : TE}
theorem nd_room {A : Around} (hu : A.units + 64 < cLine) {P : Program} {w : PySem.World} : (nestedKind P w).room A.in1 := by
  show A.units + 1 + 8 < cLine
  omega
theorem op_notN (hu : X.A.units + 64 < cLine) : OpR X (compareOp .NotIn) (rNotN X.K X.w) := by
  rintro pins s σ H x y v u Q I rx ry ⟨a, b, xs, k, d, F, rfl, rfl, h, ex, hk, ⟨k1, k2, k3⟩, q⟩
  cases (show v = Value.ref b from rx)
  (cases (show u = Value.ref a from ry))
  obtain ⟨z, hd, vs, pp, dd⟩ := nd_dict I ex h hk
  refine wpAny_notIn_heap (nd_room hu) (k := k) ⟨nk_is I ex d _ _ _ k1 k2 rfl, k3⟩ hd dd ?_
  have qq := (paired_val (k := k) pp).isSome_eq
  rw [Option.isSome_map] at qq
  rw [← qq]
  exact ⟨.bl (!(valN xs k).isSome), H, I.tok _, rfl, q⟩
end
end DL
namespace DL
open PySem L2
section
variable {rs : SpD} {c : Cn} {w : PySem.World} {F H : Hp} {v0 v1 v2 : V} {a : Addr} {sc co : D} {ths : List D} {g : D → D}
/-- what the dict tells -/
def ThOk (K : PySem.W.Frag) (F : Hp) (g : D → D) (xs : List (NE V)) : Prop := ∀ p ∈ xs, ∃ d, KeyAt K F p.2.1 p.1 d ∧ At K F p.2.2 (g d)
theorem ThOk.mono {K : PySem.W.Frag} {F' : Hp} {xs : List (NE V)} (e : Ex F F') (h : ThOk K F g xs) : ThOk K F' g xs := fun p hp => let ⟨d, ⟨a, b, c⟩, z⟩ := h p hp; ⟨d, ⟨a.mono e, b, c⟩, z.mono e⟩
theorem ThOk.val {K : PySem.W.Frag} {xs : List (NE V)} {k : NestedKey} {v : V} {d : D} (h : ThOk K F g xs) (e : valN xs k = some v) (hk : nkD d = some k) : At K F v (g d) := by
  obtain ⟨p, mp, rfl, rfl⟩ := valN_some e
  obtain ⟨d', ⟨_, q, _⟩, z⟩ := h p mp
  rw [nk_inj d d' _ hk q]
  exact z
end
end DL
namespace DL
open PySem L2 PySem.Spec PyProof.Rows
end DL
namespace DL
open PySem L2 PySem.Spec PyProof.Rows
end DL
namespace DL
open PySem L2
end DL
namespace DL
open PySem L2
def rgOk (a b : Int) : Prop := -1000000 ≤ a ∧ a ≤ 1000000 ∧ -1000000 ≤ b ∧ b ≤ 1000000
theorem rgOk.ok {a b : Int} (h : rgOk a b) : RgOk a b := by
  obtain ⟨h1, h2, h3, h4⟩ := h
  exact ⟨by omega, by omega, by omega, by omega, by omega⟩
end DL
namespace DL
open PySem L2
end DL
namespace DL.Am
open PySem L2 DL
end DL.Am
namespace DL.Lz
open PySem Sem
section
variable {prog : Program} {w : PySem.World} {A : Around} {E : Value → Shared → Prop} {s : Shared} {z t u p q : Addr} {fa fb : List Addr} {na nb i : Nat} {Pa Pb : Nat → Value → Prop} {Sa Sb : Nat → Heap → Prop}
/-- where a zip stands: its parts, and no pair out or one that is alive -/
structure Zat (z t u p q L : Addr) (Sa Sb : Nat → Heap → Prop) (i : Nat) (h : Heap) : Prop where
  its : IsPair h t (.ref p) (.ref q)
  a : Sa i h
  b : Sb i h
  z : (IsZip h z t u .none ∧ ∃ x y, IsPair h u x y) ∨ ∃ (T : Addr) (f : Bool) (oT : Obj), IsZipHeld h z t u T f ∧ h.get? T = some oT ∧ T ≠ z ∧ T ≠ p ∧ T ≠ q ∧ T ≠ L
theorem Zat.keep {L : Addr} {h h' : Heap} {prog : Program} {w : PySem.World} {A : Around} (S : ZipSep2 z t u p q fa fb) (Da : Draws prog w A p fa na Pa Sa) (Db : Draws prog w A q fb nb Pb Sb) (st : Zat z t u p q L Sa Sb i h) (k : ∀ b o, b ≠ L → h.get? b = some o → h'.get? b = some o) (nz : L ≠ z) (nt : L ≠ t) (nu : L ≠ u) (na' : L ∉ fa) (nb' : L ∉ fb) : Zat z t u p q L Sa Sb i h' := by
  refine ⟨k _ _ (Ne.symm nt) st.its, Da.frame _ _ _ st.a fun b hb o e => k b o (fun x => na' (x ▸ hb)) e, Db.frame _ _ _ st.b fun b hb o e => k b o (fun x => nb' (x ▸ hb)) e, ?_⟩
  rcases st.z with ⟨hz, x0, y0, hu⟩ | ⟨T, f, oT, hz, hT, t1, t2, t3, t4⟩
  · exact .inl ⟨k _ _ (Ne.symm nz) hz, x0, y0, k _ _ (Ne.symm nu) hu⟩
  · exact .inr ⟨T, f, oT, k _ _ (Ne.symm nz) hz, k _ _ t4 hT, t1, t2, t3, t4⟩
end
end DL.Lz
namespace DL.Lz
open PySem PyProof.Rows L2 RZ
end DL.Lz
namespace DL
open PySem L2 PyProof.Rows
end DL
namespace DL.Lz
open PySem Sem PyProof.Rows L2 RZ
abbrev IsZf (h : Heap) (z t u : Addr) (v : Value) (f : Bool) : Prop := h.get? z = some { cls := .type "zip", dict := none, data := .fields #[v, .bool f, .bool false, .ref t, .ref u], slots := #[] }
section
variable {prog : Program} {w : PySem.World} {A : Around} {E : Value → Shared → Prop} {s : Shared} {z t u p q : Addr} {fa fb : List Addr} {na nb i : Nat} {Pa Pb : Nat → Value → Prop} {Sa Sb : Nat → Heap → Prop} {x0 y0 v : Value} {f : Bool}
/-- fresh, or with a pair out of which nothing is known -/
def Zn (z t u : Addr) (h : Heap) : Prop := ∃ v f, IsZf h z t u v f ∧ (v = .none ∨ ∃ T : Addr, v = rawInt T)
end
/-- how far both are gone -/
structure NmGone (z t u p q a b : Addr) (n : Nat) (h : Heap) : Prop where
  zip : Zn z t u h
  its : IsPair h t (.ref p) (.ref q)
  two : ∃ x y, IsPair h u x y
  fst : h.IsTupleIter p a n
  snd : h.IsTupleIter q b n
section
variable {z t u p q a b : Addr} {n : Nat} {h h' : Heap}
theorem NmGone.there (m : NmGone z t u p q a b n h) {c : Addr} (hc : c ∈ [z, t, u, p, q]) : ∃ o, h.get? c = some o ∧ ∀ v, o.data ≠ .cell v := by
  obtain ⟨⟨v1, f1, k1, _⟩, k2, ⟨x, y, k3⟩, ⟨o4, e4, _, f4⟩, ⟨o5, e5, _, f5⟩⟩ := m
  refine five (P := fun c => ∃ o, h.get? c = some o ∧ ∀ v, o.data ≠ .cell v) hc ⟨_, k1, nofun⟩ ⟨_, k2, nofun⟩ ⟨_, k3, nofun⟩ ⟨o4, e4, fun v e => ?_⟩ ⟨o5, e5, fun v e => ?_⟩
  · rw [f4] at e
    cases e
  · rw [f5] at e
    cases e
end
end DL.Lz
namespace DL
open PySem L2 PyProof.Rows
def Zk (H : Hp) (v : V) : Prop := ∃ (a : Addr) (o : Obj) (u : HO), v = .ref a ∧ H a = some (.frz o u) ∧ o.cls = .type "tuple" ∧ o.dict = none
/-- what a def promises that hands out such a tuple -/
def spZ (K : PySem.W.Frag) (R : Orc) (n : Nat) (S : SpD) : Sp := fun vs H Q _ => ∃ (q : Option Addr) (F : Hp) (as : List Ar) (m : Nat) (P : D → Nat → Prop), World R q F H F H ∧ Paired (ArAt ⟨K, R, q, F, H⟩ F) vs as ∧ as.length = n ∧ oraAt as ∧ (q = none ∨ as[0]? = some .ora) ∧ (∀ p, q = some p → R.cnt p H ≤ m) ∧ S as m P ∧
  ∀ d m' v F' H', P d m' → World R q F H F' H' → (∀ p, q = some p → R.cnt p H' ≤ m') → At K F' v d → Zk H' v → Q v H'
def CdZ (pr : Program) (wd : PySem.World) (K : PySem.W.Frag) (gl : Str → Option Value) (bas : Heap) (R : Orc) (k : Nat) (x : Str) (n : Nat) (S : SpD) : Prop :=
  ∃ (f : Addr) (fd : FuncData) (ps : List Str), FnG pr wd K gl bas k f fd ps (spZ K R n S) ∧ gl x = some (.ref f) ∧ PySem.W.keepIn K (.ref f) = true ∧ Binds K fd ps []
section
variable {pr : Program} {wd : PySem.World} {K : PySem.W.Frag} {gl : Str → Option Value} {bas : Heap} {R : Orc} {j k n : Nat} {x : Str} {S : SpD}
theorem CdZ.more (C : CdZ pr wd K gl bas R j x n S) (h : j ≤ k) : CdZ pr wd K gl bas R k x n S := by
  obtain ⟨f, fd, ps, F, rest⟩ := C
  exact ⟨f, fd, ps, F.more h, rest⟩
end
end DL
namespace DL.Ms
open PySem L2 PySem.Spec PyProof.Rows
end DL.Ms
namespace DL
open PySem L2 PySem.Spec PyProof.Rows
end DL
namespace DL
open PySem L2
end DL
namespace DL
open PySem L2
end DL
namespace DL
open PySem L2 PyProof.Rows
abbrev TD := List (List Key × D)
/-- what stands in the heap's dict, entry by entry -/
def TAt (K : PySem.W.Frag) (F : Hp) (kvs : List (List Key × V)) (xs : TD) : Prop := Paired (fun (p : List Key × V) (q : List Key × D) => p.1 = q.1 ∧ At K F p.2 q.2) kvs xs
section
variable {K : PySem.W.Frag} {F F' H : Hp} {a : Addr}
theorem TAt.mono (e : Ex F F') {kvs : List (List Key × V)} {xs : TD} (h : TAt K F kvs xs) : TAt K F' kvs xs := by
  unfold TAt at h ⊢
  induction h with
  | nil => exact .nil
  | cons h t ih => exact .cons ⟨h.1, h.2.mono e⟩ ih
end
end DL
namespace DL
open PySem L2
end DL
namespace DL
open PySem L2
section
variable {X : Cx} {c : Cn}
/-- arguments, some of them slots -/
abbrev Ar2 := Ar ⊕ Nat
abbrev AM2 := Env → (List Ar2 → Env → Prop) → Prop
def A2At (c : Cn) (F : Hp) (σ : L2.St) : V → Ar2 → Prop
  | v, .inl x => ArAt c F v x
  | v, .inr i => σ[i]? = some (some v)
theorem A2At.mono {F F' : Hp} {σ : L2.St} (e : Ex F F') {v : V} {x : Ar2} (h : A2At c F σ v x) : A2At c F' σ v x := by
  cases x with
  | inl x => exact ArAt.mono e h
  | inr i => exact h
variable {e : Expr} {es : List Expr}
variable {k : Nat} {f : Addr} {fd : FuncData} {ps : List Str} {S : SpD} {x : Str} {p pos : Pos} {fa : AM2} {n i : Nat}
end
end DL
namespace DL
open PySem L2
end DL
namespace DL
open PySem L2
end DL
namespace DL
open PySem L2 PyProof.Rows
end DL
namespace Q79
open PySem L2 DL
/-- the law's numbers: some integer below the total -/
def s_next : SpD := fun as m P => ∃ n : Int, as = [.ora, .d (.int n)] ∧ 0 < n ∧ n < 1073741824 ∧ m < 1048576 ∧ ∀ i : Int, 0 ≤ i → i < n → P (.int i) (m + 1)
/-- is_integer(thing), slots 0 thing -/
def g_is_integer : SM := sRet (dAnd (dIsi "int" (hS 0)) (dNot (dIsi "bool" (hS 0))))
def r_is_integer : SpD := raw g_is_integer 1
/-- is_within(thing, least, most), slots 0 thing 1 least 2 most -/
def g_is_within : SM := sRet (dAnd (dCall 1 r_is_integer (aCons (dV 0) (aNil))) (dChain gLe gLe (hS 1) (hS 0) (hS 2)))
def r_is_within : SpD := raw g_is_within 3
/-- is_tuple(thing, least, most), slots 0 thing 1 least 2 most -/
def g_is_tuple : SM := sRet (dAnd (dIsi "tuple" (hS 0)) (dChain gLe gLe (hS 1) (hV (dCB gLen (DL.gCons (hS 0) (DL.gNil)))) (hS 2)))
def r_is_tuple : SpD := raw g_is_tuple 3
/-- is_one_of(thing, words), slots 0 thing 1 words -/
def g_is_one_of : SM := sRet (dAnd (dIsi "str" (hS 0)) (d2 gInU (hS 0) (hS 1)))
def r_is_one_of : SpD := raw g_is_one_of 2
/-- _is_step(thing), slots 0 thing -/
def g__is_step : SM := sSeq (sIf (bOr (bNot (bTruth (hV (dCall 3 r_is_tuple (aCons (dV 0) (aCons (dC (.int 3)) (aCons (dC (.int 3)) (aNil)))))))) (bNot (bTruth (hV (dCall 2 r_is_one_of (aCons (d2 gIx (hS 0) (hV (dC (.int 2)))) (aCons (dC (.tuple ([("down" : Str), ("up" : Str), ("near" : Str)].map PyData.str))) (aNil)))))))) (sRet (dC (.bool false))) (sNo)) (sRet (dAnd (dCall 3 r_is_within (aCons (d2 gIx (hS 0) (hV (dC (.int 0)))) (aCons (dC (.int 1)) (aCons (dC (.int 2000)) (aNil))))) (dCall 3 r_is_within (aCons (d2 gIx (hS 0) (hV (dC (.int 1)))) (aCons (dC (.int 1)) (aCons (dC (.int 2000)) (aNil)))))))
def r__is_step : SpD := raw g__is_step 1
/-- need_chain(thing), slots 0 thing 1 product 2 number 3 step -/
def g_need_chain : SM := sSeq (sIf (bNot (bTruth (hV (dCall 3 r_is_tuple (aCons (dV 0) (aCons (dC (.int 0)) (aCons (dC (.int 4)) (aNil)))))))) (sNever) (sNo)) (sSeq (sSet 1 (dC (.int 1))) (sSeq (sFor (iEn (lCons (dV 0) (lNil))) (gTupT 2 (gConsT (gN 2) (gConsT (gN 3) (gNoT)))) (sSeq (sIf (bNot (bTruth (hV (dCall 1 r__is_step (aCons (dV 3) (aNil)))))) (sNever) (sNo)) (sSeq (sAug 1 gImul (hV (d2 gIx (hS 3) (hV (dC (.int 1)))))) (sIf (bD (d2 gGt (hS 1) (hV (dC (.int 100000))))) (sNever) (sNo))))) (sRet (dV 0))))
def r_need_chain : SpD := raw g_need_chain 4
/-- _quotient(top, bottom, rounding), slots 0 top 1 bottom 2 rounding -/
def g__quotient : SM := sSeq (sIf (bD (d2 gEq (hS 2) (hV (dC (.str ("up" : Str)))))) (sRet (dNeg (d2 gDiv (hV (dNeg (dV 0))) (hS 1)))) (sNo)) (sSeq (sIf (bD (d2 gEq (hS 2) (hV (dC (.str ("near" : Str)))))) (sRet (d2 gDiv (hV (d2 gAdd (hV (d2 gMul (hV (dC (.int 2))) (hS 0))) (hS 1))) (hV (d2 gMul (hV (dC (.int 2))) (hS 1))))) (sNo)) (sRet (d2 gDiv (hS 0) (hS 1))))
def r__quotient : SpD := raw g__quotient 3
/-- _moved(chain, frame), slots 0 chain 1 frame 2 top 3 bottom 4 rounding -/
def g__moved : SM := sSeq (sFor (iSeq (dV 0)) (gTupT 3 (gConsT (gN 2) (gConsT (gN 3) (gConsT (gN 4) (gNoT))))) (sSet 1 (dCall 3 r__quotient (aCons (d2 gMul (hS 1) (hS 2)) (aCons (dV 3) (aCons (dV 4) (aNil))))))) (sRet (dV 1))
def r__moved : SpD := raw g__moved 5
/-- moved(chain, frame), slots 0 chain 1 frame -/
def g_moved : SM := sSeq (sExpr (dCall 1 r_need_chain (aCons (dV 0) (aNil)))) (sSeq (sIf (bNot (bTruth (hV (dCall 3 r_is_within (aCons (dV 1) (aCons (dC (.int 0)) (aCons (dC (.int 1000000000000)) (aNil)))))))) (sNever) (sNo)) (sRet (dCall 2 r__moved (aCons (dV 0) (aCons (dV 1) (aNil))))))
def r_moved : SpD := raw g_moved 2
/-- _bottom(chain), slots 0 chain 1 product 2 step -/
def g__bottom : SM := sSeq (sSet 1 (dC (.int 1))) (sSeq (sFor (iSeq (dV 0)) (gN 2) (sAug 1 gImul (hV (d2 gIx (hS 2) (hV (dC (.int 1))))))) (sRet (dV 1)))
def r__bottom : SpD := raw g__bottom 3
/-- slope(chain), slots 0 chain 1 top 2 step 3 bottom 4 common -/
def g_slope : SM := sSeq (sExpr (dCall 1 r_need_chain (aCons (dV 0) (aNil)))) (sSeq (sSet 1 (dC (.int 1))) (sSeq (sFor (iSeq (dV 0)) (gN 2) (sAug 1 gImul (hV (d2 gIx (hS 2) (hV (dC (.int 0))))))) (sSeq (sSet 3 (dCall 1 r__bottom (aCons (dV 0) (aNil)))) (sSeq (sSet 4 (dCB gGcd (DL.gCons (hS 1) (DL.gCons (hS 3) (DL.gNil))))) (sRet (dTup (lCons (d2 gDiv (hS 1) (hS 4)) (lCons (d2 gDiv (hS 3) (hS 4)) (lNil)))))))))
def r_slope : SpD := raw g_slope 5
/-- _first_apart(one, other, last), slots 0 one 1 other 2 last 3 frame -/
def g__first_apart : SM := sSeq (sFor (iRange1 (lCons (d2 gAdd (hS 2) (hV (dC (.int 1)))) (lNil))) (gN 3) (sIf (bD (d2 gNe (hV (dCall 2 r__moved (aCons (dV 0) (aCons (dV 3) (aNil))))) (hV (dCall 2 r__moved (aCons (dV 1) (aCons (dV 3) (aNil))))))) (sRet (dV 3)) (sNo))) (sRet (dC .none))
def r__first_apart : SpD := raw g__first_apart 4
/-- apart_chains(one, other), slots 0 one 1 other 2 common -/
def g_apart_chains : SM := sSeq (sExpr (dCall 1 r_need_chain (aCons (dV 0) (aNil)))) (sSeq (sExpr (dCall 1 r_need_chain (aCons (dV 1) (aNil)))) (sSeq (sSet 2 (dCB gLcm (DL.gCons (hV (dCall 1 r__bottom (aCons (dV 0) (aNil)))) (DL.gCons (hV (dCall 1 r__bottom (aCons (dV 1) (aNil)))) (DL.gNil))))) (sSeq (sIf (bD (d2 gGt (hS 2) (hV (dC (.int 100000))))) (sNever) (sNo)) (sRet (dCall 3 r__first_apart (aCons (dV 0) (aCons (dV 1) (aCons (dV 2) (aNil)))))))))
def r_apart_chains : SpD := raw g_apart_chains 3
/-- alike_chains(one, other), slots 0 one 1 other -/
def g_alike_chains : SM := sRet (d2 gIs (hV (dCall 2 r_apart_chains (aCons (dV 0) (aCons (dV 1) (aNil))))) (hV (dC .none)))
def r_alike_chains : SpD := raw g_alike_chains 2
/-- _law_mix(_law_cell, _law_spot), slots 0 _law_cell 1 _law_spot 2 _law_first_here 3 _law_second -/
def g__law_mix : SM := sSeq (sSet 2 (d2 gMod (hV (dCB gInt (DL.gCons (hV (d2 gAdd (hV (d2 gAdd (hV (d2 gMul (hS 0) (hV (dC (.int 40503))))) (hV (d2 gMul (hS 1) (hV (dC (.int 69069))))))) (hV (dC (.int 12345))))) (DL.gNil)))) (hV (dC (.int 2147483647))))) (sSeq (sSet 3 (d2 gMod (hV (dCB gInt (DL.gCons (hV (d2 gAdd (hV (d2 gAdd (hV (d2 gMul (hS 2) (hV (dC (.int 48271))))) (hS 0))) (hS 1))) (DL.gNil)))) (hV (dC (.int 2147483647))))) (sRet (d2 gMod (hV (dCB gInt (DL.gCons (hV (d2 gAdd (hV (d2 gMul (hS 3) (hV (dC (.int 16807))))) (hV (d2 gMul (hV (d2 gMul (hS 1) (hS 1))) (hV (dC (.int 7919))))))) (DL.gNil)))) (hV (dC (.int 2147483647))))))
def r__law_mix : SpD := raw g__law_mix 4
/-- _law_divisor(_law_one, _law_other), slots 0 _law_one 1 _law_other -/
def g__law_divisor : SM := sSeq (sPar 0 1 (lCons (dCB gAbs (DL.gCons (hS 0) (DL.gNil))) (lCons (dCB gAbs (DL.gCons (hS 1) (DL.gNil))) (lNil)))) (sSeq (sWhile (bD (d2 gGt (hS 1) (hV (dC (.int 0))))) (sPar 0 1 (lCons (dV 1) (lCons (d2 gMod (hV (dCB gInt (DL.gCons (hS 0) (DL.gNil)))) (hS 1)) (lNil))))) (sRet (dV 0)))
def r__law_divisor : SpD := raw g__law_divisor 2
/-- _law_simple(_law_low, _law_high, _law_is_above), slots 0 _law_low 1 _law_high 2 _law_is_above 3 _law_whole 4 _law_k 5 _law_a 6 _law_b 7 _law_c 8 _law_d 9 _law_over 10 _law_lower -/
def g__law_simple (rr : SpD) : SM := sSeq (sAsg (dV 0) (gTupT 2 (gConsT (gN 5) (gConsT (gN 6) (gNoT))))) (sSeq (sAsg (dV 1) (gTupT 2 (gConsT (gN 7) (gConsT (gN 8) (gNoT))))) (sSeq (sSet 3 (dIf (bTruth (hS 2)) (d2 gAdd (hV (d2 gDiv (hS 5) (hS 6))) (hV (dC (.int 1)))) (d2 DL.gSub (hV (dC (.int 0))) (hV (d2 gDiv (hV (d2 DL.gSub (hV (dC (.int 0))) (hS 5))) (hS 6)))))) (sSeq (sIf (bIf (bTruth (hS 2)) (bD (d2 gLe (hV (d2 gMul (hS 3) (hS 8))) (hS 7))) (bD (d2 gLt (hV (d2 gMul (hS 3) (hS 8))) (hS 7)))) (sRet (dTup (lCons (dV 3) (lCons (dC (.int 1)) (lNil))))) (sNo)) (sSeq (sSet 4 (d2 gDiv (hS 5) (hS 6))) (sSeq (sAsg (dCall 3 rr (aCons (dTup (lCons (dV 8) (lCons (d2 DL.gSub (hS 7) (hV (d2 gMul (hS 4) (hS 8)))) (lNil)))) (aCons (dTup (lCons (dV 6) (lCons (d2 DL.gSub (hS 5) (hV (d2 gMul (hS 4) (hS 6)))) (lNil)))) (aCons (dNot (dV 2)) (aNil))))) (gTupT 2 (gConsT (gN 9) (gConsT (gN 10) (gNoT))))) (sRet (dTup (lCons (d2 gAdd (hV (d2 gMul (hS 4) (hS 9))) (hS 10)) (lCons (dV 9) (lNil))))))))))
def r__law_simple : Nat → SpD
  | 0 => fun _ _ _ => False
  | k + 1 => raw (g__law_simple (r__law_simple k)) 11
/-- _law_near(_law_m), slots 0 _law_m 1 _law_d 2 _law_n 3 _law_way -/
def g__law_near : SM := sSeq (sSet 1 (d2 gAdd (hV (dC (.int 1))) (hV (dCallO 0 2 s_next (aOra 0 (aCons (dC (.int 300)) (aNil))))))) (sSeq (sSet 2 (d2 gAdd (hV (dC (.int 1))) (hV (dCallO 0 2 s_next (aOra 0 (aCons (dC (.int 600)) (aNil))))))) (sSeq (sSet 3 (dCallO 0 2 s_next (aOra 0 (aCons (dC (.int 3)) (aNil))))) (sSeq (sIf (bD (d2 gEq (hS 3) (hV (dC (.int 0))))) (sRet (dTup (lCons (dTup (lCons (dV 2) (lCons (dV 1) (lNil)))) (lCons (dTup (lCons (d2 gAdd (hV (dC (.int 1))) (hV (dCallO 0 2 s_next (aOra 0 (aCons (dC (.int 600)) (aNil)))))) (lCons (d2 gAdd (hV (dC (.int 1))) (hV (dCallO 0 2 s_next (aOra 0 (aCons (dC (.int 300)) (aNil)))))) (lNil)))) (lNil))))) (sNo)) (sSeq (sIf (bD (d2 gEq (hS 3) (hV (dC (.int 1))))) (sRet (dTup (lCons (dTup (lCons (dV 2) (lCons (dV 1) (lNil)))) (lCons (dTup (lCons (d2 gAdd (hV (d2 gAdd (hS 2) (hV (dC (.int 1))))) (hV (dCallO 0 2 s_next (aOra 0 (aCons (dC (.int 2)) (aNil)))))) (lCons (dV 1) (lNil)))) (lNil))))) (sNo)) (sRet (dTup (lCons (dTup (lCons (d2 gAdd (hS 1) (hV (dC (.int 1)))) (lCons (dV 1) (lNil)))) (lCons (dTup (lCons (d2 gAdd (hS 1) (hV (dC (.int 2)))) (lCons (dIf (bD (d2 gLt (hS 1) (hV (dC (.int 300))))) (d2 gAdd (hS 1) (hV (dC (.int 1)))) (dV 1)) (lNil)))) (lNil)))))))))
def r__law_near : SpD := raw g__law_near 4
/-- _law_step(_law_leg, _law_frame), slots 0 _law_leg 1 _law_frame 2 _law_n 3 _law_d 4 _law_word -/
def g__law_step : SM := sSeq (sAsg (dV 0) (gTupT 3 (gConsT (gN 2) (gConsT (gN 3) (gConsT (gN 4) (gNoT)))))) (sSeq (sIf (bD (d2 gEq (hS 4) (hV (dC (.str ("down" : Str)))))) (sRet (d2 gDiv (hV (d2 gMul (hS 1) (hS 2))) (hS 3))) (sNo)) (sRet (dIf (bD (d2 gEq (hS 4) (hV (dC (.str ("up" : Str)))))) (d2 DL.gSub (hV (dC (.int 0))) (hV (d2 gDiv (hV (d2 DL.gSub (hV (dC (.int 0))) (hV (d2 gMul (hS 1) (hS 2))))) (hS 3)))) (d2 gDiv (hV (d2 gAdd (hV (d2 gMul (hV (d2 gMul (hV (dC (.int 2))) (hS 1))) (hS 2))) (hS 3))) (hV (d2 gMul (hV (dC (.int 2))) (hS 3)))))))
def r__law_step : SpD := raw g__law_step 5
/-- _law_led(_law_chain_so, _law_frame), slots 0 _law_chain_so 1 _law_frame 2 _law_leg -/
def g__law_led : SM := sSeq (sFor (iSeq (dV 0)) (gN 2) (sSet 1 (dCall 2 r__law_step (aCons (dV 2) (aCons (dV 1) (aNil)))))) (sRet (dV 1))
def r__law_led : SpD := raw g__law_led 3
/-- _law_first(_law_one, _law_other, _law_total), slots 0 _law_one 1 _law_other 2 _law_total 3 _law_frame -/
def g__law_first : SM := sSeq (sFor (iRange1 (lCons (d2 gAdd (hS 2) (hV (dC (.int 1)))) (lNil))) (gN 3) (sIf (bD (d2 gNe (hV (dCall 2 r__law_led (aCons (dV 0) (aCons (dV 3) (aNil))))) (hV (dCall 2 r__law_led (aCons (dV 1) (aCons (dV 3) (aNil))))))) (sRet (dV 3)) (sNo))) (sRet (dC .none))
def r__law_first : SpD := raw g__law_first 4
/-- _law_single(_law_m), slots 0 _law_m 1 _law_part 2 _law_word 3 _law_one 4 _law_two 5 _law_due 6 _law_first_here 7 _law_last -/
def g__law_single : SM := sSeq (sAsg (dCallO 0 1 r__law_near (aOra 0 (aNil))) (gTupT 2 (gConsT (gN 3) (gConsT (gN 4) (gNoT))))) (sSeq (sIf (bD (d2 gGt (hV (d2 gMul (hV (d2 gIx (hS 3) (hV (dC (.int 0))))) (hV (d2 gIx (hS 4) (hV (dC (.int 1))))))) (hV (d2 gMul (hV (d2 gIx (hS 4) (hV (dC (.int 0))))) (hV (d2 gIx (hS 3) (hV (dC (.int 1))))))))) (sPar 3 4 (lCons (dV 4) (lCons (dV 3) (lNil)))) (sNo)) (sSeq (sSet 1 (dCall 2 r__law_divisor (aCons (d2 gIx (hS 3) (hV (dC (.int 0)))) (aCons (d2 gIx (hS 3) (hV (dC (.int 1)))) (aNil))))) (sSeq (sIf (bD (d2 gNe (hV (dCall 1 r_slope (aCons (dTup (lCons (dTup (lCons (d2 gIx (hS 3) (hV (dC (.int 0)))) (lCons (d2 gIx (hS 3) (hV (dC (.int 1)))) (lCons (dC (.str ("near" : Str))) (lNil))))) (lNil))) (aNil)))) (hV (dTup (lCons (d2 gDiv (hV (d2 gIx (hS 3) (hV (dC (.int 0))))) (hS 1)) (lCons (d2 gDiv (hV (d2 gIx (hS 3) (hV (dC (.int 1))))) (hS 1)) (lNil))))))) (sRet (dC (.bool false))) (sNo)) (sSeq (sFor (iSeq (dTup (lCons (dC (.str ("down" : Str))) (lCons (dC (.str ("up" : Str))) (lNil))))) (gN 2) (sSeq (sPar 6 7 (lCons (dTup (lCons (dTup (lCons (d2 gIx (hS 3) (hV (dC (.int 0)))) (lCons (d2 gIx (hS 3) (hV (dC (.int 1)))) (lCons (dV 2) (lNil))))) (lNil))) (lCons (dTup (lCons (dTup (lCons (d2 gIx (hS 4) (hV (dC (.int 0)))) (lCons (d2 gIx (hS 4) (hV (dC (.int 1)))) (lCons (dV 2) (lNil))))) (lNil))) (lNil)))) (sSeq (sSet 5 (dC .none)) (sSeq (sIf (bD (d2 gNe (hV (d2 gMul (hV (d2 gIx (hS 3) (hV (dC (.int 0))))) (hV (d2 gIx (hS 4) (hV (dC (.int 1))))))) (hV (d2 gMul (hV (d2 gIx (hS 4) (hV (dC (.int 0))))) (hV (d2 gIx (hS 3) (hV (dC (.int 1))))))))) (sSet 5 (d2 gIx (hV (dCall 3 (r__law_simple 40) (aCons (dV 3) (aCons (dV 4) (aCons (d2 gEq (hS 2) (hV (dC (.str ("down" : Str))))) (aNil)))))) (hV (dC (.int 1))))) (sNo)) (sSeq (sIf (bD (d2 gNeS (hV (dCB gReprS (DL.gCons (hV (dLst (lCons (dCall 2 r_apart_chains (aCons (dV 6) (aCons (dV 7) (aNil)))) (lCons (dCall 2 r_apart_chains (aCons (dV 7) (aCons (dV 6) (aNil)))) (lNil))))) (DL.gNil)))) (hV (dCB gReprS (DL.gCons (hV (dLst (lCons (dV 5) (lCons (dV 5) (lNil))))) (DL.gNil)))))) (sRet (dC (.bool false))) (sNo)) (sSeq (sIf (bD (d2 gNeS (hV (dCB gReprB (DL.gCons (hV (dCall 2 r_alike_chains (aCons (dV 6) (aCons (dV 7) (aNil))))) (DL.gNil)))) (hV (dCB gReprB (DL.gCons (hV (d2 gIs (hS 5) (hV (dC .none)))) (DL.gNil)))))) (sRet (dC (.bool false))) (sNo)) (sIf (bAnd (bD (d2 gIsNot (hS 5) (hV (dC .none)))) (bAnd (bD (d2 gGt (hS 5) (hV (dC (.int 0))))) (bD (d2 gNe (hV (dCall 2 r_moved (aCons (dV 6) (aCons (d2 DL.gSub (hS 5) (hV (dC (.int 1)))) (aNil))))) (hV (dCall 2 r_moved (aCons (dV 7) (aCons (d2 DL.gSub (hS 5) (hV (dC (.int 1)))) (aNil))))))))) (sRet (dC (.bool false))) (sNo)))))))) (sRet (dC (.bool true)))))))
def r__law_single : SpD := raw g__law_single 8
/-- _law_double(_law_m), slots 0 _law_m 1 _law_again 2 _law_total 3 _law_row 4 _law_due 5 _law_words 6 _law_rows 7 _law_steps 8 _law_k 9 _law_leg -/
def g__law_double : SM := sSeq (sParIN 5 6 (dLst (lCons (dC (.str ("down" : Str))) (lCons (dC (.str ("up" : Str))) (lCons (dC (.str ("near" : Str))) (lNil))))) (dLst (lNil))) (sSeq (sFor (iRange1 (lCons (dC (.int 2)) (lNil))) (gN 1) (sSeq (sSetN 7 (dLst (lNil))) (sSeq (sFor (iRange1 (lCons (d2 gAdd (hV (dC (.int 1))) (hV (dCallO 0 2 s_next (aOra 0 (aCons (dC (.int 2)) (aNil)))))) (lNil))) (gN 8) (sApp 7 (dTup (lCons (d2 gAdd (hV (dC (.int 1))) (hV (dCallO 0 2 s_next (aOra 0 (aCons (dC (.int 30)) (aNil)))))) (lCons (d2 gAdd (hV (dC (.int 1))) (hV (dCallO 0 2 s_next (aOra 0 (aCons (dC (.int 12)) (aNil)))))) (lCons (d2 gIx (hS 5) (hV (dCallO 0 2 s_next (aOra 0 (aCons (dC (.int 3)) (aNil)))))) (lNil))))))) (sApp 6 (dCB gTuple (DL.gCons (hS 7) (DL.gNil))))))) (sSeq (sIf (bD (d2 gEq (hV (dCallO 0 2 s_next (aOra 0 (aCons (dC (.int 3)) (aNil))))) (hV (dC (.int 0))))) (sPut 6 (dC (.int 1)) (d2 gAdd (hV (dSl (hV (d2 gIx (hS 6) (hV (dC (.int 0))))) (oNo) (oI (dNeg (dC (.int 1)))))) (hV (dTup (lCons (d2 gAdd (hV (dSl (hV (d2 gIx (hV (d2 gIx (hS 6) (hV (dC (.int 0))))) (hV (dNeg (dC (.int 1)))))) (oNo) (oI (dC (.int 2))))) (hV (dTup (lCons (d2 gIx (hS 5) (hV (dCallO 0 2 s_next (aOra 0 (aCons (dC (.int 3)) (aNil)))))) (lNil))))) (lNil)))))) (sNo)) (sSeq (sSet 2 (dC (.int 1))) (sSeq (sFor (iSeq (dV 6)) (gN 3) (sFor (iSeq (dV 3)) (gN 9) (sSet 2 (d2 gMul (hS 2) (hV (d2 gIx (hS 9) (hV (dC (.int 1))))))))) (sSeq (sSet 4 (dCall 3 r__law_first (aCons (d2 gIx (hS 6) (hV (dC (.int 0)))) (aCons (d2 gIx (hS 6) (hV (dC (.int 1)))) (aCons (dCB gMin (DL.gCons (hS 2) (DL.gCons (hV (dC (.int 20736))) (DL.gNil)))) (aNil)))))) (sRet (d2 gEqS (hV (dCB gReprI (DL.gCons (hV (dCall 2 r_apart_chains (aCons (d2 gIx (hS 6) (hV (dC (.int 0)))) (aCons (d2 gIx (hS 6) (hV (dC (.int 1)))) (aNil))))) (DL.gNil)))) (hV (dCB gReprI (DL.gCons (hS 4) (DL.gNil)))))))))))
def r__law_double : SpD := raw g__law_double 10
/-- law behind its first row, slots 0 _law_script 1 _law_m 2 _law_turn 3 _law_told -/
def g_law : SM := sSeq (sFor (iRange1 (lCons (d2 gAdd (hV (dC (.int 4))) (hV (dCB gMin (DL.gCons (hV (dC (.int 6))) (DL.gCons (hV (dCB gLen (DL.gCons (hS 0) (DL.gNil)))) (DL.gNil)))))) (lNil))) (gN 2) (sIf (bNot (bTruth (hV (dCallO 1 1 r__law_single (aOra 1 (aNil)))))) (sRet (dC (.bool false))) (sNo))) (sSeq (sIf (bNot (bTruth (hV (dCallO 1 1 r__law_double (aOra 1 (aNil)))))) (sRet (dC (.bool false))) (sNo)) (sSeq (sSet 3 (dLst (lCons (dCall 2 r_apart_chains (aCons (dTup (lCons (dTup (lCons (dC (.int 25)) (lCons (dC (.int 24)) (lCons (dC (.str ("down" : Str))) (lNil))))) (lNil))) (aCons (dTup (lCons (dTup (lCons (dC (.int 30)) (lCons (dC (.int 29)) (lCons (dC (.str ("down" : Str))) (lNil))))) (lNil))) (aNil)))) (lCons (dCall 2 r_apart_chains (aCons (dTup (lCons (dTup (lCons (dC (.int 1)) (lCons (dC (.int 1)) (lCons (dC (.str ("up" : Str))) (lNil))))) (lNil))) (aCons (dTup (lNil)) (aNil)))) (lNil))))) (sRet (dAnd (d2 gEq (hS 3) (hV (dLst (lCons (dC (.int 24)) (lCons (dC .none) (lNil)))))) (d2 gIsB (hV (dCall 2 r_alike_chains (aCons (dTup (lCons (dTup (lCons (dC (.int 50)) (lCons (dC (.int 48)) (lCons (dC (.str ("up" : Str))) (lNil))))) (lNil))) (aCons (dTup (lCons (dTup (lCons (dC (.int 25)) (lCons (dC (.int 24)) (lCons (dC (.str ("up" : Str))) (lNil))))) (lNil))) (aNil))))) (hV (dC (.bool true))))))))
def lawSays (ns : List Int) : Prop := g_law ⟨fun _ => False, fun d _ => d = .bool true, fun _ => False, fun _ => False⟩ [.im (.list (ns.map PyData.int)), .ora 0, .no, .no]
end Q79
namespace Q79
open PySem L2 DL
def topS (i : Nat) : Stmt := PySem.Challenge.pw_captionhouse_k79_whole_first_parting_fra.main.body.getD i (.Pass ⟨0, 0, 0, 0⟩)
structure Tx (K : PySem.W.Frag) (gl : Str → Option Value) : Prop where
  n_abs : gl "abs" = none
  n_bool : gl "bool" = none
  n_enumerate : gl "enumerate" = none
  n_int : gl "int" = none
  n_isinstance : gl "isinstance" = none
  n_len : gl "len" = none
  n_list : gl "list" = none
  n_min : gl "min" = none
  n_range : gl "range" = none
  n_repr : gl "repr" = none
  n_str : gl "str" = none
  n_tuple : gl "tuple" = none
  c_MOST_FRAME : ∃ t, gl "MOST_FRAME" = some (.int 1000000000000 t)
  c_MOST_OF_STEP : ∃ t, gl "MOST_OF_STEP" = some (.int 2000 t)
  c_MOST_PRODUCT : ∃ t, gl "MOST_PRODUCT" = some (.int 100000 t)
  c_MOST_STEPS : ∃ t, gl "MOST_STEPS" = some (.int 4 t)
  t_ROUNDINGS : ∃ u, gl "ROUNDINGS" = some (.ref u) ∧ ∀ F, At K F (.ref u) (.tuple ([("down" : Str), ("up" : Str), ("near" : Str)].map PyData.str))
  f_gcd : gl "gcd" = some (.builtin "math.gcd")
  f_lcm : gl "lcm" = some (.builtin "math.lcm")
section
variable {pr : Program} {wd : PySem.World} {K : PySem.W.Frag} {gl : Str → Option Value} {bas : Heap} {R : Orc}
abbrev st_is_integer : Stmt := topS 2
def names_is_integer : List Str := ["thing"]
theorem sc_is_integer : FnScope names_is_integer ["thing"] (defScope st_is_integer) := ⟨rfl, rfl, rfl, by decide +kernel, rfl, by decide +kernel, by decide +kernel⟩
theorem ok_is_integer {fa : Addr} {fd : FuncData} (T : Tx K gl) (F : L2.Fun K "is_integer" "is_integer" st_is_integer fa fd) : FnG pr wd K gl bas 1 fa fd ["thing"] (spD K R 1 r_is_integer) := by
  have sc := sc_is_integer
  refine FnG.data (g := g_is_integer) F sc rfl fun cdv A out sh H E q F hg hr => ?_
  exact (ds_one (dp_ret (de_and (de_isi rfl rfl T.n_isinstance rfl T.n_int (by decide +kernel) (dh_v (pv 0))) (pe_one (de_not (de_isi rfl rfl T.n_isinstance rfl T.n_bool (by decide +kernel) (dh_v (pv 0))))))))
abbrev st_is_within : Stmt := topS 3
def names_is_within : List Str := ["thing", "least", "most"]
theorem sc_is_within : FnScope names_is_within ["thing", "least", "most"] (defScope st_is_within) := ⟨rfl, rfl, rfl, by decide +kernel, rfl, by decide +kernel, by decide +kernel⟩
theorem ok_is_within {fa : Addr} {fd : FuncData} (T : Tx K gl) (F : L2.Fun K "is_within" "is_within" st_is_within fa fd) (C_is_integer : Cd pr wd K gl bas R 1 "is_integer" 1 r_is_integer) : FnG pr wd K gl bas 2 fa fd ["thing", "least", "most"] (spD K R 3 r_is_within) := by
  have sc := sc_is_within
  refine FnG.data (g := g_is_within) F sc rfl fun cdv A out sh H E q F hg hr => ?_
  exact (ds_one (dp_ret (de_and (de_cd (C_is_integer.more (by decide)) rfl hg hr rfl (da_cons (de_v (pv 0)) da_nil)) (pe_one (de_chain (sem_le) (sem_le) (dh_v (pv 1)) (dh_v (pv 0)) (dh_v (pv 2)) rfl)))))
abbrev st_is_tuple : Stmt := topS 4
def names_is_tuple : List Str := ["thing", "least", "most"]
theorem sc_is_tuple : FnScope names_is_tuple ["thing", "least", "most"] (defScope st_is_tuple) := ⟨rfl, rfl, rfl, by decide +kernel, rfl, by decide +kernel, by decide +kernel⟩
theorem ok_is_tuple {fa : Addr} {fd : FuncData} (T : Tx K gl) (F : L2.Fun K "is_tuple" "is_tuple" st_is_tuple fa fd) : FnG pr wd K gl bas 1 fa fd ["thing", "least", "most"] (spD K R 3 r_is_tuple) := by
  have sc := sc_is_tuple
  refine FnG.data (g := g_is_tuple) F sc rfl fun cdv A out sh H E q F hg hr => ?_
  exact (ds_one (dp_ret (de_and (de_isi rfl rfl T.n_isinstance rfl T.n_tuple (by decide +kernel) (dh_v (pv 0))) (pe_one (de_chain (sem_le) (sem_le) (dh_v (pv 1)) (dh_of (de_cb (sem_len rfl) rfl T.n_len (by decide +kernel) (dg_cons (dh_v (pv 0)) dg_nil))) (dh_v (pv 2)) rfl)))))
abbrev st_is_one_of : Stmt := topS 5
def names_is_one_of : List Str := ["thing", "words"]
theorem sc_is_one_of : FnScope names_is_one_of ["thing", "words"] (defScope st_is_one_of) := ⟨rfl, rfl, rfl, by decide +kernel, rfl, by decide +kernel, by decide +kernel⟩
theorem ok_is_one_of {fa : Addr} {fd : FuncData} (T : Tx K gl) (F : L2.Fun K "is_one_of" "is_one_of" st_is_one_of fa fd) : FnG pr wd K gl bas 1 fa fd ["thing", "words"] (spD K R 2 r_is_one_of) := by
  have sc := sc_is_one_of
  refine FnG.data (g := g_is_one_of) F sc rfl fun cdv A out sh H E q F hg hr => ?_
  exact (ds_one (dp_ret (de_and (de_isi rfl rfl T.n_isinstance rfl T.n_str (by decide +kernel) (dh_v (pv 0))) (pe_one (de_cmp (sem_inU rfl (hu65 hr)) (dh_v (pv 0)) (dh_v (pv 1)) rfl)))))
abbrev st__is_step : Stmt := topS 21
def names__is_step : List Str := ["thing"]
theorem sc__is_step : FnScope names__is_step ["thing"] (defScope st__is_step) := ⟨rfl, rfl, rfl, by decide +kernel, rfl, by decide +kernel, by decide +kernel⟩
theorem ok__is_step {fa : Addr} {fd : FuncData} (T : Tx K gl) (F : L2.Fun K "_is_step" "_is_step" st__is_step fa fd) (C_is_tuple : Cd pr wd K gl bas R 1 "is_tuple" 3 r_is_tuple) (C_is_one_of : Cd pr wd K gl bas R 1 "is_one_of" 2 r_is_one_of) (C_is_within : Cd pr wd K gl bas R 2 "is_within" 3 r_is_within) : FnG pr wd K gl bas 3 fa fd ["thing"] (spD K R 1 r__is_step) := by
  have sc := sc__is_step
  refine FnG.data (g := g__is_step) F sc rfl fun cdv A out sh H E q F hg hr => ?_
  exact (ds_cons (dp_if (PW.pt (dw_or (dt_not (dt_truth rfl (dh_of (de_cd (C_is_tuple.more (by decide)) rfl hg hr rfl (da_cons (de_v (pv 0)) (da_cons de_int (da_cons de_int da_nil))))))) (pw_or1 (dt_not (dt_truth rfl (dh_of (de_cd (C_is_one_of.more (by decide)) rfl hg hr rfl (da_cons (de_ix rfl (dh_v (pv 0)) (dh_of de_int) (fun _ _ => rfl)) (da_cons (de_gtop rfl T.t_ROUNDINGS) da_nil))))))))) (ds_one (dp_ret de_bl)) ds_nil)
    (ds_one (dp_ret (de_and (de_cd (C_is_within.more (by decide)) rfl hg hr rfl (da_cons (de_ix rfl (dh_v (pv 0)) (dh_of de_int) (fun _ _ => rfl)) (da_cons de_int (da_cons (de_gint rfl T.c_MOST_OF_STEP) da_nil)))) (pe_one (de_cd (C_is_within.more (by decide)) rfl hg hr rfl (da_cons (de_ix rfl (dh_v (pv 0)) (dh_of de_int) (fun _ _ => rfl)) (da_cons de_int (da_cons (de_gint rfl T.c_MOST_OF_STEP) da_nil)))))))))
abbrev st_need_chain : Stmt := topS 16
def names_need_chain : List Str := ["thing", "product", "number", "step"]
theorem sc_need_chain : FnScope names_need_chain ["thing"] (defScope st_need_chain) := ⟨rfl, rfl, rfl, by decide +kernel, rfl, by decide +kernel, by decide +kernel⟩
theorem ok_need_chain {fa : Addr} {fd : FuncData} (T : Tx K gl) (F : L2.Fun K "need_chain" "need_chain" st_need_chain fa fd) (C_is_tuple : Cd pr wd K gl bas R 1 "is_tuple" 3 r_is_tuple) (C__is_step : Cd pr wd K gl bas R 3 "_is_step" 1 r__is_step) : FnG pr wd K gl bas 4 fa fd ["thing"] (spD K R 1 r_need_chain) := by
  have sc := sc_need_chain
  refine FnG.data (g := g_need_chain) F sc rfl fun cdv A out sh H E q F hg hr => ?_
  exact (ds_cons (dp_if (dt_not (dt_truth rfl (dh_of (de_cd (C_is_tuple.more (by decide)) rfl hg hr rfl (da_cons (de_v (pv 0)) (da_cons de_int (da_cons (de_gint rfl T.c_MOST_STEPS) da_nil))))))) ds_never ds_nil)
    (ds_cons (dp_set sc.nd (i := 1) rfl (by first | exact Or.inl rfl | exact Or.inr rfl) de_int)
    (ds_cons (dp_for PassesOwn.never rfl (di_enum rfl rfl T.n_enumerate (dl_cons (de_v (pv 0)) dl_nil)) (dg_tup rfl rfl (dgs_cons (dg_name sc.nd (i := 2) rfl (by first | exact Or.inl rfl | exact Or.inr rfl)) (dgs_cons (dg_name sc.nd (i := 3) rfl (by first | exact Or.inl rfl | exact Or.inr rfl)) dgs_nil))) (ds_cons (dp_if (dt_not (dt_truth rfl (dh_of (de_cd (C__is_step.more (by decide)) rfl hg hr rfl (da_cons (de_v (pv 3)) da_nil))))) ds_never ds_nil)
    (ds_cons (dp_aug sc.nd (i := 1) rfl (by first | exact Or.inl rfl | exact Or.inr rfl) (dh_of (de_ix rfl (dh_v (pv 3)) (dh_of de_int) (fun _ _ => rfl))) sem_imul)
    (ds_one (dp_if (dt_cmp (sem_gt) (dh_v (pv 1)) (dh_of (de_gint rfl T.c_MOST_PRODUCT)) (nomark _)) ds_never ds_nil)))))
    (ds_one (dp_ret (de_v (pv 0)))))))
abbrev st__quotient : Stmt := topS 23
def names__quotient : List Str := ["top", "bottom", "rounding"]
theorem sc__quotient : FnScope names__quotient ["top", "bottom", "rounding"] (defScope st__quotient) := ⟨rfl, rfl, rfl, by decide +kernel, rfl, by decide +kernel, by decide +kernel⟩
theorem ok__quotient {fa : Addr} {fd : FuncData} (T : Tx K gl) (F : L2.Fun K "_quotient" "_quotient" st__quotient fa fd) : FnG pr wd K gl bas 1 fa fd ["top", "bottom", "rounding"] (spD K R 3 r__quotient) := by
  have sc := sc__quotient
  refine FnG.data (g := g__quotient) F sc rfl fun cdv A out sh H E q F hg hr => ?_
  exact (ds_cons (dp_if (dt_cmp (sem_eq rfl (hu64 hr)) (dh_v (pv 2)) (dh_of de_str) (nomark _)) (ds_one (dp_ret (de_neg (de_bin (sem_div) (dh_of (de_neg (de_v (pv 0)))) (dh_v (pv 1)))))) ds_nil)
    (ds_cons (dp_if (dt_cmp (sem_eq rfl (hu64 hr)) (dh_v (pv 2)) (dh_of de_str) (nomark _)) (ds_one (dp_ret (de_bin (sem_div) (dh_of (de_bin (sem_add rfl) (dh_of (de_bin (sem_mul rfl) (dh_of de_int) (dh_v (pv 0)))) (dh_v (pv 1)))) (dh_of (de_bin (sem_mul rfl) (dh_of de_int) (dh_v (pv 1))))))) ds_nil)
    (ds_one (dp_ret (de_bin (sem_div) (dh_v (pv 0)) (dh_v (pv 1)))))))
abbrev st__moved : Stmt := topS 22
def names__moved : List Str := ["chain", "frame", "top", "bottom", "rounding"]
theorem sc__moved : FnScope names__moved ["chain", "frame"] (defScope st__moved) := ⟨rfl, rfl, rfl, by decide +kernel, rfl, by decide +kernel, by decide +kernel⟩
theorem ok__moved {fa : Addr} {fd : FuncData} (T : Tx K gl) (F : L2.Fun K "_moved" "_moved" st__moved fa fd) (C__quotient : Cd pr wd K gl bas R 1 "_quotient" 3 r__quotient) : FnG pr wd K gl bas 2 fa fd ["chain", "frame"] (spD K R 2 r__moved) := by
  have sc := sc__moved
  refine FnG.data (g := g__moved) F sc rfl fun cdv A out sh H E q F hg hr => ?_
  exact (ds_cons (dp_for PassesOwn.never rfl (di_seq rfl (de_v (pv 0))) (dg_tup rfl rfl (dgs_cons (dg_name sc.nd (i := 2) rfl (by first | exact Or.inl rfl | exact Or.inr rfl)) (dgs_cons (dg_name sc.nd (i := 3) rfl (by first | exact Or.inl rfl | exact Or.inr rfl)) (dgs_cons (dg_name sc.nd (i := 4) rfl (by first | exact Or.inl rfl | exact Or.inr rfl)) dgs_nil)))) (ds_one (dp_set sc.nd (i := 1) rfl (by first | exact Or.inl rfl | exact Or.inr rfl) (de_cd (C__quotient.more (by decide)) rfl hg hr rfl (da_cons (de_bin (sem_mul rfl) (dh_v (pv 1)) (dh_v (pv 2))) (da_cons (de_v (pv 3)) (da_cons (de_v (pv 4)) da_nil)))))))
    (ds_one (dp_ret (de_v (pv 1)))))
abbrev st_moved : Stmt := topS 17
def names_moved : List Str := ["chain", "frame"]
theorem sc_moved : FnScope names_moved ["chain", "frame"] (defScope st_moved) := ⟨rfl, rfl, rfl, by decide +kernel, rfl, by decide +kernel, by decide +kernel⟩
theorem ok_moved {fa : Addr} {fd : FuncData} (T : Tx K gl) (F : L2.Fun K "moved" "moved" st_moved fa fd) (C_need_chain : Cd pr wd K gl bas R 4 "need_chain" 1 r_need_chain) (C_is_within : Cd pr wd K gl bas R 2 "is_within" 3 r_is_within) (C__moved : Cd pr wd K gl bas R 2 "_moved" 2 r__moved) : FnG pr wd K gl bas 5 fa fd ["chain", "frame"] (spD K R 2 r_moved) := by
  have sc := sc_moved
  refine FnG.data (g := g_moved) F sc rfl fun cdv A out sh H E q F hg hr => ?_
  exact (ds_cons (dp_expr (de_cd (C_need_chain.more (by decide)) rfl hg hr rfl (da_cons (de_v (pv 0)) da_nil)))
    (ds_cons (dp_if (dt_not (dt_truth rfl (dh_of (de_cd (C_is_within.more (by decide)) rfl hg hr rfl (da_cons (de_v (pv 1)) (da_cons de_int (da_cons (de_gint rfl T.c_MOST_FRAME) da_nil))))))) ds_never ds_nil)
    (ds_one (dp_ret (de_cd (C__moved.more (by decide)) rfl hg hr rfl (da_cons (de_v (pv 0)) (da_cons (de_v (pv 1)) da_nil)))))))
abbrev st__bottom : Stmt := topS 24
def names__bottom : List Str := ["chain", "product", "step"]
theorem sc__bottom : FnScope names__bottom ["chain"] (defScope st__bottom) := ⟨rfl, rfl, rfl, by decide +kernel, rfl, by decide +kernel, by decide +kernel⟩
theorem ok__bottom {fa : Addr} {fd : FuncData} (T : Tx K gl) (F : L2.Fun K "_bottom" "_bottom" st__bottom fa fd) : FnG pr wd K gl bas 1 fa fd ["chain"] (spD K R 1 r__bottom) := by
  have sc := sc__bottom
  refine FnG.data (g := g__bottom) F sc rfl fun cdv A out sh H E q F hg hr => ?_
  exact (ds_cons (dp_set sc.nd (i := 1) rfl (by first | exact Or.inl rfl | exact Or.inr rfl) de_int)
    (ds_cons (dp_for PassesOwn.never rfl (di_seq rfl (de_v (pv 0))) (dg_name sc.nd (i := 2) rfl (by first | exact Or.inl rfl | exact Or.inr rfl)) (ds_one (dp_aug sc.nd (i := 1) rfl (by first | exact Or.inl rfl | exact Or.inr rfl) (dh_of (de_ix rfl (dh_v (pv 2)) (dh_of de_int) (fun _ _ => rfl))) sem_imul)))
    (ds_one (dp_ret (de_v (pv 1))))))
abbrev st_slope : Stmt := topS 18
def names_slope : List Str := ["chain", "top", "step", "bottom", "common"]
theorem sc_slope : FnScope names_slope ["chain"] (defScope st_slope) := ⟨rfl, rfl, rfl, by decide +kernel, rfl, by decide +kernel, by decide +kernel⟩
theorem ok_slope {fa : Addr} {fd : FuncData} (T : Tx K gl) (F : L2.Fun K "slope" "slope" st_slope fa fd) (C_need_chain : Cd pr wd K gl bas R 4 "need_chain" 1 r_need_chain) (C__bottom : Cd pr wd K gl bas R 1 "_bottom" 1 r__bottom) : FnG pr wd K gl bas 5 fa fd ["chain"] (spD K R 1 r_slope) := by
  have sc := sc_slope
  refine FnG.data (g := g_slope) F sc rfl fun cdv A out sh H E q F hg hr => ?_
  exact (ds_cons (dp_expr (de_cd (C_need_chain.more (by decide)) rfl hg hr rfl (da_cons (de_v (pv 0)) da_nil)))
    (ds_cons (dp_set sc.nd (i := 1) rfl (by first | exact Or.inl rfl | exact Or.inr rfl) de_int)
    (ds_cons (dp_for PassesOwn.never rfl (di_seq rfl (de_v (pv 0))) (dg_name sc.nd (i := 2) rfl (by first | exact Or.inl rfl | exact Or.inr rfl)) (ds_one (dp_aug sc.nd (i := 1) rfl (by first | exact Or.inl rfl | exact Or.inr rfl) (dh_of (de_ix rfl (dh_v (pv 2)) (dh_of de_int) (fun _ _ => rfl))) sem_imul)))
    (ds_cons (dp_set sc.nd (i := 3) rfl (by first | exact Or.inl rfl | exact Or.inr rfl) (de_cd (C__bottom.more (by decide)) rfl hg hr rfl (da_cons (de_v (pv 0)) da_nil)))
    (ds_cons (dp_set sc.nd (i := 4) rfl (by first | exact Or.inl rfl | exact Or.inr rfl) (de_cf sem_gcd rfl T.f_gcd (dg_cons (dh_v (pv 1)) (dg_cons (dh_v (pv 3)) dg_nil))))
    (ds_one (dp_ret (de_tup (dl_cons (de_bin (sem_div) (dh_v (pv 1)) (dh_v (pv 4))) (dl_cons (de_bin (sem_div) (dh_v (pv 3)) (dh_v (pv 4))) dl_nil))))))))))
abbrev st__first_apart : Stmt := topS 25
def names__first_apart : List Str := ["one", "other", "last", "frame"]
theorem sc__first_apart : FnScope names__first_apart ["one", "other", "last"] (defScope st__first_apart) := ⟨rfl, rfl, rfl, by decide +kernel, rfl, by decide +kernel, by decide +kernel⟩
theorem ok__first_apart {fa : Addr} {fd : FuncData} (T : Tx K gl) (F : L2.Fun K "_first_apart" "_first_apart" st__first_apart fa fd) (C__moved : Cd pr wd K gl bas R 2 "_moved" 2 r__moved) : FnG pr wd K gl bas 3 fa fd ["one", "other", "last"] (spD K R 3 r__first_apart) := by
  have sc := sc__first_apart
  refine FnG.data (g := g__first_apart) F sc rfl fun cdv A out sh H E q F hg hr => ?_
  exact (ds_cons (dp_for PassesOwn.never rfl (di_range1 rfl T.n_range (dl_cons (de_bin (sem_add rfl) (dh_v (pv 2)) (dh_of de_int)) dl_nil)) (dg_name sc.nd (i := 3) rfl (by first | exact Or.inl rfl | exact Or.inr rfl)) (ds_one (dp_if (dt_cmp (sem_ne rfl (hu64 hr)) (dh_of (de_cd (C__moved.more (by decide)) rfl hg hr rfl (da_cons (de_v (pv 0)) (da_cons (de_v (pv 3)) da_nil)))) (dh_of (de_cd (C__moved.more (by decide)) rfl hg hr rfl (da_cons (de_v (pv 1)) (da_cons (de_v (pv 3)) da_nil)))) (nomark _)) (ds_one (dp_ret (de_v (pv 3)))) ds_nil)))
    (ds_one (dp_ret de_non)))
abbrev st_apart_chains : Stmt := topS 20
def names_apart_chains : List Str := ["one", "other", "common"]
theorem sc_apart_chains : FnScope names_apart_chains ["one", "other"] (defScope st_apart_chains) := ⟨rfl, rfl, rfl, by decide +kernel, rfl, by decide +kernel, by decide +kernel⟩
theorem ok_apart_chains {fa : Addr} {fd : FuncData} (T : Tx K gl) (F : L2.Fun K "apart_chains" "apart_chains" st_apart_chains fa fd) (C_need_chain : Cd pr wd K gl bas R 4 "need_chain" 1 r_need_chain) (C__bottom : Cd pr wd K gl bas R 1 "_bottom" 1 r__bottom) (C__first_apart : Cd pr wd K gl bas R 3 "_first_apart" 3 r__first_apart) : FnG pr wd K gl bas 5 fa fd ["one", "other"] (spD K R 2 r_apart_chains) := by
  have sc := sc_apart_chains
  refine FnG.data (g := g_apart_chains) F sc rfl fun cdv A out sh H E q F hg hr => ?_
  exact (ds_cons (dp_expr (de_cd (C_need_chain.more (by decide)) rfl hg hr rfl (da_cons (de_v (pv 0)) da_nil)))
    (ds_cons (dp_expr (de_cd (C_need_chain.more (by decide)) rfl hg hr rfl (da_cons (de_v (pv 1)) da_nil)))
    (ds_cons (dp_set sc.nd (i := 2) rfl (by first | exact Or.inl rfl | exact Or.inr rfl) (de_cf sem_lcm rfl T.f_lcm (dg_cons (dh_of (de_cd (C__bottom.more (by decide)) rfl hg hr rfl (da_cons (de_v (pv 0)) da_nil))) (dg_cons (dh_of (de_cd (C__bottom.more (by decide)) rfl hg hr rfl (da_cons (de_v (pv 1)) da_nil))) dg_nil))))
    (ds_cons (dp_if (dt_cmp (sem_gt) (dh_v (pv 2)) (dh_of (de_gint rfl T.c_MOST_PRODUCT)) (nomark _)) ds_never ds_nil)
    (ds_one (dp_ret (de_cd (C__first_apart.more (by decide)) rfl hg hr rfl (da_cons (de_v (pv 0)) (da_cons (de_v (pv 1)) (da_cons (de_v (pv 2)) da_nil))))))))))
abbrev st_alike_chains : Stmt := topS 19
def names_alike_chains : List Str := ["one", "other"]
theorem sc_alike_chains : FnScope names_alike_chains ["one", "other"] (defScope st_alike_chains) := ⟨rfl, rfl, rfl, by decide +kernel, rfl, by decide +kernel, by decide +kernel⟩
theorem ok_alike_chains {fa : Addr} {fd : FuncData} (T : Tx K gl) (F : L2.Fun K "alike_chains" "alike_chains" st_alike_chains fa fd) (C_apart_chains : Cd pr wd K gl bas R 5 "apart_chains" 2 r_apart_chains) : FnG pr wd K gl bas 6 fa fd ["one", "other"] (spD K R 2 r_alike_chains) := by
  have sc := sc_alike_chains
  refine FnG.data (g := g_alike_chains) F sc rfl fun cdv A out sh H E q F hg hr => ?_
  exact (ds_one (dp_ret (de_cmp (sem_is) (dh_of (de_cd (C_apart_chains.more (by decide)) rfl hg hr rfl (da_cons (de_v (pv 0)) (da_cons (de_v (pv 1)) da_nil)))) (dh_of de_non) (nomark _))))
abbrev st__law_mix : Stmt := topS 27
def names__law_mix : List Str := ["_law_cell", "_law_spot", "_law_first_here", "_law_second"]
theorem sc__law_mix : FnScope names__law_mix ["_law_cell", "_law_spot"] (defScope st__law_mix) := ⟨rfl, rfl, rfl, by decide +kernel, rfl, by decide +kernel, by decide +kernel⟩
theorem ok__law_mix {fa : Addr} {fd : FuncData} (T : Tx K gl) (F : L2.Fun K "_law_mix" "_law_mix" st__law_mix fa fd) : FnG pr wd K gl bas 1 fa fd ["_law_cell", "_law_spot"] (spD K R 2 r__law_mix) := by
  have sc := sc__law_mix
  refine FnG.data (g := g__law_mix) F sc rfl fun cdv A out sh H E q F hg hr => ?_
  exact (ds_cons (dp_set sc.nd (i := 2) rfl (by first | exact Or.inl rfl | exact Or.inr rfl) (de_bin (sem_mod) (dh_of (de_ct (sem_int) rfl T.n_int (by decide +kernel) (dg_cons (dh_of (de_bin (sem_add rfl) (dh_of (de_bin (sem_add rfl) (dh_of (de_bin (sem_mul rfl) (dh_v (pv 0)) (dh_of de_int))) (dh_of (de_bin (sem_mul rfl) (dh_v (pv 1)) (dh_of de_int))))) (dh_of de_int))) dg_nil))) (dh_of de_int)))
    (ds_cons (dp_set sc.nd (i := 3) rfl (by first | exact Or.inl rfl | exact Or.inr rfl) (de_bin (sem_mod) (dh_of (de_ct (sem_int) rfl T.n_int (by decide +kernel) (dg_cons (dh_of (de_bin (sem_add rfl) (dh_of (de_bin (sem_add rfl) (dh_of (de_bin (sem_mul rfl) (dh_v (pv 2)) (dh_of de_int))) (dh_v (pv 0)))) (dh_v (pv 1)))) dg_nil))) (dh_of de_int)))
    (ds_one (dp_ret (de_bin (sem_mod) (dh_of (de_ct (sem_int) rfl T.n_int (by decide +kernel) (dg_cons (dh_of (de_bin (sem_add rfl) (dh_of (de_bin (sem_mul rfl) (dh_v (pv 3)) (dh_of de_int))) (dh_of (de_bin (sem_mul rfl) (dh_of (de_bin (sem_mul rfl) (dh_v (pv 1)) (dh_v (pv 1)))) (dh_of de_int))))) dg_nil))) (dh_of de_int))))))
abbrev st__law_divisor : Stmt := topS 30
def names__law_divisor : List Str := ["_law_one", "_law_other"]
theorem sc__law_divisor : FnScope names__law_divisor ["_law_one", "_law_other"] (defScope st__law_divisor) := ⟨rfl, rfl, rfl, by decide +kernel, rfl, by decide +kernel, by decide +kernel⟩
theorem ok__law_divisor {fa : Addr} {fd : FuncData} (T : Tx K gl) (F : L2.Fun K "_law_divisor" "_law_divisor" st__law_divisor fa fd) : FnG pr wd K gl bas 1 fa fd ["_law_one", "_law_other"] (spD K R 2 r__law_divisor) := by
  have sc := sc__law_divisor
  refine FnG.data (g := g__law_divisor) F sc rfl fun cdv A out sh H E q F hg hr => ?_
  exact (ds_cons (dp_par rfl sc.nd (i := 0) (j := 1) rfl rfl (by decide) rfl rfl (dl_cons (de_cb (sem_abs) rfl T.n_abs (by decide +kernel) (dg_cons (dh_v (pv 0)) dg_nil)) (dl_cons (de_cb (sem_abs) rfl T.n_abs (by decide +kernel) (dg_cons (dh_v (pv 1)) dg_nil)) dl_nil)) rfl)
    (ds_cons (dp_while PassesOwn.never (dt_cmp (sem_gt) (dh_v (pv 1)) (dh_of de_int) (nomark _)) (ds_one (dp_par rfl sc.nd (i := 0) (j := 1) rfl rfl (by decide) rfl rfl (dl_cons (de_v (pv 1)) (dl_cons (de_bin (sem_mod) (dh_of (de_ct (sem_int) rfl T.n_int (by decide +kernel) (dg_cons (dh_v (pv 0)) dg_nil))) (dh_v (pv 1))) dl_nil)) rfl)))
    (ds_one (dp_ret (de_v (pv 0))))))
abbrev st__law_simple : Stmt := topS 31
def names__law_simple : List Str := ["_law_low", "_law_high", "_law_is_above", "_law_whole", "_law_k", "_law_a", "_law_b", "_law_c", "_law_d", "_law_over", "_law_lower"]
theorem sc__law_simple : FnScope names__law_simple ["_law_low", "_law_high", "_law_is_above"] (defScope st__law_simple) := ⟨rfl, rfl, rfl, by decide +kernel, rfl, by decide +kernel, by decide +kernel⟩
theorem okS__law_simple {k : Nat} {rr : SpD} {fa : Addr} {fd : FuncData} (T : Tx K gl) (F : L2.Fun K "_law_simple" "_law_simple" st__law_simple fa fd) (C__law_simple : Cd pr wd K gl bas R k "_law_simple" 3 rr) : FnG pr wd K gl bas (k + 1) fa fd ["_law_low", "_law_high", "_law_is_above"] (spD K R 3 (raw (g__law_simple rr) 11)) := by
  have sc := sc__law_simple
  refine FnG.data (g := g__law_simple rr) F sc rfl fun cdv A out sh H E q F hg hr => ?_
  exact (ds_cons (dp_asg (de_v (pv 0)) (dg_tup rfl rfl (dgs_cons (dg_name sc.nd (i := 5) rfl (by first | exact Or.inl rfl | exact Or.inr rfl)) (dgs_cons (dg_name sc.nd (i := 6) rfl (by first | exact Or.inl rfl | exact Or.inr rfl)) dgs_nil))))
    (ds_cons (dp_asg (de_v (pv 1)) (dg_tup rfl rfl (dgs_cons (dg_name sc.nd (i := 7) rfl (by first | exact Or.inl rfl | exact Or.inr rfl)) (dgs_cons (dg_name sc.nd (i := 8) rfl (by first | exact Or.inl rfl | exact Or.inr rfl)) dgs_nil))))
    (ds_cons (dp_set sc.nd (i := 3) rfl (by first | exact Or.inl rfl | exact Or.inr rfl) (de_if (dt_truth rfl (dh_v (pv 2))) (de_bin (sem_add rfl) (dh_of (de_bin (sem_div) (dh_v (pv 5)) (dh_v (pv 6)))) (dh_of de_int)) (de_bin (sem_sub) (dh_of de_int) (dh_of (de_bin (sem_div) (dh_of (de_bin (sem_sub) (dh_of de_int) (dh_v (pv 5)))) (dh_v (pv 6)))))))
    (ds_cons (dp_if (dt_if (dt_truth rfl (dh_v (pv 2))) (dt_cmp (sem_le) (dh_of (de_bin (sem_mul rfl) (dh_v (pv 3)) (dh_v (pv 8)))) (dh_v (pv 7)) (nomark _)) (dt_cmp (sem_lt) (dh_of (de_bin (sem_mul rfl) (dh_v (pv 3)) (dh_v (pv 8)))) (dh_v (pv 7)) (nomark _))) (ds_one (dp_ret (de_tup (dl_cons (de_v (pv 3)) (dl_cons de_int dl_nil))))) ds_nil)
    (ds_cons (dp_set sc.nd (i := 4) rfl (by first | exact Or.inl rfl | exact Or.inr rfl) (de_bin (sem_div) (dh_v (pv 5)) (dh_v (pv 6))))
    (ds_cons (dp_asg (de_cd C__law_simple rfl hg hr rfl (da_cons (de_tup (dl_cons (de_v (pv 8)) (dl_cons (de_bin (sem_sub) (dh_v (pv 7)) (dh_of (de_bin (sem_mul rfl) (dh_v (pv 4)) (dh_v (pv 8))))) dl_nil))) (da_cons (de_tup (dl_cons (de_v (pv 6)) (dl_cons (de_bin (sem_sub) (dh_v (pv 5)) (dh_of (de_bin (sem_mul rfl) (dh_v (pv 4)) (dh_v (pv 6))))) dl_nil))) (da_cons (de_not (de_v (pv 2))) da_nil)))) (dg_tup rfl rfl (dgs_cons (dg_name sc.nd (i := 9) rfl (by first | exact Or.inl rfl | exact Or.inr rfl)) (dgs_cons (dg_name sc.nd (i := 10) rfl (by first | exact Or.inl rfl | exact Or.inr rfl)) dgs_nil))))
    (ds_one (dp_ret (de_tup (dl_cons (de_bin (sem_add rfl) (dh_of (de_bin (sem_mul rfl) (dh_v (pv 4)) (dh_v (pv 9)))) (dh_v (pv 10))) (dl_cons (de_v (pv 9)) dl_nil)))))))))))
theorem ok__law_simple {fa : Addr} {fd : FuncData} (T : Tx K gl) (F : L2.Fun K "_law_simple" "_law_simple" st__law_simple fa fd) (gx : gl "_law_simple" = some (.ref fa)) (kx : PySem.W.keepIn K (.ref fa) = true) (bx : Binds K fd ["_law_low", "_law_high", "_law_is_above"] []) : ∀ k, FnG pr wd K gl bas k fa fd ["_law_low", "_law_high", "_law_is_above"] (spD K R 3 (r__law_simple k))
  | 0 => fnG_never
  | k + 1 => okS__law_simple T F ⟨_, _, _, ok__law_simple T F gx kx bx k, gx, kx, bx⟩
abbrev st__law_near : Stmt := topS 32
def names__law_near : List Str := ["_law_m", "_law_d", "_law_n", "_law_way"]
theorem sc__law_near : FnScope names__law_near ["_law_m"] (defScope st__law_near) := ⟨rfl, rfl, rfl, by decide +kernel, rfl, by decide +kernel, by decide +kernel⟩
theorem ok__law_near {fa : Addr} {fd : FuncData} (T : Tx K gl) (F : L2.Fun K "_law_near" "_law_near" st__law_near fa fd) (C__law_draw : Cd pr wd K gl bas R 2 "_law_draw" 2 s_next) : FnG pr wd K gl bas 3 fa fd ["_law_m"] (spD K R 1 r__law_near) := by
  have sc := sc__law_near
  refine FnG.data (g := g__law_near) F sc rfl fun cdv A out sh H E q F hg hr => ?_
  exact (ds_cons (dp_set sc.nd (i := 1) rfl (by first | exact Or.inl rfl | exact Or.inr rfl) (de_bin (sem_add rfl) (dh_of de_int) (dh_of (de_cdO (i := 0) (C__law_draw.more (by decide)) rfl hg hr rfl (da_ora (pv 0) (da_cons de_int da_nil))))))
    (ds_cons (dp_set sc.nd (i := 2) rfl (by first | exact Or.inl rfl | exact Or.inr rfl) (de_bin (sem_add rfl) (dh_of de_int) (dh_of (de_cdO (i := 0) (C__law_draw.more (by decide)) rfl hg hr rfl (da_ora (pv 0) (da_cons de_int da_nil))))))
    (ds_cons (dp_set sc.nd (i := 3) rfl (by first | exact Or.inl rfl | exact Or.inr rfl) (de_cdO (i := 0) (C__law_draw.more (by decide)) rfl hg hr rfl (da_ora (pv 0) (da_cons de_int da_nil))))
    (ds_cons (dp_if (dt_cmp (sem_eq rfl (hu64 hr)) (dh_v (pv 3)) (dh_of de_int) (nomark _)) (ds_one (dp_ret (de_tup (dl_cons (de_tup (dl_cons (de_v (pv 2)) (dl_cons (de_v (pv 1)) dl_nil))) (dl_cons (de_tup (dl_cons (de_bin (sem_add rfl) (dh_of de_int) (dh_of (de_cdO (i := 0) (C__law_draw.more (by decide)) rfl hg hr rfl (da_ora (pv 0) (da_cons de_int da_nil))))) (dl_cons (de_bin (sem_add rfl) (dh_of de_int) (dh_of (de_cdO (i := 0) (C__law_draw.more (by decide)) rfl hg hr rfl (da_ora (pv 0) (da_cons de_int da_nil))))) dl_nil))) dl_nil))))) ds_nil)
    (ds_cons (dp_if (dt_cmp (sem_eq rfl (hu64 hr)) (dh_v (pv 3)) (dh_of de_int) (nomark _)) (ds_one (dp_ret (de_tup (dl_cons (de_tup (dl_cons (de_v (pv 2)) (dl_cons (de_v (pv 1)) dl_nil))) (dl_cons (de_tup (dl_cons (de_bin (sem_add rfl) (dh_of (de_bin (sem_add rfl) (dh_v (pv 2)) (dh_of de_int))) (dh_of (de_cdO (i := 0) (C__law_draw.more (by decide)) rfl hg hr rfl (da_ora (pv 0) (da_cons de_int da_nil))))) (dl_cons (de_v (pv 1)) dl_nil))) dl_nil))))) ds_nil)
    (ds_one (dp_ret (de_tup (dl_cons (de_tup (dl_cons (de_bin (sem_add rfl) (dh_v (pv 1)) (dh_of de_int)) (dl_cons (de_v (pv 1)) dl_nil))) (dl_cons (de_tup (dl_cons (de_bin (sem_add rfl) (dh_v (pv 1)) (dh_of de_int)) (dl_cons (de_if (dt_cmp (sem_lt) (dh_v (pv 1)) (dh_of de_int) (nomark _)) (de_bin (sem_add rfl) (dh_v (pv 1)) (dh_of de_int)) (de_v (pv 1))) dl_nil))) dl_nil))))))))))
abbrev st__law_step : Stmt := topS 33
def names__law_step : List Str := ["_law_leg", "_law_frame", "_law_n", "_law_d", "_law_word"]
theorem sc__law_step : FnScope names__law_step ["_law_leg", "_law_frame"] (defScope st__law_step) := ⟨rfl, rfl, rfl, by decide +kernel, rfl, by decide +kernel, by decide +kernel⟩
theorem ok__law_step {fa : Addr} {fd : FuncData} (T : Tx K gl) (F : L2.Fun K "_law_step" "_law_step" st__law_step fa fd) : FnG pr wd K gl bas 1 fa fd ["_law_leg", "_law_frame"] (spD K R 2 r__law_step) := by
  have sc := sc__law_step
  refine FnG.data (g := g__law_step) F sc rfl fun cdv A out sh H E q F hg hr => ?_
  exact (ds_cons (dp_asg (de_v (pv 0)) (dg_tup rfl rfl (dgs_cons (dg_name sc.nd (i := 2) rfl (by first | exact Or.inl rfl | exact Or.inr rfl)) (dgs_cons (dg_name sc.nd (i := 3) rfl (by first | exact Or.inl rfl | exact Or.inr rfl)) (dgs_cons (dg_name sc.nd (i := 4) rfl (by first | exact Or.inl rfl | exact Or.inr rfl)) dgs_nil)))))
    (ds_cons (dp_if (dt_cmp (sem_eq rfl (hu64 hr)) (dh_v (pv 4)) (dh_of de_str) (nomark _)) (ds_one (dp_ret (de_bin (sem_div) (dh_of (de_bin (sem_mul rfl) (dh_v (pv 1)) (dh_v (pv 2)))) (dh_v (pv 3))))) ds_nil)
    (ds_one (dp_ret (de_if (dt_cmp (sem_eq rfl (hu64 hr)) (dh_v (pv 4)) (dh_of de_str) (nomark _)) (de_bin (sem_sub) (dh_of de_int) (dh_of (de_bin (sem_div) (dh_of (de_bin (sem_sub) (dh_of de_int) (dh_of (de_bin (sem_mul rfl) (dh_v (pv 1)) (dh_v (pv 2)))))) (dh_v (pv 3))))) (de_bin (sem_div) (dh_of (de_bin (sem_add rfl) (dh_of (de_bin (sem_mul rfl) (dh_of (de_bin (sem_mul rfl) (dh_of de_int) (dh_v (pv 1)))) (dh_v (pv 2)))) (dh_v (pv 3)))) (dh_of (de_bin (sem_mul rfl) (dh_of de_int) (dh_v (pv 3))))))))))
abbrev st__law_led : Stmt := topS 34
def names__law_led : List Str := ["_law_chain_so", "_law_frame", "_law_leg"]
theorem sc__law_led : FnScope names__law_led ["_law_chain_so", "_law_frame"] (defScope st__law_led) := ⟨rfl, rfl, rfl, by decide +kernel, rfl, by decide +kernel, by decide +kernel⟩
theorem ok__law_led {fa : Addr} {fd : FuncData} (T : Tx K gl) (F : L2.Fun K "_law_led" "_law_led" st__law_led fa fd) (C__law_step : Cd pr wd K gl bas R 1 "_law_step" 2 r__law_step) : FnG pr wd K gl bas 2 fa fd ["_law_chain_so", "_law_frame"] (spD K R 2 r__law_led) := by
  have sc := sc__law_led
  refine FnG.data (g := g__law_led) F sc rfl fun cdv A out sh H E q F hg hr => ?_
  exact (ds_cons (dp_for PassesOwn.never rfl (di_seq rfl (de_v (pv 0))) (dg_name sc.nd (i := 2) rfl (by first | exact Or.inl rfl | exact Or.inr rfl)) (ds_one (dp_set sc.nd (i := 1) rfl (by first | exact Or.inl rfl | exact Or.inr rfl) (de_cd (C__law_step.more (by decide)) rfl hg hr rfl (da_cons (de_v (pv 2)) (da_cons (de_v (pv 1)) da_nil))))))
    (ds_one (dp_ret (de_v (pv 1)))))
abbrev st__law_first : Stmt := topS 35
def names__law_first : List Str := ["_law_one", "_law_other", "_law_total", "_law_frame"]
theorem sc__law_first : FnScope names__law_first ["_law_one", "_law_other", "_law_total"] (defScope st__law_first) := ⟨rfl, rfl, rfl, by decide +kernel, rfl, by decide +kernel, by decide +kernel⟩
theorem ok__law_first {fa : Addr} {fd : FuncData} (T : Tx K gl) (F : L2.Fun K "_law_first" "_law_first" st__law_first fa fd) (C__law_led : Cd pr wd K gl bas R 2 "_law_led" 2 r__law_led) : FnG pr wd K gl bas 3 fa fd ["_law_one", "_law_other", "_law_total"] (spD K R 3 r__law_first) := by
  have sc := sc__law_first
  refine FnG.data (g := g__law_first) F sc rfl fun cdv A out sh H E q F hg hr => ?_
  exact (ds_cons (dp_for PassesOwn.never rfl (di_range1 rfl T.n_range (dl_cons (de_bin (sem_add rfl) (dh_v (pv 2)) (dh_of de_int)) dl_nil)) (dg_name sc.nd (i := 3) rfl (by first | exact Or.inl rfl | exact Or.inr rfl)) (ds_one (dp_if (dt_cmp (sem_ne rfl (hu64 hr)) (dh_of (de_cd (C__law_led.more (by decide)) rfl hg hr rfl (da_cons (de_v (pv 0)) (da_cons (de_v (pv 3)) da_nil)))) (dh_of (de_cd (C__law_led.more (by decide)) rfl hg hr rfl (da_cons (de_v (pv 1)) (da_cons (de_v (pv 3)) da_nil)))) (nomark _)) (ds_one (dp_ret (de_v (pv 3)))) ds_nil)))
    (ds_one (dp_ret de_non)))
abbrev st__law_single : Stmt := topS 36
def names__law_single : List Str := ["_law_m", "_law_part", "_law_word", "_law_one", "_law_two", "_law_due", "_law_first_here", "_law_last"]
theorem sc__law_single : FnScope names__law_single ["_law_m"] (defScope st__law_single) := ⟨rfl, rfl, rfl, by decide +kernel, rfl, by decide +kernel, by decide +kernel⟩
theorem ok__law_single {fa : Addr} {fd : FuncData} (T : Tx K gl) (F : L2.Fun K "_law_single" "_law_single" st__law_single fa fd) (C__law_near : Cd pr wd K gl bas R 3 "_law_near" 1 r__law_near) (C__law_divisor : Cd pr wd K gl bas R 1 "_law_divisor" 2 r__law_divisor) (C_slope : Cd pr wd K gl bas R 5 "slope" 1 r_slope) (C__law_simple : Cd pr wd K gl bas R 40 "_law_simple" 3 (r__law_simple 40)) (C_apart_chains : Cd pr wd K gl bas R 5 "apart_chains" 2 r_apart_chains) (C_alike_chains : Cd pr wd K gl bas R 6 "alike_chains" 2 r_alike_chains) (C_moved : Cd pr wd K gl bas R 5 "moved" 2 r_moved) : FnG pr wd K gl bas 41 fa fd ["_law_m"] (spD K R 1 r__law_single) := by
  have sc := sc__law_single
  refine FnG.data (g := g__law_single) F sc rfl fun cdv A out sh H E q F hg hr => ?_
  exact (ds_cons (dp_asg (de_cdO (i := 0) (C__law_near.more (by decide)) rfl hg hr rfl (da_ora (pv 0) da_nil)) (dg_tup rfl rfl (dgs_cons (dg_name sc.nd (i := 3) rfl (by first | exact Or.inl rfl | exact Or.inr rfl)) (dgs_cons (dg_name sc.nd (i := 4) rfl (by first | exact Or.inl rfl | exact Or.inr rfl)) dgs_nil))))
    (ds_cons (dp_if (dt_cmp (sem_gt) (dh_of (de_bin (sem_mul rfl) (dh_of (de_ix rfl (dh_v (pv 3)) (dh_of de_int) (fun _ _ => rfl))) (dh_of (de_ix rfl (dh_v (pv 4)) (dh_of de_int) (fun _ _ => rfl))))) (dh_of (de_bin (sem_mul rfl) (dh_of (de_ix rfl (dh_v (pv 4)) (dh_of de_int) (fun _ _ => rfl))) (dh_of (de_ix rfl (dh_v (pv 3)) (dh_of de_int) (fun _ _ => rfl))))) (nomark _)) (ds_one (dp_par rfl sc.nd (i := 3) (j := 4) rfl rfl (by decide) rfl rfl (dl_cons (de_v (pv 4)) (dl_cons (de_v (pv 3)) dl_nil)) rfl)) ds_nil)
    (ds_cons (dp_set sc.nd (i := 1) rfl (by first | exact Or.inl rfl | exact Or.inr rfl) (de_cd (C__law_divisor.more (by decide)) rfl hg hr rfl (da_cons (de_ix rfl (dh_v (pv 3)) (dh_of de_int) (fun _ _ => rfl)) (da_cons (de_ix rfl (dh_v (pv 3)) (dh_of de_int) (fun _ _ => rfl)) da_nil))))
    (ds_cons (dp_if (dt_cmp (sem_ne rfl (hu64 hr)) (dh_of (de_cd (C_slope.more (by decide)) rfl hg hr rfl (da_cons (de_tup (dl_cons (de_tup (dl_cons (de_ix rfl (dh_v (pv 3)) (dh_of de_int) (fun _ _ => rfl)) (dl_cons (de_ix rfl (dh_v (pv 3)) (dh_of de_int) (fun _ _ => rfl)) (dl_cons de_str dl_nil)))) dl_nil)) da_nil))) (dh_of (de_tup (dl_cons (de_bin (sem_div) (dh_of (de_ix rfl (dh_v (pv 3)) (dh_of de_int) (fun _ _ => rfl))) (dh_v (pv 1))) (dl_cons (de_bin (sem_div) (dh_of (de_ix rfl (dh_v (pv 3)) (dh_of de_int) (fun _ _ => rfl))) (dh_v (pv 1))) dl_nil)))) (nomark _)) (ds_one (dp_ret de_bl)) ds_nil)
    (ds_cons (dp_for PassesOwn.never rfl (di_seq rfl (de_tup (dl_cons de_str (dl_cons de_str dl_nil)))) (dg_name sc.nd (i := 2) rfl (by first | exact Or.inl rfl | exact Or.inr rfl)) (ds_cons (dp_par rfl sc.nd (i := 6) (j := 7) rfl rfl (by decide) rfl rfl (dl_cons (de_tup (dl_cons (de_tup (dl_cons (de_ix rfl (dh_v (pv 3)) (dh_of de_int) (fun _ _ => rfl)) (dl_cons (de_ix rfl (dh_v (pv 3)) (dh_of de_int) (fun _ _ => rfl)) (dl_cons (de_v (pv 2)) dl_nil)))) dl_nil)) (dl_cons (de_tup (dl_cons (de_tup (dl_cons (de_ix rfl (dh_v (pv 4)) (dh_of de_int) (fun _ _ => rfl)) (dl_cons (de_ix rfl (dh_v (pv 4)) (dh_of de_int) (fun _ _ => rfl)) (dl_cons (de_v (pv 2)) dl_nil)))) dl_nil)) dl_nil)) rfl)
    (ds_cons (dp_set sc.nd (i := 5) rfl (by first | exact Or.inl rfl | exact Or.inr rfl) de_non)
    (ds_cons (dp_if (dt_cmp (sem_ne rfl (hu64 hr)) (dh_of (de_bin (sem_mul rfl) (dh_of (de_ix rfl (dh_v (pv 3)) (dh_of de_int) (fun _ _ => rfl))) (dh_of (de_ix rfl (dh_v (pv 4)) (dh_of de_int) (fun _ _ => rfl))))) (dh_of (de_bin (sem_mul rfl) (dh_of (de_ix rfl (dh_v (pv 4)) (dh_of de_int) (fun _ _ => rfl))) (dh_of (de_ix rfl (dh_v (pv 3)) (dh_of de_int) (fun _ _ => rfl))))) (nomark _)) (ds_one (dp_set sc.nd (i := 5) rfl (by first | exact Or.inl rfl | exact Or.inr rfl) (de_ix rfl (dh_of (de_cd (C__law_simple.more (by decide)) rfl hg hr rfl (da_cons (de_v (pv 3)) (da_cons (de_v (pv 4)) (da_cons (de_cmp (sem_eq rfl (hu64 hr)) (dh_v (pv 2)) (dh_of de_str) (nomark _)) da_nil))))) (dh_of de_int) (fun _ _ => rfl)))) ds_nil)
    (ds_cons (dp_if (dt_cmp (sem_neS) (dh_of (de_cb (sem_repr rfl hg (hu64 hr)) rfl T.n_repr (by decide +kernel) (dg_cons (dh_of (de_n (dn_lst (dl_cons (de_cd (C_apart_chains.more (by decide)) rfl hg hr rfl (da_cons (de_v (pv 6)) (da_cons (de_v (pv 7)) da_nil))) (dl_cons (de_cd (C_apart_chains.more (by decide)) rfl hg hr rfl (da_cons (de_v (pv 7)) (da_cons (de_v (pv 6)) da_nil))) dl_nil))))) dg_nil))) (dh_of (de_cb (sem_repr rfl hg (hu64 hr)) rfl T.n_repr (by decide +kernel) (dg_cons (dh_of (de_n (dn_lst (dl_cons (de_v (pv 5)) (dl_cons (de_v (pv 5)) dl_nil))))) dg_nil))) (nomark _)) (ds_one (dp_ret de_bl)) ds_nil)
    (ds_cons (dp_if (dt_cmp (sem_neS) (dh_of (de_cb (sem_reprB) rfl T.n_repr (by decide +kernel) (dg_cons (dh_of (de_cd (C_alike_chains.more (by decide)) rfl hg hr rfl (da_cons (de_v (pv 6)) (da_cons (de_v (pv 7)) da_nil)))) dg_nil))) (dh_of (de_cb (sem_reprB) rfl T.n_repr (by decide +kernel) (dg_cons (dh_of (de_cmp (sem_is) (dh_v (pv 5)) (dh_of de_non) (nomark _))) dg_nil))) (nomark _)) (ds_one (dp_ret de_bl)) ds_nil)
    (ds_one (dp_if (PW.pt (dw_and (dt_cmp (sem_isnot) (dh_v (pv 5)) (dh_of de_non) (nomark _)) (dw_and (dt_cmp (sem_gt) (dh_v (pv 5)) (dh_of de_int) (nomark _)) (pw_and1 (dt_cmp (sem_ne rfl (hu64 hr)) (dh_of (de_cd (C_moved.more (by decide)) rfl hg hr rfl (da_cons (de_v (pv 6)) (da_cons (de_bin (sem_sub) (dh_v (pv 5)) (dh_of de_int)) da_nil)))) (dh_of (de_cd (C_moved.more (by decide)) rfl hg hr rfl (da_cons (de_v (pv 7)) (da_cons (de_bin (sem_sub) (dh_v (pv 5)) (dh_of de_int)) da_nil)))) (nomark _)))))) (ds_one (dp_ret de_bl)) ds_nil))))))))
    (ds_one (dp_ret de_bl)))))))
abbrev st__law_double : Stmt := topS 37
def names__law_double : List Str := ["_law_m", "_law_again", "_law_total", "_law_row", "_law_due", "_law_words", "_law_rows", "_law_steps", "_law_k", "_law_leg"]
theorem sc__law_double : FnScope names__law_double ["_law_m"] (defScope st__law_double) := ⟨rfl, rfl, rfl, by decide +kernel, rfl, by decide +kernel, by decide +kernel⟩
theorem ok__law_double {fa : Addr} {fd : FuncData} (T : Tx K gl) (F : L2.Fun K "_law_double" "_law_double" st__law_double fa fd) (C__law_draw : Cd pr wd K gl bas R 2 "_law_draw" 2 s_next) (C__law_first : Cd pr wd K gl bas R 3 "_law_first" 3 r__law_first) (C_apart_chains : Cd pr wd K gl bas R 5 "apart_chains" 2 r_apart_chains) : FnG pr wd K gl bas 6 fa fd ["_law_m"] (spD K R 1 r__law_double) := by
  have sc := sc__law_double
  refine FnG.data (g := g__law_double) F sc rfl fun cdv A out sh H E q F hg hr => ?_
  exact (ds_cons (dp_parIN rfl sc.nd (i := 5) (j := 6) rfl rfl (by decide) rfl rfl (de_n (dn_lst (dl_cons de_str (dl_cons de_str (dl_cons de_str dl_nil))))) (dn_lst dl_nil) rfl)
    (ds_cons (dp_for PassesOwn.never rfl (di_range1 rfl T.n_range (dl_cons de_int dl_nil)) (dg_name sc.nd (i := 1) rfl (by first | exact Or.inl rfl | exact Or.inr rfl)) (ds_cons (dp_setN sc.nd (i := 7) rfl (by first | exact Or.inl rfl | exact Or.inr rfl) (dn_lst dl_nil))
    (ds_cons (dp_for PassesOwn.never rfl (di_range1 rfl T.n_range (dl_cons (de_bin (sem_add rfl) (dh_of de_int) (dh_of (de_cdO (i := 0) (C__law_draw.more (by decide)) rfl hg hr rfl (da_ora (pv 0) (da_cons de_int da_nil))))) dl_nil)) (dg_name sc.nd (i := 8) rfl (by first | exact Or.inl rfl | exact Or.inr rfl)) (ds_one (dp_app rfl (pv 7) (de_tup (dl_cons (de_bin (sem_add rfl) (dh_of de_int) (dh_of (de_cdO (i := 0) (C__law_draw.more (by decide)) rfl hg hr rfl (da_ora (pv 0) (da_cons de_int da_nil))))) (dl_cons (de_bin (sem_add rfl) (dh_of de_int) (dh_of (de_cdO (i := 0) (C__law_draw.more (by decide)) rfl hg hr rfl (da_ora (pv 0) (da_cons de_int da_nil))))) (dl_cons (de_ix rfl (dh_v (pv 5)) (dh_of (de_cdO (i := 0) (C__law_draw.more (by decide)) rfl hg hr rfl (da_ora (pv 0) (da_cons de_int da_nil)))) (fun _ _ => rfl)) dl_nil)))))))
    (ds_one (dp_app rfl (pv 6) (de_ct (sem_tuple rfl) rfl T.n_tuple (by decide +kernel) (dg_cons (dh_v (pv 7)) dg_nil)))))))
    (ds_cons (dp_if (dt_cmp (sem_eq rfl (hu64 hr)) (dh_of (de_cdO (i := 0) (C__law_draw.more (by decide)) rfl hg hr rfl (da_ora (pv 0) (da_cons de_int da_nil)))) (dh_of de_int) (nomark _)) (ds_one (dp_put (pv 6) de_int (de_bin (sem_add rfl) (dh_of (de_sl rfl (dh_of (de_ix rfl (dh_v (pv 6)) (dh_of de_int) (fun _ _ => rfl))) do_no (do_i (de_neg de_int)))) (dh_of (de_tup (dl_cons (de_bin (sem_add rfl) (dh_of (de_sl rfl (dh_of (de_ix rfl (dh_of (de_ix rfl (dh_v (pv 6)) (dh_of de_int) (fun _ _ => rfl))) (dh_of (de_neg de_int)) (fun _ _ => rfl))) do_no (do_i de_int))) (dh_of (de_tup (dl_cons (de_ix rfl (dh_v (pv 5)) (dh_of (de_cdO (i := 0) (C__law_draw.more (by decide)) rfl hg hr rfl (da_ora (pv 0) (da_cons de_int da_nil)))) (fun _ _ => rfl)) dl_nil)))) dl_nil)))))) ds_nil)
    (ds_cons (dp_set sc.nd (i := 2) rfl (by first | exact Or.inl rfl | exact Or.inr rfl) de_int)
    (ds_cons (dp_for PassesOwn.never rfl (di_seq rfl (de_v (pv 6))) (dg_name sc.nd (i := 3) rfl (by first | exact Or.inl rfl | exact Or.inr rfl)) (ds_one (dp_for PassesOwn.never rfl (di_seq rfl (de_v (pv 3))) (dg_name sc.nd (i := 9) rfl (by first | exact Or.inl rfl | exact Or.inr rfl)) (ds_one (dp_set sc.nd (i := 2) rfl (by first | exact Or.inl rfl | exact Or.inr rfl) (de_bin (sem_mul rfl) (dh_v (pv 2)) (dh_of (de_ix rfl (dh_v (pv 9)) (dh_of de_int) (fun _ _ => rfl)))))))))
    (ds_cons (dp_set sc.nd (i := 4) rfl (by first | exact Or.inl rfl | exact Or.inr rfl) (de_cd (C__law_first.more (by decide)) rfl hg hr rfl (da_cons (de_ix rfl (dh_v (pv 6)) (dh_of de_int) (fun _ _ => rfl)) (da_cons (de_ix rfl (dh_v (pv 6)) (dh_of de_int) (fun _ _ => rfl)) (da_cons (de_cb (sem_min rfl rfl) rfl T.n_min (by decide +kernel) (dg_cons (dh_v (pv 2)) (dg_cons (dh_of de_int) dg_nil))) da_nil)))))
    (ds_one (dp_ret (de_cmp (sem_eqS) (dh_of (de_cb (sem_reprI) rfl T.n_repr (by decide +kernel) (dg_cons (dh_of (de_cd (C_apart_chains.more (by decide)) rfl hg hr rfl (da_cons (de_ix rfl (dh_v (pv 6)) (dh_of de_int) (fun _ _ => rfl)) (da_cons (de_ix rfl (dh_v (pv 6)) (dh_of de_int) (fun _ _ => rfl)) da_nil)))) dg_nil))) (dh_of (de_cb (sem_reprI) rfl T.n_repr (by decide +kernel) (dg_cons (dh_v (pv 4)) dg_nil))) (nomark _))))))))))
abbrev st__law_draw : Stmt := topS 29
def names__law_draw : List Str := ["_law_m", "_law_limit", "_law_spot", "_law_here", "_law_left"]
theorem sc__law_draw : FnScope names__law_draw ["_law_m", "_law_limit"] (defScope st__law_draw) := ⟨rfl, rfl, rfl, by decide +kernel, rfl, by decide +kernel, by decide +kernel⟩
theorem d_mix (c j : Int) (m : Nat) (P : D → Nat → Prop) (j0 : 0 ≤ j) (j1 : j < 2097152) (h : ∀ i : Int, P (.int i) 0) : r__law_mix [.d (.int c), .d (.int j)] m P := by
  have sj : -(2 ^ 64) < j ∧ j < 2 ^ 64 := ⟨by omega, by omega⟩
  refine ⟨trivial, .inr ⟨by decide, by decide⟩, trivial, .inr ⟨by decide, by decide⟩, by decide, ?_⟩
  refine ⟨trivial, .inr ⟨by decide, by decide⟩, trivial, trivial, by decide, ?_⟩
  refine ⟨trivial, .inr ⟨by decide, by decide⟩, trivial, trivial, .inl sj, .inr ⟨by decide, by decide⟩, by decide, hd_d, ?_⟩
  exact h _
theorem ok__law_draw {fa : Addr} {fd : FuncData} (T : Tx K gl) (F : L2.Fun K "_law_draw" "_law_draw" st__law_draw fa fd) (C : Cd pr wd K gl bas srcOrcB 1 "_law_mix" 2 r__law_mix) : FnG pr wd K gl bas 2 fa fd ["_law_m", "_law_limit"] (spD K srcOrcB 2 s_next) := by
  have nd := sc__law_draw.nd
  obtain ⟨fm, fdm, ps, Fm, gm, km, bm⟩ := C
  refine FnG.of F sc__law_draw (fun vs H Q E ⟨q, F0, as, m, P, w, pa, hl, _⟩ => by rw [paired_len pa, hl]; rfl) fun cdv A out sh H vs Q E hg hr ⟨qo, F0, as, m, P, w, pa, hl, ho, hq, hm, ⟨n, eas, n0, n1, m1, kP⟩, k0⟩ => ?_
  subst eas
  obtain ⟨v1, vs, rfl, a1, pa⟩ : ∃ v1 vs', vs = v1 :: vs' ∧ ArAt ⟨K, srcOrcB, qo, F0, H⟩ F0 v1 .ora ∧ Paired (ArAt ⟨K, srcOrcB, qo, F0, H⟩ F0) vs' [.d (.int n)] := by
    cases pa with
    | cons a b => (exact ⟨_, _, rfl, a, b⟩)
  obtain ⟨v2, rfl, a2⟩ : ∃ v2, vs = [v2] ∧ ArAt ⟨K, srcOrcB, qo, F0, H⟩ F0 v2 (.d (.int n)) := by
    cases pa with
    | cons a b => cases b; exact ⟨_, rfl, a⟩
  obtain ⟨q, eq, rfl⟩ := a1
  cases (show qo = some q from eq)
  have e2 : v2 = .int n := by
    have z : At K F0 v2 (.int n) := a2
    cases z
    rfl
  subst e2
  obtain ⟨c, l, cs, ls, k, s0⟩ := w.or q rfl
  have hk : k ≤ m := by have := hm q rfl; rw [s0.spot] at this; exact this
  refine ⟨_, pss_cons (ps_set (i := 2) nd rfl (Or.inl rfl) (pe_dget (hu_of hr) (pv 0) pe_str (fun _ _ => rfl)))
    (pss_cons (ps_dput (hu_of hr) (pv 0) pe_str (pe_op op_add (pv 2) pe_int) rfl)
    (pss_cons (ps_set (i := 3) nd rfl (Or.inl rfl) (pe_op op_mod (pe_callTy call_int1 rfl T.n_int (by decide +kernel) (pa_cons (pv 2) pa_nil)) (pe_callB call_len_seq rfl T.n_len (by decide +kernel) (pa_cons (pe_dget (hu_of hr) (pv 0) pe_str (fun _ _ => rfl)) pa_nil))))
    (pss_cons (ps_set (i := 4) nd rfl (Or.inl rfl) (pe_ix ix_list (pe_dget (hu_of hr) (pv 0) pe_str (fun _ _ => rfl)) (pv 3) (fun _ _ => rfl)))
    (pss_cons (ps_if (pt_cmpR op_gt (pv 4) pe_int (nomark _))
      (pss_cons (ps_asg (pe_op op_fdiv (pv 4) (pv 1)) (pg_sub (pe_dget (hu_of hr) (pv 0) pe_str (fun _ _ => rfl)) (pv 3) set_list))
        (pss_one (ps_ret (pe_op op_mod (pe_callTy call_int1 rfl T.n_int (by decide +kernel) (pa_cons (pv 4) pa_nil)) (pv 1))))) pss_nil)
    (pss_one (ps_ret (pe_op op_mod (pe_callTy call_int1 rfl T.n_int (by decide +kernel) (pa_cons (pe_op op_fdiv (pe_callG Fm hg (hr.mono (by decide)) rfl gm km bm (pa_cons (pe_ix ix_list (pe_dget (hu_of hr) (pv 0) pe_str (fun _ _ => rfl)) (pv 3) (fun _ _ => rfl)) (pa_cons (pv 2) pa_nil))) pe_int) pa_nil)) (pv 1)))))))), ?_⟩
  have fin : ∀ (r : Int) (H' : Hp) (l' : Addr) (ls' : List Int) (k' : Nat), 0 ≤ r → r < n → SrcB H' q c l' cs ls' k' → k' ≤ k + 1 → Tou q H H' → Q (.int r) H' := by
    intro r H' l' ls' k' r0 r1 s' hk' t'
    refine k0 (.int r) (m + 1) _ F0 H' (kP r r0 r1) (t'.worldB w ⟨_, _, _, _, _, s'⟩) (fun p e => ?_) (.int r)
    cases e
    rw [s'.spot]
    omega
  have modn : ∀ x : Int, 0 ≤ x % n ∧ x % n < n := fun x => ⟨Int.emod_nonneg x (by omega), Int.emod_lt_of_pos x n0⟩
  refine rdS s0.toSrcAt rfl ?_
  change L2.gName 2 (V.int (k : Int)) _ H _
  (refine ⟨_, rfl, _, _, rfl, rfl, ?_⟩)
  refine ⟨_, rfl, q, _, rfl, DPut.k (k := kS) s0.dq small3, ?_⟩
  have ek : (k : Int) + 1 = ((k + 1 : Nat) : Int) := by omega
  have s1 : SrcB (upd H q (.dK [(kC, .ref c), (kL, .ref l), (kS, .int ((k : Int) + 1))])) q c l cs ls (k + 1) := by
    rw [ek]
    exact ⟨s0.toSrcAt.setS (k + 1), s0.len, s0.nz⟩
  have t1 : Tou q H (upd H q (.dK [(kC, .ref c), (kL, .ref l), (kS, .int ((k : Int) + 1))])) := Tou.putQ s0.toSrcAt (.inl rfl) (fun _ z => by cases z)
  rw [put_kS]
  generalize upd H q (.dK [(kC, .ref c), (kL, .ref l), (kS, .int ((k : Int) + 1))]) = H1 at s1 t1 ⊢
  refine ⟨_, rfl, .inl ⟨_, rfl, ?_⟩⟩
  refine rdC s1.toSrcAt rfl ?_
  refine ⟨c, _, rfl, .inl (SqL.of s1.dc), ?_⟩
  have cl : 0 < cs.length := List.length_pos_iff.mpr s1.nz
  have k0' : (0 : Int) ≤ (k : Int) := by omega
  have kb : (k : Int) < 2097152 := by omega
  refine ⟨_, _, rfl, rfl, (by rw [List.length_map]; omega), ?_⟩
  have hj : ((k : Int) % (((cs.map V.int).length : Nat) : Int)) = ((k % cs.length : Nat) : Int) := by rw [List.length_map]; exact (Int.natCast_emod k cs.length).symm
  change L2.gName 3 (V.int ((k : Int) % (((cs.map V.int).length : Nat) : Int))) _ H1 _
  rw [hj]
  have jl : k % cs.length < cs.length := Nat.mod_lt _ cl
  generalize k % cs.length = j at jl ⊢
  refine rdL s1.toSrcAt rfl ?_
  have jl2 : j < ls.length := by rw [s1.len]; exact jl
  have el : atI (ls.map V.int) (j : Int) = some (V.int ls[j]) := by
    unfold atI ixN
    rw [if_pos (by omega), if_pos (by rw [List.length_map]; omega)]
    show (ls.map V.int)[j]? = _
    rw [List.getElem?_map, List.getElem?_eq_getElem jl2]
    rfl
  refine ⟨_, rfl, l, _, _, _, rfl, rfl, SqL.of s1.dl, el, ?_⟩
  generalize ls[j] = x
  change L2.gName 4 (V.int x) _ H1 _
  (refine ⟨_, rfl, _, _, rfl, rfl, _, rfl, ?_⟩)
  change if (decide ((0 : Int) < x)) = true then _ else _
  by_cases hx : 0 < x
  · rw [if_pos (decide_eq_true hx)]
    refine ⟨_, rfl, _, rfl, _, _, rfl, rfl, ⟨n0, n1⟩, ?_⟩
    have ix : ixN (ls.map V.int).length (j : Int) = some j := by
      unfold ixN
      rw [if_pos (by omega), if_pos (by rw [List.length_map]; omega)]
      rfl
    refine rdL s1.toSrcAt rfl ⟨_, rfl, l, _, (j : Int), j, rfl, rfl, s1.dl, ix, ?_⟩
    have e1 : ((ls.map V.int).set j (V.int (x / n))) = (ls.set j (x / n)).map V.int := by rw [List.map_set]
    rw [e1]
    have s3 : SrcB (upd H1 l (.lst ((ls.set j (x / n)).map V.int))) q c l cs (ls.set j (x / n)) (k + 1) := ⟨s1.toSrcAt.setV _ (by rw [List.length_set]; exact s1.nl), by rw [List.length_set]; exact s1.len, s1.nz⟩
    refine ⟨_, rfl, .inl ⟨_, rfl, _, rfl, _, _, rfl, rfl, n0, ?_⟩⟩
    exact fin _ _ _ _ _ (modn x).1 (modn x).2 s3 (Nat.le_refl _) (t1.trans (Tou.putL s1.toSrcAt))
  · rw [if_neg (by simpa using hx)]
    have ec : atI (cs.map V.int) (j : Int) = some (V.int cs[j]) := by
      unfold atI ixN
      rw [if_pos (by omega), if_pos (by rw [List.length_map]; omega)]
      show (cs.map V.int)[j]? = _
      rw [List.getElem?_map, List.getElem?_eq_getElem jl]
      rfl
    generalize cs[j] = z at ec
    have fh : Ex F0 H1 := (t1.worldB w ⟨_, _, _, _, _, s1⟩).fh
    refine rdC s1.toSrcAt rfl ⟨_, rfl, c, _, _, _, rfl, rfl, SqL.of s1.dc, ec, _, rfl, ?_⟩
    refine ⟨none, F0, [.d (.int z), .d (.int (k : Int))], 0, fun d _ => ∃ i : Int, d = .int i, World.start fh (fun _ _ z => z) (fun _ z => nomatch z), .cons (show At K F0 (.int z) (.int z) from .int _) (.cons (show At K F0 (.int (k : Int)) (.int (k : Int)) from .int _) .nil), rfl, fun i e => ?_, .inl rfl, (fun _ z => nomatch z), d_mix z k 0 _ k0' kb fun i => ⟨i, rfl⟩, ?_⟩
    · rcases i with _ | _ | i <;> simp at e
    · rintro d m' v F' H' ⟨i, rfl⟩ w' _ at_
      cases at_
      have s3 : SrcB H' q c l cs ls (k + 1) := ⟨s1.toSrcAt.of_world w', s1.len, s1.nz⟩
      have t3 : Tou q H1 H' := Tou.of_world w' (by rw [s1.dq]; exact Option.some_ne_none _)
      refine ⟨_, _, rfl, rfl, ⟨by decide, by decide⟩, .inl ⟨_, rfl, _, rfl, _, _, rfl, rfl, n0, ?_⟩⟩
      exact fin _ _ _ _ _ (modn _).1 (modn _).2 s3 (Nat.le_refl _) (t1.trans t3)
abbrev st__law_begun : Stmt := topS 28
def names__law_begun : List Str := ["_law_script", "_law_some", "_law_cell"]
theorem sc__law_begun : FnScope names__law_begun ["_law_script"] (defScope st__law_begun) := ⟨rfl, rfl, rfl, by decide +kernel, rfl, by decide +kernel, by decide +kernel⟩
theorem pe_some {X : Cx} {e : Expr} {ι : Type} {t : ι → TE} (h : ∀ i, PE X e (t i)) : PE X e (fun σ H Q => ∃ i, t i σ H Q) := ⟨fun pins s σ H Q I ⟨i, q⟩ => (h i).run pins s σ H Q I q⟩
abbrev pickD : DM := dLc (iSeq (dV 1)) (gN 2) (bYes) (dIf (bD (d2 gGe (hS 2) (hV (d2 gPow (hV (dC (.int 10))) (hV (dC (.int 18))))))) (dV 2) (dC (.int 0))) [2]
def pick (x : Int) : Int := if 1000000000000000000 ≤ x then x else 0
theorem pick_data {cs : List Int} (hl : cs.length ≤ 100) {s0 : Sl} : pickD [s0, .im (.list (cs.map PyData.int)), .no] fun d _ => d = .list ((cs.map pick).map PyData.int) := by
  have ew : (10 : Int) ^ (18 : Int).toNat = 1000000000000000000 := by decide
  refine ⟨by rw [List.length_map]; omega, ⟨by simp, fun j hj => by simp at hj; subst hj; rfl⟩, ?_⟩
  refine lcL_map (ρ := [s0, .im (.list (cs.map PyData.int)), .no]) (fun d => match d with
    | .int x => .int (pick x)
    | _ => .none) _ [] ?_ ?_
  · intro d hd Q hQ
    obtain ⟨x, _, rfl⟩ := List.mem_map.mp hd
    have hQ : ∀ ρ3, wipeE ρ3 [2] = [s0, .im (.list (cs.map PyData.int)), .no] → Q (.int (pick x)) ρ3 := hQ
    refine ⟨trivial, ⟨by decide, by decide, by decide⟩, ?_⟩
    show if decide (x ≥ (10 : Int) ^ (18 : Int).toNat) = true then _ else _
    rw [ew]
    unfold pick at hQ
    by_cases hx : 1000000000000000000 ≤ x
    · rw [if_pos (decide_eq_true hx)]
      rw [if_pos hx] at hQ
      exact hQ _ rfl
    · rw [if_neg (by simpa using hx)]
      rw [if_neg hx] at hQ
      exact hQ _ rfl
  · rw [List.nil_append, List.map_map, List.map_map]
    rfl
theorem ok__law_begun {fa : Addr} {fd : FuncData} (T : Tx K gl) (F : L2.Fun K "_law_begun" "_law_begun" st__law_begun fa fd) : FnG pr wd K gl bas 1 fa fd ["_law_script"] (spBegunB K) := by
  have sc := sc__law_begun
  have nd := sc.nd
  refine FnG.of F sc (fun vs H Q E h => ?_) fun cdv A out sh H vs Q E hg hr h => ?_
  · obtain ⟨a, ns, rfl, _⟩ := h
    rfl
  obtain ⟨a, ns, rfl, sq, hl, k⟩ := h
  refine ⟨_, pss_cons (ps_set (i := 1) nd rfl (Or.inl rfl) (pe_ifExp (pt_cmpR (op_neD (hu64 hr)) (pv 0) (pe_lst pa_nil) (nomark _)) (pe_callTy call_list_of rfl T.n_list (by decide +kernel) (pa_cons (pv 0) pa_nil)) (pe_lst (pa_cons pe_int pa_nil))))
    (pss_one (ps_ret (pe_disp (pps_cons pe_str (pv 1) (pps_cons pe_str (pe_some (ι := Hp) (t := fun H2 => tN ⟨K, Orc.nil, none, H2, H2⟩ pickD) fun H2 => (dn_lc (c := ⟨K, Orc.nil, none, H2, H2⟩) (own := [("_law_cell", 2)]) rfl sc.nd (di_seq rfl (de_v (pv 1))) (blkOk_by (own := [("_law_cell", 2)]) (N := names__law_begun) (sc := defScope st__law_begun) (by decide +kernel)) (by decide) (fun _ _ _ _ _ => (dg_name sc.nd (i := 2) rfl (by first | exact Or.inl rfl | exact Or.inr rfl))) (fun _ _ _ _ _ => dts_nil) (fun _ _ _ _ _ => (de_if (dt_cmp (sem_ge) (dh_v (pv 2)) (dh_of (de_bin (sem_pow) (dh_of de_int) (dh_of de_int))) (nomark _)) (de_v (pv 2)) de_int)))) (pps_cons pe_str pe_int pps_nil))) rfl rfl (by decide) (by decide)))), ?_⟩
  have nodI : ∀ ms : List Int, nod (.list (ms.map PyData.int)) = true := fun ms => by
    show nodAll (ms.map PyData.int) = true
    induction ms with
    | nil => rfl
    | cons x ms ih =>
      rw [List.map_cons, nodAll, ih]
      rfl
  refine ⟨_, rfl, Nat.zero_le _, fun p0 hp0 => ?_⟩
  have ex0 : Ex H (upd H p0 (.lst [])) := Ex.new hp0
  have dpA : Dp K (upd H p0 (.lst [])) (.ref a) (.list (ns.map PyData.int)) := (At.lst (ex0.sl sq) (AtAll.ofInts ns)).dp (nodI ns)
  refine ⟨_, _, dpA, dp_ints (ns := []) upd_same, okD_ints ns, okD_ints [], _, rfl, ?_⟩
  have ez : (!PyData.eqv (.list (ns.map PyData.int)) (.list (([] : List Int).map PyData.int))) = decide (ns ≠ []) := by cases ns <;> rfl
  rw [ez]
  generalize upd H p0 (.lst []) = H0 at ex0 dpA ⊢
  have rest : ∀ (p : Addr) (cs : List Int), H0 p = none → cs ≠ [] → cs.length ≤ 100 → tRet (tDisp [(tC (.str "cells"), tVar 1), (tC (.str "left"), fun σ H Q => ∃ H2 : Hp, tN ⟨K, Orc.nil, none, H2, H2⟩ pickD σ H Q), (tC (.str "spot"), tC (.int 0))]) { nx := fun _ H' => Q .non H', rt := Q } ((start names__law_begun [.ref a]).set 1 (some (.ref p))) (upd H0 p (.lst (cs.map V.int))) := by
    intro p cs hp cz cl
    have ex1 : Ex H0 (upd H0 p (.lst (cs.map V.int))) := Ex.new hp
    have h1 : (upd H0 p (.lst (cs.map V.int))) p = some (.lst (cs.map V.int)) := upd_same
    generalize upd H0 p (.lst (cs.map V.int)) = H1 at ex1 h1 ⊢
    intro q hq
    have ex2 : Ex H1 (upd H1 q (.dK [])) := Ex.new hq
    have hqq : (upd H1 q (.dK [])) q = some (.dK []) := upd_same
    generalize upd H1 q (.dK []) = H2 at ex2 hqq ⊢
    have ex02 : Ex H H2 := (ex0.trans ex1).trans ex2
    have w : World Orc.nil none H2 H2 H2 H2 := World.start (Ex.refl H2) (fun _ _ z => z) fun _ z => nomatch z
    have r0 : Rel ⟨K, Orc.nil, none, H2, H2⟩ H2 H2 (start names__law_begun [.ref a]) (startE names__law_begun.length [.d (.list (ns.map PyData.int))] 0) [] :=
      rel_start w (.cons (.lst (ex02.sl sq) (AtAll.ofInts ns)) .nil) (fun i z => by cases i with | zero => rfl | succ i => cases z) fun _ z => nomatch z
    have r1 := r0.putI 1 (v := .ref p) (d := .list (cs.map PyData.int)) (.lst (SqL.of (ex2 _ _ h1)) (AtAll.ofInts cs))
    refine ⟨_, rfl, ?_⟩
    refine ⟨H2, H2, _, [], _, r1, pick_data cl, ?_⟩
    rintro d2 ρ2 a2 F3 H3 rfl e3 r3 f3
    have r4 := r3.pushX f3
    have x2 := r4.s.ex (a2, .d (.list ((cs.map pick).map PyData.int))) (by simp)
    obtain ⟨v2, g2, t2⟩ := x2.1.o
    have q2 := t2.ints
    subst q2
    have hq3 : H3 q = some (.dK []) := r4.w.fh _ _ (e3 _ _ hqq)
    have h13 : H3 p = some (.lst (cs.map V.int)) := r4.w.fh _ _ (e3 _ _ (ex2 _ _ h1))
    refine ⟨hq3, [(kC, .ref p), (kL, .ref a2), (kS, .int 0)], rfl, (by show 3 ≤ 15; omega), ?_⟩
    have none_of : ∀ {A B : Hp} {b : Addr}, Ex A B → B b = none → A b = none := fun {A B b} e z => by
      cases y : A b with
      | none => rfl
      | some o => rw [e b o y] at z; cases z
    have y2 : H2 a2 = none := x2.1.y
    have pq : p ≠ q := fun z => by rw [z, hq] at h1; cases h1
    have aq : a2 ≠ q := fun z => by rw [z, hqq] at y2; cases y2
    have pa : p ≠ a2 := fun z => by rw [← z, ex2 _ _ h1] at y2; cases y2
    refine k q p a2 cs (cs.map pick) _ (fun b o e => ?_) (none_of (ex0.trans ex1) hq) (none_of ex0 hp) (none_of ex02 y2) ⟨⟨?_, ?_, ?_, pa, cl, by rw [List.length_map]; exact cl⟩, List.length_map _, cz⟩
    · have hb : b ≠ q := fun z => by
        have := none_of (ex0.trans ex1) hq
        rw [← z, e] at this
        cases this
      rw [upd_ne hb]
      exact r4.w.fh _ _ (e3 _ _ (ex02 _ _ e))
    · rw [upd_same]
      rfl
    · rw [upd_ne pq]
      exact h13
    · rw [upd_ne aq]
      exact g2
  change if decide (ns ≠ []) = true then _ else _
  by_cases hz : ns = []
  · rw [if_neg (by simpa using hz)]
    refine ⟨(by decide), fun p hp => ?_⟩
    exact rest p [0] hp (by simp) (by simp)
  · rw [if_pos (decide_eq_true hz)]
    refine ⟨_, rfl, a, _, rfl, .inl (ex0.sl sq), fun p hp => ?_⟩
    exact rest p ns hp hz (by omega)
abbrev st_law : Stmt := topS 38
def names_law : List Str := ["_law_script", "_law_m", "_law_turn", "_law_told"]
theorem sc_law : FnScope names_law ["_law_script"] (defScope st_law) := ⟨rfl, rfl, rfl, by decide +kernel, rfl, by decide +kernel, by decide +kernel⟩
theorem noIm (i : Nat) (d : D) : ([.ora 0, .no, .no] : List Sl)[i]? ≠ some (.im d) := by
  intro e
  have := List.mem_of_getElem? e
  simp at this
theorem noOw {ns : List Int} (i : Nat) (d : D) : ([.im (.list (ns.map PyData.int)), .ora 0, .no, .no] : List Sl)[i]? ≠ some (.ow d) := by
  intro e
  have := List.mem_of_getElem? e
  simp at this
theorem oneOra {ns : List Int} (i m : Nat) (e : ([.im (.list (ns.map PyData.int)), .ora 0, .no, .no] : List Sl)[i]? = some (.ora m)) : i = 1 ∧ m = 0 := by
  have hi : i < 4 := by
    have := (List.getElem?_eq_some_iff.mp e).1
    simpa using this
  have : i = 0 ∨ i = 1 ∨ i = 2 ∨ i = 3 := by omega
  rcases this with rfl | rfl | rfl | rfl <;> simp at e <;> simp [e]
theorem rel_law {K : PySem.W.Frag} {q c l a : Addr} {H H1 : Hp} {cs ls ns : List Int} (w : World srcOrcB (some q) H H1 H H1) (sq : SqL K H a (ns.map V.int)) (s : SrcB H1 q c l cs ls 0) :
    Rel ⟨K, srcOrcB, some q, H, H1⟩ H H1 ((start names_law [.ref a]).set 1 (some (.ref q))) [.im (.list (ns.map PyData.int)), .ora 0, .no, .no] [] := by
  refine ⟨w, ⟨rfl, fun i d e => ?_, fun i d e => ?_, fun i j d e b z => ?_, fun i n e => ?_, fun i j m n e1 e2 => ?_, (fun _ hp => nomatch hp), List.nodup_nil⟩⟩
  · rcases i with _ | i
    · cases e
      exact ⟨_, rfl, .lst sq (AtAll.ofInts ns)⟩
    · exact absurd e (noIm i d)
  · exact absurd e (noOw i d)
  · exact absurd z (noOw i d)
  · obtain ⟨rfl, rfl⟩ := oneOra i n e
    exact ⟨q, rfl, rfl, by rw [s.spot]; exact Nat.le_refl _⟩
  · rw [(oneOra i m e1).1, (oneOra j n e2).1]
def spLawG (K : PySem.W.Frag) : Sp := fun vs H Q _ => ∃ (a : Addr) (ns : List Int), vs = [.ref a] ∧ SqL K H a (ns.map V.int) ∧ ns.length ≤ 63 ∧ ∀ H', Q (.bl true) H'
theorem ok_law {fa fb : Addr} {fd fdb : FuncData} (T : Tx K gl) (F : L2.Fun K "law" "law" st_law fa fd) (Fb : FnG pr wd K gl bas 1 fb fdb ["_law_script"] (spBegunB K)) (gb : gl "_law_begun" = some (.ref fb)) (kb : PySem.W.keepIn K (.ref fb) = true) (bb : Binds K fdb ["_law_script"] []) (C__law_single : Cd pr wd K gl bas srcOrcB 41 "_law_single" 1 r__law_single) (C__law_double : Cd pr wd K gl bas srcOrcB 6 "_law_double" 1 r__law_double) (C_apart_chains : Cd pr wd K gl bas srcOrcB 5 "apart_chains" 2 r_apart_chains) (C_alike_chains : Cd pr wd K gl bas srcOrcB 6 "alike_chains" 2 r_alike_chains)
    (says : ∀ ns : List Int, ns.length ≤ 63 → lawSays ns) : FnG pr wd K gl bas 42 fa fd ["_law_script"] (spLawG K) := by
  have sc := sc_law
  refine FnG.of F sc (fun vs H Q E h => ?_) fun cdv A out sh H vs Q E hg hr h => ?_
  · obtain ⟨a, ns, rfl, _⟩ := h
    rfl
  obtain ⟨a, ns, rfl, sq, hl, k⟩ := h
  refine ⟨_, pss_cons (ps_set (i := 1) sc.nd rfl (by first | exact Or.inl rfl | exact Or.inr rfl) (pe_callG Fb hg (hr.mono (by decide)) rfl gb kb bb (pa_cons (pv 0) pa_nil)))
    (pss_some (ι := Option Addr × Hp × Hp) (t := fun i => tS ⟨K, srcOrcB, i.1, i.2.1, i.2.2⟩ g_law) fun ⟨qo, F0, H0⟩ => ?_), ?_⟩
  · exact (ds_cons (dp_for PassesOwn.never rfl (di_range1 rfl T.n_range (dl_cons (de_bin (sem_add rfl) (dh_of de_int) (dh_of (de_cb (sem_min rfl rfl) rfl T.n_min (by decide +kernel) (dg_cons (dh_of de_int) (dg_cons (dh_of (de_cb (sem_len rfl) rfl T.n_len (by decide +kernel) (dg_cons (dh_v (pv 0)) dg_nil))) dg_nil))))) dl_nil)) (dg_name sc.nd (i := 2) rfl (by first | exact Or.inl rfl | exact Or.inr rfl)) (ds_one (dp_if (dt_not (dt_truth rfl (dh_of (de_cdO (i := 1) (C__law_single.more (by decide)) rfl hg hr rfl (da_ora (pv 1) da_nil))))) (ds_one (dp_ret de_bl)) ds_nil)))
    (ds_cons (dp_if (dt_not (dt_truth rfl (dh_of (de_cdO (i := 1) (C__law_double.more (by decide)) rfl hg hr rfl (da_ora (pv 1) da_nil))))) (ds_one (dp_ret de_bl)) ds_nil)
    (ds_cons (dp_set sc.nd (i := 3) rfl (by first | exact Or.inl rfl | exact Or.inr rfl) (de_n (dn_lst (dl_cons (de_cd (C_apart_chains.more (by decide)) rfl hg hr rfl (da_cons (de_tup (dl_cons (de_tup (dl_cons de_int (dl_cons de_int (dl_cons de_str dl_nil)))) dl_nil)) (da_cons (de_tup (dl_cons (de_tup (dl_cons de_int (dl_cons de_int (dl_cons de_str dl_nil)))) dl_nil)) da_nil))) (dl_cons (de_cd (C_apart_chains.more (by decide)) rfl hg hr rfl (da_cons (de_tup (dl_cons (de_tup (dl_cons de_int (dl_cons de_int (dl_cons de_str dl_nil)))) dl_nil)) (da_cons (de_tup dl_nil) da_nil))) dl_nil)))))
    (ds_one (dp_ret (de_and (de_cmp (sem_eq rfl (hu64 hr)) (dh_v (pv 3)) (dh_of (de_n (dn_lst (dl_cons de_int (dl_cons de_non dl_nil))))) (nomark _)) (pe_one (de_cmp (sem_isb) (dh_of (de_cd (C_alike_chains.more (by decide)) rfl hg hr rfl (da_cons (de_tup (dl_cons (de_tup (dl_cons de_int (dl_cons de_int (dl_cons de_str dl_nil)))) dl_nil)) (da_cons (de_tup (dl_cons (de_tup (dl_cons de_int (dl_cons de_int (dl_cons de_str dl_nil)))) dl_nil)) da_nil)))) (dh_of de_bl) (nomark _)))))))))
  refine ⟨.ref a, rfl, a, ns, rfl, sq, hl, fun q c l cs ls H1 ex hq hc hL s => ⟨(some q, H, H1), H, _, [], _, ?_, says ns hl, ?_, ?_, ?_, ?_⟩⟩
  · have w : World srcOrcB (some q) H H1 H H1 := by
      refine World.start ex (fun b hb z => ?_) fun p e => ?_
      · rcases s.foot z with rfl | rfl | rfl
        · exact hb hq
        · exact hb hc
        · exact hb hL
      · cases e
        exact ⟨_, _, _, _, _, s⟩
    exact rel_law w sq s
  · exact fun _ _ _ _ z => z.elim
  · rintro d v ρ' σ' F' H' rfl _ at_
    cases at_
    exact k _
  · exact fun _ _ _ _ z => z.elim
  · exact fun _ _ _ _ z => z.elim
end
end Q79
namespace Q79
open PySem L2 DL
open PySem.W (nsIn keepIn codeIn fnOf)
theorem all_mk {l : PySem.W.OpenLaw} {wd : PySem.World} {K : PySem.W.Frag} {h : Heap} {gl : Str → Option Value} {fa : Addr} (X : K.In h) (G : h.Ns mainGlobals gl) (hfa : gl "law" = some (.ref fa))
    {f0 : Addr} {od0 an0 : Option Addr} {sl0 : Array (Option Value)} {oc0 kV0 dc0 pm0 cd0 ct0 : Value}
    (a0 : nsIn K mainGlobals "is_integer" = some (some (.ref f0))) (l0 : K.lookup f0 = some ⟨oc0, od0, .func (fnOf "is_integer" "is_integer" (defArgs st_is_integer) (defBody st_is_integer) (defScope st_is_integer) .none kV0 dc0 pm0 an0 cd0 ct0), sl0⟩) (c0 : codeIn K cd0 "is_integer" = true) (k0 : keepIn K (.ref f0) = true)
    {f1 : Addr} {od1 an1 : Option Addr} {sl1 : Array (Option Value)} {oc1 kV1 dc1 pm1 cd1 ct1 : Value}
    (a1 : nsIn K mainGlobals "is_within" = some (some (.ref f1))) (l1 : K.lookup f1 = some ⟨oc1, od1, .func (fnOf "is_within" "is_within" (defArgs st_is_within) (defBody st_is_within) (defScope st_is_within) .none kV1 dc1 pm1 an1 cd1 ct1), sl1⟩) (c1 : codeIn K cd1 "is_within" = true) (k1 : keepIn K (.ref f1) = true)
    {f2 : Addr} {od2 an2 : Option Addr} {sl2 : Array (Option Value)} {oc2 kV2 dc2 pm2 cd2 ct2 : Value}
    (a2 : nsIn K mainGlobals "is_tuple" = some (some (.ref f2))) (l2 : K.lookup f2 = some ⟨oc2, od2, .func (fnOf "is_tuple" "is_tuple" (defArgs st_is_tuple) (defBody st_is_tuple) (defScope st_is_tuple) .none kV2 dc2 pm2 an2 cd2 ct2), sl2⟩) (c2 : codeIn K cd2 "is_tuple" = true) (k2 : keepIn K (.ref f2) = true)
    {f3 : Addr} {od3 an3 : Option Addr} {sl3 : Array (Option Value)} {oc3 kV3 dc3 pm3 cd3 ct3 : Value}
    (a3 : nsIn K mainGlobals "is_one_of" = some (some (.ref f3))) (l3 : K.lookup f3 = some ⟨oc3, od3, .func (fnOf "is_one_of" "is_one_of" (defArgs st_is_one_of) (defBody st_is_one_of) (defScope st_is_one_of) .none kV3 dc3 pm3 an3 cd3 ct3), sl3⟩) (c3 : codeIn K cd3 "is_one_of" = true) (k3 : keepIn K (.ref f3) = true)
    {f4 : Addr} {od4 an4 : Option Addr} {sl4 : Array (Option Value)} {oc4 kV4 dc4 pm4 cd4 ct4 : Value}
    (a4 : nsIn K mainGlobals "_is_step" = some (some (.ref f4))) (l4 : K.lookup f4 = some ⟨oc4, od4, .func (fnOf "_is_step" "_is_step" (defArgs st__is_step) (defBody st__is_step) (defScope st__is_step) .none kV4 dc4 pm4 an4 cd4 ct4), sl4⟩) (c4 : codeIn K cd4 "_is_step" = true) (k4 : keepIn K (.ref f4) = true)
    {f5 : Addr} {od5 an5 : Option Addr} {sl5 : Array (Option Value)} {oc5 kV5 dc5 pm5 cd5 ct5 : Value}
    (a5 : nsIn K mainGlobals "need_chain" = some (some (.ref f5))) (l5 : K.lookup f5 = some ⟨oc5, od5, .func (fnOf "need_chain" "need_chain" (defArgs st_need_chain) (defBody st_need_chain) (defScope st_need_chain) .none kV5 dc5 pm5 an5 cd5 ct5), sl5⟩) (c5 : codeIn K cd5 "need_chain" = true) (k5 : keepIn K (.ref f5) = true)
    {f6 : Addr} {od6 an6 : Option Addr} {sl6 : Array (Option Value)} {oc6 kV6 dc6 pm6 cd6 ct6 : Value}
    (a6 : nsIn K mainGlobals "_quotient" = some (some (.ref f6))) (l6 : K.lookup f6 = some ⟨oc6, od6, .func (fnOf "_quotient" "_quotient" (defArgs st__quotient) (defBody st__quotient) (defScope st__quotient) .none kV6 dc6 pm6 an6 cd6 ct6), sl6⟩) (c6 : codeIn K cd6 "_quotient" = true) (k6 : keepIn K (.ref f6) = true)
    {f7 : Addr} {od7 an7 : Option Addr} {sl7 : Array (Option Value)} {oc7 kV7 dc7 pm7 cd7 ct7 : Value}
    (a7 : nsIn K mainGlobals "_moved" = some (some (.ref f7))) (l7 : K.lookup f7 = some ⟨oc7, od7, .func (fnOf "_moved" "_moved" (defArgs st__moved) (defBody st__moved) (defScope st__moved) .none kV7 dc7 pm7 an7 cd7 ct7), sl7⟩) (c7 : codeIn K cd7 "_moved" = true) (k7 : keepIn K (.ref f7) = true)
    {f8 : Addr} {od8 an8 : Option Addr} {sl8 : Array (Option Value)} {oc8 kV8 dc8 pm8 cd8 ct8 : Value}
    (a8 : nsIn K mainGlobals "moved" = some (some (.ref f8))) (l8 : K.lookup f8 = some ⟨oc8, od8, .func (fnOf "moved" "moved" (defArgs st_moved) (defBody st_moved) (defScope st_moved) .none kV8 dc8 pm8 an8 cd8 ct8), sl8⟩) (c8 : codeIn K cd8 "moved" = true) (k8 : keepIn K (.ref f8) = true)
    {f9 : Addr} {od9 an9 : Option Addr} {sl9 : Array (Option Value)} {oc9 kV9 dc9 pm9 cd9 ct9 : Value}
    (a9 : nsIn K mainGlobals "_bottom" = some (some (.ref f9))) (l9 : K.lookup f9 = some ⟨oc9, od9, .func (fnOf "_bottom" "_bottom" (defArgs st__bottom) (defBody st__bottom) (defScope st__bottom) .none kV9 dc9 pm9 an9 cd9 ct9), sl9⟩) (c9 : codeIn K cd9 "_bottom" = true) (k9 : keepIn K (.ref f9) = true)
    {f10 : Addr} {od10 an10 : Option Addr} {sl10 : Array (Option Value)} {oc10 kV10 dc10 pm10 cd10 ct10 : Value}
    (a10 : nsIn K mainGlobals "slope" = some (some (.ref f10))) (l10 : K.lookup f10 = some ⟨oc10, od10, .func (fnOf "slope" "slope" (defArgs st_slope) (defBody st_slope) (defScope st_slope) .none kV10 dc10 pm10 an10 cd10 ct10), sl10⟩) (c10 : codeIn K cd10 "slope" = true) (k10 : keepIn K (.ref f10) = true)
    {f11 : Addr} {od11 an11 : Option Addr} {sl11 : Array (Option Value)} {oc11 kV11 dc11 pm11 cd11 ct11 : Value}
    (a11 : nsIn K mainGlobals "_first_apart" = some (some (.ref f11))) (l11 : K.lookup f11 = some ⟨oc11, od11, .func (fnOf "_first_apart" "_first_apart" (defArgs st__first_apart) (defBody st__first_apart) (defScope st__first_apart) .none kV11 dc11 pm11 an11 cd11 ct11), sl11⟩) (c11 : codeIn K cd11 "_first_apart" = true) (k11 : keepIn K (.ref f11) = true)
    {f12 : Addr} {od12 an12 : Option Addr} {sl12 : Array (Option Value)} {oc12 kV12 dc12 pm12 cd12 ct12 : Value}
    (a12 : nsIn K mainGlobals "apart_chains" = some (some (.ref f12))) (l12 : K.lookup f12 = some ⟨oc12, od12, .func (fnOf "apart_chains" "apart_chains" (defArgs st_apart_chains) (defBody st_apart_chains) (defScope st_apart_chains) .none kV12 dc12 pm12 an12 cd12 ct12), sl12⟩) (c12 : codeIn K cd12 "apart_chains" = true) (k12 : keepIn K (.ref f12) = true)
    {f13 : Addr} {od13 an13 : Option Addr} {sl13 : Array (Option Value)} {oc13 kV13 dc13 pm13 cd13 ct13 : Value}
    (a13 : nsIn K mainGlobals "alike_chains" = some (some (.ref f13))) (l13 : K.lookup f13 = some ⟨oc13, od13, .func (fnOf "alike_chains" "alike_chains" (defArgs st_alike_chains) (defBody st_alike_chains) (defScope st_alike_chains) .none kV13 dc13 pm13 an13 cd13 ct13), sl13⟩) (c13 : codeIn K cd13 "alike_chains" = true) (k13 : keepIn K (.ref f13) = true)
    {f14 : Addr} {od14 an14 : Option Addr} {sl14 : Array (Option Value)} {oc14 kV14 dc14 pm14 cd14 ct14 : Value}
    (a14 : nsIn K mainGlobals "_law_mix" = some (some (.ref f14))) (l14 : K.lookup f14 = some ⟨oc14, od14, .func (fnOf "_law_mix" "_law_mix" (defArgs st__law_mix) (defBody st__law_mix) (defScope st__law_mix) .none kV14 dc14 pm14 an14 cd14 ct14), sl14⟩) (c14 : codeIn K cd14 "_law_mix" = true) (k14 : keepIn K (.ref f14) = true)
    {f15 : Addr} {od15 an15 : Option Addr} {sl15 : Array (Option Value)} {oc15 kV15 dc15 pm15 cd15 ct15 : Value}
    (a15 : nsIn K mainGlobals "_law_divisor" = some (some (.ref f15))) (l15 : K.lookup f15 = some ⟨oc15, od15, .func (fnOf "_law_divisor" "_law_divisor" (defArgs st__law_divisor) (defBody st__law_divisor) (defScope st__law_divisor) .none kV15 dc15 pm15 an15 cd15 ct15), sl15⟩) (c15 : codeIn K cd15 "_law_divisor" = true) (k15 : keepIn K (.ref f15) = true)
    {f16 : Addr} {od16 an16 : Option Addr} {sl16 : Array (Option Value)} {oc16 kV16 dc16 pm16 cd16 ct16 : Value}
    (a16 : nsIn K mainGlobals "_law_simple" = some (some (.ref f16))) (l16 : K.lookup f16 = some ⟨oc16, od16, .func (fnOf "_law_simple" "_law_simple" (defArgs st__law_simple) (defBody st__law_simple) (defScope st__law_simple) .none kV16 dc16 pm16 an16 cd16 ct16), sl16⟩) (c16 : codeIn K cd16 "_law_simple" = true) (k16 : keepIn K (.ref f16) = true)
    {f17 : Addr} {od17 an17 : Option Addr} {sl17 : Array (Option Value)} {oc17 kV17 dc17 pm17 cd17 ct17 : Value}
    (a17 : nsIn K mainGlobals "_law_near" = some (some (.ref f17))) (l17 : K.lookup f17 = some ⟨oc17, od17, .func (fnOf "_law_near" "_law_near" (defArgs st__law_near) (defBody st__law_near) (defScope st__law_near) .none kV17 dc17 pm17 an17 cd17 ct17), sl17⟩) (c17 : codeIn K cd17 "_law_near" = true) (k17 : keepIn K (.ref f17) = true)
    {f18 : Addr} {od18 an18 : Option Addr} {sl18 : Array (Option Value)} {oc18 kV18 dc18 pm18 cd18 ct18 : Value}
    (a18 : nsIn K mainGlobals "_law_step" = some (some (.ref f18))) (l18 : K.lookup f18 = some ⟨oc18, od18, .func (fnOf "_law_step" "_law_step" (defArgs st__law_step) (defBody st__law_step) (defScope st__law_step) .none kV18 dc18 pm18 an18 cd18 ct18), sl18⟩) (c18 : codeIn K cd18 "_law_step" = true) (k18 : keepIn K (.ref f18) = true)
    {f19 : Addr} {od19 an19 : Option Addr} {sl19 : Array (Option Value)} {oc19 kV19 dc19 pm19 cd19 ct19 : Value}
    (a19 : nsIn K mainGlobals "_law_led" = some (some (.ref f19))) (l19 : K.lookup f19 = some ⟨oc19, od19, .func (fnOf "_law_led" "_law_led" (defArgs st__law_led) (defBody st__law_led) (defScope st__law_led) .none kV19 dc19 pm19 an19 cd19 ct19), sl19⟩) (c19 : codeIn K cd19 "_law_led" = true) (k19 : keepIn K (.ref f19) = true)
    {f20 : Addr} {od20 an20 : Option Addr} {sl20 : Array (Option Value)} {oc20 kV20 dc20 pm20 cd20 ct20 : Value}
    (a20 : nsIn K mainGlobals "_law_first" = some (some (.ref f20))) (l20 : K.lookup f20 = some ⟨oc20, od20, .func (fnOf "_law_first" "_law_first" (defArgs st__law_first) (defBody st__law_first) (defScope st__law_first) .none kV20 dc20 pm20 an20 cd20 ct20), sl20⟩) (c20 : codeIn K cd20 "_law_first" = true) (k20 : keepIn K (.ref f20) = true)
    {f21 : Addr} {od21 an21 : Option Addr} {sl21 : Array (Option Value)} {oc21 kV21 dc21 pm21 cd21 ct21 : Value}
    (a21 : nsIn K mainGlobals "_law_single" = some (some (.ref f21))) (l21 : K.lookup f21 = some ⟨oc21, od21, .func (fnOf "_law_single" "_law_single" (defArgs st__law_single) (defBody st__law_single) (defScope st__law_single) .none kV21 dc21 pm21 an21 cd21 ct21), sl21⟩) (c21 : codeIn K cd21 "_law_single" = true) (k21 : keepIn K (.ref f21) = true)
    {f22 : Addr} {od22 an22 : Option Addr} {sl22 : Array (Option Value)} {oc22 kV22 dc22 pm22 cd22 ct22 : Value}
    (a22 : nsIn K mainGlobals "_law_double" = some (some (.ref f22))) (l22 : K.lookup f22 = some ⟨oc22, od22, .func (fnOf "_law_double" "_law_double" (defArgs st__law_double) (defBody st__law_double) (defScope st__law_double) .none kV22 dc22 pm22 an22 cd22 ct22), sl22⟩) (c22 : codeIn K cd22 "_law_double" = true) (k22 : keepIn K (.ref f22) = true)
    {f23 : Addr} {od23 an23 : Option Addr} {sl23 : Array (Option Value)} {oc23 kV23 dc23 pm23 cd23 ct23 : Value}
    (a23 : nsIn K mainGlobals "_law_draw" = some (some (.ref f23))) (l23 : K.lookup f23 = some ⟨oc23, od23, .func (fnOf "_law_draw" "_law_draw" (defArgs st__law_draw) (defBody st__law_draw) (defScope st__law_draw) .none kV23 dc23 pm23 an23 cd23 ct23), sl23⟩) (c23 : codeIn K cd23 "_law_draw" = true) (k23 : keepIn K (.ref f23) = true)
    {f24 : Addr} {od24 an24 : Option Addr} {sl24 : Array (Option Value)} {oc24 kV24 dc24 pm24 cd24 ct24 : Value}
    (a24 : nsIn K mainGlobals "_law_begun" = some (some (.ref f24))) (l24 : K.lookup f24 = some ⟨oc24, od24, .func (fnOf "_law_begun" "_law_begun" (defArgs st__law_begun) (defBody st__law_begun) (defScope st__law_begun) .none kV24 dc24 pm24 an24 cd24 ct24), sl24⟩) (c24 : codeIn K cd24 "_law_begun" = true) (k24 : keepIn K (.ref f24) = true)
    {f25 : Addr} {od25 an25 : Option Addr} {sl25 : Array (Option Value)} {oc25 kV25 dc25 pm25 cd25 ct25 : Value}
    (a25 : nsIn K mainGlobals "law" = some (some (.ref f25))) (l25 : K.lookup f25 = some ⟨oc25, od25, .func (fnOf "law" "law" (defArgs st_law) (defBody st_law) (defScope st_law) .none kV25 dc25 pm25 an25 cd25 ct25), sl25⟩) (c25 : codeIn K cd25 "law" = true) (k25 : keepIn K (.ref f25) = true)
    (z_abs : nsIn K mainGlobals "abs" = some none)
    (z_bool : nsIn K mainGlobals "bool" = some none)
    (z_enumerate : nsIn K mainGlobals "enumerate" = some none)
    (z_int : nsIn K mainGlobals "int" = some none)
    (z_isinstance : nsIn K mainGlobals "isinstance" = some none)
    (z_len : nsIn K mainGlobals "len" = some none)
    (z_list : nsIn K mainGlobals "list" = some none)
    (z_min : nsIn K mainGlobals "min" = some none)
    (z_range : nsIn K mainGlobals "range" = some none)
    (z_repr : nsIn K mainGlobals "repr" = some none)
    (z_str : nsIn K mainGlobals "str" = some none)
    (z_tuple : nsIn K mainGlobals "tuple" = some none)
    {t_MOST_FRAME : Tok} (v_MOST_FRAME : nsIn K mainGlobals "MOST_FRAME" = some (some (.int 1000000000000 t_MOST_FRAME)))
    {t_MOST_OF_STEP : Tok} (v_MOST_OF_STEP : nsIn K mainGlobals "MOST_OF_STEP" = some (some (.int 2000 t_MOST_OF_STEP)))
    {t_MOST_PRODUCT : Tok} (v_MOST_PRODUCT : nsIn K mainGlobals "MOST_PRODUCT" = some (some (.int 100000 t_MOST_PRODUCT)))
    {t_MOST_STEPS : Tok} (v_MOST_STEPS : nsIn K mainGlobals "MOST_STEPS" = some (some (.int 4 t_MOST_STEPS)))
    {u_ROUNDINGS : Addr} {dd_ROUNDINGS : Option Addr} {nn_ROUNDINGS : Nat} {sl_ROUNDINGS : Array (Option Value)} {k0_ROUNDINGS : Tok} {k1_ROUNDINGS : Tok} {k2_ROUNDINGS : Tok} (v_ROUNDINGS : nsIn K mainGlobals "ROUNDINGS" = some (some (.ref u_ROUNDINGS))) (w_ROUNDINGS : K.lookup u_ROUNDINGS = some ⟨.type "tuple", dd_ROUNDINGS, .seq #[.str "down" k0_ROUNDINGS, .str "up" k1_ROUNDINGS, .str "near" k2_ROUNDINGS] nn_ROUNDINGS, sl_ROUNDINGS⟩)
    (v_gcd : nsIn K mainGlobals "gcd" = some (some (.builtin "math.gcd")))
    (v_lcm : nsIn K mainGlobals "lcm" = some (some (.builtin "math.lcm")))
    (says : ∀ ns : List Int, ns.length ≤ 63 → lawSays ns) :
    ∃ fd : FuncData, (∀ (s : Shared) (v : Value), BindsTo s fd ⟨[v], []⟩ [("_law_script", v)]) ∧ ∀ bas : Heap, K.In bas → bas.Ns mainGlobals gl → FnG l.prog wd K gl bas 42 fa fd ["_law_script"] (spLawG K) := by
  have e := hfa.symm.trans (PySem.W.mg_of X G a25)
  cases e
  have T : Tx K gl := ⟨PySem.W.mg_none_of X G z_abs, PySem.W.mg_none_of X G z_bool, PySem.W.mg_none_of X G z_enumerate, PySem.W.mg_none_of X G z_int, PySem.W.mg_none_of X G z_isinstance, PySem.W.mg_none_of X G z_len, PySem.W.mg_none_of X G z_list, PySem.W.mg_none_of X G z_min, PySem.W.mg_none_of X G z_range, PySem.W.mg_none_of X G z_repr, PySem.W.mg_none_of X G z_str, PySem.W.mg_none_of X G z_tuple, ⟨_, PySem.W.mg_of X G v_MOST_FRAME⟩, ⟨_, PySem.W.mg_of X G v_MOST_OF_STEP⟩, ⟨_, PySem.W.mg_of X G v_MOST_PRODUCT⟩, ⟨_, PySem.W.mg_of X G v_MOST_STEPS⟩, ⟨_, PySem.W.mg_of X G v_ROUNDINGS, at_top w_ROUNDINGS (Nat.le_of_ble_eq_true rfl) (.cons ⟨_, rfl⟩ (.cons ⟨_, rfl⟩ (.cons ⟨_, rfl⟩ .nil)))⟩, PySem.W.mg_of X G v_gcd, PySem.W.mg_of X G v_lcm⟩
  have F0 := fun_mk (st := st_is_integer) l0 c0 k0
  have b0 := F0.binds (ps := ["thing"]) fun _ _ _ _ _ _ us hl => match us, hl with | [_], _ => rfl
  have F1 := fun_mk (st := st_is_within) l1 c1 k1
  have b1 := F1.binds (ps := ["thing", "least", "most"]) fun _ _ _ _ _ _ us hl => match us, hl with | [_, _, _], _ => rfl
  have F2 := fun_mk (st := st_is_tuple) l2 c2 k2
  have b2 := F2.binds (ps := ["thing", "least", "most"]) fun _ _ _ _ _ _ us hl => match us, hl with | [_, _, _], _ => rfl
  have F3 := fun_mk (st := st_is_one_of) l3 c3 k3
  have b3 := F3.binds (ps := ["thing", "words"]) fun _ _ _ _ _ _ us hl => match us, hl with | [_, _], _ => rfl
  have F4 := fun_mk (st := st__is_step) l4 c4 k4
  have b4 := F4.binds (ps := ["thing"]) fun _ _ _ _ _ _ us hl => match us, hl with | [_], _ => rfl
  have F5 := fun_mk (st := st_need_chain) l5 c5 k5
  have b5 := F5.binds (ps := ["thing"]) fun _ _ _ _ _ _ us hl => match us, hl with | [_], _ => rfl
  have F6 := fun_mk (st := st__quotient) l6 c6 k6
  have b6 := F6.binds (ps := ["top", "bottom", "rounding"]) fun _ _ _ _ _ _ us hl => match us, hl with | [_, _, _], _ => rfl
  have F7 := fun_mk (st := st__moved) l7 c7 k7
  have b7 := F7.binds (ps := ["chain", "frame"]) fun _ _ _ _ _ _ us hl => match us, hl with | [_, _], _ => rfl
  have F8 := fun_mk (st := st_moved) l8 c8 k8
  have b8 := F8.binds (ps := ["chain", "frame"]) fun _ _ _ _ _ _ us hl => match us, hl with | [_, _], _ => rfl
  have F9 := fun_mk (st := st__bottom) l9 c9 k9
  have b9 := F9.binds (ps := ["chain"]) fun _ _ _ _ _ _ us hl => match us, hl with | [_], _ => rfl
  have F10 := fun_mk (st := st_slope) l10 c10 k10
  have b10 := F10.binds (ps := ["chain"]) fun _ _ _ _ _ _ us hl => match us, hl with | [_], _ => rfl
  have F11 := fun_mk (st := st__first_apart) l11 c11 k11
  have b11 := F11.binds (ps := ["one", "other", "last"]) fun _ _ _ _ _ _ us hl => match us, hl with | [_, _, _], _ => rfl
  have F12 := fun_mk (st := st_apart_chains) l12 c12 k12
  have b12 := F12.binds (ps := ["one", "other"]) fun _ _ _ _ _ _ us hl => match us, hl with | [_, _], _ => rfl
  have F13 := fun_mk (st := st_alike_chains) l13 c13 k13
  have b13 := F13.binds (ps := ["one", "other"]) fun _ _ _ _ _ _ us hl => match us, hl with | [_, _], _ => rfl
  have F14 := fun_mk (st := st__law_mix) l14 c14 k14
  have b14 := F14.binds (ps := ["_law_cell", "_law_spot"]) fun _ _ _ _ _ _ us hl => match us, hl with | [_, _], _ => rfl
  have F15 := fun_mk (st := st__law_divisor) l15 c15 k15
  have b15 := F15.binds (ps := ["_law_one", "_law_other"]) fun _ _ _ _ _ _ us hl => match us, hl with | [_, _], _ => rfl
  have F16 := fun_mk (st := st__law_simple) l16 c16 k16
  have b16 := F16.binds (ps := ["_law_low", "_law_high", "_law_is_above"]) fun _ _ _ _ _ _ us hl => match us, hl with | [_, _, _], _ => rfl
  have F17 := fun_mk (st := st__law_near) l17 c17 k17
  have b17 := F17.binds (ps := ["_law_m"]) fun _ _ _ _ _ _ us hl => match us, hl with | [_], _ => rfl
  have F18 := fun_mk (st := st__law_step) l18 c18 k18
  have b18 := F18.binds (ps := ["_law_leg", "_law_frame"]) fun _ _ _ _ _ _ us hl => match us, hl with | [_, _], _ => rfl
  have F19 := fun_mk (st := st__law_led) l19 c19 k19
  have b19 := F19.binds (ps := ["_law_chain_so", "_law_frame"]) fun _ _ _ _ _ _ us hl => match us, hl with | [_, _], _ => rfl
  have F20 := fun_mk (st := st__law_first) l20 c20 k20
  have b20 := F20.binds (ps := ["_law_one", "_law_other", "_law_total"]) fun _ _ _ _ _ _ us hl => match us, hl with | [_, _, _], _ => rfl
  have F21 := fun_mk (st := st__law_single) l21 c21 k21
  have b21 := F21.binds (ps := ["_law_m"]) fun _ _ _ _ _ _ us hl => match us, hl with | [_], _ => rfl
  have F22 := fun_mk (st := st__law_double) l22 c22 k22
  have b22 := F22.binds (ps := ["_law_m"]) fun _ _ _ _ _ _ us hl => match us, hl with | [_], _ => rfl
  have F23 := fun_mk (st := st__law_draw) l23 c23 k23
  have b23 := F23.binds (ps := ["_law_m", "_law_limit"]) fun _ _ _ _ _ _ us hl => match us, hl with | [_, _], _ => rfl
  have F24 := fun_mk (st := st__law_begun) l24 c24 k24
  have b24 := F24.binds (ps := ["_law_script"]) fun _ _ _ _ _ _ us hl => match us, hl with | [_], _ => rfl
  have F25 := fun_mk (st := st_law) l25 c25 k25
  have b25 := F25.binds (ps := ["_law_script"]) fun _ _ _ _ _ _ us hl => match us, hl with | [_], _ => rfl
  refine ⟨fnOf "law" "law" (defArgs st_law) (defBody st_law) (defScope st_law) .none kV25 dc25 pm25 an25 cd25 ct25, fun s v => .of_eq rfl, fun bas _ _ => ?_⟩
  have C__law_mix : Cd l.prog wd K gl bas srcOrcB 1 "_law_mix" 2 r__law_mix := ⟨_, _, _, ok__law_mix T F14, PySem.W.mg_of X G a14, k14, b14⟩
  have C__law_draw : Cd l.prog wd K gl bas srcOrcB 2 "_law_draw" 2 s_next := ⟨_, _, _, ok__law_draw T F23 C__law_mix, PySem.W.mg_of X G a23, k23, b23⟩
  have C_is_integer : Cd l.prog wd K gl bas srcOrcB 1 "is_integer" 1 r_is_integer := ⟨_, _, _, ok_is_integer T F0, PySem.W.mg_of X G a0, k0, b0⟩
  have C_is_within : Cd l.prog wd K gl bas srcOrcB 2 "is_within" 3 r_is_within := ⟨_, _, _, ok_is_within T F1 C_is_integer, PySem.W.mg_of X G a1, k1, b1⟩
  have C_is_tuple : Cd l.prog wd K gl bas srcOrcB 1 "is_tuple" 3 r_is_tuple := ⟨_, _, _, ok_is_tuple T F2, PySem.W.mg_of X G a2, k2, b2⟩
  have C_is_one_of : Cd l.prog wd K gl bas srcOrcB 1 "is_one_of" 2 r_is_one_of := ⟨_, _, _, ok_is_one_of T F3, PySem.W.mg_of X G a3, k3, b3⟩
  have C__is_step : Cd l.prog wd K gl bas srcOrcB 3 "_is_step" 1 r__is_step := ⟨_, _, _, ok__is_step T F4 C_is_tuple C_is_one_of C_is_within, PySem.W.mg_of X G a4, k4, b4⟩
  have C_need_chain : Cd l.prog wd K gl bas srcOrcB 4 "need_chain" 1 r_need_chain := ⟨_, _, _, ok_need_chain T F5 C_is_tuple C__is_step, PySem.W.mg_of X G a5, k5, b5⟩
  have C__quotient : Cd l.prog wd K gl bas srcOrcB 1 "_quotient" 3 r__quotient := ⟨_, _, _, ok__quotient T F6, PySem.W.mg_of X G a6, k6, b6⟩
  have C__moved : Cd l.prog wd K gl bas srcOrcB 2 "_moved" 2 r__moved := ⟨_, _, _, ok__moved T F7 C__quotient, PySem.W.mg_of X G a7, k7, b7⟩
  have C_moved : Cd l.prog wd K gl bas srcOrcB 5 "moved" 2 r_moved := ⟨_, _, _, ok_moved T F8 C_need_chain C_is_within C__moved, PySem.W.mg_of X G a8, k8, b8⟩
  have C__bottom : Cd l.prog wd K gl bas srcOrcB 1 "_bottom" 1 r__bottom := ⟨_, _, _, ok__bottom T F9, PySem.W.mg_of X G a9, k9, b9⟩
  have C_slope : Cd l.prog wd K gl bas srcOrcB 5 "slope" 1 r_slope := ⟨_, _, _, ok_slope T F10 C_need_chain C__bottom, PySem.W.mg_of X G a10, k10, b10⟩
  have C__first_apart : Cd l.prog wd K gl bas srcOrcB 3 "_first_apart" 3 r__first_apart := ⟨_, _, _, ok__first_apart T F11 C__moved, PySem.W.mg_of X G a11, k11, b11⟩
  have C_apart_chains : Cd l.prog wd K gl bas srcOrcB 5 "apart_chains" 2 r_apart_chains := ⟨_, _, _, ok_apart_chains T F12 C_need_chain C__bottom C__first_apart, PySem.W.mg_of X G a12, k12, b12⟩
  have C_alike_chains : Cd l.prog wd K gl bas srcOrcB 6 "alike_chains" 2 r_alike_chains := ⟨_, _, _, ok_alike_chains T F13 C_apart_chains, PySem.W.mg_of X G a13, k13, b13⟩
  have C__law_divisor : Cd l.prog wd K gl bas srcOrcB 1 "_law_divisor" 2 r__law_divisor := ⟨_, _, _, ok__law_divisor T F15, PySem.W.mg_of X G a15, k15, b15⟩
  have C__law_simple : Cd l.prog wd K gl bas srcOrcB 40 "_law_simple" 3 (r__law_simple 40) := ⟨_, _, _, ok__law_simple T F16 (PySem.W.mg_of X G a16) k16 b16 40, PySem.W.mg_of X G a16, k16, b16⟩
  have C__law_near : Cd l.prog wd K gl bas srcOrcB 3 "_law_near" 1 r__law_near := ⟨_, _, _, ok__law_near T F17 C__law_draw, PySem.W.mg_of X G a17, k17, b17⟩
  have C__law_step : Cd l.prog wd K gl bas srcOrcB 1 "_law_step" 2 r__law_step := ⟨_, _, _, ok__law_step T F18, PySem.W.mg_of X G a18, k18, b18⟩
  have C__law_led : Cd l.prog wd K gl bas srcOrcB 2 "_law_led" 2 r__law_led := ⟨_, _, _, ok__law_led T F19 C__law_step, PySem.W.mg_of X G a19, k19, b19⟩
  have C__law_first : Cd l.prog wd K gl bas srcOrcB 3 "_law_first" 3 r__law_first := ⟨_, _, _, ok__law_first T F20 C__law_led, PySem.W.mg_of X G a20, k20, b20⟩
  have C__law_single : Cd l.prog wd K gl bas srcOrcB 41 "_law_single" 1 r__law_single := ⟨_, _, _, ok__law_single T F21 C__law_near C__law_divisor C_slope C__law_simple C_apart_chains C_alike_chains C_moved, PySem.W.mg_of X G a21, k21, b21⟩
  have C__law_double : Cd l.prog wd K gl bas srcOrcB 6 "_law_double" 1 r__law_double := ⟨_, _, _, ok__law_double T F22 C__law_draw C__law_first C_apart_chains, PySem.W.mg_of X G a22, k22, b22⟩
  exact ok_law T F25 (ok__law_begun T F24) (PySem.W.mg_of X G a24) k24 b24 C__law_single C__law_double C_apart_chains C_alike_chains says
end Q79
namespace Q79
inductive Ro | dn | up | nr
structure Sp where
  t : Int
  b : Int
  r : Ro
def q1 : Ro → Int → Int → Int
  | .dn, n, b => n / b
  | .up, n, b => -(-n / b)
  | .nr, n, b => (2 * n + b) / (2 * b)
theorem q1_add (r : Ro) (n k : Int) {b : Int} (hb : 0 < b) : q1 r (n + b * k) b = q1 r n b + k := by
  cases r with
  | dn => exact Int.add_mul_ediv_left _ _ (by omega)
  | up =>
    show -(-(n + b * k) / b) = -(-n / b) + k
    have e : -(n + b * k) = -n + b * (-k) := by rw [Int.mul_neg]; omega
    rw [e, Int.add_mul_ediv_left _ _ (by omega : b ≠ 0)]
    omega
  | nr =>
    show (2 * (n + b * k) + b) / (2 * b) = (2 * n + b) / (2 * b) + k
    have e : 2 * (n + b * k) + b = (2 * n + b) + 2 * b * k := by rw [Int.mul_assoc]; omega
    rw [e, Int.add_mul_ediv_left _ _ (by omega : 2 * b ≠ 0)]
theorem q1_zero (r : Ro) {b : Int} (hb : 0 < b) : q1 r 0 b = 0 := by
  cases r with
  | dn => show (0 : Int) / b = 0; simp
  | up => show -(-(0 : Int) / b) = 0; simp
  | nr =>
    show (2 * 0 + b) / (2 * b) = 0
    have a1 : 0 ≤ (2 * 0 + b) / (2 * b) := (Int.le_ediv_iff_mul_le (by omega)).mpr (by omega)
    have a2 : (2 * 0 + b) / (2 * b) < 1 := (Int.ediv_lt_iff_lt_mul (by omega)).mpr (by omega)
    omega
def mv : List Sp → Int → Int
  | [], x => x
  | s :: c, x => mv c (q1 s.r (x * s.t) s.b)
def bot : List Sp → Int
  | [] => 1
  | s :: c => s.b * bot c
def top : List Sp → Int
  | [] => 1
  | s :: c => s.t * top c
def Ok (c : List Sp) : Prop := ∀ s ∈ c, 1 ≤ s.t ∧ s.t ≤ 2000 ∧ 1 ≤ s.b ∧ s.b ≤ 2000
theorem bot_pos : ∀ {c : List Sp}, Ok c → 1 ≤ bot c
  | [], _ => by show (1 : Int) ≤ 1; omega
  | s :: c, h => by
    have h1 := (h s (List.mem_cons_self ..)).2.2.1
    have h2 := bot_pos fun x hx => h x (List.mem_cons_of_mem _ hx)
    show 1 ≤ s.b * bot c
    have := Int.mul_le_mul h1 h2 (by omega) (by omega)
    omega
theorem mv_add : ∀ {c : List Sp}, Ok c → ∀ (x k : Int), mv c (x + bot c * k) = mv c x + top c * k
  | [], _, x, k => by show x + 1 * k = x + 1 * k; rfl
  | s :: c, h, x, k => by
    have h1 := (h s (List.mem_cons_self ..)).2.2.1
    have ih := mv_add (c := c) fun x hx => h x (List.mem_cons_of_mem _ hx)
    show mv c (q1 s.r ((x + s.b * bot c * k) * s.t) s.b) = mv c (q1 s.r (x * s.t) s.b) + s.t * top c * k
    have e : (x + s.b * bot c * k) * s.t = x * s.t + s.b * (bot c * (k * s.t)) := by
      rw [Int.add_mul]
      congr 1
      simp only [Int.mul_assoc]
    rw [e, q1_add _ _ _ (by omega), ih]
    congr 1
    rw [← Int.mul_assoc, Int.mul_comm, ← Int.mul_assoc]
theorem mv_zero : ∀ {c : List Sp}, Ok c → mv c 0 = 0
  | [], _ => rfl
  | s :: c, h => by
    have h1 := (h s (List.mem_cons_self ..)).2.2.1
    show mv c (q1 s.r (0 * s.t) s.b) = 0
    rw [Int.zero_mul, q1_zero _ (by omega)]
    exact mv_zero fun x hx => h x (List.mem_cons_of_mem _ hx)
section
variable {f : Nat → Int}
def Per (f : Nat → Int) (m : Nat) : Prop := ∀ x, f (x + m) = f x + f m
theorem per_zero (h0 : f 0 = 0) : Per f 0 := fun x => by rw [h0]; simp
theorem per_add {a b : Nat} (ha : Per f a) (hb : Per f b) : Per f (a + b) := fun x => by
  rw [← Nat.add_assoc, hb (x + a), ha x, hb a]
  omega
theorem per_mul (h0 : f 0 = 0) {a : Nat} (ha : Per f a) : ∀ k, Per f (k * a)
  | 0 => by rw [Nat.zero_mul]; exact per_zero h0
  | k + 1 => by rw [Nat.succ_mul]; exact per_add (per_mul h0 ha k) ha
end
end Q79
namespace Q79
open PySem L2 DL
theorem d_is_integer {i : Int} {m : Nat} {P : D → Nat → Prop} (h : P (.bool true) 0) : r_is_integer [.d (.int i)] m P := by
  refine ⟨trivial, true, k_int, trivial, false, k_ib, ?_⟩
  exact ⟨hd_d, h⟩
theorem d_is_within {i a b : Int} {m : Nat} {P : D → Nat → Prop} (h1 : a ≤ i) (h2 : i ≤ b) (h : P (.bool true) 0) : r_is_within [.d (.int i), .d (.int a), .d (.int b)] m P := by
  refine ⟨rfl, rfl, d_is_integer ?_⟩
  simp [raw, startE, arSl, sSeq, sIf, sRet, sRetN, sNo, sSet, sSetN, sExpr, sAsg, dCall, dCallO, aCons, aNil, aOra, dV, hS, hV, dC, d2, see, seeAll, dCB, DL.gCons, DL.gNil, dChain, bD, bAnd, bOr, bNot, dAnd, dOr, dNot, dNeg, dIf, dIsi, bTruth, truD, lCons, lNil, dTup, dLst, isD, gCmp, gAdd, DL.gSub, gIs, gIsNot, gLen, gN, gTupT, gConsT, gNoT, ownL, dSl, oI, oNo, h1, h2, h]
theorem d_is_tuple {ds : List D} {a b : Int} {m : Nat} {P : D → Nat → Prop} (h1 : a ≤ ds.length) (h2 : (ds.length : Int) ≤ b) (h : P (.bool true) 0) : r_is_tuple [.d (.tuple ds), .d (.int a), .d (.int b)] m P := by
  refine ⟨trivial, true, k_tt, ?_⟩
  simp [raw, startE, arSl, sSeq, sIf, sRet, sRetN, sNo, sSet, sSetN, sExpr, sAsg, dCall, dCallO, aCons, aNil, aOra, dV, hS, hV, dC, d2, see, seeAll, dCB, DL.gCons, DL.gNil, dChain, bD, bAnd, bOr, bNot, dAnd, dOr, dNot, dNeg, dIf, dIsi, bTruth, truD, lCons, lNil, dTup, dLst, isD, gCmp, gAdd, DL.gSub, gIs, gIsNot, gLen, gN, gTupT, gConsT, gNoT, ownL, dSl, oI, oNo, h1, h2, h]
def rdS : Ro → Str
  | .dn => "down"
  | .up => "up"
  | .nr => "near"
def Sp.d (s : Sp) : D := .tuple [.int s.t, .int s.b, .str (rdS s.r)]
def chD (c : List Sp) : D := .tuple (c.map Sp.d)
theorem d_one_of {r : Ro} {m : Nat} {P : D → Nat → Prop} (h : P (.bool true) 0) : r_is_one_of [.d (.str (rdS r)), .d (.tuple ([("down" : Str), ("up" : Str), ("near" : Str)].map PyData.str))] m P := by
  refine ⟨trivial, true, k_ss, trivial, trivial, _, ofStrs_map _, ?_⟩
  have e : ([("down" : Str), ("up" : Str), ("near" : Str)].any fun z => z == rdS r) = true := by cases r <;> decide +kernel
  rw [e]
  exact ⟨hd_d, h⟩
structure OkS (s : Sp) : Prop where
  t0 : 1 ≤ s.t
  t1 : s.t ≤ 2000
  b0 : 1 ≤ s.b
  b1 : s.b ≤ 2000
theorem d_is_step {s : Sp} {m : Nat} {P : D → Nat → Prop} (o : OkS s) (h : P (.bool true) 0) : r__is_step [.d s.d] m P := by
  have := o.t0
  have := o.t1
  have := o.b0
  have := o.b1
  refine ⟨rfl, rfl, d_is_tuple (by simp) (by simp) ?_⟩
  refine ⟨trivial, _, rfl, rfl, rfl, d_one_of ?_⟩
  refine ⟨trivial, _, rfl, rfl, rfl, d_is_within (by omega) (by omega) ?_⟩
  refine ⟨trivial, _, rfl, rfl, rfl, d_is_within (by omega) (by omega) ?_⟩
  exact ⟨hd_d, h⟩
theorem small {i : Int} (h0 : 0 ≤ i) (h1 : i ≤ 1000000000000000000) : -(2 ^ 64) < i ∧ i < 2 ^ 64 := by
  have e : (2 : Int) ^ 64 = 18446744073709551616 := by decide
  rw [e]
  omega
theorem bot_ok {c : List Sp} (h : ∀ s ∈ c, OkS s) : Ok c := fun s hs => ⟨(h s hs).t0, (h s hs).t1, (h s hs).b0, (h s hs).b1⟩
/-- the product of all beginnings is no greater -/
theorem need_loop {C : D} {E : DE} : ∀ (c : List Sp) (k : Nat) (p : Int) (s2 s3 : Sl), (∀ s ∈ c, OkS s) → 1 ≤ p → p * bot c ≤ 100000 → (∀ s2 s3, E.nx [.im C, .im (.int (p * bot c)), s2, s3]) →
    forL (gTupT 2 (gConsT (gN 2) (gConsT (gN 3) (gNoT)))) (sSeq (sIf (bNot (bTruth (hV (dCall 1 r__is_step (aCons (dV 3) (aNil)))))) (sNever) (sNo)) (sSeq (sAug 1 gImul (hV (d2 gIx (hS 3) (hV (dC (.int 1)))))) (sIf (bD (d2 gGt (hS 1) (hV (dC (.int 100000))))) (sNever) (sNo)))) E ((c.map Sp.d).mapIdx fun i d => .tuple [.int (((k + i : Nat)) : Int), d]) [.im C, .im (.int p), s2, s3]
  | [], k, p, s2, s3, _, _, _, h => by
    have := h s2 s3
    rw [show p * bot [] = p from Int.mul_one p] at this
    exact this
  | s :: c, k, p, s2, s3, o, hp, hb, h => by
    have os := o s (List.mem_cons_self ..)
    have o' : ∀ s ∈ c, OkS s := fun x hx => o x (List.mem_cons_of_mem _ hx)
    have b1 := bot_pos (bot_ok o')
    have sb := os.b0
    have sb1 := os.b1
    have e : p * bot (s :: c) = p * s.b * bot c := (Int.mul_assoc ..).symm
    rw [e] at hb h
    have hps : 1 ≤ p * s.b := by
      have := Int.mul_le_mul hp sb (by omega) (by omega)
      omega
    have hle : p * s.b ≤ p * s.b * bot c := by
      have := Int.mul_le_mul_of_nonneg_left b1 (show 0 ≤ p * s.b by omega)
      omega
    rw [List.map_cons, List.mapIdx_cons]
    refine ⟨rfl, rfl, rfl, rfl, d_is_step os ?_⟩
    refine ⟨trivial, trivial, _, rfl, .inr (small (by omega) (by omega)), ?_⟩
    have ng : ¬ 100000 < p * s.b := by omega
    refine ⟨trivial, ?_⟩
    show if decide (100000 < p * s.b) = true then _ else _
    rw [if_neg (by simpa using ng)]
    have e2 : (fun (i : Nat) (d : D) => (PyData.tuple [.int (((k + (i + 1) : Nat)) : Int), d])) = fun i d => PyData.tuple [.int ((((k + 1) + i : Nat)) : Int), d] := by
      funext i d
      rw [Nat.add_assoc, Nat.add_comm 1 i]
    rw [e2]
    exact need_loop c (k + 1) _ _ _ o' hps hb h
structure GC (c : List Sp) : Prop where
  len : c.length ≤ 4
  ok : ∀ s ∈ c, OkS s
  bt : bot c ≤ 100000
theorem d_need {c : List Sp} {m : Nat} {P : D → Nat → Prop} (g : GC c) (h : P (chD c) 0) : r_need_chain [.d (chD c)] m P := by
  have := g.len
  refine ⟨rfl, rfl, d_is_tuple (by omega) (by rw [List.length_map]; omega) ?_⟩
  show forL _ _ _ (enD (c.map Sp.d)) [.im (chD c), .im (.int 1), .no, .no]
  have e : enD (c.map Sp.d) = (c.map Sp.d).mapIdx fun i d => .tuple [.int (((0 + i : Nat)) : Int), d] := by
    unfold enD
    simp
  rw [e]
  exact need_loop c 0 1 _ _ g.ok (by omega) (by rw [Int.one_mul]; exact g.bt) fun s2 s3 => ⟨hd_d, h⟩
theorem bot_loop {C : D} {E : DE} : ∀ (c : List Sp) (p : Int) (s2 : Sl), (∀ s ∈ c, OkS s) → (∀ s2, E.nx [.im C, .im (.int (p * bot c)), s2]) →
    forL (gN 2) (sAug 1 gImul (hV (d2 gIx (hS 2) (hV (dC (.int 1)))))) E (c.map Sp.d) [.im C, .im (.int p), s2]
  | [], p, s2, _, h => by
    have := h s2
    rw [show p * bot [] = p from Int.mul_one p] at this
    exact this
  | s :: c, p, s2, o, h => by
    have os := o s (List.mem_cons_self ..)
    have sb := os.b0
    have sb1 := os.b1
    have e : p * bot (s :: c) = p * s.b * bot c := (Int.mul_assoc ..).symm
    rw [e] at h
    refine ⟨trivial, trivial, _, rfl, .inr (small (by omega) (by omega)), ?_⟩
    exact bot_loop c _ _ (fun x hx => o x (List.mem_cons_of_mem _ hx)) h
theorem d_bottom {c : List Sp} {m : Nat} {P : D → Nat → Prop} (g : GC c) (h : P (.int (bot c)) 0) : r__bottom [.d (chD c)] m P := by
  show forL _ _ _ (c.map Sp.d) [.im (chD c), .im (.int 1), .no]
  refine bot_loop c 1 _ g.ok fun s2 => ?_
  rw [Int.one_mul]
  exact ⟨hd_d, h⟩
theorem top_loop {C : D} {E : DE} {s3 s4 : Sl} : ∀ (c : List Sp) (p : Int) (s2 : Sl), (∀ s ∈ c, OkS s) → (∀ s2, E.nx [.im C, .im (.int (p * top c)), s2, s3, s4]) →
    forL (gN 2) (sAug 1 gImul (hV (d2 gIx (hS 2) (hV (dC (.int 0)))))) E (c.map Sp.d) [.im C, .im (.int p), s2, s3, s4]
  | [], p, s2, _, h => by
    have := h s2
    rw [show p * top [] = p from Int.mul_one p] at this
    exact this
  | s :: c, p, s2, o, h => by
    have os := o s (List.mem_cons_self ..)
    have sb := os.t0
    have sb1 := os.t1
    have e : p * top (s :: c) = p * s.t * top c := (Int.mul_assoc ..).symm
    rw [e] at h
    refine ⟨trivial, trivial, _, rfl, .inr (small (by omega) (by omega)), ?_⟩
    exact top_loop c _ _ (fun x hx => o x (List.mem_cons_of_mem _ hx)) h
theorem okI (i : Int) : okD (.int i) := rfl
theorem okR (r : Ro) : okD (.str (rdS r)) := by
  show SeqAt.shaped _ = true
  cases r <;> decide +kernel
theorem o_up : okD (.str ("up" : Str)) := by show SeqAt.shaped _ = true; decide +kernel
theorem o_dn : okD (.str ("down" : Str)) := by show SeqAt.shaped _ = true; decide +kernel
theorem o_nr : okD (.str ("near" : Str)) := by show SeqAt.shaped _ = true; decide +kernel
theorem e_up (r : Ro) : PyData.eqv (.str (rdS r)) (.str ("up" : Str)) = (match r with | .up => true | _ => false) := by cases r <;> decide +kernel
theorem e_dn (r : Ro) : PyData.eqv (.str (rdS r)) (.str ("down" : Str)) = (match r with | .dn => true | _ => false) := by cases r <;> decide +kernel
theorem e_nr (r : Ro) : PyData.eqv (.str (rdS r)) (.str ("near" : Str)) = (match r with | .nr => true | _ => false) := by cases r <;> decide +kernel
theorem d_quot {n b : Int} {r : Ro} {m : Nat} {P : D → Nat → Prop} (b0 : 1 ≤ b) (b1 : b ≤ 2000) (h : P (.int (q1 r n b)) 0) : r__quotient [.d (.int n), .d (.int b), .d (.str (rdS r))] m P := by
  have e1 := e_up r
  have e2 := e_nr r
  have l1 : -18446744073709551616 < b := by omega
  refine ⟨trivial, okR r, o_up, ?_⟩
  rw [e1]
  cases r with
  | up => exact ⟨trivial, ⟨by omega, by omega⟩, hd_d, h⟩
  | dn =>
    refine ⟨trivial, okR .dn, o_nr, ?_⟩
    rw [e2]
    exact ⟨trivial, trivial, ⟨by omega, by omega⟩, hd_d, h⟩
  | nr =>
    refine ⟨trivial, okR .nr, o_nr, ?_⟩
    rw [e2]
    refine ⟨trivial, .inl (small (by omega) (by omega)), trivial, trivial, .inl (small (by omega) (by omega)), ⟨by omega, by omega⟩, hd_d, h⟩
theorem mv_loop {C : D} {E : DE} : ∀ (c : List Sp) (x : Int) (s2 s3 s4 : Sl), (∀ s ∈ c, OkS s) → (∀ s2 s3 s4, E.nx [.im C, .im (.int (mv c x)), s2, s3, s4]) →
    forL (gTupT 3 (gConsT (gN 2) (gConsT (gN 3) (gConsT (gN 4) (gNoT))))) (sSet 1 (dCall 3 r__quotient (aCons (d2 gMul (hS 1) (hS 2)) (aCons (dV 3) (aCons (dV 4) (aNil)))))) E (c.map Sp.d) [.im C, .im (.int x), s2, s3, s4]
  | [], x, s2, s3, s4, _, h => h s2 s3 s4
  | s :: c, x, s2, s3, s4, o, h => by
    have os := o s (List.mem_cons_self ..)
    have := os.t0
    have := os.t1
    refine ⟨rfl, rfl, trivial, trivial, .inr (small (by omega) (by omega)), rfl, rfl, d_quot os.b0 os.b1 ?_⟩
    exact mv_loop c _ _ _ _ (fun x hx => o x (List.mem_cons_of_mem _ hx)) h
theorem d__moved {c : List Sp} {x : Int} {m : Nat} {P : D → Nat → Prop} (g : GC c) (h : P (.int (mv c x)) 0) : r__moved [.d (chD c), .d (.int x)] m P := by
  show forL _ _ _ (c.map Sp.d) [.im (chD c), .im (.int x), .no, .no, .no]
  exact mv_loop c x _ _ _ g.ok fun s2 s3 s4 => ⟨hd_d, h⟩
theorem d_moved {c : List Sp} {x : Int} {m : Nat} {P : D → Nat → Prop} (g : GC c) (x0 : 0 ≤ x) (x1 : x ≤ 1000000000000) (h : P (.int (mv c x)) 0) : r_moved [.d (chD c), .d (.int x)] m P := by
  refine ⟨rfl, rfl, d_need g ?_⟩
  refine ⟨rfl, rfl, d_is_within x0 x1 ?_⟩
  exact ⟨rfl, rfl, d__moved g ⟨hd_d, h⟩⟩
end Q79
namespace Q79
open PySem L2 DL
def natD (n : Nat) : D := .int (n : Int)
def fn (c : List Sp) : Nat → Int := fun x => mv c (x : Int)
def bn (c : List Sp) : Nat := (bot c).toNat
theorem bn_eq {c : List Sp} (g : GC c) : bot c = (bn c : Int) ∧ 0 < bn c ∧ bn c ≤ 100000 := by
  have h1 := bot_pos (bot_ok g.ok)
  have h2 := g.bt
  unfold bn
  omega
theorem fn_zero {c : List Sp} (g : GC c) : fn c 0 = 0 := mv_zero (bot_ok g.ok)
theorem fn_add {c : List Sp} (g : GC c) (x : Nat) : fn c (x + bn c) = fn c x + top c := by
  have h := mv_add (bot_ok g.ok) (x : Int) 1
  rw [Int.mul_one, Int.mul_one, (bn_eq g).1] at h
  show mv c ((x + bn c : Nat) : Int) = mv c (x : Int) + top c
  rw [Int.natCast_add]
  exact h
theorem fn_bn {c : List Sp} (g : GC c) : fn c (bn c) = top c := by
  have := fn_add g 0
  rw [Nat.zero_add, fn_zero g] at this
  omega
theorem per_bn {c : List Sp} (g : GC c) : Per (fn c) (bn c) := fun x => by rw [fn_add g x, fn_bn g]
theorem rg_nat (n : Nat) : rgD 0 (n : Int) = (List.range n).map natD := by
  unfold rgD natD
  simp
theorem eqi (a b : Int) : PyData.eqv (.int a) (.int b) = decide (a = b) := by
  by_cases h : a = b
  · simp [PyData.eqv, h]
  · simp [PyData.eqv, h]
theorem g0 : GC [] := ⟨by decide, fun s hs => (by cases hs), by decide⟩
theorem d_divisor {a b : Nat} {m : Nat} {P : D → Nat → Prop} (h : P (.int ((Nat.gcd a b : Nat) : Int)) 0) : r__law_divisor [.d (.int a), .d (.int b)] m P := by
  refine ⟨trivial, trivial, ?_⟩
  have ea : ∀ n : Nat, (if (n : Int) < 0 then -(n : Int) else (n : Int)) = n := fun n => if_neg (by omega)
  show sSeq (sWhile _ _) _ _ [.im (.int (if (a : Int) < 0 then -(a : Int) else (a : Int))), .im (.int (if (b : Int) < 0 then -(b : Int) else (b : Int)))]
  rw [ea, ea]
  refine ⟨fun n ρ => ∃ x y : Nat, ρ = [.im (.int x), .im (.int y)] ∧ y = n ∧ Nat.gcd x y = Nat.gcd a b, ⟨b, a, b, rfl, rfl, rfl⟩, ?_⟩
  rintro n ρ ⟨x, y, rfl, rfl, e⟩
  refine ⟨trivial, ?_⟩
  show if decide ((y : Int) > (0 : Int)) = true then _ else _
  by_cases z : 0 < y
  · have z' : decide ((y : Int) > (0 : Int)) = true := by simp; omega
    rw [if_pos z']
    refine ⟨trivial, trivial, by omega, ?_⟩
    refine ⟨x % y, Nat.mod_lt _ z, y, x % y, rfl, rfl, ?_⟩
    rw [← e, Nat.gcd_comm x y, Nat.gcd_rec y x, Nat.gcd_comm]
  · have z' : ¬ decide ((y : Int) > (0 : Int)) = true := by simp; omega
    have y0 : y = 0 := by omega
    subst y0
    rw [if_neg z']
    rw [Nat.gcd_zero_right] at e
    rw [e]
    exact ⟨hd_d, h⟩
def one (n d : Nat) (r : Ro) : List Sp := [⟨n, d, r⟩]
theorem d_slope {c : List Sp} {m : Nat} {P : D → Nat → Prop} (g : GC c) (hg : (Nat.gcd (top c).natAbs (bot c).natAbs : Int) < 1073741824) (h : P (.tuple [.int (top c / (Nat.gcd (top c).natAbs (bot c).natAbs : Nat)), .int (bot c / (Nat.gcd (top c).natAbs (bot c).natAbs : Nat))]) 0) : r_slope [.d (chD c)] m P := by
  refine ⟨rfl, rfl, d_need g ?_⟩
  show forL _ _ _ (c.map Sp.d) [.im (chD c), .im (.int 1), .no, .no, .no]
  refine top_loop c 1 _ g.ok fun s2 => ?_
  rw [Int.one_mul]
  refine ⟨rfl, rfl, d_bottom g ?_⟩
  have p : 0 < Nat.gcd (top c).natAbs (bot c).natAbs := Nat.gcd_pos_of_pos_right _ (by have := bot_pos (bot_ok g.ok); omega)
  refine ⟨trivial, trivial, trivial, trivial, ⟨by omega, by omega⟩, trivial, trivial, ⟨by omega, by omega⟩, (by show 2 ≤ 1000000; omega), hd_d, h⟩
end Q79
namespace Q79
open PySem L2 DL
def In (ab : Bool) (a b c d p q : Int) : Prop := 1 ≤ q ∧ if ab = true then a * q < p * b ∧ p * d ≤ c * q else a * q ≤ p * b ∧ p * d < c * q
structure Best (ab : Bool) (a b c d p q : Int) : Prop where
  i : In ab a b c d p q
  l : ∀ p' q', In ab a b c d p' q' → p ≤ p' ∧ q ≤ q'
structure Two (a b c d : Int) : Prop where
  a0 : 0 ≤ a
  b0 : 1 ≤ b
  d0 : 0 ≤ d
  lt : a * d < c * b
theorem Two.c0 {a b c d : Int} (h : Two a b c d) : 1 ≤ c := by
  have h1 : 0 ≤ a * d := Int.mul_nonneg h.a0 h.d0
  have h2 := h.lt
  have h3 := h.b0
  refine Classical.byContradiction fun z => ?_
  have : c * b ≤ 0 * b := Int.mul_le_mul_of_nonneg_right (by omega) (by omega)
  rw [Int.zero_mul] at this
  omega
theorem lt_of_mul {x y b : Int} (hb : 0 < b) (h : x * b < y * b) : x < y := Int.lt_of_mul_lt_mul_right h (by omega)
def wh (ab : Bool) (a b : Int) : Int := if ab = true then a / b + 1 else 0 - (0 - a) / b
theorem wh_spec {ab : Bool} {a b : Int} (hb : 1 ≤ b) : (ab = true → a < wh ab a b * b ∧ wh ab a b * b ≤ a + b) ∧ (ab = false → a ≤ wh ab a b * b ∧ wh ab a b * b < a + b) := by
  cases ab with
  | true =>
    refine ⟨fun _ => ?_, fun z => by cases z⟩
    have e := Int.mul_ediv_add_emod a b
    have h0 := Int.emod_nonneg a (show b ≠ 0 by omega)
    have h1 := Int.emod_lt_of_pos a (show 0 < b by omega)
    show a < (a / b + 1) * b ∧ (a / b + 1) * b ≤ a + b
    rw [Int.add_mul, Int.one_mul, Int.mul_comm (a / b) b]
    omega
  | false =>
    refine ⟨fun z => (by cases z), fun _ => ?_⟩
    have e := Int.mul_ediv_add_emod (0 - a) b
    have h0 := Int.emod_nonneg (0 - a) (show b ≠ 0 by omega)
    have h1 := Int.emod_lt_of_pos (0 - a) (show 0 < b by omega)
    show a ≤ (0 - (0 - a) / b) * b ∧ (0 - (0 - a) / b) * b < a + b
    rw [Int.sub_mul, Int.zero_mul, Int.mul_comm ((0 - a) / b) b]
    omega
def hit (ab : Bool) (w c d : Int) : Prop := if ab = true then w * d ≤ c else w * d < c
theorem best_base {ab : Bool} {a b c d : Int} (t : Two a b c d) (h : hit ab (wh ab a b) c d) : Best ab a b c d (wh ab a b) 1 := by
  have b0 := t.b0
  have a0 := t.a0
  have ws := wh_spec (ab := ab) (a := a) b0
  generalize wh ab a b = w at ws h ⊢
  have key : ∀ q' : Int, 1 ≤ q' → a ≤ a * q' := fun q' hq => by
    have := Int.mul_le_mul_of_nonneg_left hq a0
    rw [Int.mul_one] at this
    exact this
  cases ab with
  | true =>
    obtain ⟨w1, w2⟩ := ws.1 rfl
    refine ⟨⟨by omega, by rw [Int.mul_one, Int.mul_one]; exact ⟨w1, h⟩⟩, fun p' q' hi => ?_⟩
    obtain ⟨q1, i1, i2⟩ := hi
    have k1 := key q' q1
    have : (w - 1) * b < p' * b := by
      rw [Int.sub_mul, Int.one_mul]
      omega
    have := lt_of_mul (by omega) this
    exact ⟨by omega, q1⟩
  | false =>
    obtain ⟨w1, w2⟩ := ws.2 rfl
    refine ⟨⟨by omega, by rw [Int.mul_one, Int.mul_one]; exact ⟨w1, h⟩⟩, fun p' q' hi => ?_⟩
    obtain ⟨q1, i1, i2⟩ := hi
    have k1 := key q' q1
    have : (w - 1) * b < p' * b := by
      rw [Int.sub_mul, Int.one_mul]
      omega
    have := lt_of_mul (by omega) this
    exact ⟨by omega, q1⟩
/-- what the second step sees -/
structure Nxt (ab : Bool) (a b c d k : Int) : Prop where
  two : Two d (c - k * d) b (a - k * b)
  le : c - k * d ≤ d
  d1 : 1 ≤ d
  sm : 1 ≤ k → 3 * (d + (c - k * d) + b + (a - k * b)) ≤ 2 * (a + b + c + d)
  k0 : 0 ≤ k
  st : ab = false → k * b < a
  kb : k * b ≤ a
theorem nxt_of {ab : Bool} {a b c d : Int} (t : Two a b c d) (h : ¬ hit ab (wh ab a b) c d) : Nxt ab a b c d (a / b) := by
  have b0 := t.b0
  have a0 := t.a0
  have c0 := t.c0
  have d0 := t.d0
  have lt := t.lt
  have ws := wh_spec (ab := ab) (a := a) b0
  have e := Int.mul_ediv_add_emod a b
  have h0 := Int.emod_nonneg a (show b ≠ 0 by omega)
  have h1 := Int.emod_lt_of_pos a (show 0 < b by omega)
  have k0 : 0 ≤ a / b := Int.ediv_nonneg a0 (by omega)
  have kb : a / b * b ≤ a := by rw [Int.mul_comm]; omega
  have ka : a < a / b * b + b := by rw [Int.mul_comm]; omega
  have kd : a / b * d < c := by
    refine lt_of_mul (b := b) (by omega) ?_
    have := Int.mul_le_mul_of_nonneg_right kb d0
    have e1 : a / b * d * b = a / b * b * d := by rw [Int.mul_assoc, Int.mul_comm d b, ← Int.mul_assoc]
    omega
  have st : ab = false → a / b * b < a := fun z => by
    subst z
    refine Classical.byContradiction fun y => ?_
    have ea : a / b * b = a := by omega
    obtain ⟨w1, w2⟩ := ws.2 rfl
    have : wh false a b = a / b := by
      have h2 : wh false a b * b < (a / b + 1) * b := by rw [Int.add_mul, Int.one_mul]; omega
      have h3 : (a / b - 1) * b < wh false a b * b := by rw [Int.sub_mul, Int.one_mul]; omega
      have := lt_of_mul (by omega) h2
      have := lt_of_mul (by omega) h3
      omega
    rw [this] at h
    exact h kd
  have wk : wh ab a b = a / b + 1 := by
    cases ab with
    | true => rfl
    | false =>
      obtain ⟨w1, w2⟩ := ws.2 rfl
      have s := st rfl
      have h2 : wh false a b * b < (a / b + 2) * b := by rw [Int.add_mul]; omega
      have h3 : a / b * b < wh false a b * b := by omega
      have := lt_of_mul (by omega) h2
      have := lt_of_mul (by omega) h3
      omega
  rw [wk] at h
  have hc : c ≤ a / b * d + d := by
    cases ab with
    | true =>
      have : ¬ (a / b + 1) * d ≤ c := h
      rw [Int.add_mul, Int.one_mul] at this
      omega
    | false =>
      have : ¬ (a / b + 1) * d < c := h
      rw [Int.add_mul, Int.one_mul] at this
      omega
  generalize a / b = k at k0 kb ka kd st hc ⊢
  have d1 : 1 ≤ d := by
    refine Classical.byContradiction fun y => ?_
    have : d = 0 := by omega
    subst this
    rw [Int.mul_zero] at hc
    omega
  refine ⟨⟨d0, by omega, by omega, ?_⟩, by omega, d1, fun k1 => ?_, k0, st, kb⟩
  · rw [Int.mul_sub, Int.mul_sub]
    have e1 : d * (k * b) = b * (k * d) := by rw [Int.mul_left_comm, Int.mul_comm d b, Int.mul_left_comm]
    have e2 : d * a = a * d := Int.mul_comm ..
    have e3 : b * c = c * b := Int.mul_comm ..
    omega
  · have m1 := Int.mul_le_mul_of_nonneg_right k1 (show 0 ≤ b by omega)
    have m2 := Int.mul_le_mul_of_nonneg_right k1 (show 0 ≤ d by omega)
    rw [Int.one_mul] at m1 m2
    omega
theorem in_flip {ab : Bool} {a b c d k p q : Int} (n : Nxt ab a b c d k) (b0 : 1 ≤ b) (h : In ab a b c d p q) : In (!ab) d (c - k * d) b (a - k * b) q (p - k * q) := by
  obtain ⟨q1, h⟩ := h
  have st := n.st
  have kb := n.kb
  have e1 : d * (k * q) = q * (k * d) := by rw [Int.mul_left_comm, Int.mul_comm d q, Int.mul_left_comm]
  have e2 : b * (k * q) = q * (k * b) := by rw [Int.mul_left_comm, Int.mul_comm b q, Int.mul_left_comm]
  have e3 : d * p = p * d := Int.mul_comm ..
  have e4 : q * c = c * q := Int.mul_comm ..
  have e5 : q * a = a * q := Int.mul_comm ..
  have e6 : b * p = p * b := Int.mul_comm ..
  have s1 := Int.mul_le_mul_of_nonneg_right kb (show 0 ≤ q by omega)
  have e7 : k * b * q = k * q * b := by rw [Int.mul_assoc, Int.mul_comm b q, ← Int.mul_assoc]
  cases ab with
  | true =>
    obtain ⟨i1, i2⟩ := h
    have : k * q < p := lt_of_mul (b := b) (by omega) (by omega)
    refine ⟨by omega, ?_⟩
    show d * (p - k * q) ≤ q * (c - k * d) ∧ q * (a - k * b) < b * (p - k * q)
    rw [Int.mul_sub, Int.mul_sub, Int.mul_sub, Int.mul_sub]
    omega
  | false =>
    obtain ⟨i1, i2⟩ := h
    have s2 := Int.mul_lt_mul_of_pos_right (st rfl) (show 0 < q by omega)
    have : k * q < p := lt_of_mul (b := b) (by omega) (by omega)
    refine ⟨by omega, ?_⟩
    show d * (p - k * q) < q * (c - k * d) ∧ q * (a - k * b) ≤ b * (p - k * q)
    rw [Int.mul_sub, Int.mul_sub, Int.mul_sub, Int.mul_sub]
    omega
theorem best_step {ab : Bool} {a b c d k p q : Int} (n : Nxt ab a b c d k) (b0 : 1 ≤ b) (h : Best (!ab) d (c - k * d) b (a - k * b) p q) : Best ab a b c d (k * p + q) p := by
  obtain ⟨⟨q1, h1⟩, h2⟩ := h
  have d1 := n.d1
  have b1 := n.two.b0
  have e1 : d * (k * p) = p * (k * d) := by rw [Int.mul_left_comm, Int.mul_comm d p, Int.mul_left_comm]
  have e2 : b * (k * p) = p * (k * b) := by rw [Int.mul_left_comm, Int.mul_comm b p, Int.mul_left_comm]
  have e3 : (k * p + q) * b = b * (k * p) + b * q := by rw [Int.add_mul, Int.mul_comm _ b, Int.mul_comm q b]
  have e4 : (k * p + q) * d = d * (k * p) + d * q := by rw [Int.add_mul, Int.mul_comm _ d, Int.mul_comm q d]
  have e5 : p * a = a * p := Int.mul_comm ..
  have e6 : p * c = c * p := Int.mul_comm ..
  have dq : 1 ≤ d * q := Int.mul_pos (show 0 < d by omega) (show 0 < q by omega)
  have p1 : d * q ≤ p * (c - k * d) → 1 ≤ p := fun z => by
    refine Classical.byContradiction fun y => ?_
    have : p * (c - k * d) ≤ 0 * (c - k * d) := Int.mul_le_mul_of_nonneg_right (by omega) (by omega)
    rw [Int.zero_mul] at this
    omega
  refine ⟨?_, fun p' q' hi => ?_⟩
  · cases ab with
    | true =>
      have h1 : d * q ≤ p * (c - k * d) ∧ p * (a - k * b) < b * q := h1
      refine ⟨p1 h1.1, ?_⟩
      show a * p < (k * p + q) * b ∧ (k * p + q) * d ≤ c * p
      rw [Int.mul_sub, Int.mul_sub] at h1
      omega
    | false =>
      have h1 : d * q < p * (c - k * d) ∧ p * (a - k * b) ≤ b * q := h1
      refine ⟨p1 (by omega), ?_⟩
      show a * p ≤ (k * p + q) * b ∧ (k * p + q) * d < c * p
      rw [Int.mul_sub, Int.mul_sub] at h1
      omega
  · obtain ⟨l1, l2⟩ := h2 _ _ (in_flip n b0 hi)
    have := Int.mul_le_mul_of_nonneg_left l1 n.k0
    exact ⟨by omega, l1⟩
end Q79
namespace Q79
open PySem L2 DL
def pairD (p q : Int) : D := .tuple [.int p, .int q]
def smA (rr : SpD) : SM := (sSeq (sSet 4 (d2 gDiv (hS 5) (hS 6))) (sSeq (sAsg (dCall 3 rr (aCons (dTup (lCons (dV 8) (lCons (d2 DL.gSub (hS 7) (hV (d2 gMul (hS 4) (hS 8)))) (lNil)))) (aCons (dTup (lCons (dV 6) (lCons (d2 DL.gSub (hS 5) (hV (d2 gMul (hS 4) (hS 6)))) (lNil)))) (aCons (dNot (dV 2)) (aNil))))) (gTupT 2 (gConsT (gN 9) (gConsT (gN 10) (gNoT))))) (sRet (dTup (lCons (d2 gAdd (hV (d2 gMul (hS 4) (hS 9))) (hS 10)) (lCons (dV 9) (lNil)))))))
def smB (rr : SpD) : SM := (sSeq (sIf (bIf (bTruth (hS 2)) (bD (d2 gLe (hV (d2 gMul (hS 3) (hS 8))) (hS 7))) (bD (d2 gLt (hV (d2 gMul (hS 3) (hS 8))) (hS 7)))) (sRet (dTup (lCons (dV 3) (lCons (dC (.int 1)) (lNil))))) (sNo)) (smA rr))
abbrev eS (ab : Bool) (a b c d w : Int) : DL.Env := [.im (pairD a b), .im (pairD c d), .im (.bool ab), .im (.int w), .no, .im (.int a), .im (.int b), .im (.int c), .im (.int d), .no, .no]
structure Bd (a b d : Int) : Prop where
  a : a ≤ 1000000
  b : b ≤ 1000000
  d : d ≤ 1000000
theorem smA_ok {rr : SpD} {ab : Bool} {a b c d w : Int} {E : DE} (b0 : 1 ≤ b) (bd : Bd a b d) (n : Nxt ab a b c d (a / b)) (hr : ∀ P : D → Nat → Prop, (∀ p q, Best (!ab) d (c - a / b * d) b (a - a / b * b) p q → P (pairD p q) 0) → rr [.d (pairD d (c - a / b * d)), .d (pairD b (a - a / b * b)), .d (.bool (!ab))] 0 P)
    (h : ∀ p q, Best ab a b c d p q → ∀ ρ : DL.Env, ρ[0]? = some (.im (pairD a b)) → E.rt (pairD p q) ρ) : smA rr E (eS ab a b c d w) := by
  have ba := bd.a
  have bb := bd.b
  have bdd := bd.d
  have d1 := n.d1
  have k0 := n.k0
  have k1 : a / b ≤ 1000000 := by
    have := n.kb
    have := Int.mul_le_mul_of_nonneg_left b0 k0
    rw [Int.mul_one] at this
    omega
  have md : -(2 ^ 64 : Int) < d ∧ d < 2 ^ 64 := by omega
  have mb : -(2 ^ 64 : Int) < b ∧ b < 2 ^ 64 := by omega
  have mk : -(2 ^ 64 : Int) < a / b ∧ a / b < 2 ^ 64 := by omega
  refine ⟨trivial, trivial, ⟨by omega, by omega⟩, ?_⟩
  refine ⟨trivial, trivial, trivial, .inr md, (by show 2 ≤ 1000000; omega), trivial, trivial, trivial, .inr mb, (by show 2 ≤ 1000000; omega), rfl, rfl, ?_⟩
  refine hr _ fun p q hb => ?_
  refine ⟨rfl, rfl, ?_⟩
  refine ⟨trivial, trivial, .inl mk, trivial, (by show 2 ≤ 1000000; omega), ?_⟩
  exact h _ _ (best_step n b0 hb) _ rfl
theorem smB_ok {rr : SpD} {ab : Bool} {a b c d : Int} {E : DE} (t : Two a b c d) (bd : Bd a b d) (hr : Nxt ab a b c d (a / b) → ∀ P : D → Nat → Prop, (∀ p q, Best (!ab) d (c - a / b * d) b (a - a / b * b) p q → P (pairD p q) 0) → rr [.d (pairD d (c - a / b * d)), .d (pairD b (a - a / b * b)), .d (.bool (!ab))] 0 P)
    (h : ∀ p q, Best ab a b c d p q → ∀ ρ : DL.Env, ρ[0]? = some (.im (pairD a b)) → E.rt (pairD p q) ρ) : smB rr E (eS ab a b c d (wh ab a b)) := by
  have bdd := bd.d
  have d0 := t.d0
  have md : -(2 ^ 64 : Int) < d ∧ d < 2 ^ 64 := by omega
  cases ab with
  | true =>
    refine ⟨trivial, trivial, trivial, .inr md, trivial, ?_⟩
    show if decide (wh true a b * d ≤ c) = true then _ else _
    by_cases z : wh true a b * d ≤ c
    · rw [decide_eq_true z, if_pos rfl]
      exact ⟨(by show 2 ≤ 1000000; omega), h _ _ (best_base t z) _ rfl⟩
    · rw [decide_eq_false z, if_neg (by decide)]
      have n := nxt_of (ab := true) t z
      exact smA_ok t.b0 bd n (hr n) h
  | false =>
    refine ⟨trivial, trivial, trivial, .inr md, trivial, ?_⟩
    show if decide (wh false a b * d < c) = true then _ else _
    by_cases z : wh false a b * d < c
    · rw [decide_eq_true z, if_pos rfl]
      exact ⟨(by show 2 ≤ 1000000; omega), h _ _ (best_base t z) _ rfl⟩
    · rw [decide_eq_false z, if_neg (by decide)]
      have n := nxt_of (ab := false) t z
      exact smA_ok t.b0 bd n (hr n) h
theorem simple_step {rr : SpD} {ab : Bool} {a b c d : Int} (t : Two a b c d) (bd : Bd a b d) (hr : Nxt ab a b c d (a / b) → ∀ P : D → Nat → Prop, (∀ p q, Best (!ab) d (c - a / b * d) b (a - a / b * b) p q → P (pairD p q) 0) → rr [.d (pairD d (c - a / b * d)), .d (pairD b (a - a / b * b)), .d (.bool (!ab))] 0 P) {m : Nat} {P : D → Nat → Prop}
    (h : ∀ p q, Best ab a b c d p q → P (pairD p q) 0) : raw (g__law_simple rr) 11 [.d (pairD a b), .d (pairD c d), .d (.bool ab)] m P := by
  have b0 := t.b0
  have bb := bd.b
  have hb : 0 < b ∧ b < 1073741824 := by omega
  refine ⟨rfl, rfl, rfl, rfl, ?_⟩
  cases ab with
  | true =>
    refine ⟨trivial, trivial, trivial, hb, ?_⟩
    exact smB_ok (ab := true) t bd hr fun p q hb ρ e => by
      show match ρ[0]? with
        | some (Sl.ora m') => P (pairD p q) m'
        | _ => _
      rw [e]
      exact ⟨hd_d, h p q hb⟩
  | false =>
    refine ⟨trivial, trivial, trivial, hb, ?_⟩
    exact smB_ok (ab := false) t bd hr fun p q hb ρ e => by
      show match ρ[0]? with
        | some (Sl.ora m') => P (pairD p q) m'
        | _ => _
      rw [e]
      exact ⟨hd_d, h p q hb⟩
/-- deep enough -/
theorem d_simpleR : ∀ (k : Nat) {ab : Bool} {a b c d : Int}, Two a b c d → Bd a b d → b ≤ a → (a + b + c + d) * 2 ^ k < 2 * 3 ^ k → ∀ {m : Nat} {P : D → Nat → Prop}, (∀ p q, Best ab a b c d p q → P (pairD p q) 0) → r__law_simple k [.d (pairD a b), .d (pairD c d), .d (.bool ab)] m P
  | 0, ab, a, b, c, d, t, bd, hba, hS, m, P, h => by
    have := t.b0
    have := t.c0
    have := t.d0
    rw [show (2 : Int) ^ 0 = 1 from rfl, show (3 : Int) ^ 0 = 1 from rfl] at hS
    omega
  | k + 1, ab, a, b, c, d, t, bd, hba, hS, m, P, h => by
    refine simple_step t bd (fun n P hP => ?_) h
    have b0 := t.b0
    have ba := bd.a
    have bb := bd.b
    have bdd := bd.d
    have nle := n.le
    have nkb := n.kb
    have k1 : 1 ≤ a / b := Int.le_ediv_of_mul_le (by omega) (by omega)
    have sm := n.sm k1
    have e := Int.mul_ediv_add_emod a b
    have h0 := Int.emod_nonneg a (show b ≠ 0 by omega)
    have h1 := Int.emod_lt_of_pos a (show 0 < b by omega)
    rw [Int.mul_comm] at e
    refine d_simpleR k n.two ⟨bdd, by omega, by omega⟩ nle ?_ hP
    rw [Int.pow_succ, Int.pow_succ] at hS
    have p2 : (0 : Int) < 2 ^ k := Int.pow_pos (by omega)
    have := Int.mul_le_mul_of_nonneg_right sm (show (0 : Int) ≤ 2 ^ k by omega)
    rw [Int.mul_assoc, Int.mul_assoc] at this
    have e2 : (a + b + c + d) * (2 ^ k * 2) = 2 * ((a + b + c + d) * 2 ^ k) := by rw [← Int.mul_assoc, Int.mul_comm]
    omega
theorem d_simple {ab : Bool} {a b c d : Int} (t : Two a b c d) (hs : a + b + c + d ≤ 100000) {m : Nat} {P : D → Nat → Prop} (h : ∀ p q, Best ab a b c d p q → P (pairD p q) 0) : r__law_simple 40 [.d (pairD a b), .d (pairD c d), .d (.bool ab)] m P := by
  have a0 := t.a0
  have b0 := t.b0
  have c0 := t.c0
  have d0 := t.d0
  refine simple_step t ⟨by omega, by omega, by omega⟩ (fun n P hP => ?_) h
  have nle := n.le
  have e := Int.mul_ediv_add_emod a b
  have h0 := Int.emod_nonneg a (show b ≠ 0 by omega)
  have h1 := Int.emod_lt_of_pos a (show 0 < b by omega)
  rw [Int.mul_comm] at e
  refine d_simpleR 39 n.two ⟨by omega, by omega, by omega⟩ nle ?_ hP
  have k0 := n.k0
  have m2 := Int.mul_nonneg k0 d0
  have m3 := Int.mul_nonneg k0 (show 0 ≤ b by omega)
  have : d + (c - a / b * d) + b + (a - a / b * b) ≤ 100000 := by omega
  have := Int.mul_le_mul_of_nonneg_right this (show (0 : Int) ≤ 2 ^ 39 by decide)
  refine Int.lt_of_le_of_lt this ?_
  decide
end Q79
namespace Q79
open PySem L2 DL
def res : Option Nat → D
  | some k => natD k
  | none => .none
def ne (f g : Int → Int) (k : Nat) : Bool := !decide (f k = g k)
def fst (f g : Int → Int) (L : Nat) : Option Nat := (List.range (L + 1)).find? (ne f g)
def ffBody (rr : SpD) : SM := (sIf (bD (d2 gNe (hV (dCall 2 rr (aCons (dV 0) (aCons (dV 3) (aNil))))) (hV (dCall 2 rr (aCons (dV 1) (aCons (dV 3) (aNil))))))) (sRet (dV 3)) (sNo))
theorem ff_loop {rr : SpD} {f g : Int → Int} {A B L : D} (hf : ∀ (k : Nat) (P : D → Nat → Prop), P (.int (f k)) 0 → rr [.d A, .d (natD k)] 0 P) (hg : ∀ (k : Nat) (P : D → Nat → Prop), P (.int (g k)) 0 → rr [.d B, .d (natD k)] 0 P) {E : DE} : ∀ (ks : List Nat) (s3 : Sl),
    (∀ k, ks.find? (ne f g) = some k → E.rt (natD k) [.im A, .im B, .im L, .im (natD k)]) → (ks.find? (ne f g) = none → ∀ s3, E.nx [.im A, .im B, .im L, s3]) → forL (gN 3) (ffBody rr) E (ks.map natD) [.im A, .im B, .im L, s3]
  | [], s3, _, hn => hn rfl s3
  | k :: ks, s3, hr, hn => by
    refine ⟨rfl, rfl, hf k _ ?_⟩
    refine ⟨rfl, rfl, hg k _ ?_⟩
    refine ⟨okI _, okI _, ?_⟩
    rw [eqi]
    show if ne f g k = true then _ else _
    by_cases z : ne f g k = true
    · rw [if_pos z]
      exact hr k (List.find?_cons_of_pos z)
    · rw [if_neg z]
      rw [List.find?_cons_of_neg z] at hr hn
      exact ff_loop hf hg ks _ hr hn
def gFirst (rr : SpD) : SM := sSeq (sFor (iRange1 (lCons (d2 gAdd (hS 2) (hV (dC (.int 1)))) (lNil))) (gN 3) (ffBody rr)) (sRet (dC .none))
theorem d_firstG {rr : SpD} {f g : Int → Int} {A B : D} {L : Nat} (hL : L ≤ 1000000) (hf : ∀ (k : Nat) (P : D → Nat → Prop), P (.int (f k)) 0 → rr [.d A, .d (natD k)] 0 P) (hg : ∀ (k : Nat) (P : D → Nat → Prop), P (.int (g k)) 0 → rr [.d B, .d (natD k)] 0 P) {m : Nat} {P : D → Nat → Prop} (h : P (res (fst f g L)) 0) :
    raw (gFirst rr) 4 [.d A, .d B, .d (.int (L : Int))] m P := by
  refine ⟨trivial, ⟨by omega, by omega⟩, ?_⟩
  have ec : ((L : Int) + 1) = ((L + 1 : Nat) : Int) := by omega
  rw [ec, rg_nat]
  show forL (gN 3) (ffBody rr) _ _ [.im A, .im B, .im (.int (L : Int)), .no]
  refine ff_loop hf hg _ _ (fun k hk => ?_) fun hk s3 => ?_
  · have e : fst f g L = some k := hk
    rw [e] at h
    exact ⟨hd_d, h⟩
  · have e : fst f g L = none := hk
    rw [e] at h
    exact ⟨hd_d, h⟩
theorem d_first_apart {c e : List Sp} (gc : GC c) (ge : GC e) {L : Nat} (hL : L ≤ 1000000) {m : Nat} {P : D → Nat → Prop} (h : P (res (fst (mv c) (mv e) L)) 0) : r__first_apart [.d (chD c), .d (chD e), .d (.int (L : Int))] m P :=
  d_firstG (rr := r__moved) hL (fun k P hp => d__moved gc hp) (fun k P hp => d__moved ge hp) h
theorem d_apart {c e : List Sp} (gc : GC c) (ge : GC e) (hl : Nat.lcm (bn c) (bn e) ≤ 100000) {m : Nat} {P : D → Nat → Prop} (h : P (res (fst (mv c) (mv e) (Nat.lcm (bn c) (bn e)))) 0) : r_apart_chains [.d (chD c), .d (chD e)] m P := by
  have b1 := bn_eq gc
  have b2 := bn_eq ge
  refine ⟨rfl, rfl, d_need gc ?_⟩
  refine ⟨rfl, rfl, d_need ge ?_⟩
  refine ⟨rfl, rfl, d_bottom gc ?_⟩
  refine ⟨rfl, rfl, d_bottom ge ?_⟩
  rw [b1.1, b2.1]
  refine ⟨⟨?_, ?_⟩, ?_⟩
  · show (bn c) < 2 ^ 64
    omega
  · show (bn e) < 2 ^ 64
    omega
  refine ⟨trivial, ?_⟩
  have el : Nat.lcm ((bn c : Int)).natAbs ((bn e : Int)).natAbs = Nat.lcm (bn c) (bn e) := rfl
  rw [el]
  generalize Nat.lcm (bn c) (bn e) = L at hl h ⊢
  show if decide ((L : Int) > 100000) = true then _ else _
  rw [decide_eq_false (by omega), if_neg (by decide)]
  refine ⟨rfl, rfl, ?_⟩
  refine d_first_apart gc ge (by omega) ?_
  exact ⟨hd_d, h⟩
theorem d_alike {c e : List Sp} (gc : GC c) (ge : GC e) (hl : Nat.lcm (bn c) (bn e) ≤ 100000) {m : Nat} {P : D → Nat → Prop} (h : P (.bool (fst (mv c) (mv e) (Nat.lcm (bn c) (bn e))).isNone) 0) : r_alike_chains [.d (chD c), .d (chD e)] m P := by
  refine ⟨rfl, rfl, ?_⟩
  refine d_apart gc ge hl ?_
  generalize fst (mv c) (mv e) (Nat.lcm (bn c) (bn e)) = o at h ⊢
  cases o with
  | none => exact ⟨hd_d, h⟩
  | some k => exact ⟨hd_d, h⟩
theorem d_step {s : Sp} {x : Int} {m : Nat} {P : D → Nat → Prop} (o : OkS s) (h : P (.int (q1 s.r (x * s.t) s.b)) 0) : r__law_step [.d s.d, .d (.int x)] m P := by
  have t0 := o.t0
  have t1 := o.t1
  have b0 := o.b0
  have b1 := o.b1
  have mt := small (i := s.t) (by omega) (by omega)
  have hb : 0 < s.b ∧ s.b < 1073741824 := by omega
  have h2b : 0 < 2 * s.b ∧ 2 * s.b < 1073741824 := by omega
  refine ⟨rfl, rfl, ?_⟩
  refine ⟨trivial, okR s.r, o_dn, ?_⟩
  rw [e_dn]
  cases e : s.r with
  | dn =>
    rw [e] at h
    exact ⟨trivial, trivial, .inr mt, trivial, hb, hd_d, h⟩
  | up =>
    rw [e] at h
    refine ⟨trivial, okR .up, o_up, ?_⟩
    rw [e_up]
    refine ⟨trivial, trivial, .inr mt, trivial, hb, hd_d, ?_⟩
    rw [Int.zero_sub, Int.zero_sub]
    exact h
  | nr =>
    rw [e] at h
    refine ⟨trivial, okR .nr, o_up, ?_⟩
    rw [e_up]
    refine ⟨trivial, .inl ⟨by decide, by decide⟩, trivial, .inr mt, trivial, trivial, .inl ⟨by decide, by decide⟩, h2b, hd_d, ?_⟩
    rw [Int.mul_assoc]
    exact h
theorem led_loop {C : D} {E : DE} : ∀ (c : List Sp) (x : Int) (s2 : Sl), (∀ s ∈ c, OkS s) → (∀ s2, E.nx [.im C, .im (.int (mv c x)), s2]) →
    forL (gN 2) (sSet 1 (dCall 2 r__law_step (aCons (dV 2) (aCons (dV 1) (aNil))))) E (c.map Sp.d) [.im C, .im (.int x), s2]
  | [], x, s2, _, h => h s2
  | s :: c, x, s2, ok, h => by
    refine ⟨rfl, rfl, d_step (ok s (List.mem_cons_self ..)) ?_⟩
    exact led_loop c _ _ (fun q hq => ok q (List.mem_cons_of_mem _ hq)) h
theorem d_led {c : List Sp} (g : GC c) {x : Int} {m : Nat} {P : D → Nat → Prop} (h : P (.int (mv c x)) 0) : r__law_led [.d (chD c), .d (.int x)] m P := by
  refine led_loop c x _ g.ok fun s2 => ?_
  exact ⟨hd_d, h⟩
theorem d_law_first {c e : List Sp} (gc : GC c) (ge : GC e) {L : Nat} (hL : L ≤ 1000000) {m : Nat} {P : D → Nat → Prop} (h : P (res (fst (mv c) (mv e) L)) 0) : r__law_first [.d (chD c), .d (chD e), .d (.int (L : Int))] m P :=
  d_firstG (rr := r__law_led) hL (fun k P hp => d_led gc hp) (fun k P hp => d_led ge hp) h
theorem fst_some {f g : Int → Int} {L k : Nat} (hk : k ≤ L) (hn : f k ≠ g k) (hj : ∀ j : Nat, j < k → f j = g j) : fst f g L = some k := by
  unfold fst
  have e : List.range (L + 1) = List.range k ++ (List.range' k (L + 1 - k)) := by
    have e0 : k + (L + 1 - k) = L + 1 := by omega
    have := List.range'_append_1 (s := 0) (m := k) (n := L + 1 - k)
    rw [e0, Nat.zero_add] at this
    rw [List.range_eq_range', List.range_eq_range', this]
  rw [e, List.find?_append]
  have e1 : (List.range k).find? (ne f g) = none := by
    rw [List.find?_eq_none]
    intro j hj'
    have := hj j (List.mem_range.mp hj')
    unfold ne
    rw [decide_eq_true this]
    decide
  rw [e1, show L + 1 - k = (L - k) + 1 by omega, List.range'_succ]
  have : ne f g k = true := by
    unfold ne
    rw [decide_eq_false hn]
    rfl
  rw [List.find?_cons_of_pos this]
  rfl
theorem fst_none {f g : Int → Int} {L : Nat} (h : ∀ k : Nat, k ≤ L → f k = g k) : fst f g L = none := by
  unfold fst
  rw [List.find?_eq_none]
  intro j hj'
  have := h j (by have := List.mem_range.mp hj'; omega)
  unfold ne
  rw [decide_eq_true this]
  decide
theorem least_k {p : Nat → Prop} : ∀ n, p n → ∃ k, k ≤ n ∧ p k ∧ ∀ j, j < k → ¬ p j := by
  intro n
  induction n using
    Nat.strongRecOn with
  | _ n ih =>
    intro h
    by_cases z : ∃ j, j < n ∧ p j
    · obtain ⟨j, hj, pj⟩ := z
      obtain ⟨k, k1, k2, k3⟩ := ih j hj pj
      exact ⟨k, by omega, k2, k3⟩
    · exact ⟨n, Nat.le_refl _, h, fun j hj pj => z ⟨j, hj, pj⟩⟩
/-- behind a common period nothing new comes -/
theorem fst_stable {f g : Int → Int} {L N : Nat} (hLN : L ≤ N) (f0 : f 0 = g 0) (hL : 0 < L) (pf : ∀ x : Nat, f ((x + L : Nat) : Int) = f x + f L) (pg : ∀ x : Nat, g ((x + L : Nat) : Int) = g x + g L) : fst f g N = fst f g L := by
  by_cases z : ∃ k : Nat, k ≤ L ∧ f k ≠ g k
  · obtain ⟨k, hk, ne⟩ := z
    obtain ⟨j, j1, j2, j3⟩ := least_k (p := fun k => f (k : Int) ≠ g (k : Int)) k ne
    have j3 : ∀ i : Nat, i < j → f i = g i := fun i hi => Classical.byContradiction (j3 i hi)
    rw [fst_some (by omega) j2 j3, fst_some (by omega) j2 j3]
  · have all : ∀ k : Nat, k ≤ L → f k = g k := fun k hk => Classical.byContradiction fun y => z ⟨k, hk, y⟩
    have al2 : ∀ n k : Nat, k < n → f k = g k := by
      intro n
      induction n with
      | zero => intro k hk; omega
      | succ n ih =>
        intro k hk
        by_cases y : k ≤ L
        · exact all k y
        · have e : ((k - L + L : Nat) : Int) = k := by omega
          rw [← e, pf, pg, ih (k - L) (by omega), all L (Nat.le_refl _)]
    rw [fst_none fun k _ => al2 (k + 1) k (by omega), fst_none all]
theorem fst_comm (f g : Int → Int) (L : Nat) : fst f g L = fst g f L := by
  unfold fst
  congr 1
  funext k
  unfold ne
  by_cases h : f k = g k
  · rw [decide_eq_true h, decide_eq_true h.symm]
  · rw [decide_eq_false h, decide_eq_false fun z => h z.symm]
end Q79
namespace Q79
open PySem L2 DL
def F (a b : Nat) (r : Ro) (x : Int) : Int := q1 r (x * a) b
theorem dn_le {n b w : Int} (hb : 0 < b) : w ≤ q1 .dn n b ↔ w * b ≤ n := Int.le_ediv_iff_mul_le hb
theorem up_le {n b w : Int} (hb : 0 < b) : q1 .up n b ≤ w ↔ n ≤ w * b := by
  show -(-n / b) ≤ w ↔ _
  have := Int.le_ediv_iff_mul_le (a := -w) (b := -n) hb
  rw [Int.neg_mul] at this
  omega
theorem gc_one {n d : Nat} {r : Ro} (n1 : 1 ≤ n) (n2 : n ≤ 2000) (d1 : 1 ≤ d) (d2 : d ≤ 2000) : GC (one n d r) := by
  refine ⟨(by show 1 ≤ 4; omega), fun s hs => ?_, (by show (d : Int) * 1 ≤ 100000; omega)⟩
  have : s = ⟨n, d, r⟩ := by simpa [one] using hs
  subst this
  exact ⟨by show (1 : Int) ≤ n; omega, by show (n : Int) ≤ 2000; omega, by show (1 : Int) ≤ d; omega, by show (d : Int) ≤ 2000; omega⟩
theorem bn_one {n d : Nat} {r : Ro} : bn (one n d r) = d := by
  show ((d : Int) * 1).toNat = d
  omega
theorem F_zero {a b : Nat} {r : Ro} (b1 : 1 ≤ b) : F a b r 0 = 0 := by
  show q1 r (0 * (a : Int)) b = 0
  rw [Int.zero_mul]
  exact q1_zero r (by omega)
/-- down: the lesser is led to no more -/
theorem dn_mono {a b c d : Nat} (b1 : 1 ≤ b) (d1 : 1 ≤ d) (h : (a : Int) * d ≤ c * b) {x : Int} (x0 : 0 ≤ x) : F a b .dn x ≤ F c d .dn x := by
  have hb : (0 : Int) < b := by omega
  have hd : (0 : Int) < d := by omega
  refine (dn_le hd).mpr ?_
  have h1 : F a b .dn x * b ≤ x * a := (dn_le hb).mp (Int.le_refl _)
  generalize F a b .dn x = w at h1 ⊢
  refine Int.le_of_mul_le_mul_right ?_ hb
  have m1 := Int.mul_le_mul_of_nonneg_right h1 (show (0 : Int) ≤ d by omega)
  have m2 := Int.mul_le_mul_of_nonneg_left h x0
  have e1 : w * d * b = w * b * d := by rw [Int.mul_assoc, Int.mul_comm (d : Int) b, ← Int.mul_assoc]
  rw [e1, Int.mul_assoc x c b]
  rw [Int.mul_assoc x a d] at m1
  omega
theorem up_mono {a b c d : Nat} (b1 : 1 ≤ b) (d1 : 1 ≤ d) (h : (a : Int) * d ≤ c * b) {x : Int} (x0 : 0 ≤ x) : F a b .up x ≤ F c d .up x := by
  have hb : (0 : Int) < b := by omega
  have hd : (0 : Int) < d := by omega
  refine (up_le hb).mpr ?_
  have h1 : x * c ≤ F c d .up x * d := (up_le hd).mp (Int.le_refl _)
  generalize F c d .up x = w at h1 ⊢
  refine Int.le_of_mul_le_mul_right ?_ hd
  have m1 := Int.mul_le_mul_of_nonneg_right h1 (show (0 : Int) ≤ b by omega)
  have m2 := Int.mul_le_mul_of_nonneg_left h x0
  have e1 : w * b * d = w * d * b := by rw [Int.mul_assoc, Int.mul_comm (b : Int) d, ← Int.mul_assoc]
  rw [e1, Int.mul_assoc x a d]
  rw [Int.mul_assoc x c b] at m1
  omega
def isAb : Ro → Bool
  | .dn => true
  | _ => false
structure Nat4 (a b c d : Nat) : Prop where
  a1 : 1 ≤ a
  a2 : a ≤ 700
  b1 : 1 ≤ b
  b2 : b ≤ 301
  c1 : 1 ≤ c
  c2 : c ≤ 700
  d1 : 1 ≤ d
  d2 : d ≤ 301
  bd : b * d ≤ 100000
theorem Nat4.swap {a b c d : Nat} (h : Nat4 a b c d) : Nat4 c d a b := ⟨h.c1, h.c2, h.d1, h.d2, h.a1, h.a2, h.b1, h.b2, by rw [Nat.mul_comm]; exact h.bd⟩
theorem apart_at {a b c d : Nat} {r : Ro} (n : Nat4 a b c d) (hr : r = .dn ∨ r = .up) (lt : (a : Int) * d < c * b) {x : Int} (x0 : 0 ≤ x) : F a b r x ≠ F c d r x ↔ ∃ w, In (isAb r) a b c d w x := by
  have hb : (0 : Int) < b := by have := n.b1; omega
  have hd : (0 : Int) < d := by have := n.d1; omega
  have x1 : F a b r x ≠ F c d r x → 1 ≤ x := fun z => by
    refine Classical.byContradiction fun y => z ?_
    have : x = 0 := by omega
    rw [this, F_zero n.b1, F_zero n.d1]
  rcases hr with rfl | rfl
  · have mo := dn_mono n.b1 n.d1 (Int.le_of_lt lt) x0
    constructor
    · intro z
      refine ⟨F c d .dn x, x1 z, ?_⟩
      show (a : Int) * x < F c d .dn x * b ∧ F c d .dn x * d ≤ c * x
      have h1 : F c d .dn x * d ≤ x * c := (dn_le hd).mp (Int.le_refl _)
      have h2 : ¬ F c d .dn x * b ≤ x * a := fun y => by
        have : F c d .dn x ≤ F a b .dn x := (dn_le hb).mpr y
        omega
      rw [Int.mul_comm (a : Int) x, Int.mul_comm (c : Int) x]
      omega
    · rintro ⟨w, q1, i⟩ z
      have i : (a : Int) * x < w * b ∧ w * d ≤ c * x := i
      rw [Int.mul_comm (a : Int) x, Int.mul_comm (c : Int) x] at i
      have h1 : w ≤ F c d .dn x := (dn_le hd).mpr i.2
      rw [← z] at h1
      have : w * b ≤ x * a := (dn_le hb).mp h1
      omega
  · have mo := up_mono n.b1 n.d1 (Int.le_of_lt lt) x0
    constructor
    · intro z
      refine ⟨F a b .up x, x1 z, ?_⟩
      show (a : Int) * x ≤ F a b .up x * b ∧ F a b .up x * d < c * x
      have h1 : x * a ≤ F a b .up x * b := (up_le hb).mp (Int.le_refl _)
      have h2 : ¬ x * c ≤ F a b .up x * d := fun y => by
        have : F c d .up x ≤ F a b .up x := (up_le hd).mpr y
        omega
      rw [Int.mul_comm (a : Int) x, Int.mul_comm (c : Int) x]
      omega
    · rintro ⟨w, q1, i⟩ z
      have i : (a : Int) * x ≤ w * b ∧ w * d < c * x := i
      rw [Int.mul_comm (a : Int) x, Int.mul_comm (c : Int) x] at i
      have h1 : F a b .up x ≤ w := (up_le hb).mpr i.1
      rw [z] at h1
      have : x * c ≤ w * d := (up_le hd).mp h1
      omega
theorem two_of {a b c d : Nat} (n : Nat4 a b c d) (lt : (a : Int) * d < c * b) : Two (a : Int) b c d := ⟨by omega, by have := n.b1; omega, by omega, lt⟩
theorem best_is {a b c d : Nat} {r : Ro} (n : Nat4 a b c d) (hr : r = .dn ∨ r = .up) (lt : (a : Int) * d < c * b) {p q : Int} (h : Best (isAb r) a b c d p q) :
    1 ≤ q ∧ q ≤ 301 ∧ fst (F a b r) (F c d r) (Nat.lcm b d) = some q.toNat ∧ fst (F c d r) (F a b r) (Nat.lcm b d) = some q.toNat ∧ F a b r (q - 1) = F c d r (q - 1) := by
  have q1 := h.i.1
  have b1 := n.b1
  have b2 := n.b2
  have d1 := n.d1
  have d2 := n.d2
  have lp : 0 < Nat.lcm b d := Nat.lcm_pos b1 d1
  have lb : b ≤ Nat.lcm b d := Nat.le_of_dvd lp (Nat.dvd_lcm_left b d)
  have ld : d ≤ Nat.lcm b d := Nat.le_of_dvd lp (Nat.dvd_lcm_right b d)
  have hq : q ≤ Nat.lcm b d ∧ q ≤ 301 := by
    rcases hr with rfl | rfl
    · have := (h.l (c : Int) d ⟨by omega, lt, Int.le_refl _⟩).2
      omega
    · have := (h.l (a : Int) b ⟨by omega, Int.le_refl _, lt⟩).2
      omega
  have eq' : ((q.toNat : Nat) : Int) = q := by omega
  have nq : F a b r ((q.toNat : Nat) : Int) ≠ F c d r ((q.toNat : Nat) : Int) := by
    rw [eq']
    exact (apart_at n hr lt (by omega)).mpr ⟨p, h.i⟩
  have lo : ∀ j : Int, 0 ≤ j → j < q → F a b r j = F c d r j := fun j j0 j1 => by
    refine Classical.byContradiction fun z => ?_
    obtain ⟨w, hw⟩ := (apart_at n hr lt j0).mp z
    have := (h.l w j hw).2
    omega
  have k1 : q.toNat ≤ Nat.lcm b d := by omega
  have fs := fst_some k1 nq fun j hj => lo j (by omega) (by omega)
  exact ⟨q1, hq.2, fs, by rw [fst_comm]; exact fs, lo (q - 1) (by omega) (by omega)⟩
theorem q1_scale (r : Ro) (n b : Int) {k : Int} (hk : 0 < k) : q1 r (n * k) (b * k) = q1 r n b := by
  cases r with
  | dn => exact Int.mul_ediv_mul_of_pos_left _ _ hk
  | up =>
    show -(-(n * k) / (b * k)) = -(-n / b)
    rw [← Int.neg_mul, Int.mul_ediv_mul_of_pos_left _ _ hk]
  | nr =>
    show (2 * (n * k) + b * k) / (2 * (b * k)) = (2 * n + b) / (2 * b)
    rw [← Int.mul_assoc, ← Int.mul_assoc, ← Int.add_mul, Int.mul_ediv_mul_of_pos_left _ _ hk]
theorem same_is {a b c d : Nat} {r : Ro} (n : Nat4 a b c d) (e : (a : Int) * d = c * b) : F a b r = F c d r := by
  funext x
  have hb : (0 : Int) < b := by have := n.b1; omega
  have hd : (0 : Int) < d := by have := n.d1; omega
  show q1 r (x * a) b = q1 r (x * c) d
  rw [← q1_scale r (x * a) b hd, ← q1_scale r (x * c) d hb, Int.mul_assoc, e, Int.mul_assoc, Int.mul_comm (b : Int) d]
theorem same_none {f : Int → Int} {L : Nat} : fst f f L = none := fst_none fun _ _ => rfl
theorem lcm_le {a b c d : Nat} (n : Nat4 a b c d) : Nat.lcm b d ≤ 100000 := by
  have := Nat.le_of_dvd (Nat.mul_pos n.b1 n.d1) (Nat.lcm_dvd_mul b d)
  have := n.bd
  omega
end Q79
namespace Q79
open PySem L2 DL
structure Sh (k n : Nat) (d : D) : Prop where
  nd : nod d = true
  sh : d.showable = true
  lv : d.leavesShort 13 = true
  la : d.canLay0 = true
  dp : d.depth ≤ k
  bk : d.bulk ≤ n
theorem sh_int {i : Int} (h0 : 0 ≤ i) (h1 : i ≤ 99999999) : Sh 0 0 (.int i) := by
  refine ⟨rfl, ?_, ?_, rfl, Nat.le_refl _, Nat.le_refl _⟩
  · show decide (i.natAbs.log2 < 1920) = true
    refine decide_eq_true ?_
    by_cases z : i.natAbs = 0
    · rw [z]
      decide
    · have : i.natAbs.log2 < 30 := (Nat.log2_lt z).mpr (by have e : (2 : Nat) ^ 30 = 1073741824 := by decide
                                                           omega)
      omega
  · show decide ((PyData.shown (.int i)).length ≤ 13) = true
    exact decide_eq_true (PyData.shown_int_le2 (by omega) (by omega))
structure Shp (d : D) : Prop where
  nd : nod d = true
  sh : d.showable = true
  dp : d.depth ≤ 60
  len : d.shown.length ≤ 1000000
theorem shp_none : Shp (.list [.none, .none]) := by
  refine ⟨rfl, rfl, by simp [PyData.depth, PyData.depthAll], ?_⟩
  have := PyData.shown_le_bulk 13 (by omega) (.list [.none, .none]) rfl
  have e : PyData.bulk (.list [.none, .none]) = 2 := by simp [PyData.bulk, PyData.bulkAll]
  omega
theorem shp_int {k : Nat} (hk : k ≤ 100000) : Shp (.list [natD k, natD k]) := by
  have x := sh_int (i := (k : Int)) (by omega) (by omega)
  refine ⟨rfl, ?_, by simp [natD, PyData.depth, PyData.depthAll], ?_⟩
  · show (PyData.showable (.int k) && (PyData.showable (.int k) && true)) = true
    rw [x.sh]
    rfl
  · have l : PyData.leavesShort 13 (.list [natD k, natD k]) = true := by
      show (PyData.leavesShort 13 (.int k) && (PyData.leavesShort 13 (.int k) && true)) = true
      rw [x.lv]
      rfl
    have := PyData.shown_le_bulk 13 (by omega) (.list [natD k, natD k]) l
    have e : PyData.bulk (.list [natD k, natD k]) ≤ 100 := by simp [natD, PyData.bulk, PyData.bulkAll]
    omega
theorem seqAny {g h : SM} {E : DE} {ρ : DL.Env} (x : g { E with nx := h E } ρ) : sSeq g h E ρ := x
theorem ok2 (x y : Int) : okD (.tuple [.int x, .int y]) := by
  show SeqAt.shaped _ = true
  simp [SeqAt.shaped, PyData.canLay0, PyData.canLayAll0, PyData.depth, PyData.depthAll]
theorem eq2 (x y : Int) : PyData.eqv (.tuple [.int x, .int y]) (.tuple [.int x, .int y]) = true := by simp [PyData.eqv, PyData.eqvAll]
def v0 (rn : SpD) : SM := (sAsg (dCallO 0 1 rn (aOra 0 (aNil))) (gTupT 2 (gConsT (gN 3) (gConsT (gN 4) (gNoT)))))
def v1 : SM := (sIf (bD (d2 gGt (hV (d2 gMul (hV (d2 gIx (hS 3) (hV (dC (.int 0))))) (hV (d2 gIx (hS 4) (hV (dC (.int 1))))))) (hV (d2 gMul (hV (d2 gIx (hS 4) (hV (dC (.int 0))))) (hV (d2 gIx (hS 3) (hV (dC (.int 1))))))))) (sPar 3 4 (lCons (dV 4) (lCons (dV 3) (lNil)))) (sNo))
def v2 (rd : SpD) : SM := (sSet 1 (dCall 2 rd (aCons (d2 gIx (hS 3) (hV (dC (.int 0)))) (aCons (d2 gIx (hS 3) (hV (dC (.int 1)))) (aNil)))))
def v3 (rl : SpD) : SM := (sIf (bD (d2 gNe (hV (dCall 1 rl (aCons (dTup (lCons (dTup (lCons (d2 gIx (hS 3) (hV (dC (.int 0)))) (lCons (d2 gIx (hS 3) (hV (dC (.int 1)))) (lCons (dC (.str ("near" : Str))) (lNil))))) (lNil))) (aNil)))) (hV (dTup (lCons (d2 gDiv (hV (d2 gIx (hS 3) (hV (dC (.int 0))))) (hS 1)) (lCons (d2 gDiv (hV (d2 gIx (hS 3) (hV (dC (.int 1))))) (hS 1)) (lNil))))))) (sRet (dC (.bool false))) (sNo))
def xa : SM := (sPar 6 7 (lCons (dTup (lCons (dTup (lCons (d2 gIx (hS 3) (hV (dC (.int 0)))) (lCons (d2 gIx (hS 3) (hV (dC (.int 1)))) (lCons (dV 2) (lNil))))) (lNil))) (lCons (dTup (lCons (dTup (lCons (d2 gIx (hS 4) (hV (dC (.int 0)))) (lCons (d2 gIx (hS 4) (hV (dC (.int 1)))) (lCons (dV 2) (lNil))))) (lNil))) (lNil))))
def xb : SM := (sSet 5 (dC .none))
def xc (rs : SpD) : SM := (sIf (bD (d2 gNe (hV (d2 gMul (hV (d2 gIx (hS 3) (hV (dC (.int 0))))) (hV (d2 gIx (hS 4) (hV (dC (.int 1))))))) (hV (d2 gMul (hV (d2 gIx (hS 4) (hV (dC (.int 0))))) (hV (d2 gIx (hS 3) (hV (dC (.int 1))))))))) (sSet 5 (d2 gIx (hV (dCall 3 rs (aCons (dV 3) (aCons (dV 4) (aCons (d2 gEq (hS 2) (hV (dC (.str ("down" : Str))))) (aNil)))))) (hV (dC (.int 1))))) (sNo))
def xd (ra : SpD) : SM := (sIf (bD (d2 gNeS (hV (dCB gReprS (DL.gCons (hV (dLst (lCons (dCall 2 ra (aCons (dV 6) (aCons (dV 7) (aNil)))) (lCons (dCall 2 ra (aCons (dV 7) (aCons (dV 6) (aNil)))) (lNil))))) (DL.gNil)))) (hV (dCB gReprS (DL.gCons (hV (dLst (lCons (dV 5) (lCons (dV 5) (lNil))))) (DL.gNil)))))) (sRet (dC (.bool false))) (sNo))
def xe (rk : SpD) : SM := (sIf (bD (d2 gNeS (hV (dCB gReprB (DL.gCons (hV (dCall 2 rk (aCons (dV 6) (aCons (dV 7) (aNil))))) (DL.gNil)))) (hV (dCB gReprB (DL.gCons (hV (d2 gIs (hS 5) (hV (dC .none)))) (DL.gNil)))))) (sRet (dC (.bool false))) (sNo))
def xf (rm : SpD) : SM := (sIf (bAnd (bD (d2 gIsNot (hS 5) (hV (dC .none)))) (bAnd (bD (d2 gGt (hS 5) (hV (dC (.int 0))))) (bD (d2 gNe (hV (dCall 2 rm (aCons (dV 6) (aCons (d2 DL.gSub (hS 5) (hV (dC (.int 1)))) (aNil))))) (hV (dCall 2 rm (aCons (dV 7) (aCons (d2 DL.gSub (hS 5) (hV (dC (.int 1)))) (aNil))))))))) (sRet (dC (.bool false))) (sNo))
def wdB (rs ra rk rm : SpD) : SM := sSeq xa (sSeq xb (sSeq (xc rs) (sSeq (xd ra) (sSeq (xe rk) (xf rm)))))
def v4 (rs ra rk rm : SpD) : SM := sFor (iSeq (dTup (lCons (dC (.str ("down" : Str))) (lCons (dC (.str ("up" : Str))) (lNil))))) (gN 2) (wdB rs ra rk rm)
def gSg (rn rd rl rs ra rk rm : SpD) : SM := sSeq (v0 rn) (sSeq v1 (sSeq (v2 rd) (sSeq (v3 rl) (sSeq (v4 rs ra rk rm) (sRet (dC (.bool true)))))))
def legD (n d : Nat) (r : Ro) : D := .tuple [.int (n : Int), .int (d : Int), .str (rdS r)]
theorem leg_eq {n d : Nat} {r : Ro} : chD (one n d r) = .tuple [legD n d r] := rfl
abbrev pairN (a b : Nat) : D := pairD (a : Int) (b : Int)
abbrev g8 (m : Nat) (s1 s2 s3 s4 s5 s6 s7 : Sl) : DL.Env := [.ora m, s1, s2, s3, s4, s5, s6, s7]
structure Due (a b c d : Nat) (r : Ro) (o : Option Nat) : Prop where
  e1 : fst (F a b r) (F c d r) (Nat.lcm b d) = o
  e2 : fst (F c d r) (F a b r) (Nat.lcm d b) = o
  k : ∀ k, o = some k → 1 ≤ k ∧ k ≤ 301 ∧ F a b r ((k : Int) - 1) = F c d r ((k : Int) - 1)
theorem mul64 {a : Nat} (h : a ≤ 2000) : -(2 ^ 64 : Int) < (a : Int) ∧ (a : Int) < 2 ^ 64 := by omega
section
variable {m : Nat} {s1 s2 s3 s4 s5 s6 s7 : Sl} {E : DE} {a b c d : Nat} {r : Ro} {rn rd rl rs ra rk rm : SpD} {o : Option Nat}
theorem v0_ok (hn : ∀ P : D → Nat → Prop, (∀ a b c d, Nat4 a b c d → ∀ m', m' ≤ m + 5 → P (.tuple [pairN a b, pairN c d]) m') → rn [.ora] m P) (h : ∀ a b c d, Nat4 a b c d → ∀ m', m' ≤ m + 5 → E.nx (g8 m' s1 s2 (.im (pairN a b)) (.im (pairN c d)) s5 s6 s7)) : v0 rn E (g8 m s1 s2 s3 s4 s5 s6 s7) :=
  ⟨trivial, rfl, rfl, rfl, hn _ fun a b c d n m' hm' => ⟨rfl, rfl, h a b c d n m' hm'⟩⟩
theorem v1_ok (n : Nat4 a b c d) (h : ∀ a b c d, Nat4 a b c d → (a : Int) * d ≤ c * b → E.nx (g8 m s1 s2 (.im (pairN a b)) (.im (pairN c d)) s5 s6 s7)) : v1 E (g8 m s1 s2 (.im (pairN a b)) (.im (pairN c d)) s5 s6 s7) := by
  have ma := mul64 (show a ≤ 2000 by have := n.a2; omega)
  have mc := mul64 (show c ≤ 2000 by have := n.c2; omega)
  refine ⟨trivial, _, rfl, trivial, _, rfl, .inl ma, trivial, _, rfl, trivial, _, rfl, .inl mc, ?_⟩
  show if decide ((a : Int) * d > c * b) = true then _ else _
  by_cases z : (a : Int) * d > c * b
  · rw [decide_eq_true z, if_pos rfl]
    exact h c d a b n.swap (by omega)
  · rw [decide_eq_false z, if_neg (by decide)]
    exact h a b c d n (by omega)
theorem v2_ok (hd : ∀ P : D → Nat → Prop, P (.int ((Nat.gcd a b : Nat) : Int)) 0 → rd [.d (.int a), .d (.int b)] 0 P) (h : E.nx (g8 m (.im (.int ((Nat.gcd a b : Nat) : Int))) s2 (.im (pairN a b)) s4 s5 s6 s7)) : v2 rd E (g8 m s1 s2 (.im (pairN a b)) s4 s5 s6 s7) :=
  ⟨trivial, _, rfl, trivial, _, rfl, rfl, rfl, hd _ h⟩
theorem v3_ok (g0 : 1 ≤ Nat.gcd a b) (g1 : Nat.gcd a b ≤ 2000) (hl : ∀ P : D → Nat → Prop, P (.tuple [.int ((a : Int) / (Nat.gcd a b : Nat)), .int ((b : Int) / (Nat.gcd a b : Nat))]) 0 → rl [.d (.tuple [legD a b .nr])] 0 P) (h : E.nx (g8 m (.im (.int ((Nat.gcd a b : Nat) : Int))) s2 (.im (pairN a b)) s4 s5 s6 s7)) :
    v3 rl E (g8 m (.im (.int ((Nat.gcd a b : Nat) : Int))) s2 (.im (pairN a b)) s4 s5 s6 s7) := by
  have p : (0 : Int) < (Nat.gcd a b : Nat) ∧ ((Nat.gcd a b : Nat) : Int) < 1073741824 := by omega
  refine ⟨trivial, _, rfl, trivial, _, rfl, (by show 3 ≤ 1000000; omega), (by show 1 ≤ 1000000; omega), rfl, rfl, hl _ ?_⟩
  refine ⟨trivial, _, rfl, trivial, p, trivial, _, rfl, trivial, p, (by show 2 ≤ 1000000; omega), ok2 _ _, ok2 _ _, ?_⟩
  rw [eq2]
  exact h
theorem xa_ok (h : E.nx (g8 m s1 (.im (.str (rdS r))) (.im (pairN a b)) (.im (pairN c d)) s5 (.im (.tuple [legD a b r])) (.im (.tuple [legD c d r])))) : xa E (g8 m s1 (.im (.str (rdS r))) (.im (pairN a b)) (.im (pairN c d)) s5 s6 s7) :=
  ⟨trivial, _, rfl, trivial, _, rfl, (by show 3 ≤ 1000000; omega), (by show 1 ≤ 1000000; omega), trivial, _, rfl, trivial, _, rfl, (by show 3 ≤ 1000000; omega), (by show 1 ≤ 1000000; omega), h⟩
theorem xb_ok (h : E.nx (g8 m s1 s2 s3 s4 (.im .none) s6 s7)) : xb E (g8 m s1 s2 s3 s4 s5 s6 s7) := h
theorem xc_ok (n : Nat4 a b c d) (hr : r = .dn ∨ r = .up) (le : (a : Int) * d ≤ c * b) (hs : (a : Int) * d < c * b → ∀ P : D → Nat → Prop, (∀ p q, Best (isAb r) a b c d p q → P (pairD p q) 0) → rs [.d (pairN a b), .d (pairN c d), .d (.bool (isAb r))] 0 P)
    (h : ∀ o, Due a b c d r o → E.nx (g8 m s1 (.im (.str (rdS r))) (.im (pairN a b)) (.im (pairN c d)) (.im (res o)) s6 s7)) : xc rs E (g8 m s1 (.im (.str (rdS r))) (.im (pairN a b)) (.im (pairN c d)) (.im .none) s6 s7) := by
  have ma := mul64 (show a ≤ 2000 by have := n.a2; omega)
  have mc := mul64 (show c ≤ 2000 by have := n.c2; omega)
  refine ⟨trivial, _, rfl, trivial, _, rfl, .inl ma, trivial, _, rfl, trivial, _, rfl, .inl mc, okI _, okI _, ?_⟩
  rw [eqi]
  show if (!decide ((a : Int) * d = c * b)) = true then _ else _
  by_cases z : (a : Int) * d = c * b
  · rw [decide_eq_true z, if_neg (by decide)]
    have e := same_is (r := r) n z
    exact h none ⟨by rw [e]; exact same_none, by rw [e]; exact same_none, fun k hk => by cases hk⟩
  · rw [decide_eq_false z, if_pos (by decide)]
    have lt : (a : Int) * d < c * b := by omega
    have ea : PyData.eqv (.str (rdS r)) (.str ("down" : Str)) = isAb r := by
      rw [e_dn]
      cases r <;> rfl
    refine ⟨trivial, okR r, o_dn, ?_⟩
    rw [ea]
    refine ⟨rfl, rfl, hs lt _ fun p q hb => ?_⟩
    obtain ⟨q1, q2, f1, f2, lo⟩ := best_is n hr lt hb
    have eq' : ((q.toNat : Nat) : Int) = q := by omega
    have := h (some q.toNat) ⟨f1, by rw [Nat.lcm_comm]; exact f2, fun k hk => by
      cases hk
      rw [eq']
      exact ⟨by omega, by omega, lo⟩⟩
    have er : res (some q.toNat) = .int q := by
      show PyData.int ((q.toNat : Nat) : Int) = _
      rw [eq']
    rw [er] at this
    exact ⟨_, rfl, this⟩
theorem xd_ok (u : Due a b c d r o) (h1 : ∀ P : D → Nat → Prop, P (res (fst (F a b r) (F c d r) (Nat.lcm b d))) 0 → ra [.d (.tuple [legD a b r]), .d (.tuple [legD c d r])] 0 P) (h2 : ∀ P : D → Nat → Prop, P (res (fst (F c d r) (F a b r) (Nat.lcm d b))) 0 → ra [.d (.tuple [legD c d r]), .d (.tuple [legD a b r])] 0 P)
    (h : E.nx (g8 m s1 s2 s3 s4 (.im (res o)) (.im (.tuple [legD a b r])) (.im (.tuple [legD c d r])))) : xd ra E (g8 m s1 s2 s3 s4 (.im (res o)) (.im (.tuple [legD a b r])) (.im (.tuple [legD c d r]))) := by
  have k : Shp (.list [res o, res o]) := by
    cases o with
    | none => exact shp_none
    | some k => exact shp_int (by have := (u.k k rfl).2.1; omega)
  refine ⟨rfl, rfl, h1 _ ?_⟩
  rw [u.e1]
  refine ⟨rfl, rfl, h2 _ ?_⟩
  rw [u.e2]
  refine ⟨(by show 2 ≤ 1000000; omega), k.nd, k.sh, k.dp, k.len, ?_⟩
  refine ⟨(by show 2 ≤ 1000000; omega), k.nd, k.sh, k.dp, k.len, ?_⟩
  generalize (PyData.list [res o, res o]).shown = zs
  show if (!decide (zs = zs)) = true then _ else _
  rw [if_neg (by simp)]
  exact h
theorem xe_ok (h1 : ∀ P : D → Nat → Prop, P (.bool o.isNone) 0 → rk [.d (.tuple [legD a b r]), .d (.tuple [legD c d r])] 0 P)
    (h : E.nx (g8 m s1 s2 s3 s4 (.im (res o)) (.im (.tuple [legD a b r])) (.im (.tuple [legD c d r])))) : xe rk E (g8 m s1 s2 s3 s4 (.im (res o)) (.im (.tuple [legD a b r])) (.im (.tuple [legD c d r]))) := by
  refine ⟨rfl, rfl, h1 _ ?_⟩
  cases o with
  | none => exact ⟨trivial, h⟩
  | some k => exact ⟨trivial, h⟩
theorem xf_ok (u : Due a b c d r o) (h1 : ∀ (x : Int) (P : D → Nat → Prop), 0 ≤ x → x ≤ 1000 → P (.int (F a b r x)) 0 → rm [.d (.tuple [legD a b r]), .d (.int x)] 0 P) (h2 : ∀ (x : Int) (P : D → Nat → Prop), 0 ≤ x → x ≤ 1000 → P (.int (F c d r x)) 0 → rm [.d (.tuple [legD c d r]), .d (.int x)] 0 P)
    (h : E.nx (g8 m s1 s2 s3 s4 (.im (res o)) (.im (.tuple [legD a b r])) (.im (.tuple [legD c d r])))) : xf rm E (g8 m s1 s2 s3 s4 (.im (res o)) (.im (.tuple [legD a b r])) (.im (.tuple [legD c d r]))) := by
  cases o with
  | none => exact ⟨trivial, h⟩
  | some k =>
    obtain ⟨k1, k2, e⟩ := u.k k rfl
    refine ⟨trivial, ?_⟩
    refine ⟨trivial, ?_⟩
    show if decide ((k : Int) > 0) = true then _ else _
    rw [if_pos (by simp; omega)]
    refine ⟨trivial, rfl, rfl, h1 _ _ (by omega) (by omega) ?_⟩
    refine ⟨trivial, rfl, rfl, h2 _ _ (by omega) (by omega) ?_⟩
    refine ⟨okI _, okI _, ?_⟩
    rw [eqi, decide_eq_true e]
    exact h
end
end Q79
namespace Q79
open PySem L2 DL
theorem nat4_mk {a b c d : Int} (a1 : 1 ≤ a) (a2 : a ≤ 700) (b1 : 1 ≤ b) (b2 : b ≤ 300) (c1 : 1 ≤ c) (c2 : c ≤ 700) (d1 : 1 ≤ d) (d2 : d ≤ 301) {P : Prop} (h : ∀ a' b' c' d' : Nat, a = a' → b = b' → c = c' → d = d' → Nat4 a' b' c' d' → P) : P := by
  refine h a.toNat b.toNat c.toNat d.toNat (by omega) (by omega) (by omega) (by omega) ⟨by omega, by omega, by omega, by omega, by omega, by omega, by omega, by omega, ?_⟩
  have : b.toNat * d.toNat ≤ 300 * 301 := Nat.mul_le_mul (by omega) (by omega)
  omega
theorem d_near {m : Nat} {P : D → Nat → Prop} (hm : m + 6 < 1040000) (h : ∀ a b c d : Nat, Nat4 a b c d → ∀ m', m' ≤ m + 5 → P (.tuple [pairN a b, pairN c d]) m') : r__law_near [.ora] m P := by
  have h' : ∀ a b c d : Int, 1 ≤ a → a ≤ 700 → 1 ≤ b → b ≤ 300 → 1 ≤ c → c ≤ 700 → 1 ≤ d → d ≤ 301 → ∀ m', m' ≤ m + 5 → P (.tuple [pairD a b, pairD c d]) m' := fun a b c d a1 a2 b1 b2 c1 c2 d1 d2 m' hm' => nat4_mk a1 a2 b1 b2 c1 c2 d1 d2 fun a' b' c' d' ea eb ec ed n => by
    subst ea eb ec ed
    exact h a' b' c' d' n m' hm'
  refine ⟨trivial, rfl, rfl, rfl, 300, rfl, by omega, by omega, by omega, fun i i0 i1 => ?_⟩
  refine ⟨trivial, rfl, rfl, rfl, 600, rfl, by omega, by omega, by omega, fun j j0 j1 => ?_⟩
  refine ⟨trivial, rfl, rfl, rfl, 3, rfl, by omega, by omega, by omega, fun w w0 w1 => ?_⟩
  refine ⟨trivial, okI _, okI _, ?_⟩
  rw [eqi]
  show if decide (w = 0) = true then _ else _
  by_cases z0 : w = 0
  · rw [decide_eq_true z0, if_pos rfl]
    refine ⟨(by show 2 ≤ 1000000; omega), ?_⟩
    refine ⟨trivial, rfl, rfl, rfl, 600, rfl, by omega, by omega, by omega, fun k k0 k1 => ?_⟩
    refine ⟨trivial, rfl, rfl, rfl, 300, rfl, by omega, by omega, by omega, fun l l0 l1 => ?_⟩
    refine ⟨(by show 2 ≤ 1000000; omega), (by show 2 ≤ 1000000; omega), ?_⟩
    exact h' (1 + j) (1 + i) (1 + k) (1 + l) (by omega) (by omega) (by omega) (by omega) (by omega) (by omega) (by omega) (by omega) (m + 1 + 1 + 1 + 1 + 1) (by omega)
  · rw [decide_eq_false z0, if_neg (by decide)]
    refine ⟨trivial, okI _, okI _, ?_⟩
    rw [eqi]
    show if decide (w = 1) = true then _ else _
    by_cases z1 : w = 1
    · rw [decide_eq_true z1, if_pos rfl]
      refine ⟨(by show 2 ≤ 1000000; omega), ?_⟩
      refine ⟨trivial, trivial, rfl, rfl, rfl, 2, rfl, by omega, by omega, by omega, fun k k0 k1 => ?_⟩
      refine ⟨(by show 2 ≤ 1000000; omega), (by show 2 ≤ 1000000; omega), ?_⟩
      exact h' (1 + j) (1 + i) (1 + j + 1 + k) (1 + i) (by omega) (by omega) (by omega) (by omega) (by omega) (by omega) (by omega) (by omega) (m + 1 + 1 + 1 + 1) (by omega)
    · rw [decide_eq_false z1, if_neg (by decide)]
      refine ⟨trivial, (by show 2 ≤ 1000000; omega), trivial, trivial, ?_⟩
      show if decide (1 + i < 300) = true then _ else _
      by_cases z2 : 1 + i < 300
      · rw [decide_eq_true z2, if_pos rfl]
        refine ⟨trivial, (by show 2 ≤ 1000000; omega), (by show 2 ≤ 1000000; omega), ?_⟩
        exact h' (1 + i + 1) (1 + i) (1 + i + 2) (1 + i + 1) (by omega) (by omega) (by omega) (by omega) (by omega) (by omega) (by omega) (by omega) (m + 1 + 1 + 1) (by omega)
      · rw [decide_eq_false z2, if_neg (by decide)]
        refine ⟨(by show 2 ≤ 1000000; omega), (by show 2 ≤ 1000000; omega), ?_⟩
        exact h' (1 + i + 1) (1 + i) (1 + i + 2) (1 + i) (by omega) (by omega) (by omega) (by omega) (by omega) (by omega) (by omega) (by omega) (m + 1 + 1 + 1) (by omega)
structure Kn (rd rl rs ra rk rm : SpD) (a b c d : Nat) : Prop where
  td : ∀ P : D → Nat → Prop, P (.int ((Nat.gcd a b : Nat) : Int)) 0 → rd [.d (.int a), .d (.int b)] 0 P
  tl : ∀ P : D → Nat → Prop, P (.tuple [.int ((a : Int) / (Nat.gcd a b : Nat)), .int ((b : Int) / (Nat.gcd a b : Nat))]) 0 → rl [.d (.tuple [legD a b .nr])] 0 P
  ts : ∀ r : Ro, (a : Int) * d < c * b → ∀ P : D → Nat → Prop, (∀ p q, Best (isAb r) a b c d p q → P (pairD p q) 0) → rs [.d (pairN a b), .d (pairN c d), .d (.bool (isAb r))] 0 P
  ta : ∀ r : Ro, ∀ P : D → Nat → Prop, P (res (fst (F a b r) (F c d r) (Nat.lcm b d))) 0 → ra [.d (.tuple [legD a b r]), .d (.tuple [legD c d r])] 0 P
  tb : ∀ r : Ro, ∀ P : D → Nat → Prop, P (res (fst (F c d r) (F a b r) (Nat.lcm d b))) 0 → ra [.d (.tuple [legD c d r]), .d (.tuple [legD a b r])] 0 P
  tk : ∀ r : Ro, ∀ P : D → Nat → Prop, P (.bool (fst (F a b r) (F c d r) (Nat.lcm b d)).isNone) 0 → rk [.d (.tuple [legD a b r]), .d (.tuple [legD c d r])] 0 P
  tm : ∀ r : Ro, ∀ (x : Int) (P : D → Nat → Prop), 0 ≤ x → x ≤ 1000 → P (.int (F a b r x)) 0 → rm [.d (.tuple [legD a b r]), .d (.int x)] 0 P
  tn : ∀ r : Ro, ∀ (x : Int) (P : D → Nat → Prop), 0 ≤ x → x ≤ 1000 → P (.int (F c d r x)) 0 → rm [.d (.tuple [legD c d r]), .d (.int x)] 0 P
theorem gc_of {a b c d : Nat} (n : Nat4 a b c d) {r : Ro} : GC (one a b r) := gc_one n.a1 (by have := n.a2; omega) n.b1 (by have := n.b2; omega)
theorem c_ap {a b c d : Nat} (n : Nat4 a b c d) (r : Ro) (P : D → Nat → Prop) (h : P (res (fst (F a b r) (F c d r) (Nat.lcm b d))) 0) : r_apart_chains [.d (.tuple [legD a b r]), .d (.tuple [legD c d r])] 0 P := by
  rw [← leg_eq, ← leg_eq]
  refine d_apart (gc_of n) (gc_of n.swap) (by rw [bn_one, bn_one]; exact lcm_le n) ?_
  rw [bn_one, bn_one]
  exact h
theorem c_al {a b c d : Nat} (n : Nat4 a b c d) (r : Ro) (P : D → Nat → Prop) (h : P (.bool (fst (F a b r) (F c d r) (Nat.lcm b d)).isNone) 0) : r_alike_chains [.d (.tuple [legD a b r]), .d (.tuple [legD c d r])] 0 P := by
  rw [← leg_eq, ← leg_eq]
  refine d_alike (gc_of n) (gc_of n.swap) (by rw [bn_one, bn_one]; exact lcm_le n) ?_
  rw [bn_one, bn_one]
  exact h
theorem c_mv {a b c d : Nat} (n : Nat4 a b c d) (r : Ro) (x : Int) (P : D → Nat → Prop) (x0 : 0 ≤ x) (x1 : x ≤ 1000) (h : P (.int (F a b r x)) 0) : r_moved [.d (.tuple [legD a b r]), .d (.int x)] 0 P := by
  have z : x ≤ 1000000000000 := by omega
  rw [← leg_eq]
  exact d_moved (gc_of n) x0 z h
theorem c_sl {a b c d : Nat} (n : Nat4 a b c d) (P : D → Nat → Prop) (h : P (.tuple [.int ((a : Int) / (Nat.gcd a b : Nat)), .int ((b : Int) / (Nat.gcd a b : Nat))]) 0) : r_slope [.d (.tuple [legD a b .nr])] 0 P := by
  have et : top (one a b .nr) = (a : Int) := Int.mul_one _
  have eb : bot (one a b .nr) = (b : Int) := Int.mul_one _
  have gl : Nat.gcd a b ≤ a := Nat.le_of_dvd n.a1 (Nat.gcd_dvd_left a b)
  have a2 := n.a2
  rw [← leg_eq]
  refine d_slope (gc_of n) ?_ ?_
  · rw [et, eb]
    show ((Nat.gcd a b : Nat) : Int) < _
    omega
  · rw [et, eb]
    exact h
theorem kn_all {a b c d : Nat} (n : Nat4 a b c d) : Kn r__law_divisor r_slope (r__law_simple 40) r_apart_chains r_alike_chains r_moved a b c d := by
  refine ⟨fun P h => d_divisor h, c_sl n, fun r lt P h => ?_, c_ap n, c_ap n.swap, c_al n, c_mv n, c_mv n.swap⟩
  have a2 := n.a2
  have b2 := n.b2
  have c2 := n.c2
  have d2 := n.d2
  exact d_simple (two_of n lt) (by omega) h
section
variable {m : Nat} {s1 s2 s3 s4 s5 s6 s7 : Sl} {E : DE} {a b c d : Nat} {rn rd rl rs ra rk rm : SpD}
theorem wd_ok {r : Ro} (hr : r = .dn ∨ r = .up) (t : Kn rd rl rs ra rk rm a b c d) (n : Nat4 a b c d) (le : (a : Int) * d ≤ c * b) (h : ∀ s5 s6 s7, E.nx (g8 m s1 (.im (.str (rdS r))) (.im (pairN a b)) (.im (pairN c d)) s5 s6 s7)) : wdB rs ra rk rm E (g8 m s1 (.im (.str (rdS r))) (.im (pairN a b)) (.im (pairN c d)) s5 s6 s7) := by
  refine seqAny (xa_ok ?_)
  show sSeq xb _ _ _
  refine seqAny (g := xb) (h := sSeq (xc rs) (sSeq (xd ra) (sSeq (xe rk) (xf rm)))) ?_
  refine xb_ok (m := m) ?_
  refine seqAny (xc_ok n hr le (t.ts r) fun o u => ?_)
  refine seqAny (xd_ok u (t.ta r) (t.tb r) ?_)
  refine seqAny (xe_ok (fun P hP => t.tk r P (by rw [u.e1]; exact hP)) ?_)
  exact xf_ok u (t.tm r) (t.tn r) (h _ _ _)
theorem v4_ok (t : Kn rd rl rs ra rk rm a b c d) (n : Nat4 a b c d) (le : (a : Int) * d ≤ c * b) (h : ∀ s2 s5 s6 s7, E.nx (g8 m s1 s2 (.im (pairN a b)) (.im (pairN c d)) s5 s6 s7)) : v4 rs ra rk rm E (g8 m s1 s2 (.im (pairN a b)) (.im (pairN c d)) s5 s6 s7) := by
  refine ⟨(by show 2 ≤ 1000000; omega), ?_⟩
  have h2 : ∀ s5 s6 s7, forL (gN 2) (wdB rs ra rk rm) E [.str (rdS .up)] (g8 m s1 (.im (.str (rdS .dn))) (.im (pairN a b)) (.im (pairN c d)) s5 s6 s7) := fun s5 s6 s7 => wd_ok (r := .up) (E := ⟨forL (gN 2) (wdB rs ra rk rm) E [], E.rt, E.nx, forL (gN 2) (wdB rs ra rk rm) E []⟩) (.inr rfl) t n le fun s5 s6 s7 => h _ s5 s6 s7
  exact wd_ok (r := .dn) (E := ⟨forL (gN 2) (wdB rs ra rk rm) E [.str (rdS .up)], E.rt, E.nx, forL (gN 2) (wdB rs ra rk rm) E [.str (rdS .up)]⟩) (.inl rfl) t n le h2
theorem sg_ok (hn : ∀ P : D → Nat → Prop, (∀ a b c d, Nat4 a b c d → ∀ m', m' ≤ m + 5 → P (.tuple [pairN a b, pairN c d]) m') → rn [.ora] m P) (t : ∀ a b c d, Nat4 a b c d → Kn rd rl rs ra rk rm a b c d) (h : ∀ m' s1 s2 s3 s4 s5 s6 s7, m' ≤ m + 5 → E.rt (.bool true) (g8 m' s1 s2 s3 s4 s5 s6 s7)) : gSg rn rd rl rs ra rk rm E (g8 m s1 s2 s3 s4 s5 s6 s7) := by
  refine seqAny (v0_ok hn fun a b c d n m' hm' => ?_)
  refine seqAny (v1_ok n fun a b c d n le => ?_)
  have t := t a b c d n
  have g1 : 1 ≤ Nat.gcd a b := Nat.gcd_pos_of_pos_left _ n.a1
  have g2 : Nat.gcd a b ≤ 2000 := Nat.le_trans (Nat.le_of_dvd n.a1 (Nat.gcd_dvd_left a b)) (by have := n.a2; omega)
  refine seqAny (v2_ok t.td ?_)
  refine seqAny (v3_ok g1 g2 t.tl ?_)
  refine seqAny (v4_ok t n le fun s2 s5 s6 s7 => ?_)
  exact h m' _ _ _ _ _ _ _ hm'
end
theorem d_single {m : Nat} {P : D → Nat → Prop} (hm : m + 6 < 1040000) (h : ∀ m', m' ≤ m + 5 → P (.bool true) m') : r__law_single [.ora] m P := by
  show gSg r__law_near r__law_divisor r_slope (r__law_simple 40) r_apart_chains r_alike_chains r_moved _ (g8 m .no .no .no .no .no .no .no)
  exact sg_ok (fun P hP => d_near hm hP) (fun a b c d n => kn_all n) fun m' s1 s2 s3 s4 s5 s6 s7 hm' => h m' hm'
end Q79
namespace Q79
open PySem L2 DL
def y0 : SM := (sParIN 5 6 (dLst (lCons (dC (.str ("down" : Str))) (lCons (dC (.str ("up" : Str))) (lCons (dC (.str ("near" : Str))) (lNil))))) (dLst (lNil)))
def ya : SM := (sApp 7 (dTup (lCons (d2 gAdd (hV (dC (.int 1))) (hV (dCallO 0 2 s_next (aOra 0 (aCons (dC (.int 30)) (aNil)))))) (lCons (d2 gAdd (hV (dC (.int 1))) (hV (dCallO 0 2 s_next (aOra 0 (aCons (dC (.int 12)) (aNil)))))) (lCons (d2 gIx (hS 5) (hV (dCallO 0 2 s_next (aOra 0 (aCons (dC (.int 3)) (aNil)))))) (lNil))))))
def yi : SM := (sFor (iRange1 (lCons (d2 gAdd (hV (dC (.int 1))) (hV (dCallO 0 2 s_next (aOra 0 (aCons (dC (.int 2)) (aNil)))))) (lNil))) (gN 8) ya)
def yb : SM := (sSeq (sSetN 7 (dLst (lNil))) (sSeq yi (sApp 6 (dCB gTuple (DL.gCons (hS 7) (DL.gNil))))))
def y1 : SM := sFor (iRange1 (lCons (dC (.int 2)) (lNil))) (gN 1) yb
def yp : SM := (sPut 6 (dC (.int 1)) (d2 gAdd (hV (dSl (hV (d2 gIx (hS 6) (hV (dC (.int 0))))) (oNo) (oI (dNeg (dC (.int 1)))))) (hV (dTup (lCons (d2 gAdd (hV (dSl (hV (d2 gIx (hV (d2 gIx (hS 6) (hV (dC (.int 0))))) (hV (dNeg (dC (.int 1)))))) (oNo) (oI (dC (.int 2))))) (hV (dTup (lCons (d2 gIx (hS 5) (hV (dCallO 0 2 s_next (aOra 0 (aCons (dC (.int 3)) (aNil)))))) (lNil))))) (lNil))))))
def y2 : SM := (sIf (bD (d2 gEq (hV (dCallO 0 2 s_next (aOra 0 (aCons (dC (.int 3)) (aNil))))) (hV (dC (.int 0))))) yp (sNo))
def y3 : SM := (sSet 2 (dC (.int 1)))
def ym : SM := (sSet 2 (d2 gMul (hS 2) (hV (d2 gIx (hS 9) (hV (dC (.int 1)))))))
def yf : SM := (sFor (iSeq (dV 3)) (gN 9) ym)
def y4 : SM := sFor (iSeq (dV 6)) (gN 3) yf
def y5 (rf : SpD) : SM := (sSet 4 (dCall 3 rf (aCons (d2 gIx (hS 6) (hV (dC (.int 0)))) (aCons (d2 gIx (hS 6) (hV (dC (.int 1)))) (aCons (dCB gMin (DL.gCons (hS 2) (DL.gCons (hV (dC (.int 20736))) (DL.gNil)))) (aNil))))))
def y6 (ra : SpD) : SM := (sRet (d2 gEqS (hV (dCB gReprI (DL.gCons (hV (dCall 2 ra (aCons (d2 gIx (hS 6) (hV (dC (.int 0)))) (aCons (d2 gIx (hS 6) (hV (dC (.int 1)))) (aNil))))) (DL.gNil)))) (hV (dCB gReprI (DL.gCons (hS 4) (DL.gNil))))))
def gDb (rf ra : SpD) : SM := sSeq y0 (sSeq y1 (sSeq y2 (sSeq y3 (sSeq y4 (sSeq (y5 rf) (y6 ra))))))
abbrev g10 (m : Nat) (s1 s2 s3 s4 s5 s6 s7 s8 s9 : Sl) : DL.Env := [.ora m, s1, s2, s3, s4, s5, s6, s7, s8, s9]
def wordsD : D := .list [.str (rdS .dn), .str (rdS .up), .str (rdS .nr)]
structure St (s : Sp) : Prop where
  t0 : 1 ≤ s.t
  t1 : s.t ≤ 30
  b0 : 1 ≤ s.b
  b1 : s.b ≤ 12
structure Ch (c : List Sp) : Prop where
  l0 : 1 ≤ c.length
  l1 : c.length ≤ 2
  ok : ∀ s ∈ c, St s
theorem word_at {w : Int} (w0 : 0 ≤ w) (w1 : w < 3) : ∃ r : Ro, atI [PyData.str (rdS .dn), .str (rdS .up), .str (rdS .nr)] w = some (.str (rdS r)) := by
  have : w = 0 ∨ w = 1 ∨ w = 2 := by omega
  rcases this with rfl | rfl | rfl
  · exact ⟨.dn, rfl⟩
  · exact ⟨.up, rfl⟩
  · exact ⟨.nr, rfl⟩
section
variable {m : Nat} {s1 s2 s3 s4 s5 s6 s7 s8 s9 : Sl} {E : DE}
theorem y0_ok (h : E.nx (g10 m s1 s2 s3 s4 (.im wordsD) (.ow (.list [])) s7 s8 s9)) : y0 E (g10 m s1 s2 s3 s4 s5 s6 s7 s8 s9) :=
  ⟨(by show 3 ≤ 1000000; omega), (by show 0 ≤ 1000000; omega), h⟩
theorem ya_ok {acc : List Sp} (hm : m + 3 < 1040000) (hl : acc.length ≤ 10) (h : ∀ s, St s → E.nx (g10 (m + 1 + 1 + 1) s1 s2 s3 s4 (.im wordsD) s6 (.ow (.list ((acc ++ [s]).map Sp.d))) s8 s9)) : ya E (g10 m s1 s2 s3 s4 (.im wordsD) s6 (.ow (.list (acc.map Sp.d))) s8 s9) := by
  refine ⟨trivial, ?_⟩
  refine ⟨trivial, rfl, rfl, rfl, 30, rfl, by omega, by omega, by omega, fun i i0 i1 => ?_⟩
  refine ⟨trivial, rfl, rfl, rfl, 12, rfl, by omega, by omega, by omega, fun j j0 j1 => ?_⟩
  refine ⟨trivial, trivial, rfl, rfl, rfl, 3, rfl, by omega, by omega, by omega, fun w w0 w1 => ?_⟩
  obtain ⟨r, er⟩ := word_at w0 w1
  refine ⟨_, er, (by show 3 ≤ 1000000; omega), (by show (acc.map Sp.d).length < 1000000; rw [List.length_map]; omega), ?_⟩
  have := h ⟨1 + i, 1 + j, r⟩ ⟨by show 1 ≤ 1 + i; omega, by show 1 + i ≤ 30; omega, by show 1 ≤ 1 + j; omega, by show 1 + j ≤ 12; omega⟩
  rw [List.map_append] at this
  exact this
theorem yi_loop : ∀ (ds : List D) (m : Nat) (acc : List Sp) (s8 : Sl), acc.length + ds.length ≤ 5 → m + 3 * ds.length + 3 < 1040000 → (∀ s ∈ acc, St s) →
    (∀ (m' : Nat) (acc' : List Sp) (s8 : Sl), m' ≤ m + 3 * ds.length → acc'.length = acc.length + ds.length → (∀ s ∈ acc', St s) → E.nx (g10 m' s1 s2 s3 s4 (.im wordsD) s6 (.ow (.list (acc'.map Sp.d))) s8 s9)) →
    forL (gN 8) ya E ds (g10 m s1 s2 s3 s4 (.im wordsD) s6 (.ow (.list (acc.map Sp.d))) s8 s9)
  | [], m, acc, s8, hl, hm, ha, h => h m acc s8 (by omega) (by simp) ha
  | d :: ds, m, acc, s8, hl, hm, ha, h => by
    rw [List.length_cons] at hl hm h
    refine ya_ok (E := ⟨forL (gN 8) ya E ds, E.rt, E.nx, forL (gN 8) ya E ds⟩) (by omega) (by omega) fun s hs => ?_
    refine yi_loop ds _ (acc ++ [s]) _ (by rw [List.length_append, List.length_singleton]; omega) (by omega) (fun q hq => ?_) fun m' acc' s8 hm' hl' ha' => h m' acc' s8 (by omega) (by rw [hl', List.length_append, List.length_singleton]; omega) ha'
    (rcases List.mem_append.mp hq with hq | hq)
    · exact ha q hq
    · have : q = s := by simpa using hq
      rw [this]
      exact hs
theorem yi_ok (hm : m + 20 < 1040000) (h : ∀ (m' : Nat) (c : List Sp) (s8 : Sl), m' ≤ m + 8 → Ch c → E.nx (g10 m' s1 s2 s3 s4 (.im wordsD) s6 (.ow (.list (c.map Sp.d))) s8 s9)) : yi E (g10 m s1 s2 s3 s4 (.im wordsD) s6 (.ow (.list [])) s8 s9) := by
  refine ⟨trivial, rfl, rfl, rfl, 2, rfl, by omega, by omega, by omega, fun n n0 n1 => ?_⟩
  refine ⟨⟨by omega, by omega⟩, ?_⟩
  have ll : (rgD 0 (1 + n)).length = (1 + n).toNat := by simp [rgD]
  have l1 : 1 ≤ (rgD 0 (1 + n)).length ∧ (rgD 0 (1 + n)).length ≤ 2 := by omega
  generalize rgD 0 (1 + n) = ds at l1 ⊢
  exact yi_loop ds (m + 1) [] _ (by show 0 + _ ≤ 5; omega) (by omega) (fun s hs => by cases hs) fun m' c s8 hm' hl ha => h m' c s8 (by omega) ⟨by rw [hl]; show 1 ≤ 0 + _; omega, by rw [hl]; show 0 + _ ≤ 2; omega, ha⟩
theorem yb_ok {cs : List (List Sp)} (hl : cs.length ≤ 5) (hm : m + 20 < 1040000) (h : ∀ (m' : Nat) (c : List Sp) (s7 s8 : Sl), m' ≤ m + 8 → Ch c → E.nx (g10 m' s1 s2 s3 s4 (.im wordsD) (.ow (.list ((cs ++ [c]).map chD))) s7 s8 s9)) : yb E (g10 m s1 s2 s3 s4 (.im wordsD) (.ow (.list (cs.map chD))) s7 s8 s9) := by
  refine ⟨(by show 0 ≤ 1000000; omega), ?_⟩
  refine yi_ok (E := ⟨(sApp 6 (dCB gTuple (DL.gCons (hS 7) (DL.gNil)))) E, E.rt, E.bk, E.ct⟩) hm fun m' c s8 hm' hc => ?_
  refine ⟨trivial, trivial, (by show (cs.map chD).length < 1000000; rw [List.length_map]; omega), ?_⟩
  have := h m' c (.ow (.list (c.map Sp.d))) s8 hm' hc
  rw [List.map_append] at this
  exact this
theorem y1_ok (hm : m + 40 < 1040000) (h : ∀ (m' : Nat) (c e : List Sp) (s1 s7 s8 : Sl), m' ≤ m + 16 → Ch c → Ch e → E.nx (g10 m' s1 s2 s3 s4 (.im wordsD) (.ow (.list [chD c, chD e])) s7 s8 s9)) : y1 E (g10 m s1 s2 s3 s4 (.im wordsD) (.ow (.list [])) s7 s8 s9) := by
  refine ⟨⟨by decide, by decide⟩, ?_⟩
  have e : rgD 0 2 = [natD 0, natD 1] := rg_nat 2
  rw [e]
  refine yb_ok (cs := []) (E := ⟨forL (gN 1) yb E [natD 1], E.rt, E.nx, forL (gN 1) yb E [natD 1]⟩) (by show 0 ≤ 5; omega) (by omega) fun m1 c s7 s8 hm1 hc => ?_
  refine yb_ok (cs := [c]) (E := ⟨forL (gN 1) yb E [], E.rt, E.nx, forL (gN 1) yb E []⟩) (by show 1 ≤ 5; omega) (by omega) fun m2 e s7 s8 hm2 he => ?_
  exact h m2 c e _ _ _ (by omega) hc he
theorem yp_ok {c e : List Sp} (hm : m + 3 < 1040000) (hc : Ch c) (h : ∀ e, Ch e → E.nx (g10 (m + 1) s1 s2 s3 s4 (.im wordsD) (.ow (.list [chD c, chD e])) s7 s8 s9)) : yp E (g10 m s1 s2 s3 s4 (.im wordsD) (.ow (.list [chD c, chD e])) s7 s8 s9) := by
  match c, hc with
  | [s], hc =>
    refine ⟨trivial, _, rfl, trivial, _, rfl, _, rfl, ?_⟩
    refine ⟨trivial, trivial, rfl, rfl, rfl, 3, rfl, by omega, by omega, by omega, fun w w0 w1 => ?_⟩
    obtain ⟨r, er⟩ := word_at w0 w1
    refine ⟨_, er, (by show 1 ≤ 1000000; omega), (by show 3 ≤ 1000000; omega), (by show 1 ≤ 1000000; omega), (by show 1 ≤ 1000000; omega), trivial, 1, rfl, ?_⟩
    have os := hc.ok s (by simp)
    exact h [⟨s.t, s.b, r⟩] ⟨by show 1 ≤ 1; omega, by show 1 ≤ 2; omega, fun q hq => by
      have : q = ⟨s.t, s.b, r⟩ := by simpa using hq
      rw [this]
      exact ⟨os.t0, os.t1, os.b0, os.b1⟩⟩
  | [u, s], hc =>
    refine ⟨trivial, _, rfl, trivial, _, rfl, _, rfl, ?_⟩
    refine ⟨trivial, trivial, rfl, rfl, rfl, 3, rfl, by omega, by omega, by omega, fun w w0 w1 => ?_⟩
    obtain ⟨r, er⟩ := word_at w0 w1
    refine ⟨_, er, (by show 1 ≤ 1000000; omega), (by show 3 ≤ 1000000; omega), (by show 1 ≤ 1000000; omega), (by show 2 ≤ 1000000; omega), trivial, 1, rfl, ?_⟩
    have os := hc.ok s (by simp)
    have ou := hc.ok u (by simp)
    exact h [u, ⟨s.t, s.b, r⟩] ⟨by show 1 ≤ 2; omega, by show 2 ≤ 2; omega, fun q hq => by
      have : q = u ∨ q = ⟨s.t, s.b, r⟩ := by simpa using hq
      rcases this with rfl | rfl
      · exact ou
      · exact ⟨os.t0, os.t1, os.b0, os.b1⟩⟩
  | [], hc => exact absurd hc.l0 (by show ¬ 1 ≤ 0; omega)
  | _ :: _ :: _ :: c, hc => exact absurd hc.l1 (by show ¬ c.length + 3 ≤ 2; omega)
theorem y2_ok {c e : List Sp} (hm : m + 5 < 1040000) (hc : Ch c) (he : Ch e) (h : ∀ m' e, m' ≤ m + 2 → Ch e → E.nx (g10 m' s1 s2 s3 s4 (.im wordsD) (.ow (.list [chD c, chD e])) s7 s8 s9)) : y2 E (g10 m s1 s2 s3 s4 (.im wordsD) (.ow (.list [chD c, chD e])) s7 s8 s9) := by
  refine ⟨trivial, rfl, rfl, rfl, 3, rfl, by omega, by omega, by omega, fun w w0 w1 => ?_⟩
  refine ⟨okI _, okI _, ?_⟩
  rw [eqi]
  show if decide (w = 0) = true then _ else _
  by_cases z : w = 0
  · rw [decide_eq_true z, if_pos rfl]
    exact yp_ok (by omega) hc fun e he => h _ e (by omega) he
  · rw [decide_eq_false z, if_neg (by decide)]
    exact h _ e (by omega) he
theorem yf_loop : ∀ (c : List Sp) (p : Int) (s9 : Sl), (∀ s ∈ c, St s) → (∀ s9, E.nx (g10 m s1 (.im (.int (p * bot c))) s3 s4 s5 s6 s7 s8 s9)) → forL (gN 9) ym E (c.map Sp.d) (g10 m s1 (.im (.int p)) s3 s4 s5 s6 s7 s8 s9)
  | [], p, s9, ok, h => by
    have := h s9
    rw [show bot [] = 1 from rfl, Int.mul_one] at this
    exact this
  | s :: c, p, s9, ok, h => by
    have os := ok s (List.mem_cons_self ..)
    have b0 := os.b0
    have b1 := os.b1
    have mb : -(2 ^ 64 : Int) < s.b ∧ s.b < 2 ^ 64 := by omega
    refine ⟨trivial, trivial, _, rfl, .inr mb, ?_⟩
    refine yf_loop c (p * s.b) _ (fun q hq => ok q (List.mem_cons_of_mem _ hq)) fun s9 => ?_
    have := h s9
    rw [show bot (s :: c) = s.b * bot c from rfl, ← Int.mul_assoc] at this
    exact this
theorem y4_ok {c e : List Sp} (hc : Ch c) (he : Ch e) (h : ∀ s3 s9, E.nx (g10 m s1 (.im (.int (bot c * bot e))) s3 s4 s5 (.im (.list [chD c, chD e])) s7 s8 s9)) : y4 E (g10 m s1 (.im (.int 1)) s3 s4 s5 (.ow (.list [chD c, chD e])) s7 s8 s9) := by
  refine yf_loop (E := ⟨forL (gN 3) yf E [chD e], E.rt, E.nx, forL (gN 3) yf E [chD e]⟩) c 1 _ hc.ok fun s9 => ?_
  refine yf_loop (E := ⟨forL (gN 3) yf E [], E.rt, E.nx, forL (gN 3) yf E []⟩) e (1 * bot c) _ he.ok fun s9 => ?_
  rw [Int.one_mul]
  exact h _ _
theorem y5_ok {c e : List Sp} {rf : SpD} {L : Nat} {o : Option Nat} (hL : bot c * bot e = (L : Int)) (l2 : L ≤ 20736) (hf : ∀ P : D → Nat → Prop, P (res o) 0 → rf [.d (chD c), .d (chD e), .d (.int (L : Int))] 0 P) (h : E.nx (g10 m s1 (.im (.int (bot c * bot e))) s3 (.im (res o)) s5 (.im (.list [chD c, chD e])) s7 s8 s9)) : y5 rf E (g10 m s1 (.im (.int (bot c * bot e))) s3 s4 s5 (.im (.list [chD c, chD e])) s7 s8 s9) := by
  have e1 : min (bot c * bot e) 20736 = (L : Int) := by omega
  refine ⟨trivial, _, rfl, trivial, _, rfl, trivial, rfl, rfl, ?_⟩
  show rf [.d (chD c), .d (chD e), .d (.int (min (bot c * bot e) 20736))] _ _
  rw [e1]
  exact hf _ h
theorem y6_ok {c e : List Sp} {ra : SpD} {o : Option Nat} (ho : ∀ k, o = some k → k ≤ 100000) (ha : ∀ P : D → Nat → Prop, P (res o) 0 → ra [.d (chD c), .d (chD e)] 0 P) (h : E.rt (.bool true) (g10 m s1 s2 s3 (.im (res o)) s5 (.im (.list [chD c, chD e])) s7 s8 s9)) : y6 ra E (g10 m s1 s2 s3 (.im (res o)) s5 (.im (.list [chD c, chD e])) s7 s8 s9) := by
  refine ⟨trivial, _, rfl, trivial, _, rfl, rfl, rfl, ha _ ?_⟩
  cases o with
  | none =>
    refine ⟨trivial, ?_⟩
    show E.rt (.bool (decide (("None" : Str) = "None"))) _
    rw [decide_eq_true rfl]
    exact h
  | some k =>
    have hk := ho k rfl
    have x := of_decide_eq_true (sh_int (i := (k : Int)) (by omega) (by omega)).sh
    refine ⟨x, trivial, x, ?_⟩
    generalize (toString (k : Int) : Str) = z
    show E.rt (.bool (decide (z = z))) _
    rw [decide_eq_true rfl]
    exact h
end
end Q79
namespace Q79
open PySem L2 DL
theorem fst_le {f g : Int → Int} {L k : Nat} (h : fst f g L = some k) : k ≤ L := by
  have := List.mem_range.mp (List.mem_of_find?_eq_some h)
  omega
theorem bot_le {c : List Sp} (h : Ch c) : 1 ≤ bot c ∧ bot c ≤ 144 := by
  match c, h with
  | [s], h =>
    have os := h.ok s (by simp)
    have b0 := os.b0
    have b1 := os.b1
    rw [show bot [s] = s.b * 1 from rfl, Int.mul_one]
    omega
  | [u, s], h =>
    have os := h.ok s (by simp)
    have ou := h.ok u (by simp)
    have b0 := os.b0
    have b1 := os.b1
    have c0 := ou.b0
    have c1 := ou.b1
    rw [show bot [u, s] = u.b * (s.b * 1) from rfl, Int.mul_one]
    have m1 := Int.mul_le_mul c1 b1 (by omega) (by omega)
    have m2 : 0 < u.b * s.b := Int.mul_pos (by omega) (by omega)
    omega
  | [], h => exact absurd h.l0 (by show ¬ 1 ≤ 0; omega)
  | _ :: _ :: _ :: c, h => exact absurd h.l1 (by show ¬ c.length + 3 ≤ 2; omega)
theorem gc_ch {c : List Sp} (h : Ch c) : GC c := by
  have l := h.l1
  have b := bot_le h
  refine ⟨by omega, fun s hs => ?_, by omega⟩
  have os := h.ok s hs
  have t0 := os.t0
  have t1 := os.t1
  have b0 := os.b0
  have b1 := os.b1
  exact ⟨t0, by omega, b0, by omega⟩
theorem per_of {c : List Sp} (g : GC c) {L : Nat} (h : bn c ∣ L) (x : Nat) : mv c ((x + L : Nat) : Int) = mv c x + mv c L := by
  obtain ⟨k, rfl⟩ := h
  rw [Nat.mul_comm]
  exact per_mul (fn_zero g) (per_bn g) k x
structure Dbl (rf ra : SpD) (c e : List Sp) (L : Nat) (o : Option Nat) : Prop where
  hL : bot c * bot e = (L : Int)
  l2 : L ≤ 20736
  ho : ∀ k, o = some k → k ≤ 100000
  hf : ∀ P : D → Nat → Prop, P (res o) 0 → rf [.d (chD c), .d (chD e), .d (.int (L : Int))] 0 P
  ha : ∀ P : D → Nat → Prop, P (res o) 0 → ra [.d (chD c), .d (chD e)] 0 P
theorem dbl_all {c e : List Sp} (hc : Ch c) (he : Ch e) : ∃ L o, Dbl r__law_first r_apart_chains c e L o := by
  have gc := gc_ch hc
  have ge := gc_ch he
  have b1 := bot_le hc
  have b2 := bot_le he
  have n1 := bn_eq gc
  have n2 := bn_eq ge
  have c1 : bn c ≤ 144 := by omega
  have c2 : bn e ≤ 144 := by omega
  have l2 : bn c * bn e ≤ 20736 := Nat.mul_le_mul c1 c2
  have pos : 0 < bn c * bn e := Nat.mul_pos n1.2.1 n2.2.1
  have lc : Nat.lcm (bn c) (bn e) ≤ bn c * bn e := Nat.le_of_dvd pos (Nat.lcm_dvd_mul _ _)
  have lp : 0 < Nat.lcm (bn c) (bn e) := Nat.lcm_pos n1.2.1 n2.2.1
  have z : mv c 0 = mv e 0 := by rw [mv_zero (bot_ok gc.ok), mv_zero (bot_ok ge.ok)]
  have st : fst (mv c) (mv e) (bn c * bn e) = fst (mv c) (mv e) (Nat.lcm (bn c) (bn e)) := fst_stable lc z lp (per_of gc (Nat.dvd_lcm_left _ _)) (per_of ge (Nat.dvd_lcm_right _ _))
  refine ⟨bn c * bn e, fst (mv c) (mv e) (bn c * bn e), ⟨?_, l2, fun k hk => ?_, fun P hP => ?_, fun P hP => ?_⟩⟩
  · rw [n1.1, n2.1, Int.natCast_mul]
  · have := fst_le hk
    omega
  · have l3 : bn c * bn e ≤ 1000000 := by omega
    exact d_law_first gc ge l3 hP
  · have l3 : Nat.lcm (bn c) (bn e) ≤ 100000 := by omega
    rw [st] at hP
    exact d_apart gc ge l3 hP
theorem y34_ok {R : SM} {c e : List Sp} {m : Nat} {s1 s2 s3 s4 s5 s7 s8 s9 : Sl} {E : DE} (hc : Ch c) (he : Ch e) (h : ∀ s3 s9, R E (g10 m s1 (.im (.int (bot c * bot e))) s3 s4 s5 (.im (.list [chD c, chD e])) s7 s8 s9)) : sSeq y3 (sSeq y4 R) E (g10 m s1 s2 s3 s4 s5 (.ow (.list [chD c, chD e])) s7 s8 s9) :=
  y4_ok (m := m) (s1 := s1) (s3 := s3) (s4 := s4) (s5 := s5) (s7 := s7) (s8 := s8) (s9 := s9) (E := { E with nx := R E }) hc he h
theorem db_ok {rf ra : SpD} (t : ∀ c e, Ch c → Ch e → ∃ L o, Dbl rf ra c e L o) {m : Nat} {s1 s2 s3 s4 s5 s6 s7 s8 s9 : Sl} {E : DE} (hm : m + 60 < 1040000) (h : ∀ m' s1 s2 s3 s4 s5 s6 s7 s8 s9, m' ≤ m + 20 → E.rt (.bool true) (g10 m' s1 s2 s3 s4 s5 s6 s7 s8 s9)) : gDb rf ra E (g10 m s1 s2 s3 s4 s5 s6 s7 s8 s9) := by
  refine seqAny (y0_ok ?_)
  refine seqAny (y1_ok (by omega) fun m1 c e s1 s7 s8 hm1 hc he => ?_)
  refine seqAny (y2_ok (by omega) hc he fun m2 e hm2 he => ?_)
  obtain ⟨L, o, d⟩ := t c e hc he
  refine y34_ok hc he fun s3 s9 => ?_
  refine seqAny (y5_ok d.hL d.l2 d.hf ?_)
  exact y6_ok d.ho d.ha (h m2 _ _ _ _ _ _ _ _ _ (by omega))
theorem d_double {m : Nat} {P : D → Nat → Prop} (hm : m + 60 < 1040000) (h : ∀ m', m' ≤ m + 20 → P (.bool true) m') : r__law_double [.ora] m P := by
  show gDb r__law_first r_apart_chains _ (g10 m .no .no .no .no .no .no .no .no .no)
  exact db_ok (fun c e hc he => dbl_all hc he) hm fun m' s1 s2 s3 s4 s5 s6 s7 s8 s9 hm' => h m' hm'
def z1 (rg : SpD) : SM := (sIf (bNot (bTruth (hV (dCallO 1 1 rg (aOra 1 (aNil)))))) (sRet (dC (.bool false))) (sNo))
def z3 (ra : SpD) : SM := (sSet 3 (dLst (lCons (dCall 2 ra (aCons (dTup (lCons (dTup (lCons (dC (.int 25)) (lCons (dC (.int 24)) (lCons (dC (.str ("down" : Str))) (lNil))))) (lNil))) (aCons (dTup (lCons (dTup (lCons (dC (.int 30)) (lCons (dC (.int 29)) (lCons (dC (.str ("down" : Str))) (lNil))))) (lNil))) (aNil)))) (lCons (dCall 2 ra (aCons (dTup (lCons (dTup (lCons (dC (.int 1)) (lCons (dC (.int 1)) (lCons (dC (.str ("up" : Str))) (lNil))))) (lNil))) (aCons (dTup (lNil)) (aNil)))) (lNil)))))
def z4 (rk : SpD) : SM := (sRet (dAnd (d2 gEq (hS 3) (hV (dLst (lCons (dC (.int 24)) (lCons (dC .none) (lNil)))))) (d2 gIsB (hV (dCall 2 rk (aCons (dTup (lCons (dTup (lCons (dC (.int 50)) (lCons (dC (.int 48)) (lCons (dC (.str ("up" : Str))) (lNil))))) (lNil))) (aCons (dTup (lCons (dTup (lCons (dC (.int 25)) (lCons (dC (.int 24)) (lCons (dC (.str ("up" : Str))) (lNil))))) (lNil))) (aNil))))) (hV (dC (.bool true))))))
abbrev e4 (S : D) (m : Nat) (s2 s3 : Sl) : DL.Env := [.im S, .ora m, s2, s3]
section
variable {S : D} {m : Nat} {s2 s3 : Sl} {E : DE}
theorem z1_ok {rg : SpD} {B : Nat} (hg : ∀ P : D → Nat → Prop, (∀ m', m' ≤ m + B → P (.bool true) m') → rg [.ora] m P) (h : ∀ m', m' ≤ m + B → E.nx (e4 S m' s2 s3)) : z1 rg E (e4 S m s2 s3) :=
  ⟨trivial, rfl, rfl, rfl, hg _ fun m' hm' => h m' hm'⟩
theorem z3_ok {ra : SpD} (h1 : ∀ P : D → Nat → Prop, P (.int 24) 0 → ra [.d (.tuple [.tuple [.int 25, .int 24, .str "down"]]), .d (.tuple [.tuple [.int 30, .int 29, .str "down"]])] 0 P) (h2 : ∀ P : D → Nat → Prop, P .none 0 → ra [.d (.tuple [.tuple [.int 1, .int 1, .str "up"]]), .d (.tuple [])] 0 P) (h : E.nx (e4 S m s2 (.im (.list [.int 24, .none])))) : z3 ra E (e4 S m s2 s3) := by
  refine ⟨(by show 3 ≤ 1000000; omega), (by show 1 ≤ 1000000; omega), (by show 3 ≤ 1000000; omega), (by show 1 ≤ 1000000; omega), rfl, rfl, h1 _ ?_⟩
  refine ⟨(by show 3 ≤ 1000000; omega), (by show 1 ≤ 1000000; omega), (by show 0 ≤ 1000000; omega), rfl, rfl, h2 _ ?_⟩
  exact ⟨(by show 2 ≤ 1000000; omega), h⟩
theorem z4_ok {rk : SpD} (h1 : ∀ P : D → Nat → Prop, P (.bool true) 0 → rk [.d (.tuple [.tuple [.int 50, .int 48, .str "up"]]), .d (.tuple [.tuple [.int 25, .int 24, .str "up"]])] 0 P) (h : E.rt (.bool true) (e4 S m s2 (.im (.list [.int 24, .none])))) : z4 rk E (e4 S m s2 (.im (.list [.int 24, .none]))) := by
  have ok4 : okD (.list [.int 24, .none]) := by
    show SeqAt.shaped _ = true
    decide
  refine ⟨trivial, (by show 2 ≤ 1000000; omega), ok4, ok4, ?_⟩
  rw [show PyData.eqv (.list [.int 24, .none]) (.list [.int 24, .none]) = true by simp [PyData.eqv, PyData.eqvAll]]
  refine ⟨(by show 3 ≤ 1000000; omega), (by show 1 ≤ 1000000; omega), (by show 3 ≤ 1000000; omega), (by show 1 ≤ 1000000; omega), rfl, rfl, h1 _ ?_⟩
  exact h
theorem law_loop {rg : SpD} (hg : ∀ m, m + 6 < 1040000 → ∀ P : D → Nat → Prop, (∀ m', m' ≤ m + 5 → P (.bool true) m') → rg [.ora] m P) : ∀ (ds : List D) (m : Nat) (s2 : Sl), m + 5 * ds.length + 6 < 1040000 → (∀ m' s2, m' ≤ m + 5 * ds.length → E.nx (e4 S m' s2 s3)) → forL (gN 2) (z1 rg) E ds (e4 S m s2 s3)
  | [], m, s2, hm, h => h m s2 (by omega)
  | d :: ds, m, s2, hm, h => by
    rw [List.length_cons] at hm h
    refine z1_ok (B := 5) (E := ⟨forL (gN 2) (z1 rg) E ds, E.rt, E.nx, forL (gN 2) (z1 rg) E ds⟩) (hg m (by omega)) fun m' hm' => ?_
    exact law_loop hg ds m' _ (by omega) fun m'' s2 hm'' => h m'' s2 (by omega)
end
theorem a1 (P : D → Nat → Prop) (h : P (.int 24) 0) : r_apart_chains [.d (.tuple [.tuple [.int 25, .int 24, .str "down"]]), .d (.tuple [.tuple [.int 30, .int 29, .str "down"]])] 0 P := by
  have n : Nat4 25 24 30 29 := ⟨by omega, by omega, by omega, by omega, by omega, by omega, by omega, by omega, by omega⟩
  refine c_ap n .dn P ?_
  have e : fst (F 25 24 .dn) (F 30 29 .dn) (Nat.lcm 24 29) = some 24 := by decide +kernel
  rw [e]
  exact h
theorem a2 (P : D → Nat → Prop) (h : P .none 0) : r_apart_chains [.d (.tuple [.tuple [.int 1, .int 1, .str "up"]]), .d (.tuple [])] 0 P := by
  have g1 : GC (one 1 1 .up) := gc_one (by omega) (by omega) (by omega) (by omega)
  have e : fst (mv (one 1 1 .up)) (mv []) (Nat.lcm (bn (one 1 1 .up)) (bn [])) = none := by decide +kernel
  have l : Nat.lcm (bn (one 1 1 .up)) (bn []) ≤ 100000 := by decide +kernel
  have := d_apart (m := 0) (P := P) g1 g0 l (by rw [e]; exact h)
  exact this
theorem a3 (P : D → Nat → Prop) (h : P (.bool true) 0) : r_alike_chains [.d (.tuple [.tuple [.int 50, .int 48, .str "up"]]), .d (.tuple [.tuple [.int 25, .int 24, .str "up"]])] 0 P := by
  have n : Nat4 50 48 25 24 := ⟨by omega, by omega, by omega, by omega, by omega, by omega, by omega, by omega, by omega⟩
  refine c_al n .up P ?_
  rw [same_is n (by decide), same_none]
  exact h
theorem law_all {rg rd ra rk : SpD} (hg : ∀ m, m + 6 < 1040000 → ∀ P : D → Nat → Prop, (∀ m', m' ≤ m + 5 → P (.bool true) m') → rg [.ora] m P) (hd : ∀ m, m + 60 < 1040000 → ∀ P : D → Nat → Prop, (∀ m', m' ≤ m + 20 → P (.bool true) m') → rd [.ora] m P)
    (h1 : ∀ P : D → Nat → Prop, P (.int 24) 0 → ra [.d (.tuple [.tuple [.int 25, .int 24, .str "down"]]), .d (.tuple [.tuple [.int 30, .int 29, .str "down"]])] 0 P) (h2 : ∀ P : D → Nat → Prop, P .none 0 → ra [.d (.tuple [.tuple [.int 1, .int 1, .str "up"]]), .d (.tuple [])] 0 P)
    (h3 : ∀ P : D → Nat → Prop, P (.bool true) 0 → rk [.d (.tuple [.tuple [.int 50, .int 48, .str "up"]]), .d (.tuple [.tuple [.int 25, .int 24, .str "up"]])] 0 P) {S : D} {E : DE} {ds : List D} (hl : ds.length ≤ 100) (h : ∀ ρ, E.rt (.bool true) ρ) :
    forL (gN 2) (z1 rg) { E with nx := (sSeq (z1 rd) (sSeq (z3 ra) (z4 rk))) E } ds (e4 S 0 .no .no) := by
  refine law_loop hg ds 0 _ (by omega) fun m s2 hm => ?_
  refine seqAny (z1_ok (B := 20) (hd m (by omega)) fun m' hm' => ?_)
  refine seqAny (z3_ok h1 h2 ?_)
  exact z4_ok h3 (h _)
theorem law_says : ∀ ns : List Int, ns.length ≤ 63 → lawSays ns := by
  intro ns hl
  have e : ((ns.map PyData.int).length : Int) = ns.length := by rw [List.length_map]
  refine ⟨trivial, ?_⟩
  show (_ ∧ _) ∧ forL _ _ _ (rgD 0 (4 + min 6 ((ns.map PyData.int).length : Int))) _
  rw [e]
  refine ⟨⟨by omega, by omega⟩, ?_⟩
  have el : (rgD 0 (4 + min 6 (ns.length : Int))).length = (4 + min 6 (ns.length : Int)).toNat := by simp [rgD]
  have l100 : (rgD 0 (4 + min 6 (ns.length : Int))).length ≤ 100 := by omega
  exact law_all (rg := r__law_single) (rd := r__law_double) (ra := r_apart_chains) (rk := r_alike_chains) (S := .list (ns.map PyData.int)) (E := ⟨fun _ => False, fun d _ => d = .bool true, fun _ => False, fun _ => False⟩) (fun m hm P hP => d_single hm hP) (fun m hm P hP => d_double hm hP) a1 a2 a3 l100 fun ρ => rfl
end Q79
open PySem PyProof.Rows PySem.W in
set_option maxRecDepth 100100 in
set_option maxHeartbeats 0 in
theorem PySem.Challenge.cw_captionhouse_k79_whole_first_parting_fra_holds : PySem.Challenge.rw_captionhouse_k79_whole_first_parting_fra.Holds := by
  w_on
  o_law
  k_head
  (case hw => w_witness2)
  k_fill
  refine DL.walkG (l := PySem.Challenge.rw_captionhouse_k79_whole_first_parting_fra) (n := 63) (k := 42) (x := "_law_script") (sp := fun w => Q79.spLawG (_)) rfl (by decide) rfl ⟨rfl, by decide, by decide⟩ (fun w h Y => PySem.W.kIn_of Y) ?F (fun w H a ns hl sq => ⟨a, ns, rfl, sq, hl, fun _ => rfl⟩)
  case F =>
    intro w gl fa h KX G hgl
    refine' Q79.all_mk KX G hgl ?a0 ?l0 ?c0 ?k0 ?a1 ?l1 ?c1 ?k1 ?a2 ?l2 ?c2 ?k2 ?a3 ?l3 ?c3 ?k3 ?a4 ?l4 ?c4 ?k4 ?a5 ?l5 ?c5 ?k5 ?a6 ?l6 ?c6 ?k6 ?a7 ?l7 ?c7 ?k7 ?a8 ?l8 ?c8 ?k8 ?a9 ?l9 ?c9 ?k9 ?a10 ?l10 ?c10 ?k10 ?a11 ?l11 ?c11 ?k11 ?a12 ?l12 ?c12 ?k12 ?a13 ?l13 ?c13 ?k13 ?a14 ?l14 ?c14 ?k14 ?a15 ?l15 ?c15 ?k15 ?a16 ?l16 ?c16 ?k16 ?a17 ?l17 ?c17 ?k17 ?a18 ?l18 ?c18 ?k18 ?a19 ?l19 ?c19 ?k19 ?a20 ?l20 ?c20 ?k20 ?a21 ?l21 ?c21 ?k21 ?a22 ?l22 ?c22 ?k22 ?a23 ?l23 ?c23 ?k23 ?a24 ?l24 ?c24 ?k24 ?a25 ?l25 ?c25 ?k25 ?z_abs ?z_bool ?z_enumerate ?z_int ?z_isinstance ?z_len ?z_list ?z_min ?z_range ?z_repr ?z_str ?z_tuple ?v_MOST_FRAME ?v_MOST_OF_STEP ?v_MOST_PRODUCT ?v_MOST_STEPS ?v_ROUNDINGS ?w_ROUNDINGS ?v_gcd ?v_lcm Q79.law_says
    (case a0 => k_is)
    (case l0 => k_is)
    (case c0 => k_is)
    (case k0 => k_is)
    (case a1 => k_is)
    (case l1 => k_is)
    (case c1 => k_is)
    (case k1 => k_is)
    (case a2 => k_is)
    (case l2 => k_is)
    (case c2 => k_is)
    (case k2 => k_is)
    (case a3 => k_is)
    (case l3 => k_is)
    (case c3 => k_is)
    (case k3 => k_is)
    (case a4 => k_is)
    (case l4 => k_is)
    (case c4 => k_is)
    (case k4 => k_is)
    (case a5 => k_is)
    (case l5 => k_is)
    (case c5 => k_is)
    (case k5 => k_is)
    (case a6 => k_is)
    (case l6 => k_is)
    (case c6 => k_is)
    (case k6 => k_is)
    (case a7 => k_is)
    (case l7 => k_is)
    (case c7 => k_is)
    (case k7 => k_is)
    (case a8 => k_is)
    (case l8 => k_is)
    (case c8 => k_is)
    (case k8 => k_is)
    (case a9 => k_is)
    (case l9 => k_is)
    (case c9 => k_is)
    (case k9 => k_is)
    (case a10 => k_is)
    (case l10 => k_is)
    (case c10 => k_is)
    (case k10 => k_is)
    (case a11 => k_is)
    (case l11 => k_is)
    (case c11 => k_is)
    (case k11 => k_is)
    (case a12 => k_is)
    (case l12 => k_is)
    (case c12 => k_is)
    (case k12 => k_is)
    (case a13 => k_is)
    (case l13 => k_is)
    (case c13 => k_is)
    (case k13 => k_is)
    (case a14 => k_is)
    (case l14 => k_is)
    (case c14 => k_is)
    (case k14 => k_is)
    (case a15 => k_is)
    (case l15 => k_is)
    (case c15 => k_is)
    (case k15 => k_is)
    (case a16 => k_is)
    (case l16 => k_is)
    (case c16 => k_is)
    (case k16 => k_is)
    (case a17 => k_is)
    (case l17 => k_is)
    (case c17 => k_is)
    (case k17 => k_is)
    (case a18 => k_is)
    (case l18 => k_is)
    (case c18 => k_is)
    (case k18 => k_is)
    (case a19 => k_is)
    (case l19 => k_is)
    (case c19 => k_is)
    (case k19 => k_is)
    (case a20 => k_is)
    (case l20 => k_is)
    (case c20 => k_is)
    (case k20 => k_is)
    (case a21 => k_is)
    (case l21 => k_is)
    (case c21 => k_is)
    (case k21 => k_is)
    (case a22 => k_is)
    (case l22 => k_is)
    (case c22 => k_is)
    (case k22 => k_is)
    (case a23 => k_is)
    (case l23 => k_is)
    (case c23 => k_is)
    (case k23 => k_is)
    (case a24 => k_is)
    (case l24 => k_is)
    (case c24 => k_is)
    (case k24 => k_is)
    (case a25 => k_is)
    (case l25 => k_is)
    (case c25 => k_is)
    (case k25 => k_is)
    (case z_abs => k_is)
    (case z_bool => k_is)
    (case z_enumerate => k_is)
    (case z_int => k_is)
    (case z_isinstance => k_is)
    (case z_len => k_is)
    (case z_list => k_is)
    (case z_min => k_is)
    (case z_range => k_is)
    (case z_repr => k_is)
    (case z_str => k_is)
    (case z_tuple => k_is)
    (case v_MOST_FRAME => k_is)
    (case v_MOST_OF_STEP => k_is)
    (case v_MOST_PRODUCT => k_is)
    (case v_MOST_STEPS => k_is)
    (case v_ROUNDINGS => k_is)
    (case w_ROUNDINGS => k_is)
    (case v_gcd => k_is)
    (case v_lcm => k_is)

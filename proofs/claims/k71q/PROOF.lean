import PyProof.Rows.All
import Wide.All
import OpenK.AllK
import Wide.FinOn
import HandS.ForMost
import HandS.Flow
import HandS.IsInst
import HandS.Walk
import HandS.Zip
import HandS.Conv
import HandS.Wide
import HandS.TupAny
import HandS.Style
import HandS.SortInts
import KE.GoesMore
import HandS.Deep
import HandS.Text
import HandS.Strs
import HandS.SetBool
import HandS.Comp
import HandS.Gcd
import KE.DataMinMax
import KE.KTupSum
import KE.KMathGC
import HandS.EndBits
import HandS.ExcInit
import HandS.TryOnly
import HandS.WordsExc
import KE.GoesEnum
import HandS.ExcField
import HandS.StrMore
import HandS.TupMul
import HandS.Star
import HandS.Defaults
import PyProof.TupleOfStr
import HandS.FStr
import HandS.TryMany
import KE.KDictKeyed
import PyProof.ListStr
import KE.KDictZip
import KE.GoesZip
import HandS.ListItems
import PyProof.Rows.SetFrom
import HandS.SetKeys
import HandS.DictComp
import HandS.NoneIn
import HandS.Dict
import HandS.Flt
import KE.SortData
import HandS.TupSets
import PyProof.ReprBulk
import PyProof.Rows.ReprShort
import PySem.Challenge.RW_captionhouse_k71_whole_chains_moved
set_option Elab.async false
set_option linter.all false
set_option maxRecDepth 100000
set_option maxHeartbeats 3900000
namespace DL
open PySem L2
abbrev D := PyData
def KD : Key → D
  | .inl i => .int i
  | .inr x => .str x
mutual
/-- the value v is the datum d, in what stands at H -/
inductive At (K : PySem.W.Frag) (H : Hp) : V → D → Prop
  | non : At K H .non .none
  | bl (b : Bool) : At K H (.bl b) (.bool b)
  | int (i : Int) : At K H (.int i) (.int i)
  | str (x : Str) : At K H (.str x) (.str x)
  | lst {a : Addr} {xs : List V} {ds : List D} : SqL K H a xs → AtAll K H xs ds → At K H (.ref a) (.list ds)
  | tup {a : Addr} {xs : List V} {ds : List D} : SqT K H a xs → AtAll K H xs ds → At K H (.ref a) (.tuple ds)
  | dk {a : Addr} {ks : List Key} {xs : List V} {ds : List D} : Rd H a (.dK (ks.zip xs)) → ks ≠ [] → ks.length = xs.length → AtAll K H xs ds → At K H (.ref a) (.dict ((ks.map KD).zip ds))
  | dt {a : Addr} {ks : List (List Key)} {xs : List V} {ds : List D} : H a = some (.dT (ks.zip xs)) → ks.length = xs.length → AtAll K H xs ds → At K H (.ref a) (.dict ((ks.map fun k => PyData.tuple (k.map KD)).zip ds))
inductive AtAll (K : PySem.W.Frag) (H : Hp) : List V → List D → Prop
  | nil : AtAll K H [] []
  | cons {v : V} {vs : List V} {d : D} {ds : List D} : At K H v d → AtAll K H vs ds → AtAll K H (v :: vs) (d :: ds)
end
def Ex (G G' : Hp) : Prop := ∀ a o, G a = some o → G' a = some o
theorem Ex.refl (G : Hp) : Ex G G := fun _ _ h => h
theorem Ex.trans {G G1 G2 : Hp} (a : Ex G G1) (b : Ex G1 G2) : Ex G G2 := fun x o h => b x o (a x o h)
theorem Ex.new {G : Hp} {p : Addr} {o : HO} (h : G p = none) : Ex G (upd G p o) := fun a u e => by
  rw [upd_ne (ne_of_none e h)]
  exact e
theorem Ex.rd {H H' : Hp} {a : Addr} {u : HO} (e : Ex H H') (h : Rd H a u) : Rd H' a u := by
  rcases h with h | ⟨o, h⟩
  · exact Or.inl (e a _ h)
  · exact Or.inr ⟨o, e a _ h⟩
theorem Ex.sl {K : PySem.W.Frag} {H H' : Hp} {a : Addr} {xs : List V} (e : Ex H H') (h : SqL K H a xs) : SqL K H' a xs := by
  rcases h with h | h
  · exact Or.inl (e.rd h)
  · exact Or.inr h
theorem Ex.st {K : PySem.W.Frag} {H H' : Hp} {a : Addr} {xs : List V} (e : Ex H H') (h : SqT K H a xs) : SqT K H' a xs := by
  rcases h with h | h
  · exact Or.inl (e.rd h)
  · exact Or.inr h
theorem At.mono {K : PySem.W.Frag} {H H' : Hp} (e : Ex H H') {v : V} {d : D} (h : At K H v d) : At K H' v d := by
  refine At.rec (motive_1 := fun v d _ => At K H' v d) (motive_2 := fun vs ds _ => AtAll K H' vs ds) ?_ ?_ ?_ ?_ ?_ ?_ ?_ ?_ ?_ ?_ h
  · exact .non
  · exact fun b => .bl b
  · exact fun i => .int i
  · exact fun x => .str x
  · exact fun s _ i => .lst (e.sl s) i
  · exact fun s _ i => .tup (e.st s) i
  · exact fun s n l _ i => .dk (e.rd s) n l i
  · exact fun s l _ i => .dt (e _ _ s) l i
  · exact .nil
  · exact fun _ _ i j => .cons i j
theorem AtAll.mono {K : PySem.W.Frag} {H H' : Hp} (e : Ex H H') : ∀ {vs : List V} {ds : List D}, AtAll K H vs ds → AtAll K H' vs ds
  | _, _, .nil => .nil
  | _, _, .cons h t => .cons (h.mono e) (AtAll.mono e t)
section
variable {K : PySem.W.Frag} {H : Hp}
theorem AtAll.length : ∀ {vs : List V} {ds : List D}, AtAll K H vs ds → vs.length = ds.length
  | _, _, .nil => rfl
  | _, _, .cons _ t => congrArg (· + 1) t.length
theorem AtAll.append : ∀ {vs ws : List V} {ds es : List D}, AtAll K H vs ds → AtAll K H ws es → AtAll K H (vs ++ ws) (ds ++ es)
  | _, _, _, _, .nil, s => s
  | _, _, _, _, .cons r t, s => .cons r (t.append s)
theorem AtAll.take : ∀ {vs : List V} {ds : List D} (n : Nat), AtAll K H vs ds → AtAll K H (vs.take n) (ds.take n)
  | _, _, 0, _ => by simpa using AtAll.nil
  | _, _, _ + 1, .nil => .nil
  | _, _, n + 1, .cons r t => .cons r (t.take n)
theorem AtAll.drop : ∀ {vs : List V} {ds : List D} (n : Nat), AtAll K H vs ds → AtAll K H (vs.drop n) (ds.drop n)
  | _, _, 0, r => r
  | _, _, _ + 1, .nil => .nil
  | _, _, n + 1, .cons _ t => t.drop n
theorem AtAll.get : ∀ {vs : List V} {ds : List D} {i : Nat} {d : D}, AtAll K H vs ds → ds[i]? = some d → ∃ v, vs[i]? = some v ∧ At K H v d
  | _, _, _, _, .nil, e => (by simp at e)
  | _, _, 0, _, .cons r _, e => (by simp at e; subst e; exact ⟨_, rfl, r⟩)
  | _, _, i + 1, d, .cons _ t, e => by
    obtain ⟨v, h1, h2⟩ := t.get (i := i) (d := d) (by simpa using e)
    exact ⟨v, by simpa using h1, h2⟩
theorem AtAll.set {x : V} {d : D} (r : At K H x d) : ∀ {vs : List V} {ds : List D} (i : Nat), AtAll K H vs ds → AtAll K H (vs.set i x) (ds.set i d)
  | _, _, _, .nil => .nil
  | _, _, 0, .cons _ t => (.cons r t)
  | _, _, i + 1, .cons q t => .cons q (AtAll.set r i t)
theorem AtAll.ints : ∀ {vs : List V} {ns : List Int}, AtAll K H vs (ns.map PyData.int) → vs = ns.map V.int
  | _, [], .nil => rfl
  | _, n :: ns, .cons r t => by cases r; rw [t.ints]; rfl
theorem AtAll.ofInts : ∀ (ns : List Int), AtAll K H (ns.map V.int) (ns.map PyData.int)
  | [] => .nil
  | n :: ns => .cons (.int n) (AtAll.ofInts ns)
end
mutual
def nod : D → Bool
  | .list xs => nodAll xs
  | .tuple xs => nodAll xs
  | .dict _ => false
  | _ => true
def nodAll : List D → Bool
  | [] => true
  | x :: xs => nod x && nodAll xs
end
theorem At.dp {K : PySem.W.Frag} {H : Hp} {v : V} {d : D} (h : At K H v d) : nod d = true → Dp K H v d := by
  refine At.rec (motive_1 := fun v d _ => nod d = true → Dp K H v d) (motive_2 := fun vs ds _ => nodAll ds = true → DpAll K H vs ds) ?_ ?_ ?_ ?_ ?_ ?_ ?_ ?_ ?_ ?_ h
  · exact fun _ => .non
  · exact fun b _ => .bl b
  · exact fun i _ => .int i
  · exact fun x _ => .str x
  · exact fun s _ i e => .lst s (i (by simpa [nod] using e))
  · exact fun s _ i e => .tup s (i (by simpa [nod] using e))
  · exact fun _ _ _ _ _ e => by simp [nod] at e
  · exact fun _ _ _ _ e => by simp [nod] at e
  · exact fun _ => .nil
  · exact fun _ _ i j e => by
      simp only [nodAll, Bool.and_eq_true] at e
      exact .cons (i e.1) (j e.2)
end DL
namespace DL
open PySem L2
def Foot : Option Addr → Hp → Addr → Prop
  | none, _, _ => False
  | some q, H, a => a = q ∨ ∃ kvs k, H q = some (.dK kvs) ∧ (k, V.ref a) ∈ kvs
theorem Foot.eqv {p : Option Addr} {H H' : Hp} (h : ∀ q, p = some q → H' q = H q) (a : Addr) : Foot p H' a ↔ Foot p H a := by
  cases p with
  | none => exact Iff.rfl
  | some q =>
    have e := h q rfl
    show (a = q ∨ ∃ kvs k, H' q = some (.dK kvs) ∧ (k, V.ref a) ∈ kvs) ↔ (a = q ∨ ∃ kvs k, H q = some (.dK kvs) ∧ (k, V.ref a) ∈ kvs)
    rw [e]
structure Orc where
  I : Addr → Hp → Prop
  cnt : Addr → Hp → Nat
  al : ∀ q H a, I q H → Foot (some q) H a → H a ≠ none
  st : ∀ q H H', I q H → (∀ a, Foot (some q) H a → H' a = H a) → I q H'
  sc : ∀ q H H', I q H → (∀ a, Foot (some q) H a → H' a = H a) → cnt q H' = cnt q H
/-- no source of numbers -/
def Orc.nil : Orc := ⟨fun _ _ => False, fun _ _ => 0, fun _ _ _ h => h.elim, fun _ _ _ h => h.elim, fun _ _ _ h => h.elim⟩
/-- from F0 (known to stay) and H0 (all) to F and H -/
structure World (R : Orc) (p : Option Addr) (F0 H0 F H : Hp) : Prop where
  ff : Ex F0 F
  fh : Ex F H
  kp : ∀ a o, H0 a = some o → ¬ Foot p H0 a → H a = some o ∧ ¬ Foot p H a
  dom : ∀ a, H0 a ≠ none → H a ≠ none
  fn : ∀ a, H0 a ≠ none → F0 a = none → F a = none
  ft : ∀ a, F a ≠ none → ¬ Foot p H a
  or : ∀ q, p = some q → R.I q H
theorem World.start {R : Orc} {p : Option Addr} {F H : Hp} (fh : Ex F H) (ft : ∀ a, F a ≠ none → ¬ Foot p H a) (or : ∀ q, p = some q → R.I q H) : World R p F H F H :=
  ⟨Ex.refl F, fh, fun _ _ h f => ⟨h, f⟩, fun _ h => h, fun _ _ h => h, ft, or⟩
theorem World.here {R : Orc} {p : Option Addr} {F0 H0 F H : Hp} (w : World R p F0 H0 F H) : World R p F H F H := World.start w.fh w.ft w.or
theorem World.trans {R : Orc} {p : Option Addr} {F0 H0 F H F' H' : Hp} (w : World R p F0 H0 F H) (v : World R p F H F' H') : World R p F0 H0 F' H' := by
  refine ⟨w.ff.trans v.ff, v.fh, fun a o h f => ?_, fun a h => v.dom a (w.dom a h), fun a h f => v.fn a (w.dom a h) (w.fn a h f), v.ft, v.or⟩
  obtain ⟨h1, f1⟩ := w.kp a o h f
  exact v.kp a o h1 f1
theorem World.ofNone {R : Orc} {p : Option Addr} {F0 H0 F H F' H' : Hp} (w : World R p F0 H0 F H) (v : World R none F H F' H') : World R p F H F' H' := by
  have all : ∀ a, H a ≠ none → H' a = H a := fun a h => by
    cases e : H a with
    | none => exact absurd e h
    | some o => exact (v.kp a o e (fun z => z)).1
  have al : ∀ a, Foot p H a → H a ≠ none := fun a h => by
    cases p with
    | none => exact h.elim
    | some q => exact R.al q H a (w.or q rfl) h
  have hq : ∀ q, p = some q → H' q = H q := fun q e => all q (al q (by subst e; exact .inl rfl))
  have ff : ∀ a, Foot p H' a ↔ Foot p H a := Foot.eqv hq
  refine ⟨v.ff, v.fh, fun a o h f => ⟨(v.kp a o h (fun z => z)).1, fun z => f ((ff a).mp z)⟩, v.dom, v.fn, fun a h z => ?_, fun q e => ?_⟩
  · have z' := (ff a).mp z
    cases e : F a with
    | some o => exact w.ft a (by rw [e]; exact Option.some_ne_none o) z'
    | none => exact h (v.fn a (al a z') e)
  · subst e
    exact R.st q H H' (w.or q rfl) fun a h => all a (al a h)
theorem World.foot_al {R : Orc} {p : Option Addr} {F0 H0 F H : Hp} (w : World R p F0 H0 F H) {a : Addr} (h : Foot p H a) : H a ≠ none := by
  cases p with
  | none => exact h.elim
  | some q => exact R.al q H a (w.or q rfl) h
/-- a new object that is known from then on -/
theorem World.newF {R : Orc} {p : Option Addr} {F0 H0 F H : Hp} (w : World R p F0 H0 F H) {q : Addr} (o : HO) (hq : H q = none) : World R none F H (upd F q o) (upd H q o) := by
  refine ⟨?_, ?_, ?_, ?_, ?_, fun _ _ z => z, fun _ e => nomatch e⟩
  · intro a u e
    have : a ≠ q := fun z => by
      have := w.fh a u e
      rw [z, hq] at this
      cases this
    rw [upd_ne this]
    exact e
  · intro a u e
    by_cases h : a = q
    · subst h
      rw [upd_same] at e ⊢
      exact e
    · rw [upd_ne h] at e ⊢
      exact w.fh a u e
  · exact fun a u e _ => ⟨Ex.new hq a u e, fun z => z⟩
  · intro a h
    by_cases e : a = q
    · subst e
      exact absurd hq h
    · rw [upd_ne e]
      exact h
  · intro a h e
    by_cases z : a = q
    · subst z
      exact absurd hq h
    · rw [upd_ne z]
      exact e
/-- a new object that may change -/
theorem World.newO {R : Orc} {p : Option Addr} {F0 H0 F H : Hp} (w : World R p F0 H0 F H) {q : Addr} (o : HO) (hq : H q = none) : World R none F H F (upd H q o) := by
  refine ⟨Ex.refl F, fun a u e => Ex.new hq a u (w.fh a u e), fun a u e _ => ⟨Ex.new hq a u e, fun z => z⟩, fun a h => ?_, fun _ _ e => e, fun _ _ z => z, fun _ e => nomatch e⟩
  by_cases e : a = q
  · subst e
    exact absurd hq h
  · rw [upd_ne e]
    exact h
inductive Sl where
  | no | im (d : D) | ow (d : D) | ora (n : Nat)
structure Cn where
  K : PySem.W.Frag
  R : Orc
  p : Option Addr
  F0 : Hp
  H0 : Hp
/-- an object on the side: a datum's, or just this one -/
inductive XO where
  | d (d : D) | o (o : HO)
instance : Coe D XO := ⟨XO.d⟩
abbrev XX := List (Addr × XO)
/-- a list or dict that nobody else holds -/
def OwnO (K : PySem.W.Frag) (F H : Hp) (a : Addr) : D → Prop
  | .list ds => ∃ vs, H a = some (.lst vs) ∧ AtAll K F vs ds
  | .dict kd => (∃ (ks : List Key) (vs : List V) (ds : List D), kd = (ks.map KD).zip ds ∧ ks ≠ [] ∧ ks.length = vs.length ∧ H a = some (.dK (ks.zip vs)) ∧ AtAll K F vs ds) ∨
      ∃ (ks : List (List Key)) (vs : List V) (ds : List D), kd = (ks.map fun k => PyData.tuple (k.map KD)).zip ds ∧ ks.length = vs.length ∧ H a = some (.dT (ks.zip vs)) ∧ AtAll K F vs ds
  | _ => False
def OwnO.mono {K : PySem.W.Frag} {F F' H H' : Hp} {a : Addr} (e : Ex F F') (h : H' a = H a) : ∀ {d : D}, OwnO K F H a d → OwnO K F' H' a d
  | .list ds, ⟨vs, h1, h2⟩ => ⟨vs, h.trans h1, h2.mono e⟩
  | .dict kd, .inl ⟨ks, vs, ds, h0, hn, hl, h1, h2⟩ => .inl ⟨ks, vs, ds, h0, hn, hl, h.trans h1, h2.mono e⟩
  | .dict kd, .inr ⟨ks, vs, ds, h0, hl, h1, h2⟩ => .inr ⟨ks, vs, ds, h0, hl, h.trans h1, h2.mono e⟩
theorem OwnO.at {K : PySem.W.Frag} {F H : Hp} {a : Addr} : ∀ {d : D}, OwnO K F H a d → ∃ o, H a = some o ∧ ∀ F', Ex F F' → F' a = some o → At K F' (.ref a) d
  | .list ds, ⟨vs, h1, h2⟩ => ⟨_, h1, fun F' e h => .lst (.inl (.inl h)) (h2.mono e)⟩
  | .dict kd, .inl ⟨ks, vs, ds, h0, hn, hl, h1, h2⟩ => ⟨_, h1, fun F' e h => by subst h0; exact .dk (.inl h) hn hl (h2.mono e)⟩
  | .dict kd, .inr ⟨ks, vs, ds, h0, hl, h1, h2⟩ => ⟨_, h1, fun F' e h => by subst h0; exact .dt h hl (h2.mono e)⟩
def OwnX (K : PySem.W.Frag) (F H : Hp) (a : Addr) : XO → Prop
  | .d d => OwnO K F H a d
  | .o o => H a = some o
theorem OwnX.mono {K : PySem.W.Frag} {F F' H H' : Hp} {a : Addr} (e : Ex F F') (h : H' a = H a) : ∀ {x : XO}, OwnX K F H a x → OwnX K F' H' a x
  | .d _, z => OwnO.mono e h z
  | .o _, z => h.trans z
theorem OwnX.some {K : PySem.W.Frag} {F H : Hp} {a : Addr} : ∀ {x : XO}, OwnX K F H a x → ∃ o, H a = some o
  | .d _, z => let ⟨o, h, _⟩ := OwnO.at z; ⟨o, h⟩
  | .o o, z => ⟨o, z⟩
theorem OwnX.at {K : PySem.W.Frag} {F H : Hp} {a : Addr} {d : D} (h : OwnX K F H a (.d d)) : ∃ o, H a = Option.some o ∧ ∀ F', Ex F F' → F' a = Option.some o → At K F' (.ref a) d := OwnO.at h
/-- as it stands at a, the address being younger than the entry -/
structure Own (c : Cn) (F H : Hp) (a : Addr) (d : XO) : Prop where
  o : OwnX c.K F H a d
  f : F a = none
  y : c.H0 a = none
  n : ¬ Foot c.p H a
structure Slots (c : Cn) (F H : Hp) (σ : L2.St) (ρ : List Sl) (xx : XX) : Prop where
  len : ρ.length = σ.length
  im : ∀ (i : Nat) (d : D), ρ[i]? = some (.im d) → ∃ v, σ[i]? = some (some v) ∧ At c.K F v d
  ow : ∀ (i : Nat) (d : D), ρ[i]? = some (.ow d) → ∃ a, σ[i]? = some (some (.ref a)) ∧ Own c F H a d
  dj : ∀ (i j : Nat) (d e : D) (a : Addr), ρ[i]? = some (.ow d) → ρ[j]? = some (.ow e) → σ[i]? = some (some (.ref a)) → σ[j]? = some (some (.ref a)) → i = j
  or : ∀ (i n : Nat), ρ[i]? = some (.ora n) → ∃ q, c.p = some q ∧ σ[i]? = some (some (.ref q)) ∧ c.R.cnt q H ≤ n
  ou : ∀ (i j m n : Nat), ρ[i]? = some (.ora m) → ρ[j]? = some (.ora n) → i = j
  ex : ∀ p ∈ xx, Own c F H p.1 p.2 ∧ ∀ (i : Nat) (e : D), ρ[i]? = some (.ow e) → σ[i]? ≠ some (some (.ref p.1))
  xd : (xx.map (·.1)).Nodup
structure Rel (c : Cn) (F H : Hp) (σ : L2.St) (ρ : List Sl) (xx : XX) : Prop where
  w : World c.R c.p c.F0 c.H0 F H
  s : Slots c F H σ ρ xx
theorem Own.step {c : Cn} {F H F' H' : Hp} {a : Addr} {d : XO} (h : Own c F H a d) (v : World c.R c.p F H F' H') : Own c F' H' a d := by
  obtain ⟨o, ho⟩ := h.o.some
  obtain ⟨h1, h2⟩ := v.kp a o ho h.n
  exact ⟨h.o.mono v.ff (h1.trans ho.symm), v.fn a (by rw [ho]; exact Option.some_ne_none o) h.f, h.y, h2⟩
theorem Slots.step {c : Cn} {F H F' H' : Hp} {σ : L2.St} {ρ : List Sl} {xx : XX} (s : Slots c F H σ ρ xx) (v : World c.R c.p F H F' H') (hq : ∀ q, c.p = some q → c.R.cnt q H' ≤ c.R.cnt q H) : Slots c F' H' σ ρ xx := by
  refine ⟨s.len, fun i d e => ?_, fun i d e => ?_, s.dj, fun i n e => ?_, s.ou, fun p hp => ⟨(s.ex p hp).1.step v, (s.ex p hp).2⟩, s.xd⟩
  · obtain ⟨u, h1, h2⟩ := s.im i d e
    exact ⟨u, h1, h2.mono v.ff⟩
  · obtain ⟨a, h1, h2⟩ := s.ow i d e
    exact ⟨a, h1, h2.step v⟩
  · obtain ⟨q, h1, h2, h3⟩ := s.or i n e
    exact ⟨q, h1, h2, Nat.le_trans (hq q h1) h3⟩
theorem Rel.step {c : Cn} {F H F' H' : Hp} {σ : L2.St} {ρ : List Sl} {xx : XX} (r : Rel c F H σ ρ xx) (v : World c.R c.p F H F' H') (hq : ∀ q, c.p = some q → c.R.cnt q H' ≤ c.R.cnt q H) : Rel c F' H' σ ρ xx := ⟨r.w.trans v, r.s.step v hq⟩
theorem Rel.stepN {c : Cn} {F H F' H' : Hp} {σ : L2.St} {ρ : List Sl} {xx : XX} (r : Rel c F H σ ρ xx) (v : World c.R none F H F' H') : Rel c F' H' σ ρ xx := r.step (r.w.ofNone v) fun q e => by
  refine Nat.le_of_eq (c.R.sc q H H' (r.w.or q e) fun a ha => ?_)
  have al := c.R.al q H a (r.w.or q e) ha
  cases z : H a with
  | none => exact absurd z al
  | some o => exact (v.kp a o z fun y => y).1
theorem ora_back {ρ : List Sl} {k : Nat} {x : Sl} (hx : ∀ m, x ≠ .ora m) {i m : Nat} (q : (ρ.set k x)[i]? = some (.ora m)) : ρ[i]? = some (.ora m) := by
  rw [List.getElem?_set] at q
  by_cases z : k = i
  · rw [if_pos z] at q
    split at q
    · exact absurd (Option.some.inj q) (hx m)
    · cases q
  · rw [if_neg z] at q
    exact q
theorem ou_set {ρ : List Sl} {k : Nat} {x : Sl} (hx : ∀ m, x ≠ .ora m) (h : ∀ (i j m n : Nat), ρ[i]? = some (.ora m) → ρ[j]? = some (.ora n) → i = j) : ∀ (i j m n : Nat), (ρ.set k x)[i]? = some (.ora m) → (ρ.set k x)[j]? = some (.ora n) → i = j :=
  fun i j m n a b => h i j m n (ora_back hx a) (ora_back hx b)
theorem Rel.apart {c : Cn} {F H : Hp} {σ : L2.St} {ρ : List Sl} {xx : XX} (r : Rel c F H σ ρ xx) {a : Addr} {o : HO} (n : ¬ Foot c.p H a) : ∀ (i n : Nat), ρ[i]? = some (.ora n) → ∃ q, c.p = some q ∧ σ[i]? = some (some (.ref q)) ∧ c.R.cnt q (upd H a o) ≤ n := by
  intro i m e
  obtain ⟨q, h1, h2, h3⟩ := r.s.or i m e
  refine ⟨q, h1, h2, ?_⟩
  rw [c.R.sc q H _ (r.w.or q h1) fun b hb => ?_]
  · exact h3
  · rw [upd_ne]
    intro z
    subst z
    exact n (by rw [h1]; exact hb)
/-- an own object becomes known -/
theorem Rel.freeze {c : Cn} {F H : Hp} {σ : L2.St} {ρ : List Sl} {xx : XX} (r : Rel c F H σ ρ xx) {i : Nat} {d : D} (e : ρ[i]? = some (.ow d)) :
    ∃ F' v, σ[i]? = some (some v) ∧ Ex F F' ∧ At c.K F' v d ∧ Rel c F' H σ (ρ.set i (.im d)) xx := by
  obtain ⟨a, h1, h2⟩ := r.s.ow i d e
  obtain ⟨o, ho, at_⟩ := h2.o.at
  have ef : Ex F (upd F a o) := Ex.new h2.f
  have hi : i < ρ.length := (List.getElem?_eq_some_iff.mp e).1
  refine ⟨upd F a o, .ref a, h1, ef, at_ _ ef upd_same, ⟨?_, ?_⟩⟩
  · refine ⟨r.w.ff.trans ef, fun b u q => ?_, r.w.kp, r.w.dom, fun b h f => ?_, fun b h => ?_, r.w.or⟩
    · by_cases z : b = a
      · subst z
        rw [upd_same] at q
        cases q
        exact ho
      · rw [upd_ne z] at q
        exact r.w.fh b u q
    · by_cases z : b = a
      · subst z
        exact absurd h2.y h
      · rw [upd_ne z]
        exact r.w.fn b h f
    · by_cases z : b = a
      · subst z
        exact h2.n
      · rw [upd_ne z] at h
        exact r.w.ft b h
  · refine ⟨by simpa using r.s.len, fun j x q => ?_, fun j x q => ?_, fun j k x y b q1 q2 s1 s2 => ?_, fun j n q => r.s.or j n (ora_back (by intro m z; cases z) q), ou_set (by intro m z; cases z) r.s.ou, fun p hp => ?_, r.s.xd⟩
    · rw [List.getElem?_set] at q
      by_cases z : i = j
      · subst z
        rw [if_pos rfl, if_pos hi] at q
        cases q
        exact ⟨.ref a, h1, at_ _ ef upd_same⟩
      · rw [if_neg z] at q
        obtain ⟨v, g1, g2⟩ := r.s.im j x q
        exact ⟨v, g1, g2.mono ef⟩
    · rw [List.getElem?_set] at q
      by_cases z : i = j
      · subst z
        rw [if_pos rfl, if_pos hi] at q
        cases q
      · rw [if_neg z] at q
        obtain ⟨b, g1, g2⟩ := r.s.ow j x q
        have hb : b ≠ a := fun zz => by
          subst zz
          exact z (r.s.dj i j d x b e q h1 g1)
        exact ⟨b, g1, ⟨g2.o.mono ef rfl, by rw [upd_ne hb]; exact g2.f, g2.y, g2.n⟩⟩
    · rw [List.getElem?_set] at q1 q2
      by_cases z : i = j
      · subst z
        rw [if_pos rfl, if_pos hi] at q1
        cases q1
      · rw [if_neg z] at q1
        by_cases z2 : i = k
        · subst z2
          rw [if_pos rfl, if_pos hi] at q2
          cases q2
        · rw [if_neg z2] at q2
          exact r.s.dj j k x y b q1 q2 s1 s2
    · obtain ⟨g2, gn⟩ := r.s.ex p hp
      have hb : p.1 ≠ a := fun zz => gn i d e (by rw [zz]; exact h1)
      refine ⟨⟨g2.o.mono ef rfl, by rw [upd_ne hb]; exact g2.f, g2.y, g2.n⟩, fun j x q => ?_⟩
      rw [List.getElem?_set] at q
      by_cases z : i = j
      · subst z
        rw [if_pos rfl, if_pos hi] at q
        cases q
      · rw [if_neg z] at q
        exact gn j x q
/-- an own object changes -/
theorem Rel.mut {c : Cn} {F H : Hp} {σ : L2.St} {ρ : List Sl} {xx : XX} (r : Rel c F H σ ρ xx) {i : Nat} {d d' : D} {a : Addr} {o : HO} (e : ρ[i]? = some (.ow d)) (h1 : σ[i]? = some (some (.ref a)))
    (hn : OwnO c.K F (upd H a o) a d') : Rel c F (upd H a o) σ (ρ.set i (.ow d')) xx := by
  obtain ⟨a', h1', h2⟩ := r.s.ow i d e
  rw [h1] at h1'
  cases h1'
  obtain ⟨o0, ho, _⟩ := h2.o.at
  have hi : i < ρ.length := (List.getElem?_eq_some_iff.mp e).1
  have hq : ∀ q, c.p = some q → upd H a o q = H q := fun q ep => by
    rw [upd_ne]
    intro z
    subst z
    exact h2.n (by rw [ep]; exact .inl rfl)
  have ff : ∀ b, Foot c.p (upd H a o) b ↔ Foot c.p H b := Foot.eqv hq
  refine ⟨⟨r.w.ff, fun b u q => ?_, fun b u q f => ?_, fun b h => ?_, r.w.fn, fun b h z => r.w.ft b h ((ff b).mp z), fun q ep => ?_⟩, ?_⟩
  · rw [upd_ne (fun z => by subst z; rw [h2.f] at q; cases q)]
    exact r.w.fh b u q
  · obtain ⟨g1, g2⟩ := r.w.kp b u q f
    refine ⟨?_, fun z => g2 ((ff b).mp z)⟩
    rw [upd_ne (fun z => by subst z; rw [h2.y] at q; cases q)]
    exact g1
  · by_cases z : b = a
    · subst z
      rw [upd_same]
      exact Option.some_ne_none o
    · rw [upd_ne z]
      exact r.w.dom b h
  · refine c.R.st q H _ (r.w.or q ep) fun b hb => ?_
    rw [upd_ne]
    intro z
    subst z
    exact h2.n (by rw [ep]; exact hb)
  · refine ⟨by simpa using r.s.len, fun j x q => ?_, fun j x q => ?_, fun j k x y b q1 q2 s1 s2 => ?_, fun j n q => r.apart h2.n j n (ora_back (by intro m z; cases z) q), ou_set (by intro m z; cases z) r.s.ou, fun p hp => ?_, r.s.xd⟩
    · rw [List.getElem?_set] at q
      by_cases z : i = j
      · subst z
        rw [if_pos rfl, if_pos hi] at q
        cases q
      · rw [if_neg z] at q
        exact r.s.im j x q
    · rw [List.getElem?_set] at q
      by_cases z : i = j
      · subst z
        rw [if_pos rfl, if_pos hi] at q
        cases q
        exact ⟨a, h1, ⟨hn, h2.f, h2.y, fun z => h2.n ((ff a).mp z)⟩⟩
      · rw [if_neg z] at q
        obtain ⟨b, g1, g2⟩ := r.s.ow j x q
        have hb : b ≠ a := fun zz => by
          subst zz
          exact z (r.s.dj i j d x b e q h1 g1)
        exact ⟨b, g1, ⟨g2.o.mono (Ex.refl F) (upd_ne hb), g2.f, g2.y, fun z => g2.n ((ff b).mp z)⟩⟩
    · have back : ∀ (k : Nat) (y : D), (ρ.set i (.ow d'))[k]? = some (.ow y) → ∃ y', ρ[k]? = some (.ow y') := fun k y q => by
        rw [List.getElem?_set] at q
        by_cases z : i = k
        · subst z
          exact ⟨d, e⟩
        · rw [if_neg z] at q
          exact ⟨y, q⟩
      obtain ⟨x', q1'⟩ := back j x q1
      obtain ⟨y', q2'⟩ := back k y q2
      exact r.s.dj j k x' y' b q1' q2' s1 s2
    · obtain ⟨g2, gn⟩ := r.s.ex p hp
      have hb : p.1 ≠ a := fun zz => gn i d e (by rw [zz]; exact h1)
      refine ⟨⟨g2.o.mono (Ex.refl F) (upd_ne hb), g2.f, g2.y, fun z => g2.n ((ff p.1).mp z)⟩, fun j x q => ?_⟩
      rw [List.getElem?_set] at q
      by_cases z : i = j
      · subst z
        exact gn i d e
      · rw [if_neg z] at q
        exact gn j x q
/-- a new object, held by nobody -/
structure Fresh (c : Cn) (F H : Hp) (σ : L2.St) (ρ : List Sl) (xx : XX) (a : Addr) (d : XO) : Prop where
  own : Own c F H a d
  ne : ∀ (i : Nat) (e : D), ρ[i]? = some (.ow e) → σ[i]? ≠ some (some (.ref a))
  nx : ∀ p ∈ xx, p.1 ≠ a
theorem set_lt {α : Type} {ρ : List α} {i j : Nat} {x y : α} (h : (ρ.set i x)[j]? = some y) : (i = j ∧ i < ρ.length ∧ x = y) ∨ (i ≠ j ∧ ρ[j]? = some y) := by
  rw [List.getElem?_set] at h
  by_cases z : i = j
  · rw [if_pos z] at h
    by_cases hl : i < ρ.length
    · rw [if_pos hl] at h
      exact .inl ⟨z, hl, Option.some.inj h⟩
    · rw [if_neg hl] at h
      cases h
  · rw [if_neg z] at h
    exact .inr ⟨z, h⟩
theorem get_set_ne {α : Type} {ρ : List α} {i j : Nat} {x : α} (h : i ≠ j) : (ρ.set i x)[j]? = ρ[j]? := by rw [List.getElem?_set, if_neg h]
theorem get_set_eq {α : Type} {ρ : List α} {i : Nat} {x : α} (h : i < ρ.length) : (ρ.set i x)[i]? = some x := by rw [List.getElem?_set, if_pos rfl, if_pos h]
theorem Slots.put {c : Cn} {F H : Hp} {σ : L2.St} {ρ : List Sl} {xx : XX} (s : Slots c F H σ ρ xx) {v : V} {x : Sl} (i : Nat)
    (him : ∀ d, x = .im d → At c.K F v d) (how : ∀ d, x = .ow d → ∃ a, v = .ref a ∧ Fresh c F H σ ρ xx a d) (hor : ∀ n, x ≠ .ora n) : Slots c F H (σ.set i (some v)) (ρ.set i x) xx := by
  refine ⟨by simpa using s.len, fun j d q => ?_, fun j d q => ?_, fun j k d e b q1 q2 s1 s2 => ?_, fun j n q => ?_, ou_set hor s.ou, fun p hp => ⟨(s.ex p hp).1, fun j d q => ?_⟩, s.xd⟩
  · rcases set_lt q with ⟨rfl, hl, e⟩ | ⟨z, q⟩
    · exact ⟨v, get_set_eq (by rw [← s.len]; exact hl), him d e⟩
    · obtain ⟨u, g1, g2⟩ := s.im j d q
      exact ⟨u, by rw [get_set_ne z]; exact g1, g2⟩
  · rcases set_lt q with ⟨rfl, hl, e⟩ | ⟨z, q⟩
    · obtain ⟨a, ev, fr⟩ := how d e
      subst ev
      exact ⟨a, get_set_eq (by rw [← s.len]; exact hl), fr.own⟩
    · obtain ⟨u, g1, g2⟩ := s.ow j d q
      exact ⟨u, by rw [get_set_ne z]; exact g1, g2⟩
  · rcases set_lt q1 with ⟨rfl, hl, e1⟩ | ⟨z, q1⟩
    · rcases set_lt q2 with ⟨rfl, _, _⟩ | ⟨z2, q2⟩
      · rfl
      · exfalso
        obtain ⟨a, ev, fr⟩ := how d e1
        rw [get_set_eq (by rw [← s.len]; exact hl)] at s1
        rw [get_set_ne z2] at s2
        cases s1
        cases ev
        exact fr.ne k e q2 s2
    · rcases set_lt q2 with ⟨rfl, hl, e2⟩ | ⟨z2, q2⟩
      · exfalso
        obtain ⟨a, ev, fr⟩ := how e e2
        rw [get_set_eq (by rw [← s.len]; exact hl)] at s2
        rw [get_set_ne z] at s1
        cases s2
        cases ev
        exact fr.ne j d q1 s1
      · rw [get_set_ne z] at s1
        rw [get_set_ne z2] at s2
        exact s.dj j k d e b q1 q2 s1 s2
  · rcases set_lt q with ⟨rfl, hl, e⟩ | ⟨z, q⟩
    · exact absurd e (hor n)
    · obtain ⟨u, g1, g2, g3⟩ := s.or j n q
      exact ⟨u, g1, by rw [get_set_ne z]; exact g2, g3⟩
  · rcases set_lt q with ⟨rfl, hl, e⟩ | ⟨z, q⟩
    · obtain ⟨a, ev, fr⟩ := how d e
      subst ev
      rw [get_set_eq (by rw [← s.len]; exact hl)]
      intro zz
      cases zz
      exact fr.nx p hp rfl
    · rw [get_set_ne z]
      exact (s.ex p hp).2 j d q
theorem Rel.putI {c : Cn} {F H : Hp} {σ : L2.St} {ρ : List Sl} {xx : XX} (r : Rel c F H σ ρ xx) {v : V} {d : D} (i : Nat) (h : At c.K F v d) : Rel c F H (σ.set i (some v)) (ρ.set i (.im d)) xx :=
  ⟨r.w, r.s.put i (fun _ e => by cases e; exact h) (fun _ e => by cases e) (by intro m z; cases z)⟩
theorem Rel.putO {c : Cn} {F H : Hp} {σ : L2.St} {ρ : List Sl} {xx : XX} (r : Rel c F H σ ρ xx) {a : Addr} {d : D} (i : Nat) (h : Fresh c F H σ ρ xx a d) : Rel c F H (σ.set i (some (.ref a))) (ρ.set i (.ow d)) xx :=
  ⟨r.w, r.s.put i (fun _ e => by cases e) (fun _ e => by cases e; exact ⟨a, rfl, h⟩) (by intro m z; cases z)⟩
/-- what an own slot holds becomes known, as a value -/
theorem Fresh.freeze {c : Cn} {F H : Hp} {σ : L2.St} {ρ : List Sl} {xx : XX} {a : Addr} {d : D} (r : Rel c F H σ ρ xx) (h : Fresh c F H σ ρ xx a d) : ∃ F', Ex F F' ∧ At c.K F' (.ref a) d ∧ Rel c F' H σ ρ xx := by
  obtain ⟨o, ho, at_⟩ := h.own.o.at
  have ef : Ex F (upd F a o) := Ex.new h.own.f
  refine ⟨upd F a o, ef, at_ _ ef upd_same, ⟨⟨r.w.ff.trans ef, fun b u q => ?_, r.w.kp, r.w.dom, fun b g f => ?_, fun b g => ?_, r.w.or⟩, ⟨r.s.len, fun j x q => ?_, fun j x q => ?_, r.s.dj, r.s.or, r.s.ou, fun p hp => ?_, r.s.xd⟩⟩⟩
  · by_cases z : b = a
    · subst z
      rw [upd_same] at q
      cases q
      exact ho
    · rw [upd_ne z] at q
      exact r.w.fh b u q
  · by_cases z : b = a
    · subst z
      exact absurd h.own.y g
    · rw [upd_ne z]
      exact r.w.fn b g f
  · by_cases z : b = a
    · subst z
      exact h.own.n
    · rw [upd_ne z] at g
      exact r.w.ft b g
  · obtain ⟨v, g1, g2⟩ := r.s.im j x q
    exact ⟨v, g1, g2.mono ef⟩
  · obtain ⟨b, g1, g2⟩ := r.s.ow j x q
    have hb : b ≠ a := fun zz => by
      subst zz
      exact h.ne j x q g1
    exact ⟨b, g1, ⟨g2.o.mono ef rfl, by rw [upd_ne hb]; exact g2.f, g2.y, g2.n⟩⟩
  · obtain ⟨g2, gn⟩ := r.s.ex p hp
    exact ⟨⟨g2.o.mono ef rfl, by rw [upd_ne (h.nx p hp)]; exact g2.f, g2.y, g2.n⟩, gn⟩
theorem Fresh.new {c : Cn} {F H : Hp} {σ : L2.St} {ρ : List Sl} {xx : XX} (r : Rel c F H σ ρ xx) {q : Addr} {o : HO} {d : XO} (hq : H q = none) (h : OwnX c.K F (upd H q o) q d) :
    Rel c F (upd H q o) σ ρ xx ∧ Fresh c F (upd H q o) σ ρ xx q d := by
  have w := r.w.newO o hq
  refine ⟨r.stepN w, ⟨⟨h, ?_, ?_, fun z => ?_⟩, fun i e q1 q2 => ?_, fun p hp z => ?_⟩⟩
  · cases e : F q with
    | none => rfl
    | some u =>
      have := r.w.fh q u e
      rw [hq] at this
      cases this
  · cases e : c.H0 q with
    | none => rfl
    | some u => exact absurd hq (r.w.dom q (by rw [e]; exact Option.some_ne_none u))
  · have e : ∀ u, c.p = some u → upd H q o u = H u := fun u ep => by
      rw [upd_ne]
      intro zz
      subst zz
      exact r.w.foot_al (a := u) (by rw [ep]; exact .inl rfl) hq
    exact r.w.foot_al ((Foot.eqv e q).mp z) hq
  · obtain ⟨a, g1, g2⟩ := r.s.ow i e q1
    rw [q2] at g1
    cases g1
    obtain ⟨u, hu⟩ := g2.o.some
    rw [hq] at hu
    cases hu
  · obtain ⟨u, hu⟩ := (r.s.ex p hp).1.o.some
    rw [z, hq] at hu
    cases hu
/-- one more object on the side, and off again -/
theorem Rel.pushX {c : Cn} {F H : Hp} {σ : L2.St} {ρ : List Sl} {xx : XX} {a : Addr} {d : XO} (r : Rel c F H σ ρ xx) (h : Fresh c F H σ ρ xx a d) : Rel c F H σ ρ ((a, d) :: xx) := by
  refine ⟨r.w, ⟨r.s.len, r.s.im, r.s.ow, r.s.dj, r.s.or, r.s.ou, fun p hp => ?_, ?_⟩⟩
  · (rcases List.mem_cons.mp hp with rfl | hp)
    · exact ⟨h.own, h.ne⟩
    · exact r.s.ex p hp
  · rw [List.map_cons, List.nodup_cons]
    refine ⟨fun z => ?_, r.s.xd⟩
    obtain ⟨p, hp, e⟩ := List.mem_map.mp z
    exact h.nx p hp e
theorem Rel.popX {c : Cn} {F H : Hp} {σ : L2.St} {ρ : List Sl} {xx : XX} {a : Addr} {d : XO} (r : Rel c F H σ ρ ((a, d) :: xx)) : Rel c F H σ ρ xx ∧ Fresh c F H σ ρ xx a d := by
  have hx := r.s.xd
  rw [List.map_cons, List.nodup_cons] at hx
  have h0 := r.s.ex (a, d) (List.mem_cons_self ..)
  exact ⟨⟨r.w, ⟨r.s.len, r.s.im, r.s.ow, r.s.dj, r.s.or, r.s.ou, fun p hp => r.s.ex p (List.mem_cons_of_mem _ hp), hx.2⟩⟩, ⟨h0.1, h0.2, fun p hp e => hx.1 (List.mem_map.mpr ⟨p, hp, e⟩)⟩⟩
theorem Rel.mutX {c : Cn} {F H : Hp} {σ : L2.St} {ρ : List Sl} {xx : XX} {a : Addr} {d d' : XO} {o : HO} (r : Rel c F H σ ρ ((a, d) :: xx)) (hn : OwnX c.K F (upd H a o) a d') : Rel c F (upd H a o) σ ρ ((a, d') :: xx) := by
  obtain ⟨r0, h2⟩ := r.popX
  have hq : ∀ q, c.p = some q → upd H a o q = H q := fun q ep => by
    rw [upd_ne]
    intro z
    subst z
    exact h2.own.n (by rw [ep]; exact .inl rfl)
  have ff : ∀ b, Foot c.p (upd H a o) b ↔ Foot c.p H b := Foot.eqv hq
  have r1 : Rel c F (upd H a o) σ ρ xx := by
    refine ⟨⟨r0.w.ff, fun b u q => ?_, fun b u q f => ?_, fun b h => ?_, r0.w.fn, fun b h z => r0.w.ft b h ((ff b).mp z), fun q ep => ?_⟩, ⟨r0.s.len, r0.s.im, fun i x q => ?_, r0.s.dj, r0.apart h2.own.n, r0.s.ou, fun p hp => ?_, r0.s.xd⟩⟩
    · rw [upd_ne (fun z => by subst z; rw [h2.own.f] at q; cases q)]
      exact r0.w.fh b u q
    · obtain ⟨g1, g2⟩ := r0.w.kp b u q f
      refine ⟨?_, fun z => g2 ((ff b).mp z)⟩
      rw [upd_ne (fun z => by subst z; rw [h2.own.y] at q; cases q)]
      exact g1
    · by_cases z : b = a
      · subst z
        rw [upd_same]
        exact Option.some_ne_none o
      · rw [upd_ne z]
        exact r0.w.dom b h
    · refine c.R.st q H _ (r0.w.or q ep) fun b hb => ?_
      rw [upd_ne]
      intro z
      subst z
      exact h2.own.n (by rw [ep]; exact hb)
    · obtain ⟨b, g1, g2⟩ := r0.s.ow i x q
      have hb : b ≠ a := fun zz => by
        subst zz
        exact h2.ne i x q g1
      exact ⟨b, g1, ⟨g2.o.mono (Ex.refl F) (upd_ne hb), g2.f, g2.y, fun z => g2.n ((ff b).mp z)⟩⟩
    · obtain ⟨g2, gn⟩ := r0.s.ex p hp
      exact ⟨⟨g2.o.mono (Ex.refl F) (upd_ne (h2.nx p hp)), g2.f, g2.y, fun z => g2.n ((ff p.1).mp z)⟩, gn⟩
  exact r1.pushX ⟨⟨hn, h2.own.f, h2.own.y, fun z => h2.own.n ((ff a).mp z)⟩, h2.ne, h2.nx⟩
theorem Rel.newF {c : Cn} {F H : Hp} {σ : L2.St} {ρ : List Sl} {xx : XX} (r : Rel c F H σ ρ xx) {q : Addr} (o : HO) (hq : H q = none) : Rel c (upd F q o) (upd H q o) σ ρ xx := r.stepN (r.w.newF o hq)
theorem Rel.efF {c : Cn} {F H : Hp} {σ : L2.St} {ρ : List Sl} {xx : XX} (r : Rel c F H σ ρ xx) {q : Addr} (o : HO) (hq : H q = none) : Ex F (upd F q o) := (r.w.newF o hq).ff
end DL
namespace DL
open PySem L2
/-- the count of a source behind a call of a def that draws -/
theorem Rel.drew {c : Cn} {F H F' H' : Hp} {σ : L2.St} {ρ : List Sl} {xx : XX} (r : Rel c F H σ ρ xx) (v : World c.R c.p F H F' H') {i m n : Nat} (e : ρ[i]? = some (.ora m)) (hn : ∀ q, c.p = some q → c.R.cnt q H' ≤ n) : Rel c F' H' σ (ρ.set i (.ora n)) xx := by
  have nr : ∀ {j : Nat} {x : Sl}, (ρ.set i (.ora n))[j]? = some x → (∀ k, x ≠ .ora k) → ρ[j]? = some x := by
    intro j x q hx
    rcases set_lt q with ⟨_, _, z⟩ | ⟨_, q⟩
    · exact absurd z.symm (hx n)
    · exact q
  refine ⟨r.w.trans v, ⟨by simpa using r.s.len, fun j d q => ?_, fun j d q => ?_, fun j k d e' b q1 q2 => ?_, fun j k q => ?_, fun j k a b q1 q2 => ?_, fun p hp => ⟨(r.s.ex p hp).1.step v, fun j d q => (r.s.ex p hp).2 j d (nr q fun _ z => by cases z)⟩, r.s.xd⟩⟩
  · obtain ⟨u, h1, h2⟩ := r.s.im j d (nr q fun _ z => by cases z)
    exact ⟨u, h1, h2.mono v.ff⟩
  · obtain ⟨a, h1, h2⟩ := r.s.ow j d (nr q fun _ z => by cases z)
    exact ⟨a, h1, h2.step v⟩
  · exact r.s.dj j k d e' b (nr q1 fun _ z => by cases z) (nr q2 fun _ z => by cases z)
  · rcases set_lt q with ⟨z, _, y⟩ | ⟨z, q⟩
    · subst z
      cases y
      obtain ⟨p, h1, h2, _⟩ := r.s.or i m e
      exact ⟨p, h1, h2, hn p h1⟩
    · exact absurd (r.s.ou i j m k e q) z
  · have one : ∀ {j a : Nat}, (ρ.set i (.ora n))[j]? = some (.ora a) → i = j := by
      intro j a q
      rcases set_lt q with ⟨z, _, _⟩ | ⟨_, q⟩
      · exact z
      · exact r.s.ou i j m a e q
    exact (one q1).symm.trans (one q2)
end DL
namespace DL
open PySem L2
abbrev Env := List Sl
abbrev DM := Env → (D → Env → Prop) → Prop
abbrev BM := Env → (Bool → Env → Prop) → Prop
inductive Ar where
  | d (x : D) | ora
abbrev LM := Env → (List D → Env → Prop) → Prop
abbrev AM := Env → (List Ar → Env → Prop) → Prop
/-- a value, or what stands in a slot by the time it is wanted -/
inductive Hd where
  | val (d : D) | slot (i : Nat)
abbrev HM := Env → (Hd → Env → Prop) → Prop
def see (ρ : Env) (h : Hd) (k : D → Prop) : Prop := match h with
  | .val d => k d
  | .slot i => match ρ[i]? with
    | some (.im d) => k d
    | some (.ow d) => k d
    | _ => False
def HdAt (c : Cn) (F : Hp) (σ : L2.St) : Hd → V → Prop
  | .val d, v => At c.K F v d
  | .slot i, v => σ[i]? = some (some v)
def tD (c : Cn) (f : DM) : TE := fun σ H Q => ∃ F ρ xx P, Rel c F H σ ρ xx ∧ f ρ P ∧ ∀ d ρ' v F' H', P d ρ' → Ex F F' → Rel c F' H' σ ρ' xx → At c.K F' v d → Q v H'
/-- a new object, held by nobody -/
def tN (c : Cn) (f : DM) : TE := fun σ H Q => ∃ F ρ xx P, Rel c F H σ ρ xx ∧ f ρ P ∧ ∀ d ρ' a F' H', P d ρ' → Ex F F' → Rel c F' H' σ ρ' xx → Fresh c F' H' σ ρ' xx a d → Q (.ref a) H'
def tH (c : Cn) (f : HM) : TE := fun σ H Q => ∃ F ρ xx P, Rel c F H σ ρ xx ∧ f ρ P ∧ ∀ d ρ' v F' H', P d ρ' → Ex F F' → Rel c F' H' σ ρ' xx → HdAt c F' σ d v → Q v H'
def tT (c : Cn) (f : BM) : TT := fun σ H Q => ∃ F ρ xx P, Rel c F H σ ρ xx ∧ f ρ P ∧ ∀ b ρ' F' H', P b ρ' → Ex F F' → Rel c F' H' σ ρ' xx → Q b H'
def tL (c : Cn) (f : LM) : TA := fun σ H Q => ∃ F ρ xx P, Rel c F H σ ρ xx ∧ f ρ P ∧ ∀ ds ρ' vs F' H', P ds ρ' → Ex F F' → Rel c F' H' σ ρ' xx → AtAll c.K F' vs ds → Q vs H'
def ArAt (c : Cn) (F : Hp) : V → Ar → Prop
  | v, .d x => At c.K F v x
  | v, .ora => ∃ q, c.p = some q ∧ v = .ref q
def tAr (c : Cn) (f : AM) : TA := fun σ H Q => ∃ F ρ xx P, Rel c F H σ ρ xx ∧ f ρ P ∧ ∀ ds ρ' vs F' H', P ds ρ' → Ex F F' → Rel c F' H' σ ρ' xx → Paired (ArAt c F') vs ds → Q vs H'
theorem PE.to {X : Cx} {e : Expr} {t t' : TE} (h : PE X e t) (w : ∀ σ H Q, t' σ H Q → t σ H Q) : PE X e t' := ⟨fun pins s σ H Q I q => h.run pins s σ H Q I (w σ H Q q)⟩
theorem PT.to {X : Cx} {e : Expr} {t t' : TT} (h : PT X e t) (w : ∀ σ H Q, t' σ H Q → t σ H Q) : PT X e t' := ⟨fun pins s σ H Q I q => h.run pins s σ H Q I (w σ H Q q)⟩
theorem PA.to {X : Cx} {e : List Expr} {t t' : TA} (h : PA X e t) (w : ∀ σ H Q, t' σ H Q → t σ H Q) : PA X e t' := ⟨fun pos pins s σ H Q I q => h.run pos pins s σ H Q I (w σ H Q q)⟩
/-- what is to be read of a value: known, or the own object of a slot -/
def Bo (c : Cn) (F H : Hp) (v : V) (d : D) : Prop := At c.K F v d ∨ ∃ a, v = .ref a ∧ OwnO c.K F H a d
theorem Bo.at {c : Cn} {F H : Hp} {v : V} {d : D} (e : Ex F H) (h : Bo c F H v d) : At c.K H v d := by
  rcases h with h | ⟨a, rfl, h⟩
  · exact h.mono e
  · obtain ⟨o, ho, k⟩ := h.at
    exact k H e ho
theorem see_bo {c : Cn} {F H : Hp} {σ : L2.St} {ρ : Env} {xx : XX} (r : Rel c F H σ ρ xx) {h : Hd} {v : V} (hv : HdAt c F σ h v) {k : D → Prop} (hs : see ρ h k) : ∃ d, Bo c F H v d ∧ k d := by
  cases h with
  | val d => exact ⟨d, .inl hv, hs⟩
  | slot i =>
    unfold see at hs
    have hv' : σ[i]? = some (some v) := hv
    simp only at hs
    split at hs
    · rename_i d e
      obtain ⟨u, g1, g2⟩ := r.s.im i d e
      rw [hv'] at g1
      cases g1
      exact ⟨d, .inl g2, hs⟩
    · rename_i d e
      obtain ⟨u, g1, g2⟩ := r.s.ow i d e
      rw [hv'] at g1
      cases g1
      exact ⟨d, .inr ⟨u, rfl, g2.o⟩, hs⟩
    · exact hs.elim
theorem HdAt.mono {c : Cn} {F F' : Hp} (e : Ex F F') {σ : L2.St} {h : Hd} {v : V} (x : HdAt c F σ h v) : HdAt c F' σ h v := by
  cases h with
  | val d => exact At.mono e x
  | slot i => exact x
section
variable {X : Cx} {c : Cn} {e a b : Expr} {pos : Pos}
def dC (d : D) : DM := fun ρ P => P d ρ
theorem de_c {t : V} {d : D} (h : PE X e (tC t)) (hd : ∀ F, At c.K F t d) : PE X e (tD c (dC d)) := PE.to h fun σ H Q ⟨F, ρ, xx, P, r, q, k⟩ => k d ρ t F H q (Ex.refl F) r (hd F)
theorem de_int {i : Int} {j : Nat} : PE X (.Constant (.int i) j pos) (tD c (dC (.int i))) := de_c pe_int fun _ => .int i
theorem de_bl {i : Bool} {j : Nat} : PE X (.Constant (.bool i) j pos) (tD c (dC (.bool i))) := de_c pe_bl fun _ => .bl i
theorem de_non {j : Nat} : PE X (.Constant .none j pos) (tD c (dC .none)) := de_c pe_non fun _ => .non
theorem de_str {x : Str} {j : Nat} : PE X (.Constant (.str x) j pos) (tD c (dC (.str x))) := de_c pe_str fun _ => .str x
/-- a name of the module that holds a number, a text -/
theorem de_gint {x : Str} {i : Int} (hg : Gl X x) (hm : ∃ t, X.mg x = some (.int i t)) (hd : (x == ("__debug__" : Str)) = false := by decide) : PE X (.Name x pos) (tD c (dC (.int i))) := by
  obtain ⟨t, hm⟩ := hm
  exact de_c (pe_glob (v := .int i) hg hm ⟨t, rfl⟩ hd) fun _ => .int i
/-- a name of the module that holds a tuple of the top -/
theorem de_gref {x : Str} {u : Addr} {d : D} (hg : Gl X x) (hm : X.mg x = some (.ref u)) (ha : ∀ F, At c.K F (.ref u) d) (hd : (x == ("__debug__" : Str)) = false := by decide) : PE X (.Name x pos) (tD c (dC d)) :=
  de_c (pe_glob (v := .ref u) hg hm rfl hd) ha
/-- the slot's value, which is known from then on -/
def dV (i : Nat) : DM := fun ρ P => match ρ[i]? with
  | some (.im d) => P d ρ
  | some (.ow d) => P d (ρ.set i (.im d))
  | _ => False
theorem de_v {i : Nat} (h : PE X e (tVar i)) : PE X e (tD c (dV i)) := PE.to h fun σ H Q ⟨F, ρ, xx, P, r, q, k⟩ => by
  unfold dV at q
  split at q
  · rename_i d e
    obtain ⟨v, g1, g2⟩ := r.s.im i d e
    exact ⟨v, g1, k d ρ v F H q (Ex.refl F) r g2⟩
  · rename_i d e
    obtain ⟨F', v, g1, g2, g3, g4⟩ := r.freeze e
    exact ⟨v, g1, k d _ v F' H q g2 g4 g3⟩
  · exact q.elim
def hS (i : Nat) : HM := fun ρ P => (match ρ[i]? with
  | some (.im _) => True
  | some (.ow _) => True
  | _ => False) ∧ P (.slot i) ρ
theorem dh_v {i : Nat} (h : PE X e (tVar i)) : PE X e (tH c (hS i)) := PE.to h fun σ H Q ⟨F, ρ, xx, P, r, ⟨q0, q⟩, k⟩ => by
  split at q0
  · rename_i d e
    obtain ⟨v, g1, g2⟩ := r.s.im i d e
    exact ⟨v, g1, k _ ρ v F H q (Ex.refl F) r g1⟩
  · rename_i d e
    obtain ⟨v, g1, g2⟩ := r.s.ow i d e
    exact ⟨.ref v, g1, k _ ρ _ F H q (Ex.refl F) r g1⟩
  · exact q0.elim
def hV (f : DM) : HM := fun ρ P => f ρ fun d ρ' => P (.val d) ρ'
theorem dh_of {f : DM} (h : PE X e (tD c f)) : PE X e (tH c (hV f)) := PE.to h fun σ H Q ⟨F, ρ, xx, P, r, q, k⟩ => ⟨F, ρ, xx, _, r, q, fun d ρ' v F' H' p e r' at_ => k (.val d) ρ' v F' H' p e r' at_⟩
theorem de_n {f : DM} (h : PE X e (tN c f)) : PE X e (tD c f) := PE.to h fun σ H Q ⟨F, ρ, xx, P, r, q, k⟩ => ⟨F, ρ, xx, P, r, q, fun d ρ' a F' H' p e r' fr => by
  obtain ⟨F2, e2, at_, r2⟩ := fr.freeze r'
  exact k d ρ' (.ref a) F2 H' p (e.trans e2) r2 at_⟩
abbrev G2 := D → D → (D → Prop) → Prop
/-- f does on values what g tells of data -/
def Sem2 (X : Cx) (c : Cn) (f : Value → Value → Sem Value) (g : G2) : Prop := ∃ r : R2, OpR X f r ∧ ∀ (F H : Hp) (σ : L2.St) (ρ : Env) (xx : XX) (x y : D) (vx vy : V) (P : D → Prop) (Q : VK), Rel c F H σ ρ xx → Bo c F H vx x → Bo c F H vy y → g x y P →
  (∀ z v F' H', P z → Ex F F' → Rel c F' H' σ ρ xx → At c.K F' v z → Q v H') → r vx vy H Q
def d2 (g : G2) (fa fb : HM) : DM := fun ρ P => fa ρ fun x ρ1 => fb ρ1 fun y ρ2 => see ρ2 x fun dx => see ρ2 y fun dy => g dx dy fun z => P z ρ2
theorem d2_use {r : R2} {g : G2} {fa fb : HM} {ta tb : TE} (hr : ∀ (F H : Hp) (σ : L2.St) (ρ : Env) (xx : XX) (x y : D) (vx vy : V) (P : D → Prop) (Q : VK), Rel c F H σ ρ xx → Bo c F H vx x → Bo c F H vy y → g x y P →
    (∀ z v F' H', P z → Ex F F' → Rel c F' H' σ ρ xx → At c.K F' v z → Q v H') → r vx vy H Q) (ea : ta = tH c fa) (eb : tb = tH c fb) : ∀ σ H Q, tD c (d2 g fa fb) σ H Q → tOp r ta tb σ H Q := by
  rintro σ H Q ⟨F, ρ, xx, P, rel, q, k⟩
  subst ea eb
  refine ⟨F, ρ, xx, _, rel, q, fun x ρ1 v F1 H1 q1 e1 r1 h1 => ?_⟩
  refine ⟨F1, ρ1, xx, _, r1, q1, fun y ρ2 u F2 H2 q2 e2 r2 h2 => ?_⟩
  obtain ⟨dx, bx, q2⟩ := see_bo r2 (h1.mono e2) q2
  obtain ⟨dy, by_, q2⟩ := see_bo r2 h2 q2
  exact hr F2 H2 σ ρ2 xx dx dy v u _ Q r2 bx by_ q2 fun z w F' H' pz ez rz az => k z ρ2 w F' H' pz ((e1.trans e2).trans ez) rz az
theorem de_bin {op : Operator} {g : G2} {fa fb : HM} (hs : Sem2 X c (binaryOp op) g) (ha : PE X a (tH c fa)) (hb : PE X b (tH c fb)) : PE X (.BinOp a op b pos) (tD c (d2 g fa fb)) := by
  obtain ⟨r, ho, hr⟩ := hs
  exact PE.to (pe_op ho ha hb) (d2_use hr rfl rfl)
theorem de_cmp {op : CmpOp} {g : G2} {fa fb : HM} (hs : Sem2 X c (compareOp op) g) (ha : PE X a (tH c fa)) (hb : PE X b (tH c fb)) (hm : behindInMarks op b = false) : PE X (.Compare a [op] [b] pos) (tD c (d2 g fa fb)) := by
  obtain ⟨r, ho, hr⟩ := hs
  exact PE.to (pe_cmpR ho ha hb hm) (d2_use hr rfl rfl)
/-- a test: what is a bool -/
def bD (f : DM) : BM := fun ρ P => f ρ fun d ρ' => match d with
  | .bool b => P b ρ'
  | _ => False
theorem bD_use {f : DM} {t : TE} (et : t = tD c f) : ∀ σ H Q, tT c (bD f) σ H Q → (t σ H fun x H' => ∃ k, x = .bl k ∧ Q k H') := by
  rintro σ H Q ⟨F, ρ, xx, P, rel, q, k⟩
  subst et
  refine ⟨F, ρ, xx, _, rel, q, fun d ρ' v F' H' p e r at_ => ?_⟩
  cases d <;> first | exact p.elim | (cases at_; exact ⟨_, rfl, k _ ρ' F' H' p e r⟩)
theorem dt_cmp {op : CmpOp} {g : G2} {fa fb : HM} (hs : Sem2 X c (compareOp op) g) (ha : PE X a (tH c fa)) (hb : PE X b (tH c fb)) (hm : behindInMarks op b = false) : PT X (.Compare a [op] [b] pos) (tT c (bD (d2 g fa fb))) := by
  obtain ⟨r, ho, hr⟩ := hs
  refine PT.to (pt_cmpR ho ha hb hm) fun σ H Q h => d2_use hr rfl rfl σ H _ ?_
  exact bD_use rfl σ H Q h
/-- a < b < e -/
def dChain (g g' : G2) (fa fb fc : HM) : DM := fun ρ P => fa ρ fun x ρ1 => fb ρ1 fun y ρ2 => see ρ2 x fun dx => see ρ2 y fun dy => g dx dy fun z => match z with
  | .bool true => fc ρ2 fun w ρ3 => see ρ3 y fun dy' => see ρ3 w fun dw => g' dy' dw fun z' => P z' ρ3
  | .bool false => P (.bool false) ρ2
  | _ => False
theorem dChain_use {r r' : R2} {g g' : G2} {fa fb fc : HM} {ta tb tc : TE} (hr : ∀ (F H : Hp) (σ : L2.St) (ρ : Env) (xx : XX) (x y : D) (vx vy : V) (P : D → Prop) (Q : VK), Rel c F H σ ρ xx → Bo c F H vx x → Bo c F H vy y → g x y P →
    (∀ z v F' H', P z → Ex F F' → Rel c F' H' σ ρ xx → At c.K F' v z → Q v H') → r vx vy H Q)
    (hr' : ∀ (F H : Hp) (σ : L2.St) (ρ : Env) (xx : XX) (x y : D) (vx vy : V) (P : D → Prop) (Q : VK), Rel c F H σ ρ xx → Bo c F H vx x → Bo c F H vy y → g' x y P →
    (∀ z v F' H', P z → Ex F F' → Rel c F' H' σ ρ xx → At c.K F' v z → Q v H') → r' vx vy H Q) (ea : ta = tH c fa) (eb : tb = tH c fb) (ec : tc = tH c fc) : ∀ σ H Q, tD c (dChain g g' fa fb fc) σ H Q → tChain r r' ta tb tc σ H Q := by
  rintro σ H Q ⟨F, ρ, xx, P, rel, q, k⟩
  subst ea eb ec
  refine ⟨F, ρ, xx, _, rel, q, fun x ρ1 v F1 H1 q1 e1 r1 h1 => ?_⟩
  refine ⟨F1, ρ1, xx, _, r1, q1, fun y ρ2 u F2 H2 q2 e2 r2 h2 => ?_⟩
  obtain ⟨dx, bx, q2⟩ := see_bo r2 (h1.mono e2) q2
  obtain ⟨dy, by_, q2⟩ := see_bo r2 h2 q2
  refine hr F2 H2 σ ρ2 xx dx dy v u _ _ r2 bx by_ q2 fun z w F' H' pz ez rz az => ?_
  split at pz
  · cases az
    refine ⟨true, rfl, ?_⟩
    rw [if_pos rfl]
    refine ⟨F', ρ2, xx, _, rz, pz, fun t ρ3 s F3 H3 q3 e3 r3 h3 => ?_⟩
    obtain ⟨dy', by', q3⟩ := see_bo r3 (h2.mono (ez.trans e3)) q3
    obtain ⟨dw, bw, q3⟩ := see_bo r3 h3 q3
    exact hr' F3 H3 σ ρ3 xx dy' dw u s _ Q r3 by' bw q3 fun z' w' F4 H4 p4 e4 r4 a4 => k z' ρ3 w' F4 H4 p4 ((((e1.trans e2).trans ez).trans e3).trans e4) r4 a4
  · cases az
    refine ⟨false, rfl, ?_⟩
    (rw [if_neg Bool.false_ne_true])
    exact k _ ρ2 _ F' H' pz ((e1.trans e2).trans ez) rz (.bl false)
  · exact pz.elim
theorem de_chain {e3 : Expr} {op op' : CmpOp} {g g' : G2} {fa fb fc : HM} (hs : Sem2 X c (compareOp op) g) (hs' : Sem2 X c (compareOp op') g') (ha : PE X a (tH c fa)) (hb : PE X b (tH c fb)) (hc : PE X e3 (tH c fc)) (hm : lastMarks [op, op'] [b, e3] = false) :
    PE X (.Compare a [op, op'] [b, e3] pos) (tD c (dChain g g' fa fb fc)) := by
  obtain ⟨r, ho, hr⟩ := hs
  obtain ⟨r', ho', hr'⟩ := hs'
  exact PE.to (pe_chain ho ho' ha hb hc hm) (dChain_use hr hr' rfl rfl rfl)
def bAnd (f g : BM) : BM := fun ρ P => f ρ fun b ρ1 => if b = true then g ρ1 P else P false ρ1
def bOr (f g : BM) : BM := fun ρ P => f ρ fun b ρ1 => if b = true then P true ρ1 else g ρ1 P
def bNot (f : BM) : BM := fun ρ P => f ρ fun b ρ1 => P (!b) ρ1
variable {rest : List Expr}
theorem dw_and {f g : BM} (ha : PT X a (tT c f)) (hb : PW X (.BoolOp .And (b :: rest) pos) (tT c g)) : PW X (.BoolOp .And (a :: b :: rest) pos) (tT c (bAnd f g)) := by
  have h := pw_and ha hb
  refine ⟨fun wh pins s σ H Q I q => h.run wh pins s σ H Q I ?_⟩
  obtain ⟨F, ρ, xx, P, rel, q, k⟩ := q
  refine ⟨F, ρ, xx, _, rel, q, fun t ρ1 F1 H1 q1 e1 r1 => ?_⟩
  cases t with
  | true => exact ⟨F1, ρ1, xx, P, r1, q1, fun t' ρ2 F2 H2 q2 e2 r2 => k t' ρ2 F2 H2 q2 (e1.trans e2) r2⟩
  | false => exact k false ρ1 F1 H1 q1 e1 r1
theorem dw_or {f g : BM} (ha : PT X a (tT c f)) (hb : PW X (.BoolOp .Or (b :: rest) pos) (tT c g)) : PW X (.BoolOp .Or (a :: b :: rest) pos) (tT c (bOr f g)) := by
  have h := pw_or ha hb
  refine ⟨fun wh pins s σ H Q I q => h.run wh pins s σ H Q I ?_⟩
  obtain ⟨F, ρ, xx, P, rel, q, k⟩ := q
  refine ⟨F, ρ, xx, _, rel, q, fun t ρ1 F1 H1 q1 e1 r1 => ?_⟩
  cases t with
  | true => exact k true ρ1 F1 H1 q1 e1 r1
  | false => exact ⟨F1, ρ1, xx, P, r1, q1, fun t' ρ2 F2 H2 q2 e2 r2 => k t' ρ2 F2 H2 q2 (e1.trans e2) r2⟩
theorem dt_not {f : BM} (ha : PT X a (tT c f)) : PT X (.UnaryOp .Not a pos) (tT c (bNot f)) :=
  PT.to (pt_not ha) fun σ H Q ⟨F, ρ, xx, P, rel, q, k⟩ => ⟨F, ρ, xx, _, rel, q, fun t ρ1 F1 H1 q1 e1 r1 => k _ ρ1 F1 H1 q1 e1 r1⟩
/-- the same as values, of bools -/
def dAnd (f g : DM) : DM := fun ρ P => f ρ fun d ρ1 => match d with
  | .bool true => g ρ1 P
  | .bool false => P (.bool false) ρ1
  | _ => False
def dOr (f g : DM) : DM := fun ρ P => f ρ fun d ρ1 => match d with
  | .bool true => P (.bool true) ρ1
  | .bool false => g ρ1 P
  | _ => False
def dNot (f : DM) : DM := fun ρ P => f ρ fun d ρ1 => match d with
  | .bool b => P (.bool (!b)) ρ1
  | _ => False
theorem de_and {f g : DM} (ha : PE X a (tD c f)) (hb : PE X (.BoolOp .And (b :: rest) pos) (tD c g)) : PE X (.BoolOp .And (a :: b :: rest) pos) (tD c (dAnd f g)) :=
  PE.to (pe_and ha hb) fun σ H Q ⟨F, ρ, xx, P, rel, q, k⟩ => ⟨F, ρ, xx, _, rel, q, fun d ρ1 v F1 H1 q1 e1 r1 a1 => by
    split at q1
    · cases a1
      exact ⟨true, rfl, F1, ρ1, xx, P, r1, q1, fun t' ρ2 v2 F2 H2 q2 e2 r2 a2 => k t' ρ2 v2 F2 H2 q2 (e1.trans e2) r2 a2⟩
    · cases a1
      exact ⟨false, rfl, k _ ρ1 _ F1 H1 q1 e1 r1 (.bl false)⟩
    · exact q1.elim⟩
theorem de_not {f : DM} (ha : PE X a (tD c f)) : PE X (.UnaryOp .Not a pos) (tD c (dNot f)) :=
  PE.to (pe_not ha) fun σ H Q ⟨F, ρ, xx, P, rel, q, k⟩ => ⟨F, ρ, xx, _, rel, q, fun d ρ1 v F1 H1 q1 e1 r1 a1 => by
    cases d <;> first | exact q1.elim | (cases a1; exact ⟨_, rfl, k _ ρ1 _ F1 H1 q1 e1 r1 (.bl _)⟩)⟩
def dIf (t : BM) (f g : DM) : DM := fun ρ P => t ρ fun b ρ1 => if b = true then f ρ1 P else g ρ1 P
theorem de_if {e3 : Expr} {t : BM} {f g : DM} (hc : PT X e3 (tT c t)) (ha : PE X a (tD c f)) (hb : PE X b (tD c g)) : PE X (.IfExp e3 a b pos) (tD c (dIf t f g)) :=
  PE.to (pe_ifExp hc ha hb) fun σ H Q ⟨F, ρ, xx, P, rel, q, k⟩ => ⟨F, ρ, xx, _, rel, q, fun d ρ1 F1 H1 q1 e1 r1 => by
    cases d with
    | true => exact ⟨F1, ρ1, xx, P, r1, q1, fun t' ρ2 v2 F2 H2 q2 e2 r2 a2 => k t' ρ2 v2 F2 H2 q2 (e1.trans e2) r2 a2⟩
    | false => exact ⟨F1, ρ1, xx, P, r1, q1, fun t' ρ2 v2 F2 H2 q2 e2 r2 a2 => k t' ρ2 v2 F2 H2 q2 (e1.trans e2) r2 a2⟩⟩
/-- by truth -/
def truD : D → Bool
  | .none => false
  | .bool b => b
  | .int i => i != 0
  | .str x => x.length != 0
  | .list xs => !xs.isEmpty
  | .tuple xs => !xs.isEmpty
  | .dict xs => !xs.isEmpty
def lNil : LM := fun ρ P => P [] ρ
def lCons (f : DM) (g : LM) : LM := fun ρ P => f ρ fun d ρ1 => g ρ1 fun ds ρ2 => P (d :: ds) ρ2
theorem dl_nil : PA X [] (tL c lNil) := PA.to pa_nil fun σ H Q ⟨F, ρ, xx, P, rel, q, k⟩ => k [] ρ [] F H q (Ex.refl F) rel .nil
theorem dl_cons {es : List Expr} {f : DM} {g : LM} (ha : PE X e (tD c f)) (hr : PA X es (tL c g)) (hs : starEach (e :: es) X.env = (false, eval e X.env) :: starEach es X.env := by rfl) : PA X (e :: es) (tL c (lCons f g)) :=
  PA.to (pa_cons ha hr hs) fun σ H Q ⟨F, ρ, xx, P, rel, q, k⟩ => ⟨F, ρ, xx, _, rel, q, fun d ρ1 v F1 H1 q1 e1 r1 a1 => ⟨F1, ρ1, xx, _, r1, q1, fun ds ρ2 vs F2 H2 q2 e2 r2 a2 =>
    k (d :: ds) ρ2 (v :: vs) F2 H2 q2 (e1.trans e2) r2 (.cons (a1.mono e2) a2)⟩⟩
def dTup (f : LM) : DM := fun ρ P => f ρ fun ds ρ1 => ds.length ≤ 1000000 ∧ P (.tuple ds) ρ1
def dLst (f : LM) : DM := fun ρ P => f ρ fun ds ρ1 => ds.length ≤ 1000000 ∧ P (.list ds) ρ1
theorem sz {n : Nat} (h : n ≤ 1000000) : n ≤ sizeLine := Nat.le_trans h (by rw [sizeLine_eq]; decide)
theorem szl {n : Nat} (h : n ≤ 1000000) : n < sizeLine := Nat.lt_of_le_of_lt h (by rw [sizeLine_eq]; decide)
theorem de_tup {es : List Expr} {x1 : Nat} {f : LM} (h : PA X es (tL c f)) : PE X (.Tuple es x1 pos) (tD c (dTup f)) :=
  PE.to (pe_tup h) fun σ H Q ⟨F, ρ, xx, P, rel, q, k⟩ => ⟨F, ρ, xx, _, rel, q, fun ds ρ1 vs F1 H1 q1 e1 r1 a1 => ⟨sz (by rw [a1.length]; exact q1.1), fun p hp => by
    have e2 := r1.efF (.tup vs) hp
    exact k _ ρ1 _ _ _ q1.2 (e1.trans e2) (r1.newF _ hp) (.tup (.inl (.inl upd_same)) (a1.mono e2))⟩⟩
theorem dn_lst {es : List Expr} {f : LM} (h : PA X es (tL c f)) : PE X (.List es pos) (tN c (dLst f)) :=
  PE.to (pe_lst h) fun σ H Q ⟨F, ρ, xx, P, rel, q, k⟩ => ⟨F, ρ, xx, _, rel, q, fun ds ρ1 vs F1 H1 q1 e1 r1 a1 => ⟨sz (by rw [a1.length]; exact q1.1), fun p hp => by
    obtain ⟨r2, fr⟩ := Fresh.new (o := .lst vs) (d := .d <| .list ds) r1 hp ⟨vs, upd_same, a1⟩
    exact k _ ρ1 _ _ _ q1.2 e1 r2 fr⟩⟩
/-- arguments of a call of an own def: the source of numbers may be among them -/
def aNil : AM := fun ρ P => P [] ρ
def aCons (f : DM) (g : AM) : AM := fun ρ P => f ρ fun d ρ1 => g ρ1 fun ds ρ2 => P (.d d :: ds) ρ2
def aOra (i : Nat) (g : AM) : AM := fun ρ P => (match ρ[i]? with
  | some (.ora _) => True
  | _ => False) ∧ g ρ fun ds ρ2 => P (.ora :: ds) ρ2
theorem ArAt.mono {F F' : Hp} (e : Ex F F') {v : V} {x : Ar} (h : ArAt c F v x) : ArAt c F' v x := by
  cases x with
  | d x => exact At.mono e h
  | ora => exact h
theorem da_nil : PA X [] (tAr c aNil) := PA.to pa_nil fun σ H Q ⟨F, ρ, xx, P, rel, q, k⟩ => k [] ρ [] F H q (Ex.refl F) rel .nil
theorem da_cons {es : List Expr} {f : DM} {g : AM} (ha : PE X e (tD c f)) (hr : PA X es (tAr c g)) (hs : starEach (e :: es) X.env = (false, eval e X.env) :: starEach es X.env := by rfl) : PA X (e :: es) (tAr c (aCons f g)) :=
  PA.to (pa_cons ha hr hs) fun σ H Q ⟨F, ρ, xx, P, rel, q, k⟩ => ⟨F, ρ, xx, _, rel, q, fun d ρ1 v F1 H1 q1 e1 r1 a1 => ⟨F1, ρ1, xx, _, r1, q1, fun ds ρ2 vs F2 H2 q2 e2 r2 a2 =>
    k (.d d :: ds) ρ2 (v :: vs) F2 H2 q2 (e1.trans e2) r2 (.cons (show ArAt c F2 v (.d d) from a1.mono e2) a2)⟩⟩
theorem da_ora {es : List Expr} {i : Nat} {g : AM} (ha : PE X e (tVar i)) (hr : PA X es (tAr c g)) (hs : starEach (e :: es) X.env = (false, eval e X.env) :: starEach es X.env := by rfl) : PA X (e :: es) (tAr c (aOra i g)) :=
  PA.to (pa_cons ha hr hs) fun σ H Q ⟨F, ρ, xx, P, rel, ⟨q0, q⟩, k⟩ => by
    split at q0
    · rename_i e0
      obtain ⟨p, h1, h2, _⟩ := rel.s.or i _ e0
      exact ⟨.ref p, h2, F, ρ, xx, _, rel, q, fun ds ρ2 vs F2 H2 q2 e2 r2 a2 => k (.ora :: ds) ρ2 (.ref p :: vs) F2 H2 q2 e2 r2 (.cons (show ArAt c F2 (.ref p) .ora from ⟨p, h1, rfl⟩) a2)⟩
    · exact q0.elim
end
end DL
namespace DL
open PySem L2
open PyProof.Rows in
theorem op_catLL {X : Cx} : OpR X (binaryOp .Add) (fun x y H Q => ∃ l b xs zs, x = .ref l ∧ y = .ref b ∧ SqL X.K H l xs ∧ SqL X.K H b zs ∧ xs.length + zs.length ≤ sizeLine ∧ ∀ p, H p = none → Q (.ref p) (upd H p (.lst (xs ++ zs)))) := by
  (intro pins s σ H x y v u Q I rx ry h)
  (obtain ⟨l, b, xs, zs, rfl, rfl, hH, hB, hz, q⟩ := h)
  cases rx
  cases ry
  obtain ⟨its, r, pl, _⟩ := I.list hH
  obtain ⟨its2, r2, pl2, _⟩ := I.list hB
  obtain ⟨⟨cls, dd, data, sl⟩, n, ho, hc, hd0, hd⟩ := id pl
  obtain ⟨⟨cls2, dd2, data2, sl2⟩, n2, ho2, hc2, hd02, hd2⟩ := id pl2
  simp only at hc hd hc2 hd2 hd0 hd02
  subst hc hd hc2 hd2
  have e : its.toArray ++ its2.toArray = (its ++ its2).toArray := by simp
  have h1 := r.length
  have h2 := r2.length
  refine concat_meets ⟨_, ho, rfl⟩ ⟨_, ho2, rfl⟩ noFill_list_add seq_list_add PySem.F.slot_list_add PySem.F.entry_list_add (PySem.F.args_list_add_2 _ _) (list_addW l b its.toArray its2.toArray n n2 dd dd2 sl sl2 (by simp only [List.size_toArray]; omega)) ⟨ho, ho2, ?_⟩
  rw [e]
  (exact ⟨.ref _, _, I.lnew (t' := s.toks) (r.append r2) (by rw [List.length_append]; omega), rfl, q _ I.fresh⟩)
open PyProof.Rows in
theorem op_repA {X : Cx} : OpR X (binaryOp .Mult) (fun x y H Q => ∃ l k xs, x = .ref l ∧ y = .int k ∧ SqL X.K H l xs ∧ -(2 ^ 63) ≤ k ∧ k < 2 ^ 63 ∧ xs.length * k.toNat ≤ sizeLine ∧
    ∀ p, H p = none → Q (.ref p) (upd H p (.lst (List.replicate k.toNat xs).flatten))) := by
  (intro pins s σ H x y v u Q I rx ry h)
  (obtain ⟨l, k, xs, rfl, rfl, hH, h1, h2, hz, q⟩ := h)
  cases rx
  obtain ⟨t, rfl⟩ := ry
  obtain ⟨its, r, pl, _⟩ := I.list hH
  obtain ⟨⟨cls, dd, data, sl⟩, n, ho, hc, hd0, hd⟩ := id pl
  simp only at hc hd hd0
  subst hc hd
  have hl := r.length
  have hsz' : its.toArray.size * k.toNat ≤ 2 ^ 24 := by rw [List.size_toArray, ← hl]; rw [sizeLine_eq] at hz; omega
  refine wpAny_binaryOp_repeat_ref (T := "list") (U := "int") (by decide) ⟨_, ho, rfl⟩ (fun s' => typeIs_int s' k t) noFill_list_mul F.fills_int_mul F.slot_int_rmul repeat_list F.slot_int_index.lookup
    (call_meets F.slot_int_rmul (typeIs_int s k t) F.entry_int_rmul (F.args_int_rmul_2 _ _) (lm_int_rmul_list_any k t l its.toArray n dd sl)
      ⟨ho, rfl, ⟨_, ho, rfl⟩,
        call_meets F.slot_list_mul ⟨_, ho, rfl⟩ F.entry_list_mul (F.args_list_mul_2 _ _)
        (lm_list_mul_any l its.toArray n dd sl k t (by simp [Builtin.List.listFitsIndex]; omega) (by omega) (by simp [Builtin.List.listTooLong, sizeLine]; omega))
        ⟨ho, ?_⟩⟩)
  rw [listMul_foldl_if]
  (exact ⟨.ref _, _, I.lnew (t' := s.toks) (r.rep k.toNat) (by rw [PyProof.Rows.lm_len_rep_flat, Nat.mul_comm]; exact hz), rfl, q _ I.fresh⟩)
section
variable {c : Cn} {F H : Hp} {v : V}
theorem bo_int {i : Int} (h : Bo c F H v (.int i)) : v = .int i := by
  rcases h with h | ⟨a, _, h⟩
  · cases h; rfl
  · exact h.elim
theorem bo_bl {i : Bool} (h : Bo c F H v (.bool i)) : v = .bl i := by
  rcases h with h | ⟨a, _, h⟩
  · cases h; rfl
  · exact h.elim
theorem bo_str {i : Str} (h : Bo c F H v (.str i)) : v = .str i := by
  rcases h with h | ⟨a, _, h⟩
  · cases h; rfl
  · exact h.elim
theorem bo_non (h : Bo c F H v .none) : v = .non := by
  rcases h with h | ⟨a, _, h⟩
  · cases h; rfl
  · exact h.elim
theorem bo_lst {ds : List D} (e : Ex F H) (h : Bo c F H v (.list ds)) : ∃ a xs, v = .ref a ∧ SqL c.K H a xs ∧ AtAll c.K F xs ds := by
  rcases h with h | ⟨a, rfl, vs, h1, h2⟩
  · cases h with
    | lst s t => exact ⟨_, _, rfl, e.sl s, t⟩
  · exact ⟨a, vs, rfl, SqL.of h1, h2⟩
theorem bo_tup {ds : List D} (e : Ex F H) (h : Bo c F H v (.tuple ds)) : ∃ a xs, v = .ref a ∧ SqT c.K F a xs ∧ SqT c.K H a xs ∧ AtAll c.K F xs ds := by
  rcases h with h | ⟨a, rfl, h⟩
  · cases h with
    | tup s t => exact ⟨_, _, rfl, s, e.st s, t⟩
  · exact h.elim
end
def gAdd : G2 := fun x y P => match x, y with
  | .int i, .int j => P (.int (i + j))
  | .str a, .str b => a.length + b.length ≤ 1000000 ∧ P (.str (a ++ b))
  | .list xs, .list ys => xs.length + ys.length ≤ 1000000 ∧ P (.list (xs ++ ys))
  | .tuple xs, .tuple ys => xs.length + ys.length ≤ 1000000 ∧ P (.tuple (xs ++ ys))
  | _, _ => False
def gSub : G2 := fun x y P => match x, y with
  | .int i, .int j => P (.int (i - j))
  | _, _ => False
def gMul : G2 := fun x y P => match x, y with
  | .int i, .int j => ((-(2 ^ 64) < i ∧ i < 2 ^ 64) ∨ (-(2 ^ 64) < j ∧ j < 2 ^ 64)) ∧ P (.int (i * j))
  | .list xs, .int k => (-(2 ^ 63) ≤ k ∧ k < 2 ^ 63) ∧ xs.length * k.toNat ≤ 1000000 ∧ P (.list (List.replicate k.toNat xs).flatten)
  | _, _ => False
def gDiv : G2 := fun x y P => match x, y with
  | .int i, .int j => (0 < j ∧ j < 1073741824) ∧ P (.int (i / j))
  | _, _ => False
def gMod : G2 := fun x y P => match x, y with
  | .int i, .int j => 0 < j ∧ P (.int (i % j))
  | _, _ => False
def gPow : G2 := fun x y P => match x, y with
  | .int i, .int j => (0 ≤ j ∧ j ≤ 1000000 ∧ i.natAbs < 2 ^ 64) ∧ P (.int (i ^ j.toNat))
  | _, _ => False
theorem AtAll.nil_iff {K : PySem.W.Frag} {H : Hp} {vs : List V} {ds : List D} (h : AtAll K H vs ds) : vs = [] ↔ ds = [] := by cases h <;> simp
section
variable {X : Cx} {c : Cn}
theorem sem_add (hK : X.K = c.K) : Sem2 X c (binaryOp .Add) gAdd := by
  refine ⟨_, (op_add.or op_add_str).or (op_catLL.or L2.op_catA), fun F H σ ρ xx x y vx vy P Q r bx by_ g k => ?_⟩
  have e := r.w.fh
  unfold gAdd at g
  split at g
  · cases bo_int bx; cases bo_int by_
    exact .inl (.inl ⟨_, _, rfl, rfl, k _ _ F H g (Ex.refl F) r (.int _)⟩)
  · cases bo_str bx; cases bo_str by_
    exact .inl (.inr ⟨_, _, rfl, rfl, sz g.1, k _ _ F H g.2 (Ex.refl F) r (.str _)⟩)
  · obtain ⟨a, xs, rfl, s1, t1⟩ := bo_lst e bx
    obtain ⟨b, ys, rfl, s2, t2⟩ := bo_lst e by_
    refine .inr (.inl ⟨a, b, xs, ys, rfl, rfl, by rw [hK]; exact s1, by rw [hK]; exact s2, sz (by rw [t1.length, t2.length]; exact g.1), fun p hp => ?_⟩)
    have e2 := r.efF (.lst (xs ++ ys)) hp
    exact k _ _ _ _ g.2 e2 (r.newF _ hp) (.lst (.inl (.inl upd_same)) ((t1.append t2).mono e2))
  · obtain ⟨a, xs, rfl, f1, s1, t1⟩ := bo_tup e bx
    obtain ⟨b, ys, rfl, f2, s2, t2⟩ := bo_tup e by_
    refine .inr (.inr ⟨a, b, xs, ys, rfl, rfl, by rw [hK]; exact s1, by rw [hK]; exact s2, sz (by rw [t1.length, t2.length]; exact g.1), fun z => ?_, fun _ z => ?_, fun _ _ p hp => ?_⟩)
    · refine k _ _ F H g.2 (Ex.refl F) r ?_
      rw [t1.nil_iff.mp z, List.nil_append]
      exact .tup f2 t2
    · refine k _ _ F H g.2 (Ex.refl F) r ?_
      rw [t2.nil_iff.mp z, List.append_nil]
      exact .tup f1 t1
    · have e2 := r.efF (.tup (xs ++ ys)) hp
      exact k _ _ _ _ g.2 e2 (r.newF _ hp) (.tup (.inl (.inl upd_same)) ((t1.append t2).mono e2))
  · exact g.elim
theorem sem_sub : Sem2 X c (binaryOp .Sub) gSub := by
  refine ⟨_, op_sub, fun F H σ ρ xx x y vx vy P Q r bx by_ g k => ?_⟩
  unfold gSub at g
  split at g
  · cases bo_int bx; cases bo_int by_
    exact ⟨_, _, rfl, rfl, k _ _ F H g (Ex.refl F) r (.int _)⟩
  · exact g.elim
theorem AtAll.rep {K : PySem.W.Frag} {H : Hp} {vs : List V} {ds : List D} (h : AtAll K H vs ds) : ∀ n : Nat, AtAll K H (List.replicate n vs).flatten (List.replicate n ds).flatten
  | 0 => .nil
  | n + 1 => by
    (rw [List.replicate_succ, List.replicate_succ, List.flatten_cons, List.flatten_cons])
    exact h.append (AtAll.rep h n)
theorem sem_mul (hK : X.K = c.K) : Sem2 X c (binaryOp .Mult) gMul := by
  refine ⟨_, op_mul.or op_repA, fun F H σ ρ xx x y vx vy P Q r bx by_ g k => ?_⟩
  have e := r.w.fh
  unfold gMul at g
  split at g
  · cases bo_int bx; cases bo_int by_
    exact .inl ⟨_, _, rfl, rfl, g.1, k _ _ F H g.2 (Ex.refl F) r (.int _)⟩
  · obtain ⟨a, xs, rfl, s1, t1⟩ := bo_lst e bx
    cases bo_int by_
    refine .inr ⟨a, _, xs, rfl, rfl, by rw [hK]; exact s1, g.1.1, g.1.2, sz (by rw [t1.length]; exact g.2.1), fun p hp => ?_⟩
    exact k _ _ _ _ g.2.2 (r.efF _ hp) (r.newF _ hp) (.lst (.inl (.inl upd_same)) ((t1.rep _).mono (r.efF _ hp)))
  · exact g.elim
theorem sem_div : Sem2 X c (binaryOp .FloorDiv) gDiv := by
  refine ⟨_, op_fdiv, fun F H σ ρ xx x y vx vy P Q r bx by_ g k => ?_⟩
  unfold gDiv at g
  split at g
  · cases bo_int bx; cases bo_int by_
    exact ⟨_, _, rfl, rfl, g.1, k _ _ F H g.2 (Ex.refl F) r (.int _)⟩
  · exact g.elim
theorem sem_mod : Sem2 X c (binaryOp .Mod) gMod := by
  refine ⟨_, op_mod, fun F H σ ρ xx x y vx vy P Q r bx by_ g k => ?_⟩
  unfold gMod at g
  split at g
  · cases bo_int bx; cases bo_int by_
    exact ⟨_, _, rfl, rfl, g.1, k _ _ F H g.2 (Ex.refl F) r (.int _)⟩
  · exact g.elim
theorem sem_pow : Sem2 X c (binaryOp .Pow) gPow := by
  refine ⟨_, op_pow, fun F H σ ρ xx x y vx vy P Q r bx by_ g k => ?_⟩
  unfold gPow at g
  split at g
  · cases bo_int bx; cases bo_int by_
    exact ⟨_, _, rfl, rfl, g.1, k _ _ F H g.2 (Ex.refl F) r (.int _)⟩
  · exact g.elim
def gCmp (p : Int → Int → Bool) : G2 := fun x y P => match x, y with
  | .int i, .int j => P (.bool (p i j))
  | _, _ => False
theorem sem_cmp {op : CmpOp} {p : Int → Int → Bool} (h : OpR X (compareOp op) (rI0 fun i j => .bl (p i j))) : Sem2 X c (compareOp op) (gCmp p) := by
  refine ⟨_, h, fun F H σ ρ xx x y vx vy P Q r bx by_ g k => ?_⟩
  unfold gCmp at g
  split at g
  · cases bo_int bx; cases bo_int by_
    exact ⟨_, _, rfl, rfl, k _ _ F H g (Ex.refl F) r (.bl _)⟩
  · exact g.elim
abbrev gLt : G2 := gCmp fun i j => decide (i < j)
abbrev gLe : G2 := gCmp fun i j => decide (i ≤ j)
abbrev gGt : G2 := gCmp fun i j => decide (j < i)
abbrev gGe : G2 := gCmp fun i j => decide (j ≤ i)
theorem sem_lt : Sem2 X c (compareOp .Lt) gLt := sem_cmp op_lt
theorem sem_le : Sem2 X c (compareOp .LtE) gLe := sem_cmp op_le
theorem sem_gt : Sem2 X c (compareOp .Gt) gGt := sem_cmp op_gt
theorem sem_ge : Sem2 X c (compareOp .GtE) gGe := sem_cmp op_ge
def isN : D → Bool
  | .none => true
  | _ => false
def gIs : G2 := fun x y P => match y with
  | .none => P (.bool (isN x))
  | _ => False
def gIsNot : G2 := fun x y P => match y with
  | .none => P (.bool (!isN x))
  | _ => False
/-- == of data: texts of signs, no dicts, not too deep -/
def okD (d : D) : Prop := SeqAt.shaped d = true
theorem okD.nod {d : D} (h : okD d) : nod d = true := by
  have h1 : d.canLay0 = true := SeqAt.canLay_of_shaped h
  have all : ∀ d : D, d.canLay0 = true → DL.nod d = true := fun d => by
    refine PyData.rec (motive_1 := fun d => d.canLay0 = true → DL.nod d = true) (motive_2 := fun ds => PyData.canLayAll0 ds = true → DL.nodAll ds = true) (motive_3 := fun _ => True) (motive_4 := fun _ => True) ?_ ?_ ?_ ?_ ?_ ?_ ?_ ?_ ?_ ?_ ?_ ?_ d
    · exact fun _ => rfl
    · exact fun _ _ => rfl
    · exact fun _ _ => rfl
    · exact fun _ _ => rfl
    · exact fun xs ih h => by simp only [DL.nod]; exact ih (by simpa only [PyData.canLay0] using h)
    · exact fun xs ih h => by simp only [DL.nod]; exact ih (by simpa only [PyData.canLay0] using h)
    · exact fun _ _ h => by simp [PyData.canLay0] at h
    · exact fun _ => rfl
    · exact fun x xs i j h => by
        simp only [PyData.canLayAll0, Bool.and_eq_true] at h
        simp only [DL.nodAll, Bool.and_eq_true]
        exact ⟨i h.1, j h.2⟩
    all_goals (intros; trivial)
  exact all d h1
def gEq : G2 := fun x y P => okD x ∧ okD y ∧ P (.bool (PyData.eqv x y))
def gNe : G2 := fun x y P => okD x ∧ okD y ∧ P (.bool (!PyData.eqv x y))
theorem sem_eq (hK : X.K = c.K) (hu : X.A.units + 64 < cLine) : Sem2 X c (compareOp .Eq) gEq := by
  refine ⟨_, op_eqD hu, fun F H σ ρ xx x y vx vy P Q r bx by_ g k => ?_⟩
  have e := r.w.fh
  refine ⟨x, y, by rw [hK]; exact (bx.at e).dp g.1.nod, by rw [hK]; exact (by_.at e).dp g.2.1.nod, g.1, g.2.1, k _ _ F H g.2.2 (Ex.refl F) r (.bl _)⟩
theorem sem_ne (hK : X.K = c.K) (hu : X.A.units + 64 < cLine) : Sem2 X c (compareOp .NotEq) gNe := by
  refine ⟨_, op_neD hu, fun F H σ ρ xx x y vx vy P Q r bx by_ g k => ?_⟩
  have e := r.w.fh
  refine ⟨x, y, by rw [hK]; exact (bx.at e).dp g.1.nod, by rw [hK]; exact (by_.at e).dp g.2.1.nod, g.1, g.2.1, k _ _ F H g.2.2 (Ex.refl F) r (.bl _)⟩
def gIx : G2 := fun x y P => match x, y with
  | .list xs, .int i => ∃ d, atI xs i = some d ∧ P d
  | .tuple xs, .int i => ∃ d, atI xs i = some d ∧ P d
  | .str z, .int i => z.length ≤ 1000000 ∧ ∃ n, atI z.cps.toList i = some n ∧ P (.str ⟨#[n]⟩)
  | _, _ => False
theorem atI_at {K : PySem.W.Frag} {F : Hp} {xs : List V} {ds : List D} (t : AtAll K F xs ds) {i : Int} {d : D} (h : atI ds i = some d) : ∃ v, atI xs i = some v ∧ At K F v d := by
  unfold atI at h ⊢
  rw [t.length]
  cases e : ixN ds.length i with
  | none => (rw [e] at h; cases h)
  | some j =>
    rw [e] at h
    exact t.get h
theorem ix_use (hK : X.K = c.K) : ∀ (F H : Hp) (σ : L2.St) (ρ : Env) (xx : XX) (x y : D) (vx vy : V) (P : D → Prop) (Q : VK), Rel c F H σ ρ xx → Bo c F H vx x → Bo c F H vy y → gIx x y P →
    (∀ z v F' H', P z → Ex F F' → Rel c F' H' σ ρ xx → At c.K F' v z → Q v H') → rIx X.K vx vy H Q := fun F H σ ρ xx x y vx vy P Q r bx by_ g k => by
  have e := r.w.fh
  unfold gIx at g
  split at g
  · obtain ⟨a, xs, rfl, s1, t1⟩ := bo_lst e bx
    cases bo_int by_
    obtain ⟨d, h1, h2⟩ := g
    obtain ⟨u, h3, h4⟩ := atI_at t1 h1
    exact .inl ⟨a, xs, _, u, rfl, rfl, by rw [hK]; exact s1, h3, k _ _ F H h2 (Ex.refl F) r h4⟩
  · obtain ⟨a, xs, rfl, _, s1, t1⟩ := bo_tup e bx
    cases bo_int by_
    obtain ⟨d, h1, h2⟩ := g
    obtain ⟨u, h3, h4⟩ := atI_at t1 h1
    exact .inr (.inl ⟨a, xs, _, u, rfl, rfl, by rw [hK]; exact s1, h3, k _ _ F H h2 (Ex.refl F) r h4⟩)
  · cases bo_str bx; cases bo_int by_
    obtain ⟨hz, n, h1, h2⟩ := g
    exact .inr (.inr ⟨_, _, n, rfl, rfl, sz hz, h1, k _ _ F H h2 (Ex.refl F) r (.str _)⟩)
  · exact g.elim
theorem de_ix {a b : Expr} {pos : Pos} {fa fb : HM} (hK : X.K = c.K) (ha : PE X a (tH c fa)) (hb : PE X b (tH c fb)) (hs : PlainIx b) : PE X (.Subscript a b pos) (tD c (d2 gIx fa fb)) :=
  PE.to (pe_ix ix_seq ha hb hs) (d2_use (ix_use hK) rfl rfl)
abbrev OM := Env → (Option Int → Env → Prop) → Prop
def tOI (c : Cn) (f : OM) : TO := fun σ H Q => ∃ F ρ xx P, Rel c F H σ ρ xx ∧ f ρ P ∧ ∀ o ρ' F' H', P o ρ' → Ex F F' → Rel c F' H' σ ρ' xx → Q o H'
def oNo : OM := fun ρ P => P none ρ
def oI (f : DM) : OM := fun ρ P => f ρ fun d ρ' => match d with
  | .int i => P (some i) ρ'
  | _ => False
theorem PO.to {e : Option Expr} {t t' : TO} (h : PO X e t) (w : ∀ σ H Q, t' σ H Q → t σ H Q) : PO X e t' := ⟨fun pins s σ H Q I q => h.run pins s σ H Q I (w σ H Q q)⟩
theorem do_no : PO X none (tOI c oNo) := PO.to po_none fun σ H Q ⟨F, ρ, xx, P, r, q, k⟩ => k none ρ F H q (Ex.refl F) r
theorem do_i {e : Expr} {f : DM} (h : PE X e (tD c f)) : PO X (some e) (tOI c (oI f)) := PO.to (po_some h) fun σ H Q ⟨F, ρ, xx, P, r, q, k⟩ => ⟨F, ρ, xx, _, r, q, fun d ρ' v F' H' p e r' a => by
  cases d <;> first | exact p.elim | (cases a; exact ⟨_, rfl, k _ ρ' F' H' p e r'⟩)⟩
/-- xs[lo:hi] -/
def cutD (xs : List D) (lo hi : Option Int) : List D := (xs.drop (HT.sIx xs.length 0 lo)).take (HT.sIx xs.length xs.length hi - HT.sIx xs.length 0 lo)
theorem cut_at {K : PySem.W.Frag} {F : Hp} {xs : List V} {ds : List D} (t : AtAll K F xs ds) (lo hi : Option Int) : AtAll K F (cutV xs lo hi) (cutD ds lo hi) := by
  unfold cutV cutD
  rw [t.length]
  exact (t.drop _).take _
def dSl (fa : HM) (fl fu : OM) : DM := fun ρ P => fa ρ fun h ρ1 => fl ρ1 fun lo ρ2 => fu ρ2 fun hi ρ3 => see ρ3 h fun d => match d with
  | .list xs => P (.list (cutD xs lo hi)) ρ3
  | .tuple xs => P (.tuple (cutD xs lo hi)) ρ3
  | .str z => z.length ≤ 1000000 ∧ P (.str (cutS z lo hi)) ρ3
  | _ => False
end
end DL
namespace DL
open PySem L2
section
variable {X : Cx} {c : Cn} {e : Expr} {pos : Pos}
theorem de_sl {lo hi : Option Expr} {p2 : Pos} {fa : HM} {fl fu : OM} (hK : X.K = c.K) (he : PE X e (tH c fa)) (hl : PO X lo (tOI c fl)) (hu : PO X hi (tOI c fu)) : PE X (.Subscript e (.Slice lo hi none p2) pos) (tD c (dSl fa fl fu)) := by
  refine PE.to (pe_slice ((sl_list.or sl_tupA).or sl_str) he hl hu) ?_
  rintro σ H Q ⟨F, ρ, xx, P, rel, q, k⟩
  refine ⟨F, ρ, xx, _, rel, q, fun h ρ1 v F1 H1 q1 e1 r1 h1 => ⟨F1, ρ1, xx, _, r1, q1, fun o ρ2 F2 H2 q2 e2 r2 => ⟨F2, ρ2, xx, _, r2, q2, fun u ρ3 F3 H3 q3 e3 r3 => ?_⟩⟩⟩
  obtain ⟨d, bd, q3⟩ := see_bo r3 (h1.mono (e2.trans e3)) q3
  have ex := r3.w.fh
  split at q3
  · obtain ⟨a, xs, rfl, s1, t1⟩ := bo_lst ex bd
    refine .inl (.inl ⟨a, xs, rfl, by rw [hK]; exact s1, fun p hp => ?_⟩)
    exact k _ ρ3 _ _ _ q3 (((e1.trans e2).trans e3).trans (r3.efF _ hp)) (r3.newF _ hp) (.lst (.inl (.inl upd_same)) ((cut_at t1 o u).mono (r3.efF _ hp)))
  · obtain ⟨a, xs, rfl, f1, s1, t1⟩ := bo_tup ex bd
    refine .inl (.inr ⟨a, xs, rfl, by rw [hK]; exact s1, fun hw => ?_, fun _ p hp => ?_⟩)
    · refine k _ ρ3 _ F3 H3 q3 ((e1.trans e2).trans e3) r3 ?_
      have hc := cut_at t1 o u
      have hz : cutV xs o u = xs := by
        unfold cutV
        rw [hw.1, hw.2]
        simp
      rw [hz] at hc
      exact .tup f1 hc
    · exact k _ ρ3 _ _ _ q3 (((e1.trans e2).trans e3).trans (r3.efF _ hp)) (r3.newF _ hp) (.tup (.inl (.inl upd_same)) ((cut_at t1 o u).mono (r3.efF _ hp)))
  · cases bo_str bd
    exact .inr ⟨_, rfl, sz q3.1, k _ ρ3 _ F3 H3 q3.2 ((e1.trans e2).trans e3) r3 (.str _)⟩
  · exact q3.elim
theorem tru_of {F H : Hp} {v : V} {d : D} (r : Ex F H) (b : Bo c F H v d) (hd : ∀ s, d = .str s → s.length ≤ 1000000) (hn : ∀ kd, d ≠ .dict kd) : TruV c.K v H (truD d) := by
  cases d with
  | none => cases bo_non b; rfl
  | bool x => cases bo_bl b; rfl
  | int i => cases bo_int b; rfl
  | str s =>
    cases bo_str b
    refine ⟨sz (hd s rfl), ?_⟩
    show (s.length != 0) = ((s.length : Int) != 0)
    cases h : s.length with
    | zero => rfl
    | succ n =>
      have h1 : (n + 1 != 0) = true := by simp
      have h2 : (((n + 1 : Nat) : Int) != 0) = true := by simp only [bne_iff_ne, ne_eq]; omega
      rw [h1, h2]
  | list xs =>
    obtain ⟨a, ys, rfl, s1, t1⟩ := bo_lst r b
    refine .inl ⟨ys, s1, ?_⟩
    cases t1 <;> rfl
  | tuple xs =>
    obtain ⟨a, ys, rfl, _, s1, t1⟩ := bo_tup r b
    refine .inr (.inl ⟨ys, s1, ?_⟩)
    cases t1 <;> rfl
  | dict kd => exact absurd rfl (hn kd)
def bTruth (f : HM) : BM := fun ρ P => f ρ fun h ρ1 => see ρ1 h fun d => match d with
  | .str s => s.length ≤ 1000000 ∧ P (truD (.str s)) ρ1
  | .dict _ => False
  | d => P (truD d) ρ1
theorem dt_truth {f : HM} (hK : X.K = c.K) (ha : PE X e (tH c f)) (he : ∀ whole, isTrue e X.env whole = (do let v ← whole; standAt e.pos; holding [v] (truthy v)) := by intro _; rfl) : PT X e (tT c (bTruth f)) := by
  refine PT.to (pt_truth ha he) ?_
  rintro σ H Q ⟨F, ρ, xx, P, rel, q, k⟩
  refine ⟨F, ρ, xx, _, rel, q, fun h ρ1 v F1 H1 q1 e1 r1 h1 => ?_⟩
  obtain ⟨d, bd, q1⟩ := see_bo r1 h1 q1
  rw [hK]
  cases d with
  | str s => exact ⟨_, tru_of r1.w.fh bd (fun t ht => by cases ht; exact q1.1) (fun _ z => by cases z), k _ ρ1 F1 H1 q1.2 e1 r1⟩
  | dict kd => exact q1.elim
  | _ => exact ⟨_, tru_of r1.w.fh bd (fun t ht => by cases ht) (fun _ z => by cases z), k _ ρ1 F1 H1 q1 e1 r1⟩
abbrev HLM := Env → (List Hd → Env → Prop) → Prop
def tHL (c : Cn) (f : HLM) : TA := fun σ H Q => ∃ F ρ xx P, Rel c F H σ ρ xx ∧ f ρ P ∧ ∀ hs ρ' vs F' H', P hs ρ' → Ex F F' → Rel c F' H' σ ρ' xx → Paired (fun v h => HdAt c F' σ h v) vs hs → Q vs H'
def gNil : HLM := fun ρ P => P [] ρ
def gCons (f : HM) (g : HLM) : HLM := fun ρ P => f ρ fun h ρ1 => g ρ1 fun hs ρ2 => P (h :: hs) ρ2
theorem dg_nil : PA X [] (tHL c gNil) := PA.to pa_nil fun σ H Q ⟨F, ρ, xx, P, rel, q, k⟩ => k [] ρ [] F H q (Ex.refl F) rel .nil
theorem dg_cons {es : List Expr} {f : HM} {g : HLM} (ha : PE X e (tH c f)) (hr : PA X es (tHL c g)) (hs : starEach (e :: es) X.env = (false, eval e X.env) :: starEach es X.env := by rfl) : PA X (e :: es) (tHL c (gCons f g)) :=
  PA.to (pa_cons ha hr hs) fun σ H Q ⟨F, ρ, xx, P, rel, q, k⟩ => ⟨F, ρ, xx, _, rel, q, fun d ρ1 v F1 H1 q1 e1 r1 a1 => ⟨F1, ρ1, xx, _, r1, q1, fun ds ρ2 vs F2 H2 q2 e2 r2 a2 =>
    k (d :: ds) ρ2 (v :: vs) F2 H2 q2 (e1.trans e2) r2 (.cons (a1.mono e2) a2)⟩⟩
def seeAll (ρ : Env) : List Hd → (List D → Prop) → Prop
  | [], k => k []
  | h :: hs, k => see ρ h fun d => seeAll ρ hs fun ds => k (d :: ds)
theorem seeAll_bo {F H : Hp} {σ : L2.St} {ρ : Env} {xx : XX} (r : Rel c F H σ ρ xx) : ∀ {vs : List V} {hs : List Hd}, Paired (fun v h => HdAt c F σ h v) vs hs → ∀ {k : List D → Prop}, seeAll ρ hs k → ∃ ds, Paired (Bo c F H) vs ds ∧ k ds
  | _, _, .nil, k, h => ⟨[], .nil, h⟩
  | _, _, .cons h t, k, q => by
    obtain ⟨d, b, q⟩ := see_bo r h q
    obtain ⟨ds, bs, q⟩ := seeAll_bo r t q
    exact ⟨d :: ds, .cons b bs, q⟩
abbrev GC := List D → (D → Prop) → Prop
def SemC (X : Cx) (c : Cn) (f : Value) (g : GC) : Prop := ∃ r : List V → Hp → VK → Prop, CallR X f r ∧ ∀ (F H : Hp) (σ : L2.St) (ρ : Env) (xx : XX) (ds : List D) (vs : List V) (P : D → Prop) (Q : VK), Rel c F H σ ρ xx → Paired (Bo c F H) vs ds → g ds P →
  (∀ z v F' H', P z → Ex F F' → Rel c F' H' σ ρ xx → At c.K F' v z → Q v H') → r vs H Q
def dCB (g : GC) (f : HLM) : DM := fun ρ P => f ρ fun hs ρ1 => seeAll ρ1 hs fun ds => g ds fun z => P z ρ1
theorem dCB_use {f : Value} {g : GC} {fh : HLM} {r : List V → Hp → VK → Prop} (hr : ∀ (F H : Hp) (σ : L2.St) (ρ : Env) (xx : XX) (ds : List D) (vs : List V) (P : D → Prop) (Q : VK), Rel c F H σ ρ xx → Paired (Bo c F H) vs ds → g ds P →
    (∀ z v F' H', P z → Ex F F' → Rel c F' H' σ ρ xx → At c.K F' v z → Q v H') → r vs H Q) : ∀ σ H Q, tD c (dCB g fh) σ H Q → tCB r (tHL c fh) σ H Q := by
  rintro σ H Q ⟨F, ρ, xx, P, rel, q, k⟩
  refine ⟨F, ρ, xx, _, rel, q, fun hs ρ1 vs F1 H1 q1 e1 r1 h1 => ?_⟩
  obtain ⟨ds, bs, q1⟩ := seeAll_bo r1 h1 q1
  exact hr F1 H1 σ ρ1 xx ds vs _ Q r1 bs q1 fun z v F' H' pz ez rz az => k z ρ1 v F' H' pz (e1.trans ez) rz az
variable {x : Str} {p : Pos} {es : List Expr} {fh : HLM} {g : GC}
theorem de_cb {id : String} (hs : SemC X c (.builtin id) g) (hg : Gl X x) (hm : X.mg x = none) (hv : bootBuiltins x = some (.builtin id)) (ha : PA X (e :: es) (tHL c fh)) (hn : x ≠ "__name__" := by decide) (hdb : (x == ("__debug__" : Str)) = false := by decide)
    (he : starEach (e :: es) X.env = (false, eval e X.env) :: starEach es X.env := by rfl) (hpl : (backTo pos (starEach es X.env)).any (·.1) = false := by rfl) : PE X (.Call (.Name x p) (e :: es) [] pos) (tD c (dCB g fh)) := by
  obtain ⟨r, ho, hr⟩ := hs
  exact PE.to (pe_callB ho hg hm hv ha hn hdb he hpl) (dCB_use (f := .none) hr)
theorem de_ct {T : String} (hs : SemC X c (.type T) g) (hg : Gl X x) (hm : X.mg x = none) (hv : bootBuiltins x = some (.type T)) (ha : PA X (e :: es) (tHL c fh)) (hn : x ≠ "__name__" := by decide) (hdb : (x == ("__debug__" : Str)) = false := by decide)
    (he : starEach (e :: es) X.env = (false, eval e X.env) :: starEach es X.env := by rfl) (hpl : (backTo pos (starEach es X.env)).any (·.1) = false := by rfl) : PE X (.Call (.Name x p) (e :: es) [] pos) (tD c (dCB g fh)) := by
  obtain ⟨r, ho, hr⟩ := hs
  exact PE.to (pe_callTy ho hg hm hv ha hn hdb he hpl) (dCB_use (f := .none) hr)
theorem pr1 {R : V → D → Prop} {vs : List V} {d : D} (h : Paired R vs [d]) : ∃ v, vs = [v] ∧ R v d := by
  cases h with
  | cons a t => cases t; exact ⟨_, rfl, a⟩
theorem pr2 {R : V → D → Prop} {vs : List V} {d d' : D} (h : Paired R vs [d, d']) : ∃ v u, vs = [v, u] ∧ R v d ∧ R u d' := by
  cases h with
  | cons a t => cases t with
    | cons b t => cases t; exact ⟨_, _, rfl, a, b⟩
def gLen : GC := fun ds P => match ds with
  | [.list xs] => P (.int xs.length)
  | [.tuple xs] => P (.int xs.length)
  | [.str s] => s.length ≤ 1000000 ∧ P (.int s.length)
  | _ => False
theorem sem_len (hK : X.K = c.K) : SemC X c (.builtin "len") gLen := by
  refine ⟨_, call_len, fun F H σ ρ xx ds vs P Q r bs g k => ?_⟩
  unfold gLen at g
  split at g
  · obtain ⟨v, rfl, b⟩ := pr1 bs
    obtain ⟨a, ys, rfl, s1, t1⟩ := bo_lst r.w.fh b
    exact ⟨_, _, rfl, .inl ⟨ys, by rw [hK]; exact s1, rfl⟩, by rw [t1.length]; exact k _ _ F H g (Ex.refl F) r (.int _)⟩
  · obtain ⟨v, rfl, b⟩ := pr1 bs
    obtain ⟨a, ys, rfl, _, s1, t1⟩ := bo_tup r.w.fh b
    exact ⟨_, _, rfl, .inr ⟨ys, by rw [hK]; exact s1, rfl⟩, by rw [t1.length]; exact k _ _ F H g (Ex.refl F) r (.int _)⟩
  · obtain ⟨v, rfl, b⟩ := pr1 bs
    cases bo_str b
    exact ⟨_, _, rfl, ⟨sz g.1, rfl⟩, k _ _ F H g.2 (Ex.refl F) r (.int _)⟩
  · exact g.elim
def gInt : GC := fun ds P => match ds with
  | [.int i] => P (.int i)
  | [.bool b] => P (.int (if b then 1 else 0))
  | _ => False
theorem sem_int : SemC X c (.type "int") gInt := by
  refine ⟨_, call_int1, fun F H σ ρ xx ds vs P Q r bs g k => ?_⟩
  unfold gInt at g
  split at g
  · obtain ⟨v, rfl, b⟩ := pr1 bs
    cases bo_int b
    exact .inl ⟨_, rfl, k _ _ F H g (Ex.refl F) r (.int _)⟩
  · obtain ⟨v, rfl, b⟩ := pr1 bs
    cases bo_bl b
    exact .inr ⟨_, rfl, k _ _ F H g (Ex.refl F) r (.int _)⟩
  · exact g.elim
/-- a list of numbers, of truths -/
def ofInts : List D → Option (List Int)
  | [] => some []
  | .int i :: ds => (ofInts ds).map (i :: ·)
  | _ :: _ => none
theorem ofInts_eq : ∀ {ds : List D} {ns : List Int}, ofInts ds = some ns → ds = ns.map PyData.int
  | [], ns, h => by cases h; rfl
  | .int i :: ds, ns, h => by
    unfold ofInts at h
    cases e : ofInts ds with
    | none => (rw [e] at h; cases h)
    | some ms =>
      rw [e] at h
      cases h
      rw [ofInts_eq e]
      rfl
  | .none :: _, _, h => nomatch h
  | .bool _ :: _, _, h => nomatch h
  | .str _ :: _, _, h => nomatch h
  | .list _ :: _, _, h => nomatch h
  | .tuple _ :: _, _, h => nomatch h
  | .dict _ :: _, _, h => nomatch h
/-- a built-in over one list of numbers -/
def gIL (k : List Int → (D → Prop) → Prop) : GC := fun ds P => match ds with
  | [.list xs] => ∃ ns, ofInts xs = some ns ∧ k ns P
  | _ => False
theorem gil_use {k0 : List Int → (D → Prop) → Prop} {F H : Hp} {σ : L2.St} {ρ : Env} {xx : XX} {ds : List D} {vs : List V} {P : D → Prop} (r : Rel c F H σ ρ xx) (bs : Paired (Bo c F H) vs ds) (g : gIL k0 ds P) : ∃ a ns, vs = [V.ref a] ∧ SqL c.K H a (ns.map V.int) ∧ k0 ns P := by
  unfold gIL at g
  split at g
  · obtain ⟨v, rfl, b⟩ := pr1 bs
    obtain ⟨ns, hn, g⟩ := g
    obtain ⟨a, ys, rfl, s1, t1⟩ := bo_lst r.w.fh b
    rw [ofInts_eq hn] at t1
    rw [t1.ints] at s1
    exact ⟨a, ns, rfl, s1, g⟩
  · exact g.elim
def gMin : GC := fun ds P => match ds with
  | [.int i, .int j] => P (.int (min i j))
  | ds => gIL (fun ns P => ns ≠ [] ∧ ∀ m, m ∈ ns → (∀ y, y ∈ ns → m ≤ y) → P (.int m)) ds P
theorem sem_min (hK : X.K = c.K) (hc : X.calm = true) : SemC X c (.builtin "min") gMin :=
  ⟨_, CallR.or (call_min2 hc) (cr_min hc), fun F H σ ρ xx ds vs P Q r bs g k => by
    unfold gMin at g
    split at g
    · obtain ⟨v, u, rfl, b1, b2⟩ := pr2 bs
      cases bo_int b1; cases bo_int b2
      rename_i i j
      refine .inl ⟨i, j, rfl, ?_⟩
      have e : (if j < i then j else i) = min i j := by split <;> omega
      rw [e]
      exact k _ _ F H g (Ex.refl F) r (.int _)
    · obtain ⟨a, ns, rfl, s1, hne, g⟩ := gil_use r bs g
      exact .inr ⟨a, ns, rfl, by rw [hK]; exact s1, List.length_pos_iff.mpr hne, fun m h1 h2 => k _ _ F H (g m h1 h2) (Ex.refl F) r (.int _)⟩⟩
def gTuple : GC := fun ds P => match ds with
  | [.list xs] => P (.tuple xs)
  | [.tuple xs] => P (.tuple xs)
  | _ => False
theorem sem_tuple (hK : X.K = c.K) : SemC X c (.type "tuple") gTuple := by
  refine ⟨_, call_tuple_of, fun F H σ ρ xx ds vs P Q r bs g k => ?_⟩
  unfold gTuple at g
  split at g
  · obtain ⟨v, rfl, b⟩ := pr1 bs
    obtain ⟨a, ys, rfl, s1, t1⟩ := bo_lst r.w.fh b
    exact ⟨a, ys, rfl, .inl ⟨by rw [hK]; exact s1, fun q hq => k _ _ _ _ g (r.efF _ hq) (r.newF _ hq) (.tup (.inl (.inl upd_same)) (t1.mono (r.efF _ hq)))⟩⟩
  · obtain ⟨v, rfl, b⟩ := pr1 bs
    obtain ⟨a, ys, rfl, f1, s1, t1⟩ := bo_tup r.w.fh b
    exact ⟨a, ys, rfl, .inr ⟨by rw [hK]; exact s1, k _ _ F H g (Ex.refl F) r (.tup f1 t1)⟩⟩
  · exact g.elim
def gList : GC := fun ds P => match ds with
  | [.list xs] => P (.list xs)
  | [.tuple xs] => P (.list xs)
  | _ => False
/-- list(..): a new one -/
theorem dn_list (hK : X.K = c.K) (hg : Gl X "list") (hm : X.mg "list" = none) (ha : PA X [e] (tHL c fh)) (he : starEach [e] X.env = (false, eval e X.env) :: starEach [] X.env := by rfl) (hpl : (backTo pos (starEach [] X.env)).any (·.1) = false := by rfl) :
    PE X (.Call (.Name "list" p) [e] [] pos) (tN c (dCB gList fh)) := by
  refine PE.to (pe_callTy call_list_of hg hm (by decide +kernel) ha (by decide) (by decide) he hpl) ?_
  rintro σ H Q ⟨F, ρ, xx, P, rel, q, k⟩
  refine ⟨F, ρ, xx, _, rel, q, fun hs ρ1 vs F1 H1 q1 e1 r1 h1 => ?_⟩
  obtain ⟨ds, bs, q1⟩ := seeAll_bo r1 h1 q1
  unfold gList at q1
  split at q1
  · obtain ⟨v, rfl, b⟩ := pr1 bs
    obtain ⟨a, ys, rfl, s1, t1⟩ := bo_lst r1.w.fh b
    refine ⟨a, ys, rfl, .inl (by rw [hK]; exact s1), fun l hl => ?_⟩
    obtain ⟨r2, fr⟩ := Fresh.new (o := .lst ys) r1 hl (d := .d <| .list _) ⟨ys, upd_same, t1⟩
    exact k _ ρ1 _ _ _ q1 e1 r2 fr
  · obtain ⟨v, rfl, b⟩ := pr1 bs
    obtain ⟨a, ys, rfl, _, s1, t1⟩ := bo_tup r1.w.fh b
    refine ⟨a, ys, rfl, .inr (by rw [hK]; exact s1), fun l hl => ?_⟩
    obtain ⟨r2, fr⟩ := Fresh.new (o := .lst ys) r1 hl (d := .d <| .list _) ⟨ys, upd_same, t1⟩
    exact k _ ρ1 _ _ _ q1 e1 r2 fr
  · exact q1.elim
end
end DL
namespace DL
open PySem L2
structure DE where
  nx : Env → Prop
  rt : D → Env → Prop
  bk : Env → Prop
  ct : Env → Prop
abbrev SM := DE → Env → Prop
def tS (c : Cn) (g : SM) : TS := fun Z σ H => ∃ F ρ xx E, Rel c F H σ ρ xx ∧ g E ρ ∧ (∀ ρ' σ' F' H', E.nx ρ' → Ex F F' → Rel c F' H' σ' ρ' xx → Z.nx σ' H') ∧ (∀ d v ρ' σ' F' H', E.rt d ρ' → Rel c F' H' σ' ρ' xx → At c.K F' v d → Z.rt v H') ∧
  (∀ ρ' σ' F' H', E.bk ρ' → Ex F F' → Rel c F' H' σ' ρ' xx → Z.bk σ' H') ∧ (∀ ρ' σ' F' H', E.ct ρ' → Ex F F' → Rel c F' H' σ' ρ' xx → Z.ct σ' H')
theorem PS.to {X : Cx} {st : Stmt} {t t' : TS} (h : PS X st t) (w : ∀ Z σ H, t' Z σ H → t Z σ H) : PS X st t' := ⟨fun pins s σ H Z I q => h.run pins s σ H Z I (w Z σ H q)⟩
theorem PSs.to {X : Cx} {st : List Stmt} {t t' : TS} (h : PSs X st t) (w : ∀ Z σ H, t' Z σ H → t Z σ H) : PSs X st t' := ⟨fun pins s σ H Z I q => h.run pins s σ H Z I (w Z σ H q)⟩
section
variable {X : Cx} {c : Cn} {st : Stmt} {rest : List Stmt} {e : Expr} {pos : Pos}
def sSeq (g h : SM) : SM := fun E ρ => g { E with nx := h E } ρ
def sNo : SM := fun E ρ => E.nx ρ
theorem ds_cons {g h : SM} (h1 : PS X st (tS c g)) (h2 : PSs X rest (tS c h)) : PSs X (st :: rest) (tS c (sSeq g h)) :=
  PSs.to (pss_cons h1 h2) fun Z σ H ⟨F, ρ, xx, E, rel, q, n, r, b, t⟩ => ⟨F, ρ, xx, _, rel, q, fun ρ' σ' F' H' p e rel' => ⟨F', ρ', xx, E, rel', p, fun ρ2 σ2 F2 H2 p2 e2 => n ρ2 σ2 F2 H2 p2 (e.trans e2), r,
    fun ρ2 σ2 F2 H2 p2 e2 => b ρ2 σ2 F2 H2 p2 (e.trans e2), fun ρ2 σ2 F2 H2 p2 e2 => t ρ2 σ2 F2 H2 p2 (e.trans e2)⟩, r, b, t⟩
theorem ds_one {g : SM} (h1 : PS X st (tS c g)) : PSs X [st] (tS c g) := pss_one h1
theorem ds_nil : PSs X [] (tS c sNo) := PSs.to pss_nil fun Z σ H ⟨F, ρ, xx, E, rel, q, n, r, b, t⟩ => n ρ σ F H q (Ex.refl F) rel
def sNever : SM := fun _ _ => False
theorem ds_never : PSs X rest (tS c sNever) := PSs.to pss_never fun Z σ H ⟨F, ρ, xx, E, rel, q, n, r, b, t⟩ => q.elim
def sRet (f : DM) : SM := fun E ρ => f ρ fun d ρ1 => E.rt d ρ1
theorem dp_ret {f : DM} (h : PE X e (tD c f)) : PS X (.Return (some e) pos) (tS c (sRet f)) :=
  PS.to (ps_ret h) fun Z σ H ⟨F, ρ, xx, E, rel, q, n, r, b, t⟩ => ⟨F, ρ, xx, _, rel, q, fun d ρ' v F' H' p e r' a => r d v ρ' σ F' H' p r' a⟩
def sRetN : SM := fun E ρ => E.rt .none ρ
def sIf (t : BM) (g h : SM) : SM := fun E ρ => t ρ fun b ρ1 => if b = true then g E ρ1 else h E ρ1
theorem dp_if {t : BM} {a b : List Stmt} {g h : SM} (hc : PT X e (tT c t)) (ha : PSs X a (tS c g)) (hb : PSs X b (tS c h)) : PS X (.If e a b pos) (tS c (sIf t g h)) :=
  PS.to (ps_if hc ha hb) fun Z σ H ⟨F, ρ, xx, E, rel, q, n, r, b, t⟩ => ⟨F, ρ, xx, _, rel, q, fun d ρ1 F1 H1 q1 e1 r1 => by
    have go : ∀ {g : SM}, g E ρ1 → tS c g Z σ H1 := fun q => ⟨F1, ρ1, xx, E, r1, q, fun ρ2 σ2 F2 H2 p2 e2 => n ρ2 σ2 F2 H2 p2 (e1.trans e2), r,
      fun ρ2 σ2 F2 H2 p2 e2 => b ρ2 σ2 F2 H2 p2 (e1.trans e2), fun ρ2 σ2 F2 H2 p2 e2 => t ρ2 σ2 F2 H2 p2 (e1.trans e2)⟩
    cases d with
    | true => exact go q1
    | false => exact go q1⟩
def sExpr (f : DM) : SM := fun E ρ => f ρ fun _ ρ1 => E.nx ρ1
theorem dp_expr {f : DM} (h : PE X e (tD c f)) (hs : swapsWith e none pos.line X.env = pure false := by rfl) : PS X (.Expr e pos) (tS c (sExpr f)) :=
  PS.to (ps_expr h hs) fun Z σ H ⟨F, ρ, xx, E, rel, q, n, r, b, t⟩ => ⟨F, ρ, xx, _, rel, q, fun d ρ' v F' H' p e r' a => n ρ' σ F' H' p e r'⟩
abbrev TM := D → Env → (Env → Prop) → Prop
def Only (js : List Nat) (σ σ' : L2.St) : Prop := ∀ vs : List Nat, (∀ j ∈ js, j ∈ vs) → wipe σ' vs = wipe σ vs
def tG (c : Cn) (js : List Nat) (t : TM) : TG := fun v σ H Q => ∃ F ρ xx d P, Rel c F H σ ρ xx ∧ At c.K F v d ∧ t d ρ P ∧ ∀ ρ' σ' F' H', P ρ' → Only js σ σ' → Ex F F' → Rel c F' H' σ' ρ' xx → Q σ' H'
abbrev TMs := List D → Env → (Env → Prop) → Prop
def tGs (c : Cn) (js : List Nat) (t : TMs) : TGs := fun vs σ H Q => ∃ F ρ xx ds P, Rel c F H σ ρ xx ∧ AtAll c.K F vs ds ∧ t ds ρ P ∧ ∀ ρ' σ' F' H', P ρ' → Only js σ σ' → Ex F F' → Rel c F' H' σ' ρ' xx → Q σ' H'
theorem PG.to {tg : Expr} {t t' : TG} (h : PG X tg t) (w : ∀ v σ H Q, t' v σ H Q → t v σ H Q) : PG X tg t' := ⟨fun pins s σ H v u Q I r q => h.run pins s σ H v u Q I r (w v σ H Q q)⟩
theorem PGs.to {ts : List Expr} {t t' : TGs} (h : PGs X ts t) (w : ∀ v σ H Q, t' v σ H Q → t v σ H Q) : PGs X ts t' := ⟨fun pins s σ H v u Q I r q => h.run pins s σ H v u Q I r (w v σ H Q q)⟩
theorem only_set (i : Nat) (σ : L2.St) (v : V) : Only [i] σ (σ.set i (some v)) := fun vs h => by
  have hi : i ∈ vs := h i (List.mem_singleton.mpr rfl)
  clear h
  induction vs with
  | nil => cases hi
  | cons w ws ih =>
    show (wipe (σ.set i (some v)) ws).set w none = (wipe σ ws).set w none
    by_cases hw : i ∈ ws
    · rw [ih hw]
    · have e : w = i := by
        rcases List.mem_cons.mp hi with h | h
        · exact h.symm
        · exact absurd h hw
      subst e
      have z : ∀ ws : List Nat, wipe (σ.set w (some v)) ws = (wipe σ ws).set w (some v) ∨ w ∈ ws := fun ws => by
        induction ws with
        | nil => exact .inl rfl
        | cons y ys ih2 =>
          by_cases h1 : w = y
          · exact .inr (by rw [h1]; exact List.mem_cons_self ..)
          · rcases ih2 with h2 | h2
            · left
              show (wipe (σ.set w (some v)) ys).set y none = ((wipe σ ys).set y none).set w (some v)
              rw [h2, List.set_comm _ _ h1]
            · exact .inr (List.mem_cons_of_mem _ h2)
      rcases z ws with h2 | h2
      · rw [h2, List.set_set]
      · exact absurd h2 hw
theorem Only.trans {js ks : List Nat} {σ σ' σ'' : L2.St} (a : Only js σ σ') (b : Only ks σ' σ'') : Only (js ++ ks) σ σ'' := fun vs h =>
  (b vs fun j hj => h j (List.mem_append_right _ hj)).trans (a vs fun j hj => h j (List.mem_append_left _ hj))
def gN (i : Nat) : TM := fun d ρ P => P (ρ.set i (.im d))
theorem dg_name {i : Nat} {x : Str} (hN : X.N.Nodup) (hi : X.N[i]? = some x) (hx : Loc X.env.scope x) (hf : X.fn x = true ∨ X.env.scope.names.lookup x = some .local := by first | exact .inl rfl | exact .inr rfl | assumption) : PG X (.Name x pos) (tG c [i] (gN i)) :=
  PG.to (pg_name hN hi hx hf) fun v σ H Q ⟨F, ρ, xx, d, P, rel, a, q, k⟩ => k _ _ F H q (only_set i σ v) (Ex.refl F) (rel.putI i a)
def gNoT : TMs := fun ds ρ P => ds = [] ∧ P ρ
def gConsT (t : TM) (u : TMs) : TMs := fun ds ρ P => match ds with
  | d :: ds => t d ρ fun ρ1 => u ds ρ1 P
  | [] => False
theorem dgs_nil : PGs X [] (tGs c [] gNoT) := PGs.to pgs_nil fun v σ H Q ⟨F, ρ, xx, ds, P, rel, a, ⟨e, q⟩, k⟩ => by
  subst e
  cases a
  exact ⟨rfl, k _ _ F H q (fun _ _ => rfl) (Ex.refl F) rel⟩
theorem dgs_cons {tg : Expr} {ts : List Expr} {js ks : List Nat} {t : TM} {u : TMs} (h1 : PG X tg (tG c js t)) (h2 : PGs X ts (tGs c ks u))
    (hs : (assignEach (tg :: ts) X.env).map (·.2) = assign tg X.env :: (assignEach ts X.env).map (·.2) := by rfl) : PGs X (tg :: ts) (tGs c (js ++ ks) (gConsT t u)) :=
  PGs.to (pgs_cons h1 h2 hs) fun v σ H Q ⟨F, ρ, xx, ds, P, rel, a, q, k⟩ => by
    cases a with
    | nil => exact False.elim q
    | cons a1 a2 => exact ⟨_, _, rfl, F, ρ, xx, _, _, rel, a1, q, fun ρ1 σ1 F1 H1 q1 o1 e1 r1 => ⟨F1, ρ1, xx, _, P, r1, a2.mono e1, q1, fun ρ2 σ2 F2 H2 q2 o2 e2 r2 => k ρ2 σ2 F2 H2 q2 (o1.trans o2) (e1.trans e2) r2⟩⟩
def gTupT (n : Nat) (t : TMs) : TM := fun d ρ P => match d with
  | .tuple ds => ds.length = n ∧ t ds ρ P
  | _ => False
theorem dg_tup {es : List Expr} {k : Nat} {js : List Nat} {t : TMs} {n : Nat} (hK : X.K = c.K) (hc : X.calm = true) (h : PGs X es (tGs c js t))
    (hn : (assignEach es X.env).length = n := by rfl) (hst : (assignEach es X.env).findIdx? (·.1) = none := by rfl) : PG X (.Tuple es k pos) (tG c js (gTupT n t)) :=
  PG.to (pg_tup hc h hn hst) fun v σ H Q ⟨F, ρ, xx, d, P, rel, a, q, k⟩ => by
    cases a with
    | tup s1 a1 => exact ⟨_, _, rfl, by rw [hK]; exact rel.w.fh.st s1, by rw [a1.length]; exact q.1, F, ρ, xx, _, P, rel, a1, q.2, k⟩
    | _ => exact False.elim q
def sAsg (f : DM) (t : TM) : SM := fun E ρ => f ρ fun d ρ1 => t d ρ1 E.nx
theorem dp_asg {tg : Expr} {f : DM} {js : List Nat} {t : TM} (he : PE X e (tD c f)) (hg : PG X tg (tG c js t)) (hs : swapsWithSole [tg] e pos.line X.env = pure false := by rfl) (hw : swappedStores [tg] e X.env = pure none := by rfl)
    (h1 : (assignEach [tg] X.env).map (·.2) = [assign tg X.env] := by rfl) : PS X (.Assign [tg] e pos) (tS c (sAsg f t)) :=
  PS.to (ps_asg he hg hs hw h1) fun Z σ H ⟨F, ρ, xx, E, rel, q, n, r, b, t⟩ => ⟨F, ρ, xx, _, rel, q, fun d ρ' v F' H' p e r' a => ⟨F', ρ', xx, d, _, r', a, p, fun ρ2 σ2 F2 H2 p2 _ e2 r2 => n ρ2 σ2 F2 H2 p2 (e.trans e2) r2⟩⟩
def sSet (i : Nat) (f : DM) : SM := fun E ρ => f ρ fun d ρ1 => E.nx (ρ1.set i (.im d))
def sSetN (i : Nat) (f : DM) : SM := fun E ρ => f ρ fun d ρ1 => E.nx (ρ1.set i (.ow d))
theorem set_use {i : Nat} {f : DM} {te : TE} (et : te = tD c f) : ∀ Z σ H, tS c (sSet i f) Z σ H → tAsg te (gName i) Z σ H := by
  subst et
  exact fun Z σ H ⟨F, ρ, xx, E, rel, q, n, r, b, t⟩ => ⟨F, ρ, xx, _, rel, q, fun d ρ' v F' H' p e r' a => n _ _ F' H' p e (r'.putI i a)⟩
theorem setN_use {i : Nat} {f : DM} {te : TE} (et : te = tN c f) : ∀ Z σ H, tS c (sSetN i f) Z σ H → tAsg te (gName i) Z σ H := by
  subst et
  exact fun Z σ H ⟨F, ρ, xx, E, rel, q, n, r, b, t⟩ => ⟨F, ρ, xx, _, rel, q, fun d ρ' v F' H' p e r' a => n _ _ F' H' p e (r'.putO i a)⟩
variable {x : Str} {i : Nat} {pos' : Pos}
theorem dp_set {f : DM} (hN : X.N.Nodup) (hi : X.N[i]? = some x) (hx : Loc X.env.scope x) (he : PE X e (tD c f)) (hs : swapsWith e (some (.Name x pos')) pos.line X.env = pure false := by rfl)
    (hf : X.fn x = true ∨ X.env.scope.names.lookup x = some .local := by first | exact .inl rfl | exact .inr rfl | assumption) : PS X (.Assign [.Name x pos'] e pos) (tS c (sSet i f)) := PS.to (ps_set hN hi hx he hs hf) (set_use rfl)
theorem dp_setN {f : DM} (hN : X.N.Nodup) (hi : X.N[i]? = some x) (hx : Loc X.env.scope x) (he : PE X e (tN c f)) (hs : swapsWith e (some (.Name x pos')) pos.line X.env = pure false := by rfl)
    (hf : X.fn x = true ∨ X.env.scope.names.lookup x = some .local := by first | exact .inl rfl | exact .inr rfl | assumption) : PS X (.Assign [.Name x pos'] e pos) (tS c (sSetN i f)) := PS.to (ps_set hN hi hx he hs hf) (setN_use rfl)
/-- a, b = x, y -/
def sPar (i j : Nat) (f : LM) : SM := fun E ρ => f ρ fun ds ρ1 => match ds with
  | [a, b] => E.nx ((ρ1.set i (.im a)).set j (.im b))
  | _ => False
theorem dp_par {j : Nat} {y : Str} {a b : Expr} {f : LM} {px py pt : Pos} {kt k2 : Nat} {pt2 : Pos} (hc : X.calm = true) (hN : X.N.Nodup) (hi : X.N[i]? = some x) (hj : X.N[j]? = some y) (hij : i ≠ j)
    (hx : X.env.scope.names.lookup x = some .local) (hy : X.env.scope.names.lookup y = some .local) (ha : PA X [a, b] (tL c f))
    (hw : (swappedStores [.Tuple [.Name x px, .Name y py] kt pt] (.Tuple [a, b] k2 pt2) X.env = pure (some [x, y])))
    (hs : swapsWithSole [.Tuple [.Name x px, .Name y py] kt pt] (.Tuple [a, b] k2 pt2) pos.line X.env = pure false
      := by rfl) :
    PS X (.Assign [.Tuple [.Name x px, .Name y py] kt pt] (.Tuple [a, b] k2 pt2) pos) (tS c (sPar i j f)) :=
  PS.to (ps_par hc hN hi hj hij hx hy ha hw hs) fun Z σ H ⟨F, ρ, xx, E, rel, q, n, r, bb, t⟩ => ⟨F, ρ, xx, _, rel, q, fun ds ρ' vs F' H' p e r' a => by
    split at p
    · cases a with
      | cons a1 a2 => cases a2 with
        | cons a2 a3 =>
          cases a3
          exact ⟨_, _, rfl, n _ _ F' H' p e ((r'.putI i a1).putI j a2)⟩
    · exact p.elim⟩
/-- x += e -/
def sAug (i : Nat) (g : G2) (f : HM) : SM := fun E ρ => (match ρ[i]? with
  | some (.im _) => True
  | _ => False) ∧ f ρ fun h ρ1 => match ρ1[i]? with
  | some (.im d) => see ρ1 h fun dy => g d dy fun z => E.nx (ρ1.set i (.im z))
  | _ => False
def ipG (r : R2) : TIp := fun x y H Q => r x y H Q
theorem dp_aug {op : Operator} {g : G2} {f : HM} (hN : X.N.Nodup) (hi : X.N[i]? = some x) (hx : Loc X.env.scope x) (he : PE X e (tH c f)) (hs : Sem2 X c (inplaceOp op) g)
    (hf : X.fn x = true ∨ X.env.scope.names.lookup x = some .local := by first | exact .inl rfl | exact .inr rfl | assumption) : PS X (.AugAssign (.Name x pos') op e pos) (tS c (sAug i g f)) := by
  obtain ⟨r, ho, hr⟩ := hs
  refine PS.to (ps_aug (ti := ipG r) hN hi hx he ho hf) ?_
  rintro Z σ H ⟨F, ρ, xx, E, rel, ⟨q0, q⟩, n, rr, b, t⟩
  split at q0
  · rename_i d e0
    obtain ⟨v, g1, g2⟩ := rel.s.im i d e0
    refine ⟨v, g1, F, ρ, xx, _, rel, q, fun h ρ1 u F1 H1 q1 e1 r1 h1 => ?_⟩
    split at q1
    · rename_i d1 e2
      obtain ⟨v', g1', g2'⟩ := r1.s.im i d1 e2
      rw [g1] at g1'
      cases g1'
      obtain ⟨dy, by_, q1⟩ := see_bo r1 h1 q1
      exact hr F1 H1 σ ρ1 xx d1 dy v u _ _ r1 (.inl g2') by_ q1 fun z w F2 H2 pz ez rz az => n _ _ F2 H2 pz (e1.trans ez) (rz.putI i az)
    · exact q1.elim
  · exact q0.elim
abbrev IM := Env → (List D → Env → Prop) → Prop
def ItOk (c : Cn) (J : It) (ds : List D) (F : Hp) : Prop := ∀ (i : Nat) (F' H : Hp) (σ : L2.St) (ρ : Env) (xx : XX), Ex F F' → Rel c F' H σ ρ xx →
  (∀ d, ds[i]? = some d → J.go i H ∧ ∀ x H', J.yld i H x H' → ∃ F2, Ex F' F2 ∧ Rel c F2 H' σ ρ xx ∧ At c.K F2 x d) ∧ (ds.length = i → J.stop i H)
def tI (c : Cn) (f : IM) : TI := fun σ H R => ∃ F ρ xx P, Rel c F H σ ρ xx ∧ f ρ P ∧ ∀ ds ρ' J F' H', P ds ρ' → Ex F F' → Rel c F' H' σ ρ' xx → ItOk c J ds F' → R J H'
theorem PI.to {tg iter : Expr} {t t' : TI} (h : PI X tg iter t) (w : ∀ σ H Q, t' σ H Q → t σ H Q) : PI X tg iter t' := ⟨fun pins s σ H Q I q => h.run pins s σ H Q I (w σ H Q q)⟩
def forL (t : TM) (body : SM) (E : DE) : List D → Env → Prop
  | [], ρ => E.nx ρ
  | d :: ds, ρ => t d ρ fun ρ1 => body ⟨forL t body E ds, E.rt, E.nx, forL t body E ds⟩ ρ1
def sFor (f : IM) (t : TM) (body : SM) : SM := fun E ρ => f ρ fun ds ρ1 => forL t body E ds ρ1
theorem dp_for {tg iter : Expr} {body : List Stmt} {f : IM} {js : List Nat} {t : TM} {g : SM} (hp : PassesOwn (model X.prog X.w) X.A X.env X.xe) (hc : X.calm = true) (hi : PI X tg iter (tI c f)) (hg : PG X tg (tG c js t)) (hb : PSs X body (tS c g))
    (hs : ∀ x, foldedSetIterable iter X.env x = pure x := by intro _; rfl) : PS X (.For tg iter body [] pos) (tS c (sFor f t g)) := by
  refine PS.to (ps_for hp hc hi hg hb hs) ?_
  rintro Z σ H ⟨F, ρ, xx, E, rel, q, n, r, b, ct⟩
  refine ⟨F, ρ, xx, _, rel, q, fun ds ρ1 J F1 H1 q1 e1 r1 ok => ?_⟩
  refine ⟨fun i m σ' H' => ∃ F' ρ', Ex F1 F' ∧ Rel c F' H' σ' ρ' xx ∧ m = ds.length - i ∧ i ≤ ds.length ∧ forL t g E (ds.drop i) ρ', ⟨ds.length, F1, ρ1, Ex.refl F1, r1, by omega, Nat.zero_le _, by rw [List.drop_zero]; exact q1⟩, ?_⟩
  rintro i m σ' H' ⟨F', ρ', e2, r2, rfl, hi, q2⟩
  obtain ⟨o1, o2⟩ := ok i F' H' σ' ρ' xx e2 r2
  by_cases hlt : i < ds.length
  · have hd : ds[i]? = some ds[i] := List.getElem?_eq_getElem hlt
    obtain ⟨go, yl⟩ := o1 _ hd
    rw [List.drop_eq_getElem_cons hlt] at q2
    have q2 : t ds[i] ρ' fun ρ1 => g ⟨forL t g E (ds.drop (i + 1)), E.rt, E.nx, forL t g E (ds.drop (i + 1))⟩ ρ1 := q2
    refine .inr ⟨go, fun σ2 H2 => ∃ F2 ρ2, Ex F1 F2 ∧ Rel c F2 H2 σ2 ρ2 xx ∧ forL t g E (ds.drop (i + 1)) ρ2, fun σ2 H2 ⟨F2, ρ2, a1, a2, a3⟩ => ⟨ds.length - (i + 1), by omega, F2, ρ2, a1, a2, rfl, by omega, a3⟩, fun v H2 y => ?_⟩
    obtain ⟨F2, e3, r3, a3⟩ := yl v H2 y
    refine ⟨F2, ρ', xx, _, _, r3, a3, q2, fun ρ4 σ4 F4 H4 q4 _ e4 r4 => ?_⟩
    exact ⟨F4, ρ4, xx, _, r4, q4, fun ρ5 σ5 F5 H5 q5 e5 r5 => ⟨F5, ρ5, ((e2.trans e3).trans e4).trans e5, r5, q5⟩, r, fun ρ5 σ5 F5 H5 q5 e5 r5 => n ρ5 σ5 F5 H5 q5 ((((e1.trans e2).trans e3).trans e4).trans e5) r5, fun ρ5 σ5 F5 H5 q5 e5 r5 => ⟨F5, ρ5, ((e2.trans e3).trans e4).trans e5, r5, q5⟩⟩
  · have e : i = ds.length := by omega
    subst e
    rw [List.drop_length] at q2
    exact .inl ⟨o2 rfl, n ρ' σ' F' H' q2 (e1.trans e2) r2⟩
theorem itOk_list {a : Addr} {F : Hp} {ds : List D} {ys : List V} {K : PySem.W.Frag} (hK : K = c.K) (s : SqL c.K F a ys) (t : AtAll c.K F ys ds) : ItOk c (Itl K a) ds F := by
  subst hK
  intro i F' H σ ρ xx e r
  have sq := r.w.fh.sl (e.sl s)
  refine ⟨fun d hd => ?_, fun hl => ⟨ys, sq, by rw [t.length]; exact Nat.le_of_eq hl⟩⟩
  obtain ⟨v, hv, av⟩ := t.get hd
  refine ⟨⟨ys, v, sq, hv⟩, fun x H' ⟨eh, y⟩ => ?_⟩
  subst eh
  have := y ys sq
  rw [hv] at this
  cases this
  exact ⟨F', Ex.refl _, r, av.mono e⟩
theorem itOk_tup {a : Addr} {F : Hp} {ds : List D} {ys : List V} {K : PySem.W.Frag} (hK : K = c.K) (s : SqT c.K F a ys) (t : AtAll c.K F ys ds) : ItOk c (Itt K a) ds F := by
  subst hK
  intro i F' H σ ρ xx e r
  have sq := r.w.fh.st (e.st s)
  refine ⟨fun d hd => ?_, fun hl => ⟨ys, sq, by rw [t.length]; exact Nat.le_of_eq hl⟩⟩
  obtain ⟨v, hv, av⟩ := t.get hd
  refine ⟨⟨ys, v, sq, hv⟩, fun x H' ⟨eh, y⟩ => ?_⟩
  subst eh
  have := y ys sq
  rw [hv] at this
  cases this
  exact ⟨F', Ex.refl _, r, av.mono e⟩
/-- an iterator over a list, a tuple, a text: by what the value is -/
def iAny (K : PySem.W.Frag) (tl : TE) : TI := fun σ H R => tl σ H fun x H1 => (∃ a, x = .ref a ∧ (((∃ xs, SqL K H1 a xs) ∧ R (Itl K a) H1) ∨ ((∃ xs, SqT K H1 a xs) ∧ R (Itt K a) H1))) ∨ ∃ z, x = .str z ∧ R (Its z) H1
theorem pi_any {tg l : Expr} {tl : TE} (hl : PE X l tl) : PI X tg l (iAny X.K tl) := by
  (refine ⟨fun pins s σ H R I h => ?_⟩)
  refine thn (hl.run pins s σ H _ I h) fun v s1 ⟨x, H1, I1, r1, q⟩ => ?_
  have fin : ∀ b, b ∈ [s1.heap.objs.size] → FpOk X pins H1 b := fun b hb => by
    obtain rfl := List.mem_singleton.mp hb
    (exact I1.fpOk (Nat.le_refl _) (I1.hok.fresh (Nat.le_refl _)))
  rcases q with ⟨a, ex, q⟩ | ⟨z, ex, q⟩
  · subst ex
    cases r1
    rcases q with ⟨⟨xs, hs⟩, q⟩ | ⟨⟨xs, hs⟩, q⟩
    · obtain ⟨its, rv, pl, hz⟩ := I1.list hs
      exact wpAny_pyIter_list pl.isList ⟨_, [s1.heap.objs.size], _, _, H1, rfl, I1.kept (t' := s1.toks) fun b o q => Heap.get?_push_of_some _ q, turn_list a _,
        ⟨_, Heap.get?_push_size _ rfl, rfl, rfl⟩, fin, q⟩
    · obtain ⟨its, rv, pl, hz⟩ := I1.tuple hs
      exact wpAny_pyIter_tuple (show s1.heap.IsTuple a its.toArray from pl) ⟨_, [s1.heap.objs.size], _, _, H1, rfl, I1.kept (t' := s1.toks) fun b o q => Heap.get?_push_of_some _ q, turn_tuple a _,
        ⟨_, Heap.get?_push_size _ rfl, rfl, rfl⟩, fin, q⟩
  · subst ex
    obtain ⟨t, rfl⟩ := r1
    cases ha : z.cps.all (· < 128)
    · exact wpAny_pyIter_wide ha (pi_one (tk := s1.toks) I1 _ (turn_str _ z t "str_iterator" (.inr rfl)) ⟨_, Heap.get?_push_size _ rfl, rfl, rfl⟩ q)
    · exact wpAny_pyIter_ascii ha (pi_one (tk := s1.toks) I1 _ (turn_str _ z t "str_ascii_iterator" (.inl rfl)) ⟨_, Heap.get?_push_size _ rfl, rfl, rfl⟩ q)
def signs (z : Str) : List D := z.cps.toList.map fun n => .str ⟨#[n]⟩
theorem itOk_str {z : Str} {F : Hp} : ItOk c (Its z) (signs z) F := by
  intro i F' H σ ρ xx e r
  refine ⟨fun d hd => ?_, fun hl => ?_⟩
  · unfold signs at hd
    rw [List.getElem?_map] at hd
    cases hn : z.cps.toList[i]? with
    | none => rw [hn] at hd; cases hd
    | some n =>
      rw [hn] at hd
      cases hd
      have hi : z.cps[i]? = some n := by simpa using hn
      refine ⟨?_, fun x H' ⟨eh, m, y, ev⟩ => ?_⟩
      · have := (Array.getElem?_eq_some_iff.mp hi).1
        exact this
      · subst eh ev
        rw [hi] at y
        cases y
        exact ⟨F', Ex.refl _, r, .str _⟩
  · unfold signs at hl
    rw [List.length_map, Array.length_toList] at hl
    exact Nat.le_of_eq hl
def iSeq (f : DM) : IM := fun ρ P => f ρ fun d ρ1 => match d with
  | .list ds => P ds ρ1
  | .tuple ds => P ds ρ1
  | .str z => P (signs z) ρ1
  | _ => False
theorem di_seq {tg l : Expr} {f : DM} (hK : X.K = c.K) (hl : PE X l (tD c f)) : PI X tg l (tI c (iSeq f)) := by
  refine PI.to (pi_any hl) ?_
  rintro σ H R ⟨F, ρ, xx, P, rel, q, k⟩
  refine ⟨F, ρ, xx, _, rel, q, fun d ρ1 v F1 H1 q1 e1 r1 a1 => ?_⟩
  split at q1
  · cases a1 with
    | lst s1 t1 => exact .inl ⟨_, rfl, .inl ⟨⟨_, by rw [hK]; exact r1.w.fh.sl s1⟩, k _ ρ1 _ F1 H1 q1 e1 r1 (itOk_list hK s1 t1)⟩⟩
  · cases a1 with
    | tup s1 t1 => exact .inl ⟨_, rfl, .inr ⟨⟨_, by rw [hK]; exact r1.w.fh.st s1⟩, k _ ρ1 _ F1 H1 q1 e1 r1 (itOk_tup hK s1 t1)⟩⟩
  · cases a1
    exact .inr ⟨_, rfl, k _ ρ1 _ F1 H1 q1 e1 r1 itOk_str⟩
  · exact q1.elim
/-- range(n), range(a, b) -/
def rgD (lo hi : Int) : List D := (List.range (hi - lo).toNat).map fun i => .int (lo + (i : Nat))
theorem itOk_range {lo : Int} {n : Nat} {F : Hp} : ItOk c (Itr lo n) ((List.range n).map fun i => .int (lo + (i : Nat))) F := by
  intro i F' H σ ρ xx e r
  refine ⟨fun d hd => ?_, fun hl => show n ≤ i by simp at hl; omega⟩
  rw [List.getElem?_map] at hd
  cases hn : (List.range n)[i]? with
  | none => rw [hn] at hd; cases hd
  | some j =>
    rw [hn] at hd
    cases hd
    obtain ⟨hi, ej⟩ := List.getElem?_eq_some_iff.mp hn
    rw [List.getElem_range] at ej
    subst ej
    refine ⟨show i < n by simpa using hi, fun x H' ⟨eh, y⟩ => ?_⟩
    subst eh y
    exact ⟨F', Ex.refl _, r, .int _⟩
def iRange1 (f : LM) : IM := fun ρ P => f ρ fun ds ρ1 => match ds with
  | [.int n] => (-(2 ^ 62) ≤ n ∧ n < 2 ^ 62) ∧ P (rgD 0 n) ρ1
  | _ => False
def iRange2 (f : LM) : IM := fun ρ P => f ρ fun ds ρ1 => match ds with
  | [.int a, .int b] => (-(2 ^ 62) ≤ a ∧ a < 2 ^ 62 ∧ -(2 ^ 62) ≤ b ∧ b < 2 ^ 62) ∧ P (rgD a b) ρ1
  | _ => False
theorem di_range1 {tg a : Expr} {f : LM} {p : Pos} (hg : Gl X "range") (hm : X.mg "range" = none) (ha : PA X [a] (tL c f)) (hs : starEach [a] X.env = [(false, eval a X.env)] := by rfl) : PI X tg (.Call (.Name "range" p) [a] [] pos) (tI c (iRange1 f)) := by
  refine PI.to (pi_range1 hg hm ha hs) ?_
  rintro σ H R ⟨F, ρ, xx, P, rel, q, k⟩
  refine ⟨F, ρ, xx, _, rel, q, fun ds ρ1 vs F1 H1 q1 e1 r1 a1 => ?_⟩
  split at q1
  · rename_i n
    cases a1 with
    | cons a b =>
      cases b
      cases a
      have hr : rgD 0 n = (List.range n.toNat).map fun i => PyData.int (0 + (i : Nat)) := by
        unfold rgD
        rw [Int.sub_zero]
      rw [hr] at q1
      exact ⟨n, rfl, q1.1.1, q1.1.2, k _ ρ1 _ F1 H1 q1.2 e1 r1 itOk_range⟩
  · exact q1.elim
theorem di_range2 {tg a b : Expr} {f : LM} {p : Pos} (hg : Gl X "range") (hm : X.mg "range" = none) (ha : PA X [a, b] (tL c f)) (hs : starEach [a, b] X.env = [(false, eval a X.env), (false, eval b X.env)] := by rfl) (hs2 : starEach [b] X.env = [(false, eval b X.env)] := by rfl) :
    PI X tg (.Call (.Name "range" p) [a, b] [] pos) (tI c (iRange2 f)) := by
  refine PI.to (pi_range2 hg hm ha hs hs2) ?_
  rintro σ H R ⟨F, ρ, xx, P, rel, q, k⟩
  refine ⟨F, ρ, xx, _, rel, q, fun ds ρ1 vs F1 H1 q1 e1 r1 a1 => ?_⟩
  split at q1
  · cases a1 with
    | cons a b => cases b with
      | cons b t =>
        cases t
        cases a
        cases b
        exact ⟨_, _, rfl, q1.1, k _ ρ1 _ F1 H1 q1.2 e1 r1 itOk_range⟩
  · exact q1.elim
/-- while -/
def sWhile (t : BM) (body : SM) : SM := fun E ρ => ∃ W : Nat → Env → Prop, (∃ m, W m ρ) ∧ ∀ m ρ, W m ρ → t ρ fun b ρ1 => if b = true then body ⟨fun ρ' => ∃ m', m' < m ∧ W m' ρ', E.rt, E.nx, fun ρ' => ∃ m', m' < m ∧ W m' ρ'⟩ ρ1 else E.nx ρ1
theorem dp_while {t : BM} {body : List Stmt} {g : SM} (hp : PassesOwn (model X.prog X.w) X.A X.env X.xe) (hc : PT X e (tT c t)) (hb : PSs X body (tS c g)) : PS X (.While e body [] pos) (tS c (sWhile t g)) := by
  refine PS.to (ps_while hp hc hb) ?_
  rintro Z σ H ⟨F, ρ, xx, E, rel, ⟨W, ⟨m0, w0⟩, turn⟩, n, r, b, ct⟩
  refine ⟨fun m σ' H' => ∃ F' ρ', Ex F F' ∧ Rel c F' H' σ' ρ' xx ∧ W m ρ', ⟨m0, F, ρ, Ex.refl F, rel, w0⟩, ?_⟩
  rintro m σ' H' ⟨F', ρ', e1, r1, w1⟩
  refine ⟨F', ρ', xx, _, r1, turn m ρ' w1, fun bb ρ2 F2 H2 q2 e2 r2 => ?_⟩
  cases bb with
  | true =>
    refine ⟨fun σ3 H3 => ∃ F3 ρ3, Ex F F3 ∧ Rel c F3 H3 σ3 ρ3 xx ∧ ∃ m', m' < m ∧ W m' ρ3, fun σ3 H3 ⟨F3, ρ3, a1, a2, m', a3, a4⟩ => ⟨m', a3, F3, ρ3, a1, a2, a4⟩, ?_⟩
    exact ⟨F2, ρ2, xx, _, r2, q2, fun ρ3 σ3 F3 H3 q3 e3 r3 => ⟨F3, ρ3, (e1.trans e2).trans e3, r3, q3⟩, r, fun ρ3 σ3 F3 H3 q3 e3 r3 => n ρ3 σ3 F3 H3 q3 ((e1.trans e2).trans e3) r3, fun ρ3 σ3 F3 H3 q3 e3 r3 => ⟨F3, ρ3, (e1.trans e2).trans e3, r3, q3⟩⟩
  | false => exact n ρ2 σ' F2 H2 q2 (e1.trans e2) r2
end
end DL
namespace DL
open PySem L2
section
open PyProof.Rows
variable {prog : Program} {w : PySem.World} {A : Around} {E : Value → Shared → Prop} {s : Shared}
/-- enumerate(v), where iter(v) begins with the object o -/
theorem enum_one {v : Value} {o : Obj} {Z : Heap → Prop} {Q : Value → Shared → Prop} (B : Begins v o Z) (f : Z s.heap)
    (h : ∀ h2 : Heap, h2.get? s.heap.objs.size = some o → IsEnum h2 (s.heap.objs.size + 1) s.heap.objs.size 0 .none → (∀ b z, s.heap.get? b = some z → h2.get? b = some z) → Q (.ref (s.heap.objs.size + 1)) { s with heap := h2 }) :
    wpAny (model prog w) A (call (.type "enumerate") [v]) Q E s := by
  have new : Meets (Builtin.«enumerate.__new__» ⟨[.type "enumerate", v], []⟩) (fun _ R s1 => Z s1.heap ∧ R (.ok (.ret (.ref (s1.heap.push o).objs.size))) { s1 with heap := (s1.heap.push o).push { cls := .type "enumerate", data := .fields #[.none, .bool false, .ref s1.heap.objs.size, rawInt 0, .none, .none] } }) := by
    refine .of_wp fun prog w A R s1 z => ?_
    have begins : ∀ {A' : Around} {E : Value → Shared → Prop} {Q : Value → Shared → Prop}, Q (.ref s1.heap.objs.size) { s1 with heap := s1.heap.push o } → wpAny (model prog w) A' (pyIter v) Q E s1 := fun q => B.iter prog w _ _ s1 _ z.1 q
    have isa := sub_enumerate
    have fin := z.2
    clear z
    cases s1
    wp_walk using begins
    apply wpAny_stack_any
    intro st
    apply wpAny_pure
    split
    case _ c _ _ _ _ _ =>
      rcases c == Value.type "enumerate" with _ | _ <;> (wp_walk using begins) <;> exact ⟨_, rfl, fin⟩
    case _ =>
      wp_walk using begins
      exact ⟨_, rfl, fin⟩
  have at1 : (s.heap.push o).objs.size = s.heap.objs.size + 1 := Heap.size_push ..
  refine callType_new F.called_enumerate (by decide) (F.typeCall_enumerate_1 v) (F.newCall_enumerate_1 v) (F.args_object_init_2 · v) F.entry_enumerate_new new ?_
  rw [at1]
  have made := Heap.get?_push_size (s.heap.push o) (o := { cls := .type "enumerate", data := .fields #[.none, .bool false, .ref s.heap.objs.size, rawInt 0, .none, .none] }) rfl
  rw [at1] at made
  exact ⟨f, ⟨_, made, rfl⟩, h _ (Heap.get?_push_of_some _ (Heap.get?_push_size _ B.free)) made fun b z q => Heap.get?_push_of_some _ (Heap.get?_push_of_some _ q)⟩
/-- where an enumerate over the tuple a stands: e the enumerate, it the tuple's iterator -/
structure EnT (a e it : Addr) (i : Nat) (h : Heap) : Prop where
  en : ∃ old, IsEnum h e it ((i : Nat) : Int) old
  ti : h.IsTupleIter it a i
  e_it : e ≠ it
  a_it : a ≠ it
  a_e : a ≠ e
theorem EnT.move {a e it : Addr} {i : Nat} {h h' : Heap} (x : EnT a e it i h) (ke : ∀ o, h.get? e = some o → h'.get? e = some o) (ki : ∀ o, h.get? it = some o → h'.get? it = some o) : EnT a e it i h' :=
  ⟨x.en.imp fun _ q => ke _ q, x.ti.at ki, x.e_it, x.a_it, x.a_e⟩
/-- its next item, over the heap alone -/
theorem EnT.step {a e it : Addr} {i : Nat} {its : List Value} {u : Value} {R : Shared → Prop} {elts : List Expr} {kk : Nat} {tpos : Pos} (x : EnT a e it i s.heap) (calm : A.in1.handled = none) (p : s.heap.IsTuple a its.toArray) (hu : its[i]? = some u)
    (h : ∀ (h2 : Heap) (tk : Nat), EnT a e it (i + 1) h2 → h2.get? s.heap.objs.size = some { cls := .type "tuple", data := .seq #[.int i tk, u] } → (∀ b o, b ≠ e → b ≠ it → s.heap.get? b = some o → h2.get? b = some o) → R { s with heap := h2, toks := tk + 1 }) :
    wpAny (model prog w) A (pyNext (.ref e)) (fun r s1 => r = some (.ref s.heap.objs.size) ∧ wpAny (model prog w) A (letOwnedTupleGo (.Tuple elts kk tpos) (.ref e) (.ref s.heap.objs.size)) (fun _ s2 => R s2) E s1) E s := by
  obtain ⟨⟨old, en⟩, ti, n1, n2, n3⟩ := x
  have new : s.heap.objs.size ≠ e := Nat.ne_of_gt (Heap.lt_size en)
  have few : i < its.toArray.size := (List.getElem?_eq_some_iff.mp hu).1
  refine wpAny_pyNext_enum_itemD (Draws.tuple (prog := prog) (w := w) calm it a n2 its.toArray) en ⟨ti, p⟩ few n1 (List.not_mem_cons_of_ne_of_not_mem n1 (List.not_mem_cons_of_ne_of_not_mem (Ne.symm n3) List.not_mem_nil)) ?_
  rintro y h1 tk hy own st1 tup - kept
  have : y = u := Option.some.inj (Eq.trans (by simpa using hy.symm) hu)
  subst this
  refine ⟨rfl, wpAny_letOwnedTupleGo_enum (s := { s with heap := h1, toks := tk + 1 }) own fun h2 en2 sb => h h2 tk ⟨⟨_, by rw [Int.natCast_succ]; exact en2⟩, st1.1.at fun o q => (sb.2 it (Ne.symm n1)).trans q, n1, n2, n3⟩ ((sb.2 _ new).trans tup) ?_⟩
  exact fun b o be bi q => (sb.2 b be).trans (kept b o be bi q)
end
/-- each item of a sequence with its number, in a new pair -/
def numbered (S : Hp → List V → Prop) : It where
  go i H := ∃ xs x, S H xs ∧ xs[i]? = some x
  yld i H v H' := ∃ T x, v = .ref T ∧ H T = none ∧ H' = upd H T (.tup [.int (i : Nat), x]) ∧ ∀ xs, S H xs → xs[i]? = some x
  stop i H := ∃ xs, S H xs ∧ xs.length = i
abbrev IteT (K : PySem.W.Frag) (a : Addr) : It := numbered fun H xs => SqT K H a xs
open PyProof.Rows in
theorem turn_enumT {P : Program} {w : PySem.World} {K : PySem.W.Frag} {elts : List Expr} {kk : Nat} {tpos : Pos} (a e it : Addr) : Turn P w K (.Tuple elts kk tpos) (IteT K a) [e, it] e (EnT a e it) := by
  have two : ∀ {p : Addr → Prop}, p e → p it → ∀ b ∈ [e, it], p b := fun pe pi => List.forall_mem_cons.mpr ⟨pe, List.forall_mem_cons.mpr ⟨pi, fun _ z => nomatch z⟩⟩
  constructor
  · exact List.mem_cons_self
  · rintro i h ⟨⟨old, en⟩, ⟨o, ho, -, hd⟩, -⟩
    exact two ⟨_, en, fun v q => nomatch q⟩ ⟨o, ho, fun v q => by rw [hd] at q; exact nomatch q⟩
  · exact fun i h h' x k => x.move (k e List.mem_cons_self) (k it (List.mem_cons_of_mem _ List.mem_cons_self))
  · rintro X rfl rfl rfl calm i pins s σ H E I away x ⟨xs, y, sq, hy⟩
    obtain ⟨its, rv, p, -⟩ := I.tuple sq
    obtain ⟨u, hu, ru⟩ := rv.get hy
    have le : e < s.heap.objs.size := x.en.elim fun _ q => Heap.lt_size q
    have li : it < s.heap.objs.size := x.ti.elim fun _ q => Heap.lt_size q.1
    refine wpAny_mono (x.step (R := fun s2 => ∃ y' H', Inv X pins σ H' s2 ∧ RelV y' (.ref s.heap.objs.size) ∧ (IteT X.K a).yld i H y' H' ∧ EnT a e it (i + 1) s2.heap ∧ ∀ b ∈ [e, it], H' b = none) (I.ok.hd calm) p hu ?_) (fun r s1 q => ⟨_, q⟩) fun _ _ q => q
    intro h2 tk x2 tup kept
    refine ⟨.ref s.heap.objs.size, upd H s.heap.objs.size (.tup [.int (i : Nat), y]), ?_, rfl, ⟨_, y, rfl, I.hok.fresh (Nat.le_refl _), rfl, fun ys q => by rw [I.tuple_inj q sq]; exact hy⟩, x2, two ?_ ?_⟩
    · refine I.turnedNew (ch := [e, it]) (t' := tk + 1) (fun b ob nb q => kept b ob (fun z => nb (z ▸ List.mem_cons_self)) (fun z => nb (z ▸ List.mem_cons_of_mem _ List.mem_cons_self)) q) away (Nat.le_refl _) ?_
      exact ⟨by show 2 ≤ sizeLine; decide, _, .cons ⟨tk, rfl⟩ (.cons ru .nil), _, tup, rfl, _, rfl⟩
    · exact (upd_ne (Nat.ne_of_lt le)).trans (away e List.mem_cons_self).1
    · exact (upd_ne (Nat.ne_of_lt li)).trans (away it (List.mem_cons_of_mem _ List.mem_cons_self)).1
  · rintro X rfl rfl rfl calm i pins s σ H E I away x ⟨xs, sq, hi⟩
    obtain ⟨its, rv, p, -⟩ := I.tuple sq
    obtain ⟨old, en⟩ := x.en
    have at_end : s.heap.IsTupleIter it a its.toArray.size := by
      have : its.toArray.size = i := by rw [List.size_toArray, ← rv.length, hi]
      rw [this]
      exact x.ti
    obtain ⟨-, f1, f2, f3, f4, f5⟩ := away it (List.mem_cons_of_mem _ List.mem_cons_self)
    have quiet : X.A.in1.handled = none := I.ok.hd calm
    exact wpAny_pyNext_enum_endD (Draws.tuple (prog := X.prog) (w := X.w) quiet it a x.a_it its.toArray) en ⟨at_end, p⟩ fun h2 kept =>
      ⟨rfl, I.turned (t' := s.toks) (fun b o nb q => kept b o nb q) (away it (List.mem_cons_of_mem _ List.mem_cons_self)).1 f1 f3 f4 f5⟩
  · exact fun A i s Q E x q => x.en.elim fun _ en => wpAny_pyIter_enum en q
section
variable {X : Cx} {c : Cn}
/-- enumerate(x), of a list or a tuple -/
def iEnumA (K : PySem.W.Frag) (ta : TA) : TI := fun σ H R => ta σ H fun vs H1 => ∃ a xs, vs = [.ref a] ∧ ((SqL K H1 a xs ∧ R (Ite K a) H1) ∨ (SqT K H1 a xs ∧ R (IteT K a) H1))
open PyProof.Rows in
theorem pi_enumA {e : Expr} {ta : TA} {p pos tpos : Pos} {elts : List Expr} {kk : Nat} (hg : Gl X "enumerate") (hm : X.mg "enumerate" = none) (ha : PA X [e] ta) (hs : starEach [e] X.env = [(false, eval e X.env)] := by rfl) :
    PI X (.Tuple elts kk tpos) (.Call (.Name "enumerate" p) [e] [] pos) (iEnumA X.K ta) := by
  constructor
  intro pins s σ H R I h
  refine Call_ (ld_blt I hg hm boot_enumerate (PyProof.Rows.callWith_type1 (thn (ha.run pos pins s σ H _ I h) ?_) hs rfl))
  rintro us s1 ⟨vs, H1, I1, r1, a, xs, rfl, q⟩
  obtain _ | ⟨r, _ | _⟩ := r1
  cases r
  have new : ∀ b, s1.heap.objs.size ≤ b → FpOk X pins H1 b := fun b le => I1.fpOk le (I1.hok.fresh le)
  have news : ∀ b ∈ [s1.heap.objs.size + 1, s1.heap.objs.size], FpOk X pins H1 b := fun b hb => new b (by
    (simp only [List.mem_cons, List.not_mem_nil, or_false] at hb)
    omega)
  refine q.elim (fun ⟨sq, q⟩ => ?_) fun ⟨sq, q⟩ => ?_
  · obtain ⟨its, -, p1, -⟩ := I1.list sq
    refine enum_one (begins_list a its.toArray) p1.isList fun h2 hi he kept => wpAny_pyIter_enum he ?_
    exact ⟨_, _, _, _, H1, rfl, I1.kept (t' := s1.toks) kept, turn_enum a _ s1.heap.objs.size, ⟨⟨_, he⟩, ⟨_, hi, rfl, rfl⟩, Nat.succ_ne_self _⟩, news, q⟩
  · obtain ⟨its, -, p1, -⟩ := I1.tuple sq
    have lt : a < s1.heap.objs.size := p1.elim fun _ z => Heap.lt_size z.1
    refine enum_one (begins_tuple a its.toArray) p1 fun h2 hi he kept => wpAny_pyIter_enum he ?_
    exact ⟨_, _, _, _, H1, rfl, I1.kept (t' := s1.toks) kept, turn_enumT a _ s1.heap.objs.size, ⟨⟨_, he⟩, ⟨_, hi, rfl, rfl⟩, Nat.succ_ne_self _, Nat.ne_of_lt lt, Nat.ne_of_lt (Nat.lt_succ_of_lt lt)⟩, news, q⟩
def enD (ds : List D) : List D := ds.mapIdx fun i d => .tuple [.int (i : Nat), d]
theorem enD_get {ds : List D} {i : Nat} {d : D} (h : (enD ds)[i]? = some d) : ∃ e, ds[i]? = some e ∧ d = .tuple [.int (i : Nat), e] := by
  unfold enD at h
  rw [List.getElem?_mapIdx] at h
  cases e : ds[i]? with
  | none => (rw [e] at h; cases h)
  | some x => rw [e] at h; cases h; exact ⟨x, rfl, rfl⟩
theorem enD_length (ds : List D) : (enD ds).length = ds.length := by unfold enD; simp
theorem pair_new {F H : Hp} {σ : L2.St} {ρ : Env} {xx : XX} (r : Rel c F H σ ρ xx) {T : Addr} {x y : V} {d e : D} (hT : H T = none) (hx : At c.K F x d) (hy : At c.K F y e) :
    ∃ F2, Ex F F2 ∧ Rel c F2 (upd H T (.tup [x, y])) σ ρ xx ∧ At c.K F2 (.ref T) (.tuple [d, e]) :=
  ⟨_, r.efF _ hT, r.newF _ hT, .tup (.inl (.inl upd_same)) (.cons (hx.mono (r.efF _ hT)) (.cons (hy.mono (r.efF _ hT)) .nil))⟩
theorem itOk_enum {K : PySem.W.Frag} (hK : K = c.K) {a : Addr} {F : Hp} {ds : List D} {ys : List V} (s : SqL c.K F a ys) (t : AtAll c.K F ys ds) : ItOk c (Ite K a) (enD ds) F := by
  subst hK
  intro i F' H σ ρ xx e r
  have sq := r.w.fh.sl (e.sl s)
  refine ⟨fun d hd => ?_, fun hl => ⟨ys, sq, by rw [t.length, ← enD_length]; exact Nat.le_of_eq hl⟩⟩
  obtain ⟨d0, h0, ed⟩ := enD_get hd
  subst ed
  obtain ⟨v, hv, av⟩ := t.get h0
  refine ⟨⟨ys, v, sq, hv⟩, fun x H' ⟨T, y, ex, hT, eh, hy⟩ => ?_⟩
  subst ex eh
  have := hy ys sq
  rw [hv] at this
  cases this
  exact pair_new r hT (.int _) (av.mono e)
theorem itOk_enumT {K : PySem.W.Frag} (hK : K = c.K) {a : Addr} {F : Hp} {ds : List D} {ys : List V} (s : SqT c.K F a ys) (t : AtAll c.K F ys ds) : ItOk c (IteT K a) (enD ds) F := by
  subst hK
  intro i F' H σ ρ xx e r
  have sq := r.w.fh.st (e.st s)
  refine ⟨fun d hd => ?_, fun hl => ⟨ys, sq, by rw [t.length, ← enD_length]; exact hl⟩⟩
  obtain ⟨d0, h0, ed⟩ := enD_get hd
  subst ed
  obtain ⟨v, hv, av⟩ := t.get h0
  refine ⟨⟨ys, v, sq, hv⟩, fun x H' ⟨T, y, ex, hT, eh, hy⟩ => ?_⟩
  subst ex eh
  have := hy ys sq
  rw [hv] at this
  cases this
  exact pair_new r hT (.int _) (av.mono e)
def iEn (f : LM) : IM := fun ρ P => f ρ fun ds ρ1 => match ds with
  | [.list xs] => P (enD xs) ρ1
  | [.tuple xs] => P (enD xs) ρ1
  | _ => False
theorem di_enum {e : Expr} {f : LM} {p pos tpos : Pos} {elts : List Expr} {kk : Nat} (hK : X.K = c.K) (hg : Gl X "enumerate") (hm : X.mg "enumerate" = none) (ha : PA X [e] (tL c f)) (hs : starEach [e] X.env = [(false, eval e X.env)] := by rfl) :
    PI X (.Tuple elts kk tpos) (.Call (.Name "enumerate" p) [e] [] pos) (tI c (iEn f)) := by
  refine PI.to (pi_enumA hg hm ha hs) ?_
  rintro σ H R ⟨F, ρ, xx, P, rel, q, k⟩
  refine ⟨F, ρ, xx, _, rel, q, fun ds ρ1 vs F1 H1 q1 e1 r1 a1 => ?_⟩
  split at q1
  · cases a1 with
    | cons a t =>
      cases t
      cases a with
      | lst s1 t1 => exact ⟨_, _, rfl, .inl ⟨by rw [hK]; exact r1.w.fh.sl s1, k _ ρ1 _ F1 H1 q1 e1 r1 (itOk_enum hK s1 t1)⟩⟩
  · cases a1 with
    | cons a t =>
      cases t
      cases a with
      | tup s1 t1 => exact ⟨_, _, rfl, .inr ⟨by rw [hK]; exact r1.w.fh.st s1, k _ ρ1 _ F1 H1 q1 e1 r1 (itOk_enumT hK s1 t1)⟩⟩
  · exact q1.elim
/-- zip of two lists, of two tuples -/
def zipD (xs ys : List D) : List D := List.zipWith (fun x y => .tuple [x, y]) xs ys
theorem itOk_zip {K : PySem.W.Frag} (hK : K = c.K) {a b : Addr} {F : Hp} {ds es : List D} {xs ys : List V} (s : SqL c.K F a xs) (t : AtAll c.K F xs ds) (s2 : SqL c.K F b ys) (t2 : AtAll c.K F ys es) : ItOk c (Itz K a b) (zipD ds es) F := by
  subst hK
  intro i F' H σ ρ xx e r
  have sq := r.w.fh.sl (e.sl s)
  have sq2 := r.w.fh.sl (e.sl s2)
  have l1 := t.length
  have l2 := t2.length
  refine ⟨fun d hd => ?_, fun hl => ⟨xs, ys, sq, sq2, by unfold zipD at hl; rw [List.length_zipWith] at hl; omega⟩⟩
  unfold zipD at hd
  rw [List.getElem?_zipWith] at hd
  cases h1 : ds[i]? with
  | none => rw [h1] at hd; cases hd
  | some d1 => cases h2 : es[i]? with
    | none => rw [h1, h2] at hd; cases hd
    | some d2 =>
      rw [h1, h2] at hd
      cases hd
      obtain ⟨v, hv, av⟩ := t.get h1
      obtain ⟨u, hu, au⟩ := t2.get h2
      refine ⟨⟨xs, ys, v, u, sq, sq2, hv, hu⟩, fun x H' ⟨T, y, z, ex, hT, eh, hy, hz⟩ => ?_⟩
      subst ex eh
      have q1 := hy xs sq
      have q2 := hz ys sq2
      rw [hv] at q1
      rw [hu] at q2
      cases q1
      cases q2
      exact pair_new r hT (av.mono e) (au.mono e)
theorem itOk_zipT {K : PySem.W.Frag} (hK : K = c.K) {a b : Addr} {F : Hp} {ds es : List D} {xs ys : List V} (s : SqT c.K F a xs) (t : AtAll c.K F xs ds) (s2 : SqT c.K F b ys) (t2 : AtAll c.K F ys es) : ItOk c (RZ.ItzT K a b) (zipD ds es) F := by
  subst hK
  intro i F' H σ ρ xx e r
  have sq := r.w.fh.st (e.st s)
  have sq2 := r.w.fh.st (e.st s2)
  have l1 := t.length
  have l2 := t2.length
  refine ⟨fun d hd => ?_, fun hl => ⟨xs, ys, sq, sq2, by unfold zipD at hl; rw [List.length_zipWith] at hl; omega⟩⟩
  unfold zipD at hd
  rw [List.getElem?_zipWith] at hd
  cases h1 : ds[i]? with
  | none => rw [h1] at hd; cases hd
  | some d1 => cases h2 : es[i]? with
    | none => rw [h1, h2] at hd; cases hd
    | some d2 =>
      rw [h1, h2] at hd
      cases hd
      obtain ⟨v, hv, av⟩ := t.get h1
      obtain ⟨u, hu, au⟩ := t2.get h2
      refine ⟨⟨xs, ys, v, u, sq, sq2, hv, hu⟩, fun x H' ⟨T, y, z, ex, hT, eh, hy, hz⟩ => ?_⟩
      subst ex eh
      have q1 := hy xs sq
      have q2 := hz ys sq2
      rw [hv] at q1
      rw [hu] at q2
      cases q1
      cases q2
      exact pair_new r hT (av.mono e) (au.mono e)
def iZp (f : LM) : IM := fun ρ P => f ρ fun ds ρ1 => match ds with
  | [.list xs, .list ys] => P (zipD xs ys) ρ1
  | [.tuple xs, .tuple ys] => P (zipD xs ys) ρ1
  | _ => False
theorem di_zip {e e2 : Expr} {f : LM} {p pos tpos : Pos} {elts : List Expr} {kk : Nat} (hK : X.K = c.K) (hg : Gl X "zip") (hm : X.mg "zip" = none) (ha : PA X [e, e2] (tL c f)) (hs : starEach [e, e2] X.env = (false, eval e X.env) :: starEach [e2] X.env := by rfl) (hpl : (backTo pos (starEach [e2] X.env)).any (·.1) = false := by rfl) :
    PI X (.Tuple elts kk tpos) (.Call (.Name "zip" p) [e, e2] [] pos) (tI c (iZp f)) := by
  refine PI.to (RZ.pi_zipA hg hm ha hs hpl) ?_
  rintro σ H R ⟨F, ρ, xx, P, rel, q, k⟩
  refine ⟨F, ρ, xx, _, rel, q, fun ds ρ1 vs F1 H1 q1 e1 r1 a1 => ?_⟩
  split at q1
  · cases a1 with
    | cons a t => cases t with
      | cons b t =>
        cases t
        cases a with
        | lst s1 t1 => cases b with
          | lst s2 t2 => exact ⟨_, _, _, _, rfl, .inl ⟨by rw [hK]; exact r1.w.fh.sl s1, by rw [hK]; exact r1.w.fh.sl s2, k _ ρ1 _ F1 H1 q1 e1 r1 (itOk_zip hK s1 t1 s2 t2)⟩⟩
  · cases a1 with
    | cons a t => cases t with
      | cons b t =>
        cases t
        cases a with
        | tup s1 t1 => cases b with
          | tup s2 t2 => exact ⟨_, _, _, _, rfl, .inr ⟨by rw [hK]; exact r1.w.fh.st s1, by rw [hK]; exact r1.w.fh.st s2, k _ ρ1 _ F1 H1 q1 e1 r1 (itOk_zipT hK s1 t1 s2 t2)⟩⟩
  · exact q1.elim
end
end DL
namespace DL
open PySem L2
section
variable {c : Cn}
def wipeE (ρ : Env) : List Nat → Env
  | [] => ρ
  | v :: vs => (wipeE ρ vs).set v .no
def backE (ρ0 : Env) (ρ : Env) : List Nat → Env
  | [] => ρ
  | v :: vs => backE ρ0 (ρ.set v (ρ0.getD v .no)) vs
def plainS : Sl → Bool
  | .no => true
  | .im _ => true
  | _ => false
def okV (ρ : Env) (vs : List Nat) : Prop := vs.Nodup ∧ ∀ j ∈ vs, plainS (ρ.getD j .no) = true
theorem Slots.forget {F H : Hp} {σ : L2.St} {ρ : Env} {xx : XX} (s : Slots c F H σ ρ xx) (i : Nat) : Slots c F H (σ.set i none) (ρ.set i .no) xx := by
  have sg : ∀ {j : Nat}, i ≠ j → (σ.set i none)[j]? = σ[j]? := fun h => by rw [List.getElem?_set, if_neg h]
  refine ⟨by simpa using s.len, fun j d q => ?_, fun j d q => ?_, fun j k d e b q1 q2 s1 s2 => ?_, fun j n q => ?_, ou_set (by intro m z; cases z) s.ou, fun p hp => ⟨(s.ex p hp).1, fun j d q => ?_⟩, s.xd⟩
  · rcases set_lt q with ⟨_, _, e⟩ | ⟨z, q⟩
    · cases e
    · rw [sg z]
      exact s.im j d q
  · rcases set_lt q with ⟨_, _, e⟩ | ⟨z, q⟩
    · cases e
    · rw [sg z]
      exact s.ow j d q
  · rcases set_lt q1 with ⟨_, _, e⟩ | ⟨z, q1⟩
    · cases e
    · rcases set_lt q2 with ⟨_, _, e⟩ | ⟨z2, q2⟩
      · cases e
      · rw [sg z] at s1
        rw [sg z2] at s2
        exact s.dj j k d _ b q1 q2 s1 s2
  · rcases set_lt q with ⟨_, _, e⟩ | ⟨z, q⟩
    · cases e
    · rw [sg z]
      exact s.or j n q
  · rcases set_lt q with ⟨_, _, e⟩ | ⟨z, q⟩
    · cases e
    · rw [sg z]
      exact (s.ex p hp).2 j d q
theorem Rel.wipe {F H : Hp} {σ : L2.St} {ρ : Env} {xx : XX} (r : Rel c F H σ ρ xx) : ∀ vs : List Nat, Rel c F H (wipe σ vs) (wipeE ρ vs) xx
  | [] => r
  | v :: vs => ⟨r.w, (Rel.wipe r vs).s.forget v⟩
/-- a plain slot comes back -/
theorem Slots.recall {F H : Hp} {σ : L2.St} {ρ : Env} {xx : XX} {i : Nat} {x : Sl} (s : Slots c F H (σ.set i none) ρ xx) (hp : plainS x = true) (hx : ∀ d, x = .im d → ∃ v, σ[i]? = some (some v) ∧ At c.K F v d) : Slots c F H σ (ρ.set i x) xx := by
  have sg : ∀ {j : Nat}, i ≠ j → (σ.set i none)[j]? = σ[j]? := fun h => by rw [List.getElem?_set, if_neg h]
  refine ⟨by simpa using s.len, fun j d q => ?_, fun j d q => ?_, fun j k d e b q1 q2 s1 s2 => ?_, fun j n q => ?_, ou_set (by intro m z; subst z; cases hp) s.ou, fun p hpx => ⟨(s.ex p hpx).1, fun j d q => ?_⟩, s.xd⟩
  · rcases set_lt q with ⟨z, _, e⟩ | ⟨z, q⟩
    · rw [← z]
      exact hx d e
    · rw [← sg z]
      exact s.im j d q
  · rcases set_lt q with ⟨_, _, e⟩ | ⟨z, q⟩
    · subst e
      cases hp
    · rw [← sg z]
      exact s.ow j d q
  · rcases set_lt q1 with ⟨_, _, e⟩ | ⟨z, q1⟩
    · subst e
      cases hp
    · rcases set_lt q2 with ⟨_, _, e⟩ | ⟨z2, q2⟩
      · subst e
        cases hp
      · rw [← sg z] at s1
        rw [← sg z2] at s2
        exact s.dj j k d _ b q1 q2 s1 s2
  · rcases set_lt q with ⟨_, _, e⟩ | ⟨z, q⟩
    · subst e
      cases hp
    · rw [← sg z]
      exact s.or j n q
  · rcases set_lt q with ⟨_, _, e⟩ | ⟨z, q⟩
    · subst e
      cases hp
    · rw [← sg z]
      exact (s.ex p hpx).2 j d q
theorem wipe_get {σ : L2.St} {i : Nat} : ∀ {vs : List Nat}, i ∉ vs → (wipe σ vs)[i]? = σ[i]?
  | [], _ => rfl
  | v :: vs, h => by
    show ((wipe σ vs).set v none)[i]? = σ[i]?
    rw [List.getElem?_set, if_neg (fun z => h (by rw [z]; exact List.mem_cons_self ..)), wipe_get (fun z => h (List.mem_cons_of_mem _ z))]
theorem Rel.back {F H F' H' : Hp} {σ : L2.St} {ρ0 : Env} {xx yy : XX} (r0 : Rel c F H σ ρ0 yy) (e : Ex F F') : ∀ (vs : List Nat) (ρ : Env), okV ρ0 vs → Rel c F' H' (L2.wipe σ vs) ρ xx → Rel c F' H' σ (backE ρ0 ρ vs) xx
  | [], ρ, _, r => r
  | v :: vs, ρ, ok, r => by
    obtain ⟨nd, pl⟩ := ok
    rw [List.nodup_cons] at nd
    have hv := pl v (List.mem_cons_self ..)
    refine Rel.back r0 e vs _ ⟨nd.2, fun j hj => pl j (List.mem_cons_of_mem _ hj)⟩ ⟨r.w, Slots.recall (σ := L2.wipe σ vs) r.s hv fun d ed => ?_⟩
    have g : ρ0[v]? = some (.im d) := by
      rw [List.getD_eq_getElem?_getD] at ed
      cases q : ρ0[v]? with
      | none => rw [q] at ed; cases ed
      | some x => rw [q] at ed; exact congrArg some ed
    obtain ⟨u, h1, h2⟩ := r0.s.im v d g
    exact ⟨u, by rw [wipe_get nd.1]; exact h1, h2.mono e⟩
def lcL (t : TM) (b : BM) (f : DM) (vs : List Nat) (K : List D → Env → Prop) : List D → List D → Env → Prop
  | [], acc, ρ => K acc ρ
  | d :: ds, acc, ρ => t d ρ fun ρ1 => b ρ1 fun k ρ2 => if k = true then f ρ2 fun y ρ3 => lcL t b f vs K ds (acc ++ [y]) (wipeE ρ3 vs) else lcL t b f vs K ds acc (wipeE ρ2 vs)
def dLc (i : IM) (t : TM) (b : BM) (f : DM) (vs : List Nat) : DM := fun ρ P => i ρ fun ds ρ1 => ds.length ≤ 1000000 ∧ okV ρ1 vs ∧ lcL t b f vs (fun acc ρ' => P (.list acc) (backE ρ1 ρ' vs)) ds [] (wipeE ρ1 vs)
theorem lc_use {i : IM} {t : TM} {b : BM} {f : DM} {vs js : List Nat} (hj : ∀ j ∈ js, j ∈ vs) {wi : TI} {g : TG} {tt : TT} {te : TE} (e1 : wi = tI c i) (e2 : g = tG c js t) (e3 : tt = tT c b) (e4 : te = tD c f) :
    ∀ σ H Q, tN c (dLc i t b f vs) σ H Q → tLc wi g tt te vs σ H Q := by
  subst e1 e2 e3 e4
  rintro σ H Q ⟨F, ρ, xx, P, rel, q, k⟩
  refine ⟨F, ρ, xx, _, rel, q, fun ds ρ1 J F1 H1 ⟨hlen, hok, q1⟩ e1 r1 ok A hA => ?_⟩
  obtain ⟨rA, frA⟩ := Fresh.new (o := .lst []) (d := .d (.list [])) r1 hA ⟨[], upd_same, .nil⟩
  refine ⟨fun n m H' => ∃ F' ρ' acc, Ex F1 F' ∧ Rel c F' H' (wipe σ vs) ρ' ((A, .d (.list acc)) :: xx) ∧ m = ds.length - n ∧ n ≤ ds.length ∧ acc.length ≤ n ∧ lcL t b f vs (fun acc ρ' => P (.list acc) (backE ρ1 ρ' vs)) (ds.drop n) acc ρ',
    ⟨ds.length, F1, _, [], Ex.refl F1, (rA.pushX frA).wipe vs, by omega, Nat.zero_le _, Nat.zero_le _, by rw [List.drop_zero]; exact q1⟩, ?_⟩
  rintro n m H' ⟨F', ρ', acc, e2, r2, rfl, hn, ha, q2⟩
  obtain ⟨o1, o2⟩ := ok n F' H' (wipe σ vs) ρ' _ e2 r2
  by_cases hlt : n < ds.length
  · have hd : ds[n]? = some ds[n] := List.getElem?_eq_getElem hlt
    obtain ⟨go, yl⟩ := o1 _ hd
    rw [List.drop_eq_getElem_cons hlt] at q2
    have q2 : t ds[n] ρ' fun ρ2 => b ρ2 fun k ρ3 => if k = true then f ρ3 fun y ρ4 => lcL t b f vs (fun acc ρ' => P (.list acc) (backE ρ1 ρ' vs)) (ds.drop (n + 1)) (acc ++ [y]) (wipeE ρ4 vs) else lcL t b f vs (fun acc ρ' => P (.list acc) (backE ρ1 ρ' vs)) (ds.drop (n + 1)) acc (wipeE ρ3 vs) := q2
    refine .inr ⟨go, fun H2 => ∃ F2 ρ2 acc2, Ex F1 F2 ∧ Rel c F2 H2 (wipe σ vs) ρ2 ((A, .d (.list acc2)) :: xx) ∧ acc2.length ≤ n + 1 ∧ lcL t b f vs (fun acc ρ' => P (.list acc) (backE ρ1 ρ' vs)) (ds.drop (n + 1)) acc2 ρ2,
      fun H2 ⟨F2, ρ2, acc2, a1, a2, a3, a4⟩ => ⟨ds.length - (n + 1), by omega, F2, ρ2, acc2, a1, a2, rfl, by omega, a3, a4⟩, fun v H2 y => ?_⟩
    obtain ⟨F2, e3, r3, a3⟩ := yl v H2 y
    refine ⟨F2, ρ', _, _, _, r3, a3, q2, fun ρ4 σ4 F4 H4 q4 on e4 r4 => ⟨?_, F4, ρ4, _, _, r4, q4, fun bb ρ5 F5 H5 q5 e5 r5 => ?_⟩⟩
    · have h := on vs hj
      rw [h]
      -- wiping twice
      have w2 : ∀ (us : List Nat) (σ : L2.St) (i : Nat), i ∈ us → (wipe σ us).set i none = wipe σ us := fun us => by
        induction us with
        | nil => intro σ i hi; cases hi
        | cons u us ih =>
          intro σ i hi
          show ((wipe σ us).set u none).set i none = (wipe σ us).set u none
          by_cases e : u = i
          · subst e
            rw [List.set_set]
          · rw [List.set_comm _ _ e, ih σ i ((List.mem_cons.mp hi).resolve_left fun z => e z.symm)]
      have w3 : ∀ (us ws : List Nat) (σ : L2.St), (∀ i ∈ us, i ∈ ws) → wipe (wipe σ ws) us = wipe σ ws := fun us => by
        induction us with
        | nil => intro ws σ _; rfl
        | cons u us ih =>
          intro ws σ hs
          show (wipe (wipe σ ws) us).set u none = wipe σ ws
          rw [ih ws σ fun i hi => hs i (List.mem_cons_of_mem _ hi)]
          exact w2 ws σ u (hs u (List.mem_cons_self ..))
      exact w3 vs vs σ fun _ h => h
    · have hw : wipe σ4 vs = wipe σ vs := by
        have h := on vs hj
        rw [h]
        have w2 : ∀ (us : List Nat) (σ : L2.St) (i : Nat), i ∈ us → (wipe σ us).set i none = wipe σ us := fun us => by
          induction us with
          | nil => intro σ i hi; cases hi
          | cons u us ih =>
            intro σ i hi
            show ((wipe σ us).set u none).set i none = (wipe σ us).set u none
            by_cases e : u = i
            · subst e
              rw [List.set_set]
            · rw [List.set_comm _ _ e, ih σ i ((List.mem_cons.mp hi).resolve_left fun z => e z.symm)]
        have w3 : ∀ (us ws : List Nat) (σ : L2.St), (∀ i ∈ us, i ∈ ws) → wipe (wipe σ ws) us = wipe σ ws := fun us => by
          induction us with
          | nil => intro ws σ _; rfl
          | cons u us ih =>
            intro ws σ hs
            show (wipe (wipe σ ws) us).set u none = wipe σ ws
            rw [ih ws σ fun i hi => hs i (List.mem_cons_of_mem _ hi)]
            exact w2 ws σ u (hs u (List.mem_cons_self ..))
        exact w3 vs vs σ fun _ h => h
      cases bb with
      | false =>
        rw [if_neg Bool.false_ne_true] at q5
        show ∃ F' ρ' acc2, _
        refine ⟨F5, wipeE ρ5 vs, acc, ((e2.trans e3).trans e4).trans e5, ?_, by omega, q5⟩
        have := r5.wipe vs
        rw [hw] at this
        exact this
      | true =>
        rw [if_pos rfl] at q5
        show tD c f σ4 H5 _
        refine ⟨F5, ρ5, _, _, r5, q5, fun y ρ6 u F6 H6 q6 e6 r6 a6 => ?_⟩
        obtain ⟨vv, g1, g2⟩ := (r6.s.ex (A, .d (.list acc)) (List.mem_cons_self ..)).1.o
        have r7 := r6.mutX (o := .lst (vv ++ [u])) (d' := .d (.list (acc ++ [y]))) ⟨_, upd_same, g2.append (.cons a6 .nil)⟩
        refine ⟨vv, g1, szl (by rw [g2.length]; omega), F6, wipeE ρ6 vs, acc ++ [y], (((e2.trans e3).trans e4).trans e5).trans e6, ?_, by rw [List.length_append]; simp only [List.length_singleton]; omega, q6⟩
        have := r7.wipe vs
        rw [hw] at this
        exact this
  · have en : n = ds.length := by omega
    subst en
    rw [List.drop_length] at q2
    have q2 : P (.list acc) (backE ρ1 ρ' vs) := q2
    obtain ⟨r5, fr⟩ := (Rel.back r1 e2 vs ρ' hok r2).popX
    exact .inl ⟨o2 rfl, k _ _ A F' H' q2 (e1.trans e2) r5 fr⟩
def bYes : BM := fun ρ P => P true ρ
theorem dts_nil {X : Cx} : PTs X [] (tT c bYes) := ⟨fun pins s σ H Q I ⟨F, ρ, xx, P, rel, q, k⟩ => pts_nil.run pins s σ H Q I (k true ρ F H q (Ex.refl F) rel)⟩
theorem n_of_d {f : DM} : ∀ σ H Q, tD c f σ H Q → tN c f σ H Q := fun σ H Q ⟨F, ρ, xx, P, r, q, k⟩ => ⟨F, ρ, xx, P, r, q, fun d ρ' a F' H' p e r' fr => by
  obtain ⟨F2, e2, at_, r2⟩ := fr.freeze r'
  exact k d ρ' (.ref a) F2 H' p (e.trans e2) r2 at_⟩
variable {X : Cx} {elt tg iter : Expr} {ifs : List Expr} {scope : Scope} {own : List (Str × Nat)} {pos : Pos} {i : IM} {t : TM} {js : List Nat} {b : BM} {f : DM}
theorem dn_lc (hc : X.calm = true) (hN : X.N.Nodup) (hi : PI X tg iter (tI c i)) (ok : BlkOk X.N X.env.scope scope own) (hj : ∀ j ∈ js, j ∈ own.map (·.2))
    (hg : ∀ (s : Shared) (H : Hp) (C : Addr) (cl : List (Str × Addr)) (fp : List Addr), PG (X.blk s H scope (compEnvC scope cl C X.env) fp) tg (tG c js t)) (ht : ∀ (s : Shared) (H : Hp) (C : Addr) (cl : List (Str × Addr)) (fp : List Addr), PTs (X.blk s H scope (compEnvC scope cl C X.env) fp) ifs (tT c b))
    (he : ∀ (s : Shared) (H : Hp) (C : Addr) (cl : List (Str × Addr)) (fp : List Addr), PE (X.blk s H scope (compEnvC scope cl C X.env) fp) elt (tD c f)) (hs : ∀ x, foldedSetIterable iter X.env x = pure x := by intro _; rfl) :
    PE X (.ListComp elt [⟨tg, iter, ifs, 0⟩] scope pos) (tN c (dLc i t b f (own.map (·.2)))) := PE.to (pe_lc hc hN hi ok hg ht he hs) (lc_use hj rfl rfl rfl rfl)
theorem dp_setLcN {n : Nat} {y : Str} {py spos : Pos} (hc : X.calm = true) (hN : X.N.Nodup) (hy : X.N[n]? = some y) (hyl : X.env.scope.names.lookup y = some .local)
    (hsw : swapsWith (.ListComp elt [⟨tg, iter, ifs, 0⟩] scope pos) (some (.Name y py)) spos.line X.env = pure true) (hi : PI X tg iter (tI c i)) (ok : BlkOk X.N X.env.scope scope own) (hj : ∀ j ∈ js, j ∈ own.map (·.2))
    (hg : ∀ (s : Shared) (H : Hp) (C : Addr) (cl : List (Str × Addr)) (fp : List Addr), PG (X.blk s H scope (compEnvC scope cl C X.env) fp) tg (tG c js t)) (ht : ∀ (s : Shared) (H : Hp) (C : Addr) (cl : List (Str × Addr)) (fp : List Addr), PTs (X.blk s H scope (compEnvC scope cl C X.env) fp) ifs (tT c b))
    (he : ∀ (s : Shared) (H : Hp) (C : Addr) (cl : List (Str × Addr)) (fp : List Addr), PE (X.blk s H scope (compEnvC scope cl C X.env) fp) elt (tD c f)) (hs : ∀ x, foldedSetIterable iter X.env x = pure x := by intro _; rfl) :
    PS X (.Assign [.Name y py] (.ListComp elt [⟨tg, iter, ifs, 0⟩] scope pos) spos) (tS c (sSetN n (dLc i t b f (own.map (·.2))))) :=
  PS.to (ps_setLc hc hN hy hyl hsw hi ok hg ht he hs) fun Z σ H h => by
    have q : tAsg (tN c (dLc i t b f (own.map (·.2)))) (gName n) Z σ H := setN_use rfl Z σ H h
    exact lc_use hj rfl rfl rfl rfl σ H _ q
theorem dp_setLc {n : Nat} {y : Str} {py spos : Pos} (hc : X.calm = true) (hN : X.N.Nodup) (hy : X.N[n]? = some y) (hyl : X.env.scope.names.lookup y = some .local)
    (hsw : swapsWith (.ListComp elt [⟨tg, iter, ifs, 0⟩] scope pos) (some (.Name y py)) spos.line X.env = pure true) (hi : PI X tg iter (tI c i)) (ok : BlkOk X.N X.env.scope scope own) (hj : ∀ j ∈ js, j ∈ own.map (·.2))
    (hg : ∀ (s : Shared) (H : Hp) (C : Addr) (cl : List (Str × Addr)) (fp : List Addr), PG (X.blk s H scope (compEnvC scope cl C X.env) fp) tg (tG c js t)) (ht : ∀ (s : Shared) (H : Hp) (C : Addr) (cl : List (Str × Addr)) (fp : List Addr), PTs (X.blk s H scope (compEnvC scope cl C X.env) fp) ifs (tT c b))
    (he : ∀ (s : Shared) (H : Hp) (C : Addr) (cl : List (Str × Addr)) (fp : List Addr), PE (X.blk s H scope (compEnvC scope cl C X.env) fp) elt (tD c f)) (hs : ∀ x, foldedSetIterable iter X.env x = pure x := by intro _; rfl) :
    PS X (.Assign [.Name y py] (.ListComp elt [⟨tg, iter, ifs, 0⟩] scope pos) spos) (tS c (sSet n (dLc i t b f (own.map (·.2))))) :=
  PS.to (ps_setLc hc hN hy hyl hsw hi ok hg ht he hs) fun Z σ H h => by
    have q : tAsg (tD c (dLc i t b f (own.map (·.2)))) (gName n) Z σ H := set_use rfl Z σ H h
    exact lc_use hj rfl rfl rfl rfl σ H _ (n_of_d σ H _ q)
end
end DL
namespace DL
open PySem L2
structure FnG (pr : Program) (wd : PySem.World) (K : PySem.W.Frag) (gl : Str → Option Value) (bas : Heap) (k : Nat) (f : Addr) (fd : FuncData) (ps : List Str) (sp : Sp) : Prop where
  many : ∀ vs H Q E, sp vs H Q E → vs.length = ps.length
  go : ∀ (A : Around) (out : List PySem.Env) (sh : Shared) (H : Hp) (ar : Args) (us : List Value) (vs : List V) (Q : VK) (E : XK), A.guards = some [] → Room k A →
    Env0 pr wd K gl bas A out sh H → BindsTo sh fd ar (ps.zip us) → Vals vs us → sp vs H Q E → codeAny (model pr wd) A (.call (.ref f) ar) (CR CX0 out pr wd H sh Q E) sh
theorem FnG.more {pr : Program} {wd : PySem.World} {K : PySem.W.Frag} {gl : Str → Option Value} {bas : Heap} {j k : Nat} {f : Addr} {fd : FuncData} {ps : List Str} {sp : Sp} (F : FnG pr wd K gl bas j f fd ps sp) (h : j ≤ k) : FnG pr wd K gl bas k f fd ps sp :=
  ⟨F.many, fun A out sh H ar us vs Q E g r => F.go A out sh H ar us vs Q E g (r.mono h)⟩
theorem FnG.of {pr : Program} {wd : PySem.World} {K : PySem.W.Frag} {gl : Str → Option Value} {bas : Heap} {k : Nat} {f : Addr} {x qual : Str} {st : Stmt} {fd : FuncData} {N ps : List Str} {sp : Sp} (F : L2.Fun K x qual st f fd) (S : FnScope N ps (defScope st))
    (len : (∀ vs H Q E, sp vs H Q E → vs.length = ps.length))
    (body : ∀ (cdv : Value) (A : Around) (out : List PySem.Env) (sh : Shared) (H : Hp) (vs : List V) (Q : VK) (E : XK), A.guards = some [] → Room k (A.deeper (PyProof.Rows.envOfC qual (defScope st) sh.heap.objs.size f cdv)) → sp vs H Q E →
      ∃ t, PSs (cxOf CX0 pr wd K gl bas N qual (defScope st) f cdv A out sh H E).nox (defBody st) t ∧ t { nx := fun _ H' => Q .non H', rt := Q } (start N vs) H) : FnG pr wd K gl bas (k + 1) f fd ps sp := by
  obtain ⟨oc, od, kV, doc, pm, an, cdv, ct, osl, efd, lk, hc⟩ := F.ex
  refine ⟨len, fun A out sh H ar us vs Q E hg room env bnd vals says => ?_⟩
  have heapK : K.In sh.heap := PySem.W.Frag.In.keeps env.mod.kin fun b o e => (env.bs b o e).1
  have noLim : sh.heap.NoLimit := Heap.NoLimit.keeps env.mod.nolimit fun b o e => (env.bs b o e).1
  have kinds : ∀ y ∈ ps.zip us, (defScope st).names.lookup y.1 = some .local ∨ ((defScope st).names.lookup y.1 = some .cell ∧ ((cellsFrom (sh.heap.objs.size + 1) (defScope st).names []).lookup y.1).isSome = true) := by
    rintro ⟨n, v⟩ hy
    exact (S.par n (List.of_mem_zip hy).1).imp id fun q => ⟨q, PySem.W.cellsFrom_some _ _ _ (.inl q)⟩
  rw [efd] at lk bnd
  refine codeAny_call_function room.depth (heapK _ _ lk) rfl S.co S.gen rfl (PySem.W.codeRec_of heapK hc) (bnd _ _ _ _ (wpAny_newFunctionEnv_cells S.kind kinds ?_))
  intro env1 he s1 xc
  subst he
  refine ⟨noLim.keeps xc.toInCall.keep, codeAny_func ?_⟩
  obtain ⟨t, ht, hq⟩ := body cdv A out sh H vs Q E hg (room.deeper _) says
  have inv : Inv (cxOf CX0 pr wd K gl bas N qual (defScope st) f cdv A out sh H E) [] (start N vs) H s1 := inv_start S room.hd env (len _ _ _ _ says) vals xc
  refine wpAny_mono (ht.nox.run [] s1 (start N vs) H _ inv hq) ?_ fun _ _ z => z
  intro fl s2 hs
  cases fl with
  | ret u =>
    (obtain ⟨v, σ', H', J, rv, q⟩ := hs)
    exact ⟨v, H', J.os, J.bare, J.base, J.hok, rv, q⟩
  | next =>
    obtain ⟨σ', H', J, q⟩ := hs
    exact ⟨V.non, H', J.os, J.bare, J.base, J.hok, rfl, q⟩
  | brk => exact (hs.choose_spec.choose_spec.2 : False).elim
  | cont => exact (hs.choose_spec.choose_spec.2 : False).elim
section
variable {X : Cx} {k : Nat} {f : Addr} {fd : FuncData} {ps : List Str} {sp : Sp} {x : Str} {p pos : Pos} {e : Expr} {es : List Expr} {t : TA}
theorem pe_callG (F : FnG X.prog X.w X.K X.mg X.base k f fd ps sp) (hg : X.A.guards = some []) (hr : Room k X.A) (gx : Gl X x) (hm : X.mg x = some (.ref f)) (hk : PySem.W.keepIn X.K (.ref f) = true) (hb : Binds X.K fd ps [])
    (ha : PA X (e :: es) t) (hdb : (x == ("__debug__" : Str)) = false := by decide)
    (he : starEach (e :: es) X.env = (false, eval e X.env) :: starEach es X.env := by rfl)
    (hpl : (backTo pos (starEach es X.env)).any (·.1) = false := by rfl) :
    PE X (.Call (.Name x p) (e :: es) [] pos) (tCall sp [] (fun _ _ _ => False) t) := by
  constructor
  intro pins s σ H Q I h
  refine wpAny_Call_Name_kw (ld_glob I gx hm (PySem.W.callWith_K (h₀ := X.base) I.ok.mod.kin hk (thn (ha.run pos pins s σ H _ I h) ?_) he hpl) hdb)
  rintro us s1 ⟨vs, H1, I1, r, q⟩
  refine ⟨I1.kIn, ?_⟩
  rw [List.append_nil] at q
  have hl : us.length = ps.length := by rw [← r.length]; exact F.many _ _ _ _ q
  have bd := hb s1 us I1.kIn (by rw [List.append_nil]; exact hl)
  rw [List.append_nil] at bd
  refine wpAny_call (codeAny_mono (F.go X.A X.stack s1 H1 ⟨us, []⟩ us vs Q _ hg hr I1.env0 bd r q) ?_)
  intro res s' hq
  match res, hq with
  | .error _, z => exact (z : False).elim
  | .ok (.ret u), z => exact I1.after z
end
/-- what a def says of its arguments and of the count of the source: S as m P: from these some d comes back, the count being m' then, with P d m' -/
abbrev SpD := List Ar → Nat → (D → Nat → Prop) → Prop
/-- the source is passed as the first argument, if at all -/
def oraAt (as : List Ar) : Prop := ∀ i, as[i]? = some Ar.ora → i = 0
def spD (K : PySem.W.Frag) (R : Orc) (n : Nat) (S : SpD) : Sp := fun vs H Q _ => ∃ (q : Option Addr) (F : Hp) (as : List Ar) (m : Nat) (P : D → Nat → Prop), World R q F H F H ∧ Paired (ArAt ⟨K, R, q, F, H⟩ F) vs as ∧ as.length = n ∧ oraAt as ∧ (q = none ∨ as[0]? = some .ora) ∧ (∀ p, q = some p → R.cnt p H ≤ m) ∧ S as m P ∧
  ∀ d m' v F' H', P d m' → World R q F H F' H' → (∀ p, q = some p → R.cnt p H' ≤ m') → At K F' v d → Q v H'
theorem paired_len {α β : Type} {R : α → β → Prop} : ∀ {xs : List α} {ys : List β}, Paired R xs ys → xs.length = ys.length
  | _, _, .nil => rfl
  | _, _, .cons _ t => congrArg Nat.succ (paired_len t)
theorem paired_get {α β : Type} {R : α → β → Prop} : ∀ {xs : List α} {ys : List β} {i : Nat} {y : β}, Paired R xs ys → ys[i]? = some y → ∃ x, xs[i]? = some x ∧ R x y
  | _, _, 0, _, .cons h _, e => by cases e; exact ⟨_, rfl, h⟩
  | _, _, i + 1, _, .cons _ t, e => paired_get (i := i) t e
/-- a call that draws nothing -/
def isD : Ar → Bool
  | .d _ => true
  | .ora => false
def dCall (n : Nat) (S : SpD) (f : AM) : DM := fun ρ P => f ρ fun as ρ1 => as.length = n ∧ as.all isD = true ∧ S as 0 fun d _ => P d ρ1
/-- a call that draws, the source standing in slot i -/
def dCallO (i n : Nat) (S : SpD) (f : AM) : DM := fun ρ P => f ρ fun as ρ1 => as.length = n ∧ as.head?.map isD = some false ∧ as.tail.all isD = true ∧ match ρ1[i]? with
  | some (.ora m) => S as m fun d m' => P d (ρ1.set i (.ora m'))
  | _ => False
theorem all_isD {as : List Ar} (h : as.all isD = true) (i : Nat) : as[i]? ≠ some .ora := fun e => by
  have := List.all_eq_true.mp h _ (List.mem_of_getElem? e)
  cases this
section
variable {X : Cx} {c : Cn} {k : Nat} {f : Addr} {fd : FuncData} {ps : List Str} {S : SpD} {x : Str} {p pos : Pos} {e : Expr} {es : List Expr} {fa : AM} {n : Nat}
theorem de_call (hK : X.K = c.K) (F : FnG X.prog X.w X.K X.mg X.base k f fd ps (spD X.K c.R n S)) (hg : X.A.guards = some []) (hr : Room k X.A) (gx : Gl X x) (hm : X.mg x = some (.ref f)) (hk : PySem.W.keepIn X.K (.ref f) = true) (hb : Binds X.K fd ps [])
    (ha : PA X (e :: es) (tAr c fa)) (hdb : (x == ("__debug__" : Str)) = false := by decide) (he : starEach (e :: es) X.env = (false, eval e X.env) :: starEach es X.env := by rfl) (hpl : (backTo pos (starEach es X.env)).any (·.1) = false := by rfl) :
    PE X (.Call (.Name x p) (e :: es) [] pos) (tD c (dCall n S fa)) := by
  refine PE.to (pe_callG F hg hr gx hm hk hb ha hdb he hpl) ?_
  rintro σ H Q ⟨F0, ρ, xx, P, rel, q, k0⟩
  refine ⟨F0, ρ, xx, _, rel, q, ?_⟩
  rintro as ρ1 vs F1 H1 ⟨hl, hd, hs⟩ e1 r1 pr
  rw [List.append_nil]
  have w0 : World c.R none F1 H1 F1 H1 := World.start r1.w.fh (fun _ _ z => z) fun _ z => nomatch z
  have pr' : Paired (ArAt ⟨X.K, c.R, none, F1, H1⟩ F1) vs as := by
    clear hs hl
    induction pr with
    | nil => exact .nil
    | @cons v a vs' as' h1 h2 ih =>
      (simp only [List.all_cons, Bool.and_eq_true] at hd)
      cases a with
      | d y =>
        refine .cons ?_ (ih hd.2)
        show At X.K F1 v y
        rw [hK]
        exact h1
      | ora => cases hd.1
  refine ⟨none, F1, as, 0, _, w0, pr', hl, fun i z => absurd z (all_isD hd i), .inl rfl, (fun _ z => nomatch z), hs, ?_⟩
  intro d m' v F2 H2 pd wd _ at_
  rw [hK] at at_
  exact k0 d ρ1 v F2 H2 pd (e1.trans wd.ff) (r1.stepN wd) at_
theorem de_callO {i : Nat} (hK : X.K = c.K) (F : FnG X.prog X.w X.K X.mg X.base k f fd ps (spD X.K c.R n S)) (hg : X.A.guards = some []) (hr : Room k X.A) (gx : Gl X x) (hm : X.mg x = some (.ref f)) (hk : PySem.W.keepIn X.K (.ref f) = true) (hb : Binds X.K fd ps [])
    (ha : PA X (e :: es) (tAr c fa)) (hdb : (x == ("__debug__" : Str)) = false := by decide) (he : starEach (e :: es) X.env = (false, eval e X.env) :: starEach es X.env := by rfl) (hpl : (backTo pos (starEach es X.env)).any (·.1) = false := by rfl) :
    PE X (.Call (.Name x p) (e :: es) [] pos) (tD c (dCallO i n S fa)) := by
  refine PE.to (pe_callG F hg hr gx hm hk hb ha hdb he hpl) ?_
  rintro σ H Q ⟨F0, ρ, xx, P, rel, q, k0⟩
  refine ⟨F0, ρ, xx, _, rel, q, ?_⟩
  rintro as ρ1 vs F1 H1 ⟨hl, hh, hd, hs⟩ e1 r1 pr
  rw [List.append_nil]
  split at hs
  · rename_i m em
    obtain ⟨u, h1, h2, h3⟩ := r1.s.or i m em
    have h0 : as[0]? = some Ar.ora := by
      cases as with
      | nil => cases hh
      | cons a t =>
        cases a with
        | d y => cases hh
        | ora => rfl
    refine ⟨c.p, F1, as, m, _, r1.w.here, ?_, hl, fun j z => ?_, .inr h0, fun y z => ?_, hs, ?_⟩
    · rw [hK]
      exact pr
    · cases j with
      | zero => rfl
      | succ j =>
        cases as with
        | nil => cases z
        | cons a t => exact absurd z (all_isD hd j)
    · rw [h1] at z
      cases z
      exact h3
    · intro d m' v F2 H2 pd wd hc at_
      rw [hK] at at_
      exact k0 d _ v F2 H2 pd (e1.trans wd.ff) (r1.drew wd em hc) at_
  · exact hs.elim
end
def arSl (m : Nat) : Ar → Sl
  | .d x => .im x
  | .ora => .ora m
def startE (N : Nat) (as : List Ar) (m : Nat) : Env := as.map (arSl m) ++ List.replicate (N - as.length) .no
theorem rel_start {K : PySem.W.Frag} {R : Orc} {q : Option Addr} {F H : Hp} {vs : List V} {as : List Ar} {N : List Str} {m : Nat} (w : World R q F H F H) (h : Paired (ArAt ⟨K, R, q, F, H⟩ F) vs as) (ho : oraAt as) (hm : ∀ p, q = some p → R.cnt p H ≤ m) : Rel ⟨K, R, q, F, H⟩ F H (start N vs) (startE N.length as m) [] := by
  have hl := paired_len h
  have get : ∀ (i : Nat) (s : Sl), (startE N.length as m)[i]? = some s → s = .no ∨ ∃ a v, as[i]? = some a ∧ vs[i]? = some v ∧ s = arSl m a ∧ (start N vs)[i]? = some (some v) := by
    intro i s e
    unfold startE at e
    unfold L2.start
    by_cases hi : i < as.length
    · rw [List.getElem?_append_left (by simpa using hi), List.getElem?_map] at e
      rw [List.getElem?_append_left (by simpa [hl] using hi), List.getElem?_map]
      have e1 : as[i]? = some as[i] := List.getElem?_eq_getElem hi
      have e2 : vs[i]? = some (vs[i]'(by rw [hl]; exact hi)) := List.getElem?_eq_getElem _
      rw [e1] at e
      cases e
      exact .inr ⟨_, _, e1, e2, rfl, by rw [e2]; rfl⟩
    · rw [List.getElem?_append_right (by simpa using hi), List.getElem?_replicate] at e
      split at e
      · cases e
        exact .inl rfl
      · cases e
  have atOf : ∀ {i : Nat} {a : Ar} {v : V}, as[i]? = some a → vs[i]? = some v → ArAt ⟨K, R, q, F, H⟩ F v a := by
    intro i a v h1 h2
    obtain ⟨v', g1, g2⟩ := paired_get h h1
    rw [h2] at g1
    cases g1
    exact g2
  refine ⟨w, ?_, ?_, ?_, ?_, ?_, ?_, (fun p hp => nomatch hp), List.nodup_nil⟩
  · unfold startE L2.start
    simp [hl]
  · intro i d e
    rcases get i _ e with z | ⟨a, v, g1, g2, g3, g4⟩
    · cases z
    · cases a with
      | d x => cases g3; exact ⟨v, g4, atOf g1 g2⟩
      | ora => cases g3
  · intro i d e
    rcases get i _ e with z | ⟨a, v, g1, g2, g3, g4⟩
    · cases z
    · cases a <;> cases g3
  · intro i j d e b z
    rcases get i _ z with z | ⟨a, v, g1, g2, g3, g4⟩
    · cases z
    · cases a <;> cases g3
  · intro i n e
    rcases get i _ e with z | ⟨a, v, g1, g2, g3, g4⟩
    · cases z
    · cases a with
      | d x => cases g3
      | ora =>
        obtain ⟨q', e1, e2⟩ := atOf g1 g2
        cases g3
        cases e2
        exact ⟨q', e1, g4, hm q' e1⟩
  · have one : ∀ {i n : Nat}, (startE N.length as m)[i]? = some (.ora n) → i = 0 := by
      intro i n e
      rcases get i _ e with z | ⟨a, v, g1, g2, g3, g4⟩
      · cases z
      · cases a with
        | d x => cases g3
        | ora => exact ho i g1
    intro i j a b e1 e2
    exact (one e1).trans (one e2).symm
/-- what a body says, as a promise -/
def raw (g : SM) (N : Nat) : SpD := fun as m P =>
  g ⟨fun (ρ : DL.Env) => match ρ[0]? with
    | some (Sl.ora m') => P .none m'
    | _ => as.head?.map isD ≠ some false ∧ P .none 0,
  fun (d : D) (ρ : DL.Env) => match ρ[0]? with
    | some (Sl.ora m') => P d m'
    | _ => as.head?.map isD ≠ some false ∧ P d 0, fun _ => False, fun _ => False⟩ (startE N as m)
/-- a def by its body in data -/
theorem FnG.data {pr : Program} {wd : PySem.World} {K : PySem.W.Frag} {gl : Str → Option Value} {bas : Heap} {k n : Nat} {f : Addr} {x qual : Str} {st : Stmt} {fd : FuncData} {N ps : List Str} {R : Orc} {g : SM} (F : L2.Fun K x qual st f fd) (Sc : FnScope N ps (defScope st)) (hn : n = ps.length)
    (body : ∀ (cdv : Value) (A : Around) (out : List PySem.Env) (sh : Shared) (H : Hp) (E : XK) (q : Option Addr) (F : Hp), A.guards = some [] → Room k (A.deeper (PyProof.Rows.envOfC qual (defScope st) sh.heap.objs.size f cdv)) →
      PSs (cxOf CX0 pr wd K gl bas N qual (defScope st) f cdv A out sh H E).nox (defBody st) (tS ⟨K, R, q, F, H⟩ g)) : FnG pr wd K gl bas (k + 1) f fd ps (spD K R n (raw g N.length)) := by
  refine FnG.of F Sc (fun vs H Q E ⟨q, F0, as, m, P, w, pa, hl, _⟩ => by rw [paired_len pa, hl, hn]) fun cdv A out sh H vs Q E hg hr ⟨q, F0, as, m, P, w, pa, hl, ho, hq, hm, says, k0⟩ => ?_
  have fin : ∀ (d : D) (v : V) (ρ' : DL.Env) (σ' : L2.St) (F' H' : Hp), (match ρ'[0]? with
      | some (Sl.ora m') => P d m'
      | _ => as.head?.map isD ≠ some false ∧ P d 0) → Rel ⟨K, R, q, F0, H⟩ F' H' σ' ρ' [] → At K F' v d → Q v H' := by
    intro d v ρ' σ' F' H' p r a
    split at p
    · rename_i m' e
      obtain ⟨y, h1, _, h3⟩ := r.s.or 0 m' e
      exact k0 d m' v F' H' p r.w (fun z hz => by
        have hz' : q = some z := hz
        have h1' : q = some y := h1
        rw [hz'] at h1'
        cases h1'
        exact h3) a
    · obtain ⟨p1, p2⟩ := p
      have qn : q = none := hq.resolve_right fun z => p1 (by
        cases as with
        | nil => cases z
        | cons b t => cases z; rfl)
      exact k0 d 0 v F' H' p2 r.w (fun z hz => by rw [qn] at hz; cases hz) a
  refine ⟨_, body cdv A out sh H E q F0 hg hr, F0, _, [], _, rel_start w pa ho hm, says, ?_, ?_, ?_, ?_⟩
  · exact fun ρ' σ' F' H' p e r => fin .none .non ρ' σ' F' H' p r .non
  · exact fun d v ρ' σ' F' H' p r a => fin d v ρ' σ' F' H' p r a
  · exact fun ρ' σ' F' H' p => p.elim
  · exact fun ρ' σ' F' H' p => p.elim
theorem pss_some {X : Cx} {st : List Stmt} {ι : Type} {t : ι → TS} (h : ∀ i, PSs X st (t i)) : PSs X st (fun Z σ H => ∃ i, t i Z σ H) := ⟨fun pins s σ H Z I ⟨i, q⟩ => (h i).run pins s σ H Z I q⟩
end DL
namespace DL
open PySem L2
/-- a def under its name -/
def Cd (pr : Program) (wd : PySem.World) (K : PySem.W.Frag) (gl : Str → Option Value) (bas : Heap) (R : Orc) (k : Nat) (x : Str) (n : Nat) (S : SpD) : Prop :=
  ∃ (f : Addr) (fd : FuncData) (ps : List Str), FnG pr wd K gl bas k f fd ps (spD K R n S) ∧ gl x = some (.ref f) ∧ PySem.W.keepIn K (.ref f) = true ∧ Binds K fd ps []
theorem Cd.more {pr : Program} {wd : PySem.World} {K : PySem.W.Frag} {gl : Str → Option Value} {bas : Heap} {R : Orc} {j k : Nat} {x : Str} {n : Nat} {S : SpD} (C : Cd pr wd K gl bas R j x n S) (h : j ≤ k) : Cd pr wd K gl bas R k x n S := by
  obtain ⟨f, fd, ps, F, a, b, d⟩ := C
  exact ⟨f, fd, ps, F.more h, a, b, d⟩
theorem de_cd {X : Cx} {c : Cn} {k n : Nat} {S : SpD} {x : Str} {p pos : Pos} {e : Expr} {es : List Expr} {fa : AM} (C : Cd X.prog X.w X.K X.mg X.base c.R k x n S) (hK : X.K = c.K) (hg : X.A.guards = some []) (hr : Room k X.A) (gx : Gl X x)
    (ha : PA X (e :: es) (tAr c fa)) (hdb : (x == ("__debug__" : Str)) = false := by decide) (he : starEach (e :: es) X.env = (false, eval e X.env) :: starEach es X.env := by rfl) (hpl : (backTo pos (starEach es X.env)).any (·.1) = false := by rfl) :
    PE X (.Call (.Name x p) (e :: es) [] pos) (tD c (dCall n S fa)) := by
  obtain ⟨f, fd, ps, F, a, b, d⟩ := C
  exact de_call hK F hg hr gx a b d ha hdb he hpl
theorem hu64 {A : Around} {k : Nat} (hr : Room k A) : A.units + 64 < cLine := by have := hr.un; omega
theorem hu65 {A : Around} {k : Nat} (hr : Room k A) : A.units + 65 < cLine := by have := hr.un; omega
theorem de_cdO {X : Cx} {c : Cn} {k n i : Nat} {S : SpD} {x : Str} {p pos : Pos} {e : Expr} {es : List Expr} {fa : AM} (C : Cd X.prog X.w X.K X.mg X.base c.R k x n S) (hK : X.K = c.K) (hg : X.A.guards = some []) (hr : Room k X.A) (gx : Gl X x)
    (ha : PA X (e :: es) (tAr c fa)) (hdb : (x == ("__debug__" : Str)) = false := by decide) (he : starEach (e :: es) X.env = (false, eval e X.env) :: starEach es X.env := by rfl) (hpl : (backTo pos (starEach es X.env)).any (·.1) = false := by rfl) :
    PE X (.Call (.Name x p) (e :: es) [] pos) (tD c (dCallO i n S fa)) := by
  obtain ⟨f, fd, ps, F, a, b, d⟩ := C
  exact de_callO hK F hg hr gx a b d ha hdb he hpl
end DL
namespace DL
open PySem L2
section
variable {X : Cx} {c : Cn} {e a b : Expr} {pos : Pos}
def tyN : D → String
  | .none => "NoneType"
  | .bool _ => "bool"
  | .int _ => "int"
  | .str _ => "str"
  | .list _ => "list"
  | .tuple _ => "tuple"
  | .dict _ => "dict"
theorem tyx_of {F H : Hp} {v : V} {d : D} (e : Ex F H) (b : Bo c F H v d) : TyX c.K H v (.type (tyN d)) := by
  have a := b.at e
  have sq : ∀ {p : Addr} {o : HO} {T : String}, Rd H p o → (H p = some o → TyX c.K H (.ref p) (.type T)) → (∀ q, H p = some (.frz q o) → TyX c.K H (.ref p) (.type T)) → TyX c.K H (.ref p) (.type T) :=
    fun h k1 k2 => h.elim k1 fun ⟨q, z⟩ => k2 q z
  clear b
  cases a with
  | non => exact .base .non
  | bl b => exact .base (.bl b)
  | int i => exact .base (.int i)
  | str x => exact .base (.str x)
  | lst s t =>
    rcases s with h | ⟨o, its, n, h1, h2, _⟩
    · exact sq h (fun z => .base (.lst z)) fun q z => .base (.frz z)
    · exact .kList h1 h2
  | tup s t =>
    rcases s with h | ⟨o, its, n, h1, h2, _⟩
    · exact sq h (fun z => .base (.tup z)) fun q z => .fTuple z
    · exact .kTuple h1 h2
  | dk r n l t => exact sq r (fun z => .base (.dK z)) fun q z => .fDict z
  | dt r l t => exact .base (.dT r)
def dIsi (T : String) (f : HM) : DM := fun ρ P => f ρ fun h ρ1 => see ρ1 h fun d => ∃ k, kitB (tyN d) T = some k ∧ P (.bool k) ρ1
theorem de_isi {T : String} {y : Str} {p p2 : Pos} {f : HM} (hK : X.K = c.K) (hg : Gl X "isinstance") (hm : X.mg "isinstance" = none) (hy : Gl X y) (hmy : X.mg y = none) (hv : bootBuiltins y = some (.type T)) (ha : PE X e (tH c f))
    (hb : bootBuiltins "isinstance" = some (.builtin "isinstance") := by decide +kernel) (hn : y ≠ "__name__" := by decide) (hd : (y == ("__debug__" : Str)) = false := by decide)
    (s1 : starEach [e, .Name y p2] X.env = (false, eval e X.env) :: starEach [.Name y p2] X.env := by rfl) (s2 : starEach [.Name y p2] X.env = (false, eval (.Name y p2) X.env) :: starEach [] X.env := by rfl) (hpl : (backTo pos (starEach [.Name y p2] X.env)).any (·.1) = false := by rfl) :
    PE X (.Call (.Name "isinstance" p) [e, .Name y p2] [] pos) (tD c (dIsi T f)) := by
  refine PE.to (pe_callB call_isi hg hm hb (pa_cons ha (pa_cons (pe_bltn (v := .ty T) hy hmy hv rfl hn hd) pa_nil s2) s1) (by decide) (by decide) s1 hpl) ?_
  rintro σ H Q ⟨F, ρ, xx, P, rel, q, k⟩
  refine ⟨F, ρ, xx, _, rel, q, fun h ρ1 v F1 H1 q1 e1 r1 h1 => ?_⟩
  obtain ⟨d, bo, b, hk, q2⟩ := see_bo r1 h1 q1
  have ty := tyx_of r1.w.fh bo
  rw [← hK] at ty
  exact ⟨v, .ty T, _, _, b, rfl, .ty T, ty, kit_ty hk, k _ ρ1 _ F1 H1 q2 e1 r1 (.bl b)⟩
def gIn : G2 := fun x y P => match y with
  | .list ds => okD x ∧ okD y ∧ P (.bool (ds.any fun z => PyData.eqv z x))
  | _ => False
theorem sem_in (hK : X.K = c.K) (hu : X.A.units + 65 < cLine) : Sem2 X c (compareOp .In) gIn := by
  refine ⟨_, op_inD hu, fun F H σ ρ xx x y vx vy P Q r bx by_ g k => ?_⟩
  unfold gIn at g
  split at g
  · rename_i ds
    obtain ⟨ox, oy, q⟩ := g
    have a1 := (bx.at r.w.fh).dp ox.nod
    have a2 := (by_.at r.w.fh).dp oy.nod
    rw [← hK] at a1 a2
    exact ⟨x, ds, a1, a2, ox, oy, k _ _ F H q (Ex.refl F) r (.bl _)⟩
  · exact g.elim
def dNeg (f : DM) : DM := fun ρ P => f ρ fun d ρ1 => match d with
  | .int i => P (.int (-i)) ρ1
  | _ => False
theorem de_neg {f : DM} (ha : PE X a (tD c f)) : PE X (.UnaryOp .USub a pos) (tD c (dNeg f)) := PE.to (pe_un un_neg ha) fun σ H Q ⟨F, ρ, xx, P, rel, q, k⟩ => ⟨F, ρ, xx, _, rel, q, fun d ρ1 v F1 H1 q1 e1 r1 a1 => by
  split at q1
  · cases a1
    exact ⟨_, rfl, k _ ρ1 _ F1 H1 q1 e1 r1 (.int _)⟩
  · exact q1.elim⟩
def gIadd : G2 := fun x y P => match x, y with
  | .int i, .int j => P (.int (i + j))
  | _, _ => False
theorem sem_iadd : Sem2 X c (inplaceOp .Add) gIadd := by
  refine ⟨_, iop_add, fun F H σ ρ xx x y vx vy P Q r bx by_ g k => ?_⟩
  unfold gIadd at g
  split at g
  · cases bo_int bx
    cases bo_int by_
    exact ⟨_, _, rfl, rfl, k _ _ F H g (Ex.refl F) r (.int _)⟩
  · exact g.elim
def gRepr : GC := fun ds P => match ds with
  | [d] => nod d = true ∧ d.showable = true ∧ d.depth ≤ 60 ∧ d.shown.length ≤ 1000000 ∧ P (.str d.shown)
  | _ => False
def gReprS : GC := fun ds P => match ds with
  | [.list xs] => gRepr [.list xs] P
  | [.tuple xs] => gRepr [.tuple xs] P
  | _ => False
theorem ref_of_bo {F H : Hp} {v : V} {d : D} (b : Bo c F H v d) : (∃ a, v = .ref a) ∨ (d = .none ∧ v = .non) ∨ (∃ i, d = .int i ∧ v = .int i) ∨ (∃ i, d = .bool i ∧ v = .bl i) ∨ (∃ i, d = .str i ∧ v = .str i) := by
  rcases b with b | ⟨a, rfl, _⟩
  · cases b with
    | non => exact .inr (.inl ⟨rfl, rfl⟩)
    | bl b => exact .inr (.inr (.inr (.inl ⟨_, rfl, rfl⟩)))
    | int i => exact .inr (.inr (.inl ⟨_, rfl, rfl⟩))
    | str x => exact .inr (.inr (.inr (.inr ⟨_, rfl, rfl⟩)))
    | lst s t => exact .inl ⟨_, rfl⟩
    | tup s t => exact .inl ⟨_, rfl⟩
    | dk r n l t => exact .inl ⟨_, rfl⟩
    | dt r l t => exact .inl ⟨_, rfl⟩
  · exact .inl ⟨a, rfl⟩
def rRp (K : PySem.W.Frag) : List V → Hp → VK → Prop := fun vs H Q => ∃ a d, vs = [.ref a] ∧ Dp K H (.ref a) d ∧ nod d = true ∧ d.showable = true ∧ d.depth ≤ 60 ∧ d.shown.length ≤ 1000000 ∧ Q (.str d.shown) H
end
mutual
theorem nod_dict : ∀ d : D, nod d = true → d.hasDict = false
  | .none, _ => by simp [PyData.hasDict]
  | .bool _, _ => by simp [PyData.hasDict]
  | .int _, _ => by simp [PyData.hasDict]
  | .str _, _ => by simp [PyData.hasDict]
  | .list xs, h => by
    simp only [PyData.hasDict]
    exact nod_dictAll xs (by simpa [nod] using h)
  | .tuple xs, h => by
    simp only [PyData.hasDict]
    exact nod_dictAll xs (by simpa [nod] using h)
  | .dict _, h => by simp [nod] at h
theorem nod_dictAll : ∀ ds : List D, nodAll ds = true → PyData.hasDictAll ds = false
  | [], _ => by simp [PyData.hasDictAll]
  | x :: xs, h => by
    simp only [nodAll, Bool.and_eq_true] at h
    simp only [PyData.hasDictAll, Bool.or_eq_false_iff]
    exact ⟨nod_dict x h.1, nod_dictAll xs h.2⟩
end
section
variable {X : Cx} {c : Cn} {e a b : Expr} {pos : Pos}
theorem call_rp (hg : X.A.guards = some []) (hu : X.A.units + 64 < cLine) : CallR X (.builtin "repr") (rRp X.K) := by
  (intro pins s σ H xs us Q I r h)
  obtain ⟨a, d, rfl, hd, h1, h2, h3, h4, q⟩ := h
  obtain ⟨u, rfl, rv⟩ := vals1 r
  cases rv
  obtain ⟨as, rd⟩ := Dp.reads I d _ _ hd rfl
  refine repr_of_reads' rd h2 (PyData.noDict_hsm (nod_dict _ h1)) hg (by omega) (fun _ _ e => e) (fun h' u tk hk => ⟨.str d.shown, H, I.kept hk, ⟨u, rfl⟩, q⟩) (sz h4)
theorem sem_repr (hK : X.K = c.K) (hg : X.A.guards = some []) (hu : X.A.units + 64 < cLine) : SemC X c (.builtin "repr") gReprS := by
  refine ⟨_, call_rp hg hu, fun F H σ ρ xx ds vs P Q r bs g k => ?_⟩
  have key : ∀ d, ds = [d] → (∀ v, Bo c F H v d → ∃ a, v = .ref a) → gRepr [d] P → rRp X.K vs H Q := fun d hds hv gd => by
    subst hds
    obtain ⟨v, rfl, b⟩ := pr1 bs
    obtain ⟨a, rfl⟩ := hv v b
    obtain ⟨g1, g2, g3, g4, g5⟩ := gd
    have a1 := (b.at r.w.fh).dp g1
    rw [← hK] at a1
    exact ⟨a, d, rfl, a1, g1, g2, g3, g4, k _ _ F H g5 (Ex.refl F) r (.str _)⟩
  unfold gReprS at g
  split at g
  · rename_i xs
    refine key _ rfl (fun v b => ?_) g
    rcases ref_of_bo b with z | ⟨z, _⟩ | ⟨_, z, _⟩ | ⟨_, z, _⟩ | ⟨_, z, _⟩
    · exact z
    all_goals cases z
  · rename_i xs
    refine key _ rfl (fun v b => ?_) g
    rcases ref_of_bo b with z | ⟨z, _⟩ | ⟨_, z, _⟩ | ⟨_, z, _⟩ | ⟨_, z, _⟩
    · exact z
    all_goals cases z
  · exact g.elim
end
end DL
namespace DL
open PySem L2
section
variable {X : Cx} {c : Cn} {e a b : Expr} {pos : Pos}
def ownL (ρ : Env) (i : Nat) (k : List D → Prop) : Prop := match ρ[i]? with
  | some (.ow (.list ds)) => k ds
  | _ => False
theorem ownL_get {F H : Hp} {σ : L2.St} {ρ : Env} {xx : XX} (r : Rel c F H σ ρ xx) {i : Nat} {k : List D → Prop} (h : ownL ρ i k) : ∃ ds p vs, ρ[i]? = some (.ow (.list ds)) ∧ σ[i]? = some (some (.ref p)) ∧ H p = some (.lst vs) ∧ AtAll c.K F vs ds ∧ k ds := by
  unfold ownL at h
  split at h
  · rename_i ds e
    obtain ⟨p, g1, g2⟩ := r.s.ow i _ e
    obtain ⟨vs, h1, h2⟩ := g2.o
    exact ⟨ds, p, vs, e, g1, h1, h2, h⟩
  · exact h.elim
def sApp (i : Nat) (f : DM) : SM := fun E ρ => ownL ρ i (fun _ => True) ∧ f ρ fun d ρ1 => ownL ρ1 i fun ds => ds.length < 1000000 ∧ E.nx (ρ1.set i (.ow (.list (ds ++ [d]))))
theorem app_use {i : Nat} {f : DM} {te : TE} (et : te = tD c f) (hK : X.K = c.K) : ∀ Z σ H, tS c (sApp i f) Z σ H → tDrop (tBM X.K "list" rAppend (tVar i) (tCons te tNil)) Z σ H := by
  subst et
  rintro Z σ H ⟨F, ρ, xx, E, rel, ⟨q0, q⟩, n, rr, b, t⟩
  obtain ⟨ds0, p0, vs0, g1, g2, g3, g4, _⟩ := ownL_get rel q0
  refine ⟨.ref p0, g2, .inl ⟨rfl, vs0, SqL.of g3⟩, F, ρ, xx, _, rel, q, fun d ρ1 v F1 H1 q1 e1 r1 a1 => ?_⟩
  obtain ⟨ds, p, vs, h1, h2, h3, h4, hl, hn⟩ := ownL_get r1 q1
  have ep : p0 = p := by
    rw [g2] at h2
    cases h2
    rfl
  subst ep
  refine ⟨p0, vs, v, rfl, rfl, h3, szl (by rw [h4.length]; omega), ?_⟩
  exact n _ σ F1 _ hn e1 (r1.mut h1 h2 ⟨_, upd_same, h4.append (.cons a1 .nil)⟩)
theorem dp_app {x : Str} {i : Nat} {px apos cpos : Pos} {f : DM} (hK : X.K = c.K) (ho : PE X (.Name x px) (tVar i)) (ha : PE X e (tD c f))
    (hbase : attributeBase (.Name x px) "append" X.env (eval (.Name x px) X.env) = eval (.Name x px) X.env := by rfl)
    (hfew : ((backTo cpos (starEach [e] X.env)).all (fun x => !x.1)
        && (backToKw cpos (keywordEach [] X.env)).all (fun x => x.1.isSome)
      && decide (([e] : List Expr).length + ([] : List Keyword).length
          + (if ([] : List Keyword).isEmpty then 0 else 1) < 30)) = true := by rfl)
    (hline : (apos.endLine == cpos.line) = true := by rfl) (hs : starEach [e] X.env = (false, eval e X.env) :: starEach [] X.env := by rfl) (hplain : (backTo cpos (starEach [] X.env)).any (·.1) = false := by rfl)
    (hsw : swapsWith (.Call (.Attribute (.Name x px) "append" apos) [e] [] cpos) none pos.line X.env = pure false := by rfl) : PS X (.Expr (.Call (.Attribute (.Name x px) "append" apos) [e] [] cpos) pos) (tS c (sApp i f)) :=
  PS.to (ps_expr (pe_bm PySem.F.plainAttrs_list PySem.F.slot_list_append PySem.F.type_list_append mt_append ho (pa_cons ha pa_nil hs) hbase hfew hline hs hplain) hsw) (app_use rfl hK)
end
end DL
namespace DL
open PySem L2
section
variable {X : Cx} {c : Cn} {e a b : Expr} {pos : Pos}
def ofStrs : List D → Option (List Str)
  | [] => some []
  | .str x :: r => (ofStrs r).map (x :: ·)
  | _ => none
theorem ofStrs_eq : ∀ {ds : List D} {ns : List Str}, ofStrs ds = some ns → ds = ns.map PyData.str
  | [], ns, h => by cases h; rfl
  | .str x :: r, ns, h => by
    unfold ofStrs at h
    cases e : ofStrs r with
    | none => (rw [e] at h; cases h)
    | some m =>
      rw [e] at h
      cases h
      rw [ofStrs_eq e]
      rfl
  | .none :: _, _, h => by cases h
  | .bool _ :: _, _, h => by cases h
  | .int _ :: _, _, h => by cases h
  | .list _ :: _, _, h => by cases h
  | .tuple _ :: _, _, h => by cases h
  | .dict _ :: _, _, h => by cases h
theorem ofStrs_map : ∀ (ns : List Str), ofStrs (ns.map PyData.str) = some ns
  | [] => rfl
  | n :: r => by
    show (ofStrs (r.map PyData.str)).map (n :: ·) = _
    rw [ofStrs_map r]
    rfl
end
end DL
namespace DL
open PySem L2
section
variable {X : Cx} {c : Cn} {e a b e3 : Expr} {pos : Pos}
theorem dts_one {b : BM} (h : PT X e (tT c b)) : PTs X [e] (tT c b) := pts_one h
end
end DL
namespace DL
open PySem L2
section
variable {X : Cx} {c : Cn}
def gNeS : G2 := fun x y P => match x, y with
  | .str a, .str b => P (.bool (!decide (a = b)))
  | _, _ => False
theorem dec_strs {a b : Str} : decide (V.str a = V.str b) = decide (a = b) := by
  by_cases h : a = b
  · subst h
    simp
  · simp [h]
theorem sem_neS : Sem2 X c (compareOp .NotEq) gNeS := by
  refine ⟨_, op_ne, fun F H σ ρ xx x y vx vy P Q r bx by_ g k => ?_⟩
  unfold gNeS at g
  split at g
  · cases bo_str bx
    cases bo_str by_
    refine ⟨rfl, ?_⟩
    rw [dec_strs]
    exact k _ _ F H g (Ex.refl F) r (.bl _)
  · exact g.elim
end
end DL
namespace DL
open PySem L2 PySem.Spec PyProof.Rows
end DL
namespace DL
open PySem L2 PySem.Spec PyProof.Rows
/-- slots that know what the block's own slots knew -/
structure Knows (σ σ' : L2.St) (vs : List Nat) : Prop where
  l : (L2.wipe σ vs).length = σ'.length
  k : ∀ (j : Nat) v, (L2.wipe σ vs)[j]? = some (some v) → σ'[j]? = some (some v)
theorem Knows.of_eq {σ σ' : L2.St} {vs : List Nat} (e : L2.wipe σ' vs = L2.wipe σ vs) : Knows σ σ' vs := ⟨by rw [← e, wipe_length], fun j v q => (L2.wipe_some (show (L2.wipe σ' vs)[j]? = _ from e ▸ q)).1⟩
/-- a block stands open over a new container: what is known within, and what the end gives back -/
structure Opened (X : Cx) (pins : List (Addr × Obj)) (σ : L2.St) (own : List Nat) (Y : Cx) (fp : List Addr) (tn : Nat → Heap → Prop) (C : Addr) (G : Hp) (s : Shared) : Prop where
  inv : Inv Y [] (L2.wipe σ own) G s
  st : tn 0 s.heap
  no : ∀ b ∈ fp, G b = none
  still : ∀ (σ' : L2.St) (G' : Hp) (s' : Shared), Inv Y [] σ' G' s' → (∀ b ∈ fp, G' b = none) → ∀ b ∈ fp, FpOk Y [] G' b
  back : ∀ (σ' : L2.St) (G' : Hp) (s' : Shared), Inv Y [] σ' G' s' → Inv X pins σ G' s' ∧ (∃ m, s'.heap.Ns C m) ∧ FpOk X pins G' C
abbrev heapIn (h : Heap) (scope : Scope) : Heap := pushCells (h.push { cls := .type "dict", data := .dict #[] }) scope.names
abbrev envIn (X : Cx) (h : Heap) (scope : Scope) : PySem.Env := compEnvC scope (cellsFrom (h.objs.size + 1) scope.names (cloFrom X.env.cells scope.names [])) h.objs.size X.env
theorem Opened.of {X : Cx} {pins : List (Addr × Obj)} {σ : L2.St} {H : Hp} {s s3 : Shared} {tg : Expr} {J : It} {fp : List Addr} {it : Addr} {tn : Nat → Heap → Prop} {scope : Scope} {own : List (Str × Nat)} {o : HO} {ob : Obj} (hN : X.N.Nodup) (ok : BlkOk X.N X.env.scope scope own)
    (T : Turn X.prog X.w X.K tg J fp it tn) (st : tn 0 s.heap) (free : ∀ b ∈ fp, FpOk X pins H b) (e3 : s3.heap = s.heap.push ob) (I : Inv X pins σ (upd H s.heap.objs.size o) s3) :
    Opened X pins σ (own.map (·.2)) (X.blk s3 (upd H s.heap.objs.size o) scope (envIn X s3.heap scope) fp) fp tn s3.heap.objs.size (upd H s.heap.objs.size o) { s3 with heap := heapIn s3.heap scope } := by
  have lt : ∀ b ∈ fp, b < s.heap.objs.size := fun b mb => (T.obj 0 _ st b mb).elim fun _ q => Heap.lt_size q.1
  have free3 : ∀ b ∈ fp, FpOk X pins (upd H s.heap.objs.size o) b := fun b mb => ⟨(upd_ne (Nat.ne_of_lt (lt b mb))).trans (free b mb).1, (free b mb).2⟩
  have pushed : ∀ b z, s.heap.get? b = some z → s3.heap.get? b = some z := fun b z q => by rw [e3]; exact Heap.get?_push_of_some _ q
  exact {
    inv := block_start I ok hN fun b mb => ⟨free3 b mb, by rw [e3, Heap.size_push]; exact Nat.lt_succ_of_lt (lt b mb)⟩
    st := T.keep 0 _ _ st fun b _ z q => pushCells_keeps _ _ _ _ (Heap.get?_push_of_some _ (pushed b z q))
    no := fun b mb => (free3 b mb).1
    still := fun σ' G' s' J' n b mb =>
      have away := J'.ok.exf b mb
      ⟨n b mb, away.1, J'.ok.exfs b mb, .inl mb, away.2, fun p hp => (List.not_mem_nil hp).elim⟩
    back := fun σ' G' s' J' => by
      refine ⟨I.call' J'.os J'.base J'.hok J'.bare fun b mb => ?_, J'.loc.elim fun m q => ⟨m, q.1⟩, I.fpOk (Nat.le_refl _) J'.free⟩
      obtain ⟨-, f1, f2, f3, f4, f5⟩ := free3 b mb
      exact ⟨f3, f1, f4, f5⟩ }
end DL
namespace DL
open PySem L2 PySem.Spec PyProof.Rows
end DL
namespace DL
open PySem L2 PySem.Spec PyProof.Rows
end DL
namespace DL
open PySem L2 PySem.Spec PyProof.Rows
end DL
namespace DL
open PySem L2 PySem.Spec PyProof.Rows
end DL
namespace DL
open PySem L2
theorem hd_d {x : D} {as : List Ar} : ((Ar.d x :: as).head?).map isD ≠ some false := by simp [isD]
theorem k_int : kitB "int" "int" = some true := by decide +kernel
theorem k_ib : kitB "int" "bool" = some false := by decide +kernel
theorem k_tt : kitB "tuple" "tuple" = some true := by decide +kernel
theorem k_ss : kitB "str" "str" = some true := by decide +kernel
/-- a comprehension whose items are told by a function -/
theorem lcL_map {t : TM} {f : DM} {vs : List Nat} {K : List D → DL.Env → Prop} {ρ : DL.Env} (g : D → D) : ∀ (ds acc : List D), (∀ d ∈ ds, ∀ Q : D → DL.Env → Prop, (∀ ρ3, wipeE ρ3 vs = ρ → Q (g d) ρ3) → t d ρ fun ρ1 => f ρ1 Q) → K (acc ++ ds.map g) ρ → lcL t bYes f vs K ds acc ρ
  | [], acc, _, hk => by
    show K acc ρ
    simpa using hk
  | d :: ds, acc, h, hk => by
    refine h d (List.mem_cons_self ..) _ fun ρ3 e => ?_
    show lcL t bYes f vs K ds (acc ++ [g d]) (wipeE ρ3 vs)
    rw [e]
    exact lcL_map g ds (acc ++ [g d]) (fun d' hd => h d' (List.mem_cons_of_mem _ hd)) (by simpa using hk)
end DL
namespace DL
open PySem L2
end DL
namespace DL
open PySem L2
def kC : Key := .inr "cells"
def kL : Key := .inr "left"
def kS : Key := .inr "spot"
structure SrcAt (H : Hp) (q c l : Addr) (cs ls : List Int) (k : Nat) : Prop where
  dq : H q = some (.dK [(kC, .ref c), (kL, .ref l), (kS, .int k)])
  dc : H c = some (.lst (cs.map V.int))
  dl : H l = some (.lst (ls.map V.int))
  ne : c ≠ l
  nc : cs.length ≤ 100
  nl : ls.length ≤ 100
def spotOf : Option HO → Nat
  | some (.dK [_, _, (_, .int k)]) => k.toNat
  | _ => 0
theorem SrcAt.foot {H : Hp} {q c l : Addr} {cs ls : List Int} {k : Nat} (s : SrcAt H q c l cs ls k) {a : Addr} (h : Foot (some q) H a) : a = q ∨ a = c ∨ a = l := by
  rcases h with h | ⟨kvs, y, h1, h2⟩
  · exact .inl h
  · rw [s.dq] at h1
    cases h1
    simp only [List.mem_cons, Prod.mk.injEq, List.not_mem_nil, or_false] at h2
    rcases h2 with ⟨_, h⟩ | ⟨_, h⟩ | ⟨_, h⟩
    · cases h; exact .inr (.inl rfl)
    · cases h; exact .inr (.inr rfl)
    · cases h
theorem SrcAt.fq {H : Hp} {q : Addr} : Foot (some q) H q := .inl rfl
theorem SrcAt.fc {H : Hp} {q c l : Addr} {cs ls : List Int} {k : Nat} (s : SrcAt H q c l cs ls k) : Foot (some q) H c := .inr ⟨_, kC, s.dq, List.mem_cons_self ..⟩
theorem SrcAt.fl {H : Hp} {q c l : Addr} {cs ls : List Int} {k : Nat} (s : SrcAt H q c l cs ls k) : Foot (some q) H l := .inr ⟨_, kL, s.dq, List.mem_cons_of_mem _ (List.mem_cons_self ..)⟩
def srcOrc : Orc where
  I q H := ∃ c l cs ls k, SrcAt H q c l cs ls k
  cnt q H := spotOf (H q)
  al q H a h f := by
    obtain ⟨c, l, cs, ls, k, s⟩ := h
    rcases s.foot f with rfl | rfl | rfl
    · rw [s.dq]; exact Option.some_ne_none _
    · rw [s.dc]; exact Option.some_ne_none _
    · rw [s.dl]; exact Option.some_ne_none _
  st q H H' h e := by
    obtain ⟨c, l, cs, ls, k, s⟩ := h
    exact ⟨c, l, cs, ls, k, ⟨(e q SrcAt.fq).trans s.dq, (e c s.fc).trans s.dc, (e l s.fl).trans s.dl, s.ne, s.nc, s.nl⟩⟩
  sc q H H' h e := by rw [e q SrcAt.fq]
/-- H' is H but for the source, which may have new parts -/
structure Tou (q : Addr) (H H' : Hp) : Prop where
  kp : ∀ a, H a ≠ none → ¬ Foot (some q) H a → H' a = H a
  dom : ∀ a, H a ≠ none → H' a ≠ none
  ft : ∀ a, Foot (some q) H' a → Foot (some q) H a ∨ H a = none
theorem Tou.refl {q : Addr} {H : Hp} : Tou q H H := ⟨fun _ _ _ => rfl, fun _ h => h, fun _ h => .inl h⟩
theorem Tou.trans {q : Addr} {H H' H'' : Hp} (a : Tou q H H') (b : Tou q H' H'') : Tou q H H'' := by
  refine ⟨fun x h f => ?_, fun x h => b.dom x (a.dom x h), fun x h => ?_⟩
  · rw [b.kp x (a.dom x h) fun z => (a.ft x z).elim f h, a.kp x h f]
  · rcases b.ft x h with h | h
    · exact a.ft x h
    · refine .inr ?_
      cases z : H x with
      | none => rfl
      | some o => exact absurd h (a.dom x (by rw [z]; exact Option.some_ne_none o))
theorem Tou.world {q : Addr} {F H H' : Hp} (t : Tou q H H') (w : World srcOrc (some q) F H F H) (i : srcOrc.I q H') : World srcOrc (some q) F H F H' := by
  have al : ∀ a, F a ≠ none → H a ≠ none := fun a h z => by
    cases e : F a with
    | none => exact h e
    | some o =>
      have := w.fh a o e
      rw [z] at this
      cases this
  refine ⟨Ex.refl F, fun a o e => ?_, fun a o e f => ⟨?_, fun z => ?_⟩, t.dom, fun _ _ e => e, fun a h z => ?_, fun y e => ?_⟩
  · have h0 : F a ≠ none := by rw [e]; exact Option.some_ne_none o
    rw [t.kp a (al a h0) (w.ft a h0)]
    exact w.fh a o e
  · rw [t.kp a (by rw [e]; exact Option.some_ne_none o) f]
    exact e
  · rcases t.ft a z with z | z
    · exact f z
    · rw [e] at z
      cases z
  · rcases t.ft a z with z | z
    · exact w.ft a h z
    · exact al a h z
  · cases e
    exact i
/-- a new object -/
theorem Tou.new {q p : Addr} {o : HO} {H : Hp} (hp : H p = none) (hq : H q ≠ none) : Tou q H (upd H p o) := by
  have nq : q ≠ p := fun z => hq (by rw [z]; exact hp)
  refine ⟨fun a h _ => upd_ne fun z => h (by rw [z]; exact hp), fun a h => ?_, fun a h => .inl ?_⟩
  · by_cases z : a = p
    · exact absurd (by rw [z]; exact hp) h
    · rw [upd_ne z]
      exact h
  · exact (Foot.eqv (p := some q) (fun y e => by cases e; exact upd_ne nq) a).mp h
theorem SrcAt.new {H : Hp} {q c l p : Addr} {cs ls : List Int} {k : Nat} {o : HO} (s : SrcAt H q c l cs ls k) (hp : H p = none) : SrcAt (upd H p o) q c l cs ls k :=
  ⟨(upd_ne (ne_of_none s.dq hp)).trans s.dq, (upd_ne (ne_of_none s.dc hp)).trans s.dc, (upd_ne (ne_of_none s.dl hp)).trans s.dl, s.ne, s.nc, s.nl⟩
/-- the list of great ones is another -/
theorem SrcAt.setL {H : Hp} {q c l l' : Addr} {cs ls ls' : List Int} {k : Nat} (s : SrcAt H q c l cs ls k) (h : H l' = some (.lst (ls'.map V.int))) (n : c ≠ l') (z : ls'.length ≤ 100) : SrcAt (upd H q (.dK [(kC, .ref c), (kL, .ref l'), (kS, .int k)])) q c l' cs ls' k := by
  have qc : c ≠ q := fun e => by have := s.dc; rw [e, s.dq] at this; cases this
  have ql : l' ≠ q := fun e => by rw [e, s.dq] at h; cases h
  exact ⟨upd_same, (upd_ne qc).trans s.dc, (upd_ne ql).trans h, n, s.nc, z⟩
theorem SrcAt.setS {H : Hp} {q c l : Addr} {cs ls : List Int} {k : Nat} (s : SrcAt H q c l cs ls k) (k' : Nat) : SrcAt (upd H q (.dK [(kC, .ref c), (kL, .ref l), (kS, .int k')])) q c l cs ls k' := by
  have qc : c ≠ q := fun e => by have := s.dc; rw [e, s.dq] at this; cases this
  have ql : l ≠ q := fun e => by have := s.dl; rw [e, s.dq] at this; cases this
  exact ⟨upd_same, (upd_ne qc).trans s.dc, (upd_ne ql).trans s.dl, s.ne, s.nc, s.nl⟩
theorem SrcAt.setV {H : Hp} {q c l : Addr} {cs ls : List Int} {k : Nat} (s : SrcAt H q c l cs ls k) (ls' : List Int) (z : ls'.length ≤ 100) : SrcAt (upd H l (.lst (ls'.map V.int))) q c l cs ls' k := by
  have ql : q ≠ l := fun e => by have := s.dl; rw [← e, s.dq] at this; cases this
  exact ⟨(upd_ne ql).trans s.dq, (upd_ne s.ne).trans s.dc, upd_same, s.ne, s.nc, z⟩
/-- a store into the dict, or into its list -/
theorem Tou.putQ {H : Hp} {q c l l' : Addr} {cs ls : List Int} {k : Nat} {v : V} (s : SrcAt H q c l cs ls k) (hl : l' = l ∨ H l' = none) (nv : ∀ a, v ≠ .ref a) : Tou q H (upd H q (.dK [(kC, .ref c), (kL, .ref l'), (kS, v)])) := by
  refine ⟨fun a h f => upd_ne fun z => f (by rw [z]; exact SrcAt.fq), fun a h => ?_, fun a h => ?_⟩
  · by_cases z : a = q
    · rw [z, upd_same]; exact Option.some_ne_none _
    · rw [upd_ne z]; exact h
  · rcases h with h | ⟨kvs, y, h1, h2⟩
    · exact .inl (.inl h)
    · rw [upd_same] at h1
      cases h1
      simp only [List.mem_cons, Prod.mk.injEq, List.not_mem_nil, or_false] at h2
      rcases h2 with ⟨_, h⟩ | ⟨_, h⟩ | ⟨_, h⟩
      · cases h; exact .inl s.fc
      · cases h
        rcases hl with hl | hl
        · rw [hl]; exact .inl s.fl
        · exact .inr hl
      · exact absurd h.symm (nv a)
theorem Tou.putL {H : Hp} {q c l : Addr} {cs ls : List Int} {k : Nat} {o : HO} (s : SrcAt H q c l cs ls k) : Tou q H (upd H l o) := by
  have ql : q ≠ l := fun e => by have := s.dl; rw [← e, s.dq] at this; cases this
  refine ⟨fun a h f => upd_ne fun z => f (by rw [z]; exact s.fl), fun a h => ?_, fun a h => .inl ?_⟩
  · by_cases z : a = l
    · rw [z, upd_same]; exact Option.some_ne_none _
    · rw [upd_ne z]; exact h
  · exact (Foot.eqv (p := some q) (fun y e => by cases e; exact upd_ne ql) a).mp h
theorem SrcAt.spot {H : Hp} {q c l : Addr} {cs ls : List Int} {k : Nat} (s : SrcAt H q c l cs ls k) : srcOrc.cnt q H = k := by
  show spotOf (H q) = k
  rw [s.dq]
  rfl
theorem okD_ints (ns : List Int) : okD (.list (ns.map PyData.int)) := by
  have h1 : ∀ ms : List Int, PyData.canLayAll0 (ms.map PyData.int) = true := fun ms => by
    induction ms with
    | nil => rfl
    | cons m r ih => exact Bool.and_eq_true_iff.mpr ⟨rfl, ih⟩
  have h2 : ∀ ms : List Int, PyData.depthAll (ms.map PyData.int) ≤ 1 := fun ms => by
    induction ms with
    | nil => simp [PyData.depthAll]
    | cons m r ih => simp only [List.map_cons, PyData.depthAll, PyData.depth]; omega
  show SeqAt.shaped _ = true
  unfold SeqAt.shaped
  rw [Bool.and_eq_true_iff]
  refine ⟨h1 ns, decide_eq_true ?_⟩
  simp only [PyData.depth]
  have := h2 ns
  omega
theorem dp_ints {K : PySem.W.Frag} {H : Hp} {a : Addr} {ns : List Int} (h : H a = some (.lst (ns.map V.int))) : Dp K H (.ref a) (.list (ns.map PyData.int)) :=
  (At.lst (.inl (.inl h)) (AtAll.ofInts ns)).dp (okD_ints ns).nod
end DL
namespace DL
open PySem L2
section
variable {H : Hp} {q c l : Addr} {cs ls : List Int} {k : Nat} {σ : L2.St} {Q : VK}
theorem rdC (s : SrcAt H q c l cs ls k) (h0 : σ[0]? = some (some (.ref q))) (h : Q (.ref c) H) : tDGet (tVar 0) (tC (.str "cells")) σ H Q := ⟨_, h0, q, _, rfl, DGet.k (k := kC) s.dq, h⟩
theorem rdL (s : SrcAt H q c l cs ls k) (h0 : σ[0]? = some (some (.ref q))) (h : Q (.ref l) H) : tDGet (tVar 0) (tC (.str "left")) σ H Q := ⟨_, h0, q, _, rfl, DGet.k (k := kL) s.dq, h⟩
theorem rdS (s : SrcAt H q c l cs ls k) (h0 : σ[0]? = some (some (.ref q))) (h : Q (.int k) H) : tDGet (tVar 0) (tC (.str "spot")) σ H Q := ⟨_, h0, q, _, rfl, DGet.k (k := kS) s.dq, h⟩
end
end DL
namespace DL
open PySem L2
def leftLen (q : Addr) (H : Hp) : Nat := match H q with
  | some (.dK [_, (_, .ref l), _]) => (match H l with
    | some (.lst xs) => xs.length
    | _ => 0)
  | _ => 0
theorem SrcAt.len {H : Hp} {q c l : Addr} {cs ls : List Int} {k : Nat} (s : SrcAt H q c l cs ls k) : leftLen q H = ls.length := by
  unfold leftLen
  rw [s.dq]
  simp only
  rw [s.dl]
  simp
abbrev gtL : TE := tDGet (tVar 0) (tC (.str "left"))
abbrev gtC : TE := tDGet (tVar 0) (tC (.str "cells"))
section
variable {K : PySem.W.Frag} {q c l : Addr} {cs ls : List Int} {k : Nat} {H H0 : Hp} {σ : L2.St}
/-- d["left"] != [] -/
theorem ne_left {Q : Bool → Hp → Prop} (s : SrcAt H q c l cs ls k) (h0 : σ[0]? = some (some (.ref q))) (h : ∀ H', SrcAt H' q c l cs ls k → Tou q H H' → Q (decide (ls ≠ [])) H') : tTest (tOp (rNeD K) gtL (tLst tNil)) σ H Q := by
  refine rdL s h0 ⟨Nat.zero_le _, fun p hp => ?_⟩
  have s1 : SrcAt (upd H p (.lst [])) q c l cs ls k := s.new hp
  refine ⟨_, _, dp_ints s1.dl, dp_ints (ns := []) upd_same, okD_ints ls, okD_ints [], _, rfl, ?_⟩
  have e : (!PyData.eqv (.list (ls.map PyData.int)) (.list ([].map PyData.int))) = decide (ls ≠ []) := by
    cases ls <;> rfl
  rw [e]
  exact h _ s1 (Tou.new hp (by rw [s.dq]; exact Option.some_ne_none _))
theorem ne_cells {Q : Bool → Hp → Prop} (s : SrcAt H q c l cs ls k) (h0 : σ[0]? = some (some (.ref q))) (h : ∀ H', SrcAt H' q c l cs ls k → Tou q H H' → Q (decide (cs ≠ [])) H') : tTest (tOp (rNeD K) gtC (tLst tNil)) σ H Q := by
  refine rdC s h0 ⟨Nat.zero_le _, fun p hp => ?_⟩
  have s1 : SrcAt (upd H p (.lst [])) q c l cs ls k := s.new hp
  refine ⟨_, _, dp_ints s1.dc, dp_ints (ns := []) upd_same, okD_ints cs, okD_ints [], _, rfl, ?_⟩
  have e : (!PyData.eqv (.list (cs.map PyData.int)) (.list ([].map PyData.int))) = decide (cs ≠ []) := by
    cases cs <;> rfl
  rw [e]
  exact h _ s1 (Tou.new hp (by rw [s.dq]; exact Option.some_ne_none _))
theorem put_kS {c l : Addr} {k : Nat} {v : V} : putK [(kC, V.ref c), (kL, V.ref l), (kS, V.int k)] kS v = [(kC, V.ref c), (kL, V.ref l), (kS, v)] := rfl
theorem small3 : 3 < sizeLine := by decide +kernel
theorem next_while {U : TS} {D0 : Ends} (s : SrcAt H q c l cs ls k) (h0 : σ[0]? = some (some (.ref q))) (hU : ∀ l ls H', SrcAt H' q c l cs ls k → Tou q H H' → U D0 σ H') :
    tSeq (tWhile (tAnd (tTest (tOp (rNeD K) gtL (tLst tNil))) (tTest (tOp rEq (tOp (rIxL K) gtL (tC (.int 0))) (tC (.int 0))))) (sDPut (tVar 0) (tC (.str "left")) (tSl (rSlL K) gtL (tPart (tC (.int 1))) tNoPart))) U D0 σ H := by
  refine ⟨fun m σ' H' => σ' = σ ∧ ∃ l ls, SrcAt H' q c l cs ls k ∧ Tou q H H' ∧ m = ls.length, ⟨_, rfl, l, ls, s, .refl, rfl⟩, ?_⟩
  rintro m σ' H' ⟨rfl, l1, ls1, s1, t1, rfl⟩
  refine ne_left s1 h0 fun H2 s2 t2 => ?_
  cases ls1 with
  | nil => exact hU _ _ _ s2 (t1.trans t2)
  | cons x r =>
    show tTest (tOp rEq (tOp (rIxL K) gtL (tC (.int 0))) (tC (.int 0))) σ' H2 _
    refine rdL s2 h0 ⟨l1, _, 0, .int x, rfl, rfl, SqL.of s2.dl, by simp [atI, ixN], rfl, _, rfl, ?_⟩
    by_cases hx : x = 0
    · subst hx
      show if decide (V.int 0 = V.int 0) = true then _ else _
      rw [if_pos (decide_eq_true rfl)]
      refine ⟨fun σ3 H3 => σ3 = σ' ∧ ∃ l, SrcAt H3 q c l cs r k ∧ Tou q H H3, fun σ3 H3 ⟨e, l3, s3, t3⟩ => ⟨r.length, Nat.lt_succ_self _, e, l3, r, s3, t3, rfl⟩, ?_⟩
      refine rdL s2 h0 ⟨1, rfl, l1, _, rfl, SqL.of s2.dl, fun p hp => ?_⟩
      have ec : cutV ((0 :: r).map V.int) (some 1) none = r.map V.int := by
        have := s2.nl
        unfold cutV
        have e1 : HT.sIx ((0 :: r).map V.int).length 0 (some 1) = 1 := by
          unfold HT.sIx
          simp
        have e2 : HT.sIx ((0 :: r).map V.int).length ((0 :: r).map V.int).length none = ((0 :: r).map V.int).length := rfl
        rw [e1, e2]
        simp
        (exact List.take_of_length_le (by simp))
      rw [ec]
      have s3 : SrcAt (upd H2 p (.lst (r.map V.int))) q c l1 cs (0 :: r) k := s2.new hp
      have np : c ≠ p := ne_of_none s2.dc hp
      refine ⟨.ref q, h0, q, _, rfl, DPut.k (k := kL) s3.dq small3, rfl, p, s3.setL upd_same np (by have := s2.nl; simp at this; omega), ?_⟩
      have t3 : Tou q H2 (upd H2 p (.lst (r.map V.int))) := Tou.new hp (by rw [s2.dq]; exact Option.some_ne_none _)
      have t4 : Tou q H2 (upd (upd H2 p (.lst (r.map V.int))) q (.dK [(kC, .ref c), (kL, .ref p), (kS, .int k)])) := by
        have pq : p ≠ q := fun z => by rw [z, s2.dq] at hp; cases hp
        have ex : upd (upd H2 p (.lst (r.map V.int))) q (.dK [(kC, .ref c), (kL, .ref p), (kS, .int k)]) = upd (upd H2 q (.dK [(kC, .ref c), (kL, .ref p), (kS, .int k)])) p (.lst (r.map V.int)) := by
          funext a
          by_cases z : a = q
          · rw [z, upd_same, upd_ne pq.symm, upd_same]
          · rw [upd_ne z]
            by_cases y : a = p
            · rw [y, upd_same, upd_same]
            · rw [upd_ne y, upd_ne y, upd_ne z]
        rw [ex]
        exact (Tou.putQ (v := .int k) s2 (.inr hp) (fun _ z => by cases z)).trans (Tou.new (by rw [upd_ne pq]; exact hp) (by rw [upd_same]; exact Option.some_ne_none _))
      exact (t1.trans t2).trans t4
    · show if decide (V.int x = V.int 0) = true then _ else _
      rw [if_neg (by simpa using hx)]
      exact hU _ _ _ s2 (t1.trans t2)
end
end DL
namespace DL
open PySem L2
abbrev rIntT : List V → Hp → VK → Prop := fun xs H Q => (∃ i, xs = [.int i] ∧ Q (.int i) H) ∨ ∃ k, xs = [.bl k] ∧ Q (.int (if k then 1 else 0)) H
abbrev rLenS (K : PySem.W.Frag) : List V → Hp → VK → Prop := fun xs H Q => ∃ p ys, xs = [.ref p] ∧ (SqL K H p ys ∨ SqT K H p ys) ∧ Q (.int ys.length) H
theorem atI_some {cs : List Int} {j : Int} (h : cs ≠ []) : ∃ z, atI (cs.map V.int) (j % (((cs.map V.int).length : Nat) : Int)) = some (V.int z) := by
  have hp : 0 < cs.length := List.length_pos_iff.mpr h
  rw [List.length_map]
  have a := Int.emod_nonneg j (b := (cs.length : Int)) (by omega)
  have b := Int.emod_lt_of_pos j (b := (cs.length : Int)) (by omega)
  generalize j % (cs.length : Int) = i at a b
  have hi : i.toNat < cs.length := by omega
  refine ⟨cs[i.toNat], ?_⟩
  unfold atI ixN
  rw [if_pos a, if_pos (by rw [List.length_map]; exact b)]
  show (cs.map V.int)[i.toNat]? = _
  (rw [List.getElem?_map, List.getElem?_eq_getElem hi])
  rfl
section
variable {K : PySem.W.Frag} {q c l : Addr} {cs ls : List Int} {k : Nat} {H H0 : Hp} {σ : L2.St}
theorem cell_use {j : Int} {Q : VK} (s : SrcAt H q c l cs ls k) (h0 : σ[0]? = some (some (.ref q))) (h2 : σ[2]? = some (some (.int j))) (h : ∀ z H', SrcAt H' q c l cs ls k → Tou q H H' → Q (.int z) H') :
    tIf (tTest (tOp (rNeD K) gtC (tLst tNil))) (tOp (rIxL K) gtC (tOp (rI (fun _ j => 0 < j) fun i j => .int (i % j)) (tCB rIntT (tCons (tVar 2) tNil)) (tCB (rLenS K) (tCons gtC tNil)))) (tC (.int 23)) σ H Q := by
  refine ne_cells s h0 fun H1 s1 t1 => ?_
  by_cases e : cs = []
  · show if decide (cs ≠ []) = true then _ else _
    rw [if_neg (by simpa using e)]
    exact h 23 H1 s1 t1
  · show if decide (cs ≠ []) = true then _ else _
    (rw [if_pos (decide_eq_true e)])
    obtain ⟨z, hz⟩ := atI_some (j := j) e
    refine rdC s1 h0 ⟨_, h2, .inl ⟨_, rfl, ?_⟩⟩
    refine rdC s1 h0 ⟨c, _, rfl, .inl (SqL.of s1.dc), ?_⟩
    (refine ⟨_, _, rfl, rfl, ?_, ?_⟩)
    · show (0 : Int) < ((cs.map V.int).length : Nat)
      rw [List.length_map]
      have := List.length_pos_iff.mpr e
      omega
    · exact ⟨c, _, _, _, rfl, rfl, SqL.of s1.dc, hz, h z H1 s1 t1⟩
end
end DL
namespace DL
open PySem L2
def spBegun (K : PySem.W.Frag) : Sp := fun vs H Q _ => ∃ (a : Addr) (ns : List Int), vs = [.ref a] ∧ SqL K H a (ns.map V.int) ∧ ns.length ≤ 63 ∧
  ∀ q c l cs ls H', (∀ b o, H b = some o → H' b = some o) → H q = none → H c = none → H l = none → SrcAt H' q c l cs ls 0 → Q (.ref q) H'
theorem disp_use {K : PySem.W.Frag} {σ : L2.St} {ρ : Env} {H : Hp} {f1 f2 : DM} {te1 te2 : TE} {ns ms : List Int} {Q : VK} (r : Rel ⟨K, Orc.nil, none, H, H⟩ H H σ ρ []) (e1 : te1 = tN ⟨K, Orc.nil, none, H, H⟩ f1) (e2 : te2 = tN ⟨K, Orc.nil, none, H, H⟩ f2)
    (h1 : f1 ρ fun d ρ1 => d = .list (ns.map PyData.int) ∧ f2 ρ1 fun d2 _ => d2 = .list (ms.map PyData.int)) (hn : ns.length ≤ 100) (hm : ms.length ≤ 100)
    (k : ∀ q c l H', (∀ b o, H b = some o → H' b = some o) → H q = none → H c = none → H l = none → SrcAt H' q c l ns ms 0 → Q (.ref q) H') :
    tDisp [(tC (.str "cells"), te1), (tC (.str "left"), te2), (tC (.str "spot"), tC (.int 0))] σ H Q := by
  subst e1 e2
  intro p hp
  obtain ⟨r1, fp⟩ := Fresh.new (o := .dK []) (d := .o (.dK [])) r hp upd_same
  refine ⟨H, ρ, _, _, r1.pushX fp, h1, ?_⟩
  rintro d1 ρ1 a1 F1 H1 ⟨rfl, h2⟩ ex1 r2 f1'
  refine ⟨F1, ρ1, _, _, r2.pushX f1', h2, ?_⟩
  rintro d2 ρ2 a2 F2 H2 rfl ex2 r3 f2'
  have r4 := r3.pushX f2'
  have xp := r4.s.ex (p, .o (.dK [])) (by simp)
  have x1 := r4.s.ex (a1, .d (.list (ns.map PyData.int))) (by simp)
  have x2 := r4.s.ex (a2, .d (.list (ms.map PyData.int))) (by simp)
  have nd := r4.s.xd
  simp only [List.map_cons, List.map_nil, List.nodup_cons, List.mem_cons, List.not_mem_nil, or_false, not_or] at nd
  obtain ⟨v1, g1, t1⟩ := x1.1.o
  obtain ⟨v2, g2, t2⟩ := x2.1.o
  have q1 := t1.ints
  have q2 := t2.ints
  subst q1 q2
  refine ⟨xp.1.o, [(kC, .ref a1), (kL, .ref a2), (kS, .int 0)], rfl, (by show 3 ≤ 15; omega), ?_⟩
  have kp : ∀ b o, H b = some o → H2 b = some o := fun b o e => (r4.w.kp b o e fun z => z).1
  refine k p a1 a2 _ (fun b o e => ?_) hp x1.1.y x2.1.y ⟨?_, ?_, ?_, ?_, hn, hm⟩
  · rw [upd_ne (ne_of_none e hp)]
    exact kp b o e
  · rw [upd_same]
    rfl
  · rw [upd_ne (fun z => nd.2.1 z)]
    exact g1
  · rw [upd_ne (fun z => nd.1.2 z)]
    exact g2
  · exact fun z => nd.1.1 z.symm
/-- what stands in the two lists -/
def great (ns : List Int) : List Int := ns.filter fun x => decide (1000000000000000000 ≤ x)
theorem made_data (ns : List Int) (h : ns.length ≤ 63) : dCB gList (DL.gCons (hS 0) DL.gNil) [.im (.list (ns.map PyData.int)), .no] fun d ρ1 => d = .list (ns.map PyData.int) ∧
    dLc (iSeq (dV 0)) (gN 1) (bD (d2 gGe (hS 1) (hV (d2 gPow (hV (dC (.int 10))) (hV (dC (.int 18))))))) (dV 1) [1] ρ1 fun d2 _ => d2 = .list ((great ns).map PyData.int) := by
  refine ⟨trivial, rfl, ?_⟩
  have ew : (10 : Int) ^ (18 : Int).toNat = 1000000000000000000 := by decide
  have step : ∀ (ms : List Int) (acc : List D) (Kp : List D → Env → Prop), Kp (acc ++ (great ms).map PyData.int) [.im (.list (ns.map PyData.int)), .no] →
      lcL (gN 1) (bD (d2 gGe (hS 1) (hV (d2 gPow (hV (dC (.int 10))) (hV (dC (.int 18))))))) (dV 1) [1] Kp (ms.map PyData.int) acc [.im (.list (ns.map PyData.int)), .no] := by
    intro ms
    induction ms with
    | nil =>
      intro acc Kp h
      show Kp acc _
      simpa [great] using h
    | cons x r ih =>
      intro acc Kp h
      refine ⟨trivial, ⟨by decide, by decide, by decide⟩, ?_⟩
      show if decide ((10 : Int) ^ (18 : Int).toNat ≤ x) = true then _ else _
      rw [ew]
      by_cases hx : 1000000000000000000 ≤ x
      · rw [if_pos (decide_eq_true hx)]
        refine ih (acc ++ [.int x]) Kp ?_
        have : great (x :: r) = x :: great r := by simp [great, hx]
        rw [this] at h
        simpa using h
      · rw [if_neg (by simpa using hx)]
        refine ih acc Kp ?_
        have : great (x :: r) = great r := by simp [great, hx]
        rw [this] at h
        exact h
  refine ⟨by rw [List.length_map]; omega, ⟨by simp, fun j hj => ?_⟩, step ns [] _ ?_⟩
  · simp only [List.mem_singleton] at hj
    subst hj
    rfl
  · simp
theorem great_len (ns : List Int) : (great ns).length ≤ ns.length := List.length_filter_le _ _
end DL
namespace DL
open PySem L2
end DL
namespace DL
open PySem L2
section
variable {X : Cx} {c : Cn}
theorem strs_vs {K : PySem.W.Frag} {F : Hp} : ∀ {vs : List V} {zs : List Str}, AtAll K F vs (zs.map PyData.str) → vs = zs.map V.str
  | _, [], h => by cases h; rfl
  | _, z :: zs, h => by
    cases h with
    | cons a t =>
      cases a
      rw [strs_vs t]
      rfl
/-- a text in a tuple of texts -/
def gInS : G2 := fun x y P => match x, y with
  | .str a, .tuple ds => ∃ zs, ofStrs ds = some zs ∧ P (.bool (zs.any fun z => z == a))
  | _, _ => False
theorem sem_inS (hK : X.K = c.K) : Sem2 X c (compareOp .In) gInS := by
  refine ⟨_, op_in_seq, fun F H σ ρ xx x y vx vy P Q r bx by_ g k => ?_⟩
  unfold gInS at g
  split at g
  · rename_i a ds
    obtain ⟨zs, ez, q⟩ := g
    cases bo_str bx
    obtain ⟨p, xs, rfl, f2, s2, t2⟩ := bo_tup r.w.fh by_
    rw [ofStrs_eq ez] at t2
    have e := strs_vs t2
    subst e
    refine ⟨p, _, rfl, .inr (by rw [hK]; exact s2), rfl, ?_, ?_⟩
    · rw [List.all_eq_true]
      intro v hv
      obtain ⟨z, _, rfl⟩ := List.mem_map.mp hv
      rfl
    · have ea : inV (.str a) (zs.map V.str) = zs.any fun z => z == a := by
        unfold inV
        rw [List.any_map]
        rfl
      show Q (.bl (if false = true then !inV (.str a) (zs.map V.str) else inV (.str a) (zs.map V.str))) H
      rw [if_neg Bool.false_ne_true, ea]
      exact k _ _ F H q (Ex.refl F) r (.bl _)
  · exact g.elim
/-- in a list, or a text in a tuple of texts -/
def gInU : G2 := fun x y P => match y with
  | .list ds => gIn x (.list ds) P
  | y => gInS x y P
theorem sem_inU (hK : X.K = c.K) (hu : X.A.units + 65 < cLine) : Sem2 X c (compareOp .In) gInU := by
  obtain ⟨r1, o1, h1⟩ := sem_in hK hu (X := X) (c := c)
  obtain ⟨r2, o2, h2⟩ := sem_inS hK (X := X) (c := c)
  refine ⟨_, o1.or o2, fun F H σ ρ xx x y vx vy P Q r bx by_ g k => ?_⟩
  unfold gInU at g
  split at g
  · exact .inl (h1 F H σ ρ xx x _ vx vy P Q r bx by_ g k)
  · exact .inr (h2 F H σ ρ xx x _ vx vy P Q r bx by_ g k)
theorem de_gtop {x : Str} {pos : Pos} {d : D} (hg : Gl X x) (h : ∃ u, X.mg x = some (.ref u) ∧ ∀ F, At c.K F (.ref u) d) (hd : (x == ("__debug__" : Str)) = false := by decide) : PE X (.Name x pos) (tD c (dC d)) := by
  obtain ⟨u, hm, ha⟩ := h
  exact de_gref hg hm ha hd
/-- math.gcd -/
def gGcd : GC := fun ds P => match ds with
  | [.int a, .int b] => P (.int ((Nat.gcd a.natAbs b.natAbs : Nat) : Int))
  | _ => False
theorem sem_gcd : SemC X c (.builtin "math.gcd") gGcd := by
  refine ⟨_, cr_gcd, fun F H σ ρ xx ds vs P Q r bs g k => ?_⟩
  unfold gGcd at g
  split at g
  · obtain ⟨v, u, rfl, b1, b2⟩ := pr2 bs
    cases bo_int b1
    cases bo_int b2
    exact ⟨_, _, rfl, k _ _ F H g (Ex.refl F) r (.int _)⟩
  · exact g.elim
variable {x : Str} {p pos : Pos} {e : Expr} {es : List Expr} {fh : HLM} {g : GC}
/-- a module's name for a built-in function, called -/
theorem de_cf {id : String} (hs : SemC X c (.builtin id) g) (hg : Gl X x) (hm : X.mg x = some (.builtin id)) (ha : PA X (e :: es) (tHL c fh)) (hdb : (x == ("__debug__" : Str)) = false := by decide)
    (he : starEach (e :: es) X.env = (false, eval e X.env) :: starEach es X.env := by rfl)
    (hpl : (backTo pos (starEach es X.env)).any (·.1) = false := by rfl) : PE X (.Call (.Name x p) (e :: es) [] pos) (tD c (dCB g fh)) := by
  obtain ⟨r, ho, hr⟩ := hs
  exact PE.to (pe_callBfun ho hg hm ha hdb he hpl) (dCB_use (f := .none) hr)
def gImul : G2 := fun x y P => match x, y with
  | .int i, .int j => ((-(2 ^ 64) < i ∧ i < 2 ^ 64) ∨ (-(2 ^ 64) < j ∧ j < 2 ^ 64)) ∧ P (.int (i * j))
  | _, _ => False
theorem sem_imul : Sem2 X c (inplaceOp .Mult) gImul := by
  refine ⟨_, iop_mul, fun F H σ ρ xx x y vx vy P Q r bx by_ g k => ?_⟩
  unfold gImul at g
  split at g
  · cases bo_int bx
    cases bo_int by_
    exact ⟨_, _, rfl, rfl, g.1, k _ _ F H g.2 (Ex.refl F) r (.int _)⟩
  · exact g.elim
def gIdiv : G2 := fun x y P => match x, y with
  | .int i, .int j => (0 < j ∧ j < 1073741824) ∧ P (.int (i / j))
  | _, _ => False
theorem sem_idiv : Sem2 X c (inplaceOp .FloorDiv) gIdiv := by
  refine ⟨_, iop_fdiv, fun F H σ ρ xx x y vx vy P Q r bx by_ g k => ?_⟩
  unfold gIdiv at g
  split at g
  · cases bo_int bx
    cases bo_int by_
    exact ⟨_, _, rfl, rfl, g.1, k _ _ F H g.2 (Ex.refl F) r (.int _)⟩
  · exact g.elim
theorem at_top {K : PySem.W.Frag} {u : Addr} {dd : Option Addr} {its : Array Value} {n : Nat} {sl : Array (Option Value)} {zs : List Str} (h : K.lookup u = some ⟨.type "tuple", dd, .seq its n, sl⟩) (hz : its.size ≤ sizeLine) (hv : Vals (zs.map V.str) its.toList) (F : Hp) : At K F (.ref u) (.tuple (zs.map PyData.str)) := by
  refine .tup (.inr ⟨_, _, _, h, rfl, rfl, hz, hv⟩) ?_
  clear hv
  induction zs with
  | nil => exact .nil
  | cons z zs ih => exact .cons (.str z) ih
end
end DL
namespace DL
open PySem L2
section
variable {X : Cx} {c : Cn} {a b : Expr} {pos : Pos}
def sParNI (i j : Nat) (f g : DM) : SM := fun E ρ => f ρ fun d ρ1 => g ρ1 fun d' ρ2 => E.nx ((ρ2.set i (.ow d)).set j (.im d'))
theorem parNI_use {i j : Nat} (hij : i ≠ j) {f g : DM} : ∀ Z σ H, tS c (sParNI i j f g) Z σ H → tPar i j (tCons (tN c f) (tCons (tD c g) tNil)) Z σ H := by
  rintro Z σ H ⟨F, ρ, xx, E, rel, q, n, rr, b, t⟩
  refine ⟨F, ρ, xx, _, rel, q, fun d ρ1 p F1 H1 q1 e1 r1 f1 => ?_⟩
  refine ⟨F1, ρ1, (p, d) :: xx, _, r1.pushX f1, q1, fun d' ρ2 v F2 H2 q2 e2 r2 a2 => ?_⟩
  obtain ⟨r3, f3⟩ := r2.popX
  exact ⟨_, _, rfl, n _ _ F2 H2 q2 (e1.trans e2) ((r3.putO i f3).putI j a2)⟩
theorem dp_parNI {x y : Str} {i j : Nat} {f g : DM} {px py pt : Pos} {kt k2 : Nat} {pt2 : Pos} (hc : X.calm = true) (hN : X.N.Nodup) (hi : X.N[i]? = some x) (hj : X.N[j]? = some y) (hij : i ≠ j)
    (hx : X.env.scope.names.lookup x = some .local) (hy : X.env.scope.names.lookup y = some .local) (ha : PE X a (tN c f)) (hb : PE X b (tD c g))
    (hw : (swappedStores [.Tuple [.Name x px, .Name y py] kt pt] (.Tuple [a, b] k2 pt2) X.env = pure (some [x, y])))
    (hs : swapsWithSole [.Tuple [.Name x px, .Name y py] kt pt] (.Tuple [a, b] k2 pt2) pos.line X.env = pure false := by rfl)
    (s1 : starEach [a, b] X.env = (false, eval a X.env) :: starEach [b] X.env := by rfl) (s2 : starEach [b] X.env = (false, eval b X.env) :: starEach [] X.env := by rfl) :
    PS X (.Assign [.Tuple [.Name x px, .Name y py] kt pt] (.Tuple [a, b] k2 pt2) pos) (tS c (sParNI i j f g)) :=
  PS.to (ps_par hc hN hi hj hij hx hy (pa_cons ha (pa_cons hb pa_nil s2) s1) hw hs) (parNI_use hij)
end
end DL
namespace DL
open PySem L2
end DL
namespace DL
open PySem L2
structure SrcB (H : Hp) (q c l : Addr) (cs ls : List Int) (k : Nat) : Prop extends SrcAt H q c l cs ls k where
  len : ls.length = cs.length
  nz : cs ≠ []
def srcOrcB : Orc where
  I q H := ∃ c l cs ls k, SrcB H q c l cs ls k
  cnt q H := spotOf (H q)
  al q H a h f := by
    obtain ⟨c, l, cs, ls, k, s⟩ := h
    exact srcOrc.al q H a ⟨c, l, cs, ls, k, s.toSrcAt⟩ f
  st q H H' h e := by
    obtain ⟨c, l, cs, ls, k, s⟩ := h
    exact ⟨c, l, cs, ls, k, ⟨⟨(e q SrcAt.fq).trans s.dq, (e c s.fc).trans s.dc, (e l s.fl).trans s.dl, s.ne, s.nc, s.nl⟩, s.len, s.nz⟩⟩
  sc q H H' h e := by rw [e q SrcAt.fq]
theorem SrcB.spot {H : Hp} {q c l : Addr} {cs ls : List Int} {k : Nat} (s : SrcB H q c l cs ls k) : srcOrcB.cnt q H = k := s.toSrcAt.spot
end DL
namespace DL
open PySem L2
end DL
namespace DL
open PySem L2
section
variable {X : Cx} {c : Cn} {e a b : Expr} {pos : Pos}
def okR : D → Prop
  | .none => True
  | .bool _ => True
  | .int i => i.natAbs.log2 < 1920
  | .list xs => nod (.list xs) = true ∧ (PyData.list xs).showable = true ∧ (PyData.list xs).depth ≤ 60 ∧ (PyData.list xs).shown.length ≤ 1000000
  | .tuple xs => nod (.tuple xs) = true ∧ (PyData.tuple xs).showable = true ∧ (PyData.tuple xs).depth ≤ 60 ∧ (PyData.tuple xs).shown.length ≤ 1000000
  | _ => False
end
end DL
namespace DL
open PySem L2 PySem.Spec PyProof.Rows
theorem lawG {pr : Program} {wd : PySem.World} {K : PySem.W.Frag} {gl gb : PySem.Str → Option Value} {k : Nat} {fa a : Addr} {fd : FuncData} {x : PySem.Str} {sp : Sp} {s : Shared} {vs : List Value} {ns : List Int}
    (inK : K.In s.heap) (nsG : s.heap.Ns mainGlobals gl) (nsB : s.heap.Ns builtinsNs gb) (bb : ∀ y : PySem.Str, y ≠ "__name__" → gb y = bootBuiltins y) (lim : s.heap.NoLimit) (gen : s.gens = #[])
    (ha : s.heap.get? a = some { cls := .type "list", data := .seq vs.toArray }) (hi : IntsAre vs ns) (hl : ns.length ≤ sizeLine) (room : Room k callerA)
    (F : ∀ bas : Heap, K.In bas → bas.Ns mainGlobals gl → FnG pr wd K gl bas k fa fd [x] sp) (bind : ∀ (s : Shared) (u : Value), BindsTo s fd ⟨[u], []⟩ [(x, u)])
    (says : ∀ H : Hp, SqL K H a (ns.map V.int) → sp [.ref a] H (fun v _ => v = .bl true) fun _ _ _ => False) :
    codeAny (model pr wd) callerA (.call (.ref fa) ⟨[.ref a], []⟩) (fun r s' => r = .ok (.ret (.bool true)) ∧ OldK s.heap s'.heap ∧ s'.os = s.os ∧ AllBare s'.gens) s := by
  have vals := L2.vals_ints hi
  -- the heap H that the def sees: nothing, or the script alone, which stays as it is
  have run : ∀ (H : Hp), (∀ b o, H b = some o → b = a ∧ ∃ ob xs, o = .frz ob (.lst xs)) → SqL K H a (ns.map V.int) → HOk pr wd H s.heap → (H a ≠ none → K.lookup a = none) →
      codeAny (model pr wd) callerA (.call (.ref fa) ⟨[.ref a], []⟩) (fun r s' => r = .ok (.ret (.bool true)) ∧ OldK s.heap s'.heap ∧ s'.os = s.os ∧ AllBare s'.gens) s := by
    intro H only sq hok notK
    have plain : ∀ {b : Addr} {o : Obj}, s.heap.get? b = some o → (∀ es n, o.data = .dict es n → H b = none) := by
      intro b o e es n ed
      cases z : H b with
      | none => rfl
      | some u =>
        obtain ⟨rfl, _⟩ := only b u z
        rw [ha] at e
        cases e
        exact absurd (ed : Data.seq vs.toArray _ = Data.dict es n) (fun y => by cases y)
    have nsOf : ∀ {b : Addr} {m : PySem.Str → Option Value}, s.heap.Ns b m → (hidT s.heap H).Ns b m := by
      rintro b m ⟨o, es, n, e, ed, r⟩
      exact ⟨o, es, n, hidT_get e (plain e es n ed), ed, r⟩
    have inB : K.In (hidT s.heap H) := by
      intro b o e
      refine hidT_get (inK b o e) ?_
      cases z : H b with
      | none => rfl
      | some u =>
        obtain ⟨rfl, _⟩ := only b u z
        rw [notK (by rw [z]; exact Option.some_ne_none u)] at e
        cases e
    obtain ⟨mc, l1, l2⟩ := lim
    have md : Mod K gl (hidT s.heap H) := ⟨inB, nsOf nsG, ⟨gb, nsOf nsB, bb⟩, ⟨mc, nsOf l1, l2⟩⟩
    have env : Env0 pr wd K gl (hidT s.heap H) callerA [] s H := ⟨rfl, md, fun b o e => of_hidT e, Nat.le_of_eq (hidT_size _ _), trivial, fun b hb => (nomatch hb), hok, .of_eq gen⟩
    refine codeAny_mono ((F _ inB (nsOf nsG)).go callerA [] s H ⟨[.ref a], []⟩ [.ref a] [.ref a] _ _ rfl room env (bind s (.ref a)) (.cons rfl .nil) (says H sq)) ?_
    intro r s' z
    match r, z with
    | .error e, z => exact (z : False).elim
    | .ok (.ret u), ⟨v, H', os, bare, un, hok', rv, q⟩ =>
      have q : v = .bl true := q
      subst q
      cases (show u = Value.bool true from rv)
      refine ⟨rfl, OldK.of_keep ?_, os, bare⟩
      intro b o e
      cases z : H b with
      | none => exact un.keep b o e z (fun y => nomatch y) (by simp)
      | some u =>
        obtain ⟨_, ob, xs, rfl⟩ := only b u z
        obtain ⟨p1, _⟩ := hok b _ z
        obtain ⟨p2, _⟩ := hok' b _ (un.frzs b ob _ z)
        rw [e] at p1
        cases p1
        exact p2
  have len := hi.length
  cases z : K.lookup a with
  | some o =>
    have e := inK a o z
    rw [ha] at e
    cases e
    refine run (fun _ => none) (fun _ _ e => nomatch e) (.inr ⟨_, vs.toArray, _, z, rfl, rfl, rfl, ?_, by simpa using vals⟩) (fun _ _ e => nomatch e) fun e => absurd rfl e
    rw [List.size_toArray, len]
    exact hl
  | none =>
    have at1 : ∀ o, (fun b => if b = a then some (HO.frz { cls := .type "list", data := .seq vs.toArray } (.lst (ns.map V.int))) else none) a = some o → o = HO.frz { cls := .type "list", data := .seq vs.toArray } (.lst (ns.map V.int)) := by
      intro o e
      have e : (if a = a then some (HO.frz { cls := .type "list", data := .seq vs.toArray } (.lst (ns.map V.int))) else none) = some o := e
      rw [if_pos rfl] at e
      exact (Option.some.inj e).symm
    refine run (fun b => if b = a then some (HO.frz { cls := .type "list", data := .seq vs.toArray } (.lst (ns.map V.int))) else none) (fun b o e => ?_) (.inl (.inr ⟨{ cls := .type "list", data := .seq vs.toArray }, if_pos rfl⟩)) (fun b o e => ?_) fun _ => z
    · by_cases h : b = a
      · subst h
        exact ⟨rfl, _, _, at1 o e⟩
      · have e : (if b = a then some (HO.frz { cls := .type "list", data := .seq vs.toArray } (.lst (ns.map V.int))) else none) = some o := e
        rw [if_neg h] at e
        cases e
    · by_cases h : b = a
      · subst h
        rw [at1 o e]
        exact ⟨ha, by rw [List.length_map]; exact hl, vs, _, vals, ha⟩
      · have e : (if b = a then some (HO.frz { cls := .type "list", data := .seq vs.toArray } (.lst (ns.map V.int))) else none) = some o := e
        rw [if_neg h] at e
        cases e
theorem walkG {l : PySem.W.OpenLaw} {n k : Nat} {q : Program} {loose : List PySem.Str} {XP : (PySem.Str → Option Value) → Heap → Prop} {YP : PySem.World → Heap → Prop} {d : DefRec} {K : Params → PySem.W.Frag} {sp : PySem.World → Sp} {x : PySem.Str}
    (hn : l.most = some n) (hn2 : n ≤ sizeLine) (hdf : d.params.defaults = []) (room : Room k callerA) (hY : ∀ (wd : PySem.World) (h : Heap), YP wd h → (K wd.params).In h)
    (F : ∀ (wd : PySem.World) (gl : PySem.Str → Option Value) (fa : Addr) (h : Heap), (K wd.params).In h → h.Ns mainGlobals gl → gl d.name = some (.ref fa) →
      ∃ fd : FuncData, (∀ (s : Shared) (u : Value), BindsTo s fd ⟨[u], []⟩ [(x, u)]) ∧ ∀ bas : Heap, (K wd.params).In bas → bas.Ns mainGlobals gl → FnG l.prog wd (K wd.params) gl bas k fa fd [x] (sp wd))
    (says : ∀ (wd : PySem.World) (H : Hp) (a : Addr) (ns : List Int), ns.length ≤ n → SqL (K wd.params) H a (ns.map V.int) → sp wd [.ref a] H (fun v _ => v = .bl true) fun _ _ _ => False) :
    PySem.W.WalkO q loose XP YP l.row.toRowW d [] (fun f vs => PySem.call f vs)
      := by
  refine Att.attach_callB hn hdf ?_
  intro wd s0 s1 gl gb fa o pm cd doc a vs ns G Y ho hd hcd hgl hobj hints hlen _ hg
  obtain ⟨fd, hb, hF⟩ := F wd gl fa _ (hY wd _ Y) G.T.g hgl
  exact lawG (hY wd _ Y) G.T.g G.T.b G.T.builtins G.T.nolimit hg hobj hints (Nat.le_trans hlen hn2) room hF hb fun H sq => says wd H a ns hlen sq
end DL
namespace DL
open PySem L2
structure FnX (pr : Program) (wd : PySem.World) (K : PySem.W.Frag) (gl : Str → Option Value) (bas : Heap) (k : Nat) (f : Addr) (fd : FuncData) (ps : List Str) (sp : Sp) : Prop where
  many : ∀ vs H Q E, sp vs H Q E → vs.length = ps.length
  go : ∀ (A : Around) (out : List PySem.Env) (sh : Shared) (H : Hp) (ar : Args) (us : List Value) (vs : List V) (Q : VK) (E : XK), A.guards = some [] → Room k A →
    Env0 pr wd K gl bas A out sh H → BindsTo sh fd ar (ps.zip us) → Vals vs us → sp vs H Q E → codeAny (model pr wd) A (.call (.ref f) ar) (CR (L2.CX pr wd) out pr wd H sh Q E) sh
theorem FnX.more {pr : Program} {wd : PySem.World} {K : PySem.W.Frag} {gl : Str → Option Value} {bas : Heap} {j k : Nat} {f : Addr} {fd : FuncData} {ps : List Str} {sp : Sp} (F : FnX pr wd K gl bas j f fd ps sp) (h : j ≤ k) : FnX pr wd K gl bas k f fd ps sp :=
  ⟨F.many, fun A out sh H ar us vs Q E g r => F.go A out sh H ar us vs Q E g (r.mono h)⟩
theorem FnX.of {pr : Program} {wd : PySem.World} {K : PySem.W.Frag} {gl : Str → Option Value} {bas : Heap} {k : Nat} {f : Addr} {x qual : Str} {st : Stmt} {fd : FuncData} {N ps : List Str} {sp : Sp} (F : L2.Fun K x qual st f fd) (S : FnScope N ps (defScope st))
    (len : (∀ vs H Q E, sp vs H Q E → vs.length = ps.length))
    (body : ∀ (cdv : Value) (A : Around) (out : List PySem.Env) (sh : Shared) (H : Hp) (vs : List V) (Q : VK) (E : XK), A.guards = some [] → Room k (A.deeper (PyProof.Rows.envOfC qual (defScope st) sh.heap.objs.size f cdv)) → sp vs H Q E →
      ∃ t, PSs (cxOf (L2.CX pr wd) pr wd K gl bas N qual (defScope st) f cdv A out sh H E) (defBody st) t ∧ t { nx := fun _ H' => Q .non H', rt := Q } (start N vs) H) : FnX pr wd K gl bas (k + 1) f fd ps sp := by
  obtain ⟨oc, od, kV, doc, pm, an, cdv, ct, osl, efd, lk, hc⟩ := F.ex
  refine ⟨len, fun A out sh H ar us vs Q E hg room env bnd vals says => ?_⟩
  have heapK : K.In sh.heap := PySem.W.Frag.In.keeps env.mod.kin fun b o e => (env.bs b o e).1
  have noLim : sh.heap.NoLimit := Heap.NoLimit.keeps env.mod.nolimit fun b o e => (env.bs b o e).1
  have kinds : ∀ y ∈ ps.zip us, (defScope st).names.lookup y.1 = some .local ∨ ((defScope st).names.lookup y.1 = some .cell ∧ ((cellsFrom (sh.heap.objs.size + 1) (defScope st).names []).lookup y.1).isSome = true) := by
    rintro ⟨n, v⟩ hy
    exact (S.par n (List.of_mem_zip hy).1).imp id fun q => ⟨q, PySem.W.cellsFrom_some _ _ _ (.inl q)⟩
  rw [efd] at lk bnd
  refine codeAny_call_function room.depth (heapK _ _ lk) rfl S.co S.gen rfl (PySem.W.codeRec_of heapK hc) (bnd _ _ _ _ (wpAny_newFunctionEnv_cells S.kind kinds ?_))
  intro env1 he s1 xc
  subst he
  refine ⟨noLim.keeps xc.toInCall.keep, codeAny_func ?_⟩
  obtain ⟨t, ht, hq⟩ := body cdv A out sh H vs Q E hg (room.deeper _) says
  have inv : Inv (cxOf (L2.CX pr wd) pr wd K gl bas N qual (defScope st) f cdv A out sh H E) [] (start N vs) H s1 := inv_start S room.hd env (len _ _ _ _ says) vals xc
  refine wpAny_mono (ht.run [] s1 (start N vs) H _ inv hq) ?_ fun _ _ z => z
  intro fl s2 hs
  cases fl with
  | ret u =>
    (obtain ⟨v, σ', H', J, rv, q⟩ := hs)
    exact ⟨v, H', J.os, J.bare, J.base, J.hok, rv, q⟩
  | next =>
    obtain ⟨σ', H', J, q⟩ := hs
    exact ⟨V.non, H', J.os, J.bare, J.base, J.hok, rfl, q⟩
  | brk => exact (hs.choose_spec.choose_spec.2 : False).elim
  | cont => exact (hs.choose_spec.choose_spec.2 : False).elim
structure Exn where
  c : Str
  v : Option (Str × D)
def ExAt (gl : Str → Option Value) (K : PySem.W.Frag) (F H : Hp) (x : Exn) (cls : Value) (d : Option Addr) : Prop :=
  ∃ C, gl x.c = some (.ref C) ∧ cls = .ref C ∧ match x.v with
    | none => d = none
    | some (f, y) => ∃ a v, d = some a ∧ H a = some (.xd [(f, v)]) ∧ At K F v y
abbrev SpX := List Ar → Nat → (D → Nat → Prop) → (Exn → Nat → Prop) → Prop
def spX (K : PySem.W.Frag) (gl : Str → Option Value) (R : Orc) (n : Nat) (S : SpX) : Sp := fun vs H Q E => ∃ (q : Option Addr) (F : Hp) (as : List Ar) (m : Nat) (P : D → Nat → Prop) (PX : Exn → Nat → Prop),
  World R q F H F H ∧ Paired (ArAt ⟨K, R, q, F, H⟩ F) vs as ∧ as.length = n ∧ oraAt as ∧ (q = none ∨ as[0]? = some .ora) ∧ (∀ p, q = some p → R.cnt p H ≤ m) ∧ S as m P PX ∧
  (∀ d m' v F' H', P d m' → World R q F H F' H' → (∀ p, q = some p → R.cnt p H' ≤ m') → At K F' v d → Q v H') ∧
  ∀ x m' cls dd F' H', PX x m' → World R q F H F' H' → (∀ p, q = some p → R.cnt p H' ≤ m') → ExAt gl K F' H' x cls dd → E cls dd H'
/-- the wish of a frame about exceptions -/
def wx (gl : Str → Option Value) (c : Cn) (px : Exn → Env → Prop) : WX := fun cls dd σ H => ∃ F ρ xx x, Rel c F H σ ρ xx ∧ px x ρ ∧ ExAt gl c.K F H x cls dd
def CdX (pr : Program) (wd : PySem.World) (K : PySem.W.Frag) (gl : Str → Option Value) (bas : Heap) (R : Orc) (k : Nat) (x : Str) (n : Nat) (S : SpX) : Prop :=
  ∃ (f : Addr) (fd : FuncData) (ps : List Str), FnX pr wd K gl bas k f fd ps (spX K gl R n S) ∧ gl x = some (.ref f) ∧ PySem.W.keepIn K (.ref f) = true ∧ Binds K fd ps []
theorem CdX.more {pr : Program} {wd : PySem.World} {K : PySem.W.Frag} {gl : Str → Option Value} {bas : Heap} {R : Orc} {j k : Nat} {x : Str} {n : Nat} {S : SpX} (C : CdX pr wd K gl bas R j x n S) (h : j ≤ k) : CdX pr wd K gl bas R k x n S := by
  obtain ⟨f, fd, ps, F, a, b, d⟩ := C
  exact ⟨f, fd, ps, F.more h, a, b, d⟩
/-- what a body says, with its exceptions -/
def rawX (g : (Exn → Env → Prop) → SM) (N : Nat) : SpX := fun as m P PX =>
  g (fun x ρ => match ρ[0]? with
    | some (Sl.ora m') => PX x m'
    | _ => as.head?.map isD ≠ some false ∧ PX x 0)
  ⟨fun (ρ : DL.Env) => match ρ[0]? with
    | some (Sl.ora m') => P .none m'
    | _ => as.head?.map isD ≠ some false ∧ P .none 0,
  fun (d : D) (ρ : DL.Env) => match ρ[0]? with
    | some (Sl.ora m') => P d m'
    | _ => as.head?.map isD ≠ some false ∧ P d 0, fun _ => False, fun _ => False⟩ (startE N as m)
theorem FnX.data {pr : Program} {wd : PySem.World} {K : PySem.W.Frag} {gl : Str → Option Value} {bas : Heap} {k n : Nat} {f : Addr} {x qual : Str} {st : Stmt} {fd : FuncData} {N ps : List Str} {R : Orc} {g : (Exn → Env → Prop) → SM} (F : L2.Fun K x qual st f fd) (Sc : FnScope N ps (defScope st)) (hn : n = ps.length)
    (body : ∀ (cdv : Value) (A : Around) (out : List PySem.Env) (sh : Shared) (H : Hp) (E : XK) (q : Option Addr) (F : Hp) (px : Exn → Env → Prop), A.guards = some [] → Room k (A.deeper (PyProof.Rows.envOfC qual (defScope st) sh.heap.objs.size f cdv)) →
      Takes (cxOf (L2.CX pr wd) pr wd K gl bas N qual (defScope st) f cdv A out sh H E) (wx gl ⟨K, R, q, F, H⟩ px) →
      PSs (cxOf (L2.CX pr wd) pr wd K gl bas N qual (defScope st) f cdv A out sh H E) (defBody st) (tS ⟨K, R, q, F, H⟩ (g px))) : FnX pr wd K gl bas (k + 1) f fd ps (spX K gl R n (rawX g N.length)) := by
  refine FnX.of F Sc (fun vs H Q E ⟨q, F0, as, m, P, PX, w, pa, hl, _⟩ => by rw [paired_len pa, hl, hn]) fun cdv A out sh H vs Q E hg hr ⟨q, F0, as, m, P, PX, w, pa, hl, ho, hq, hm, says, k0, kx⟩ => ?_
  have cnt : ∀ {ρ' : DL.Env} {σ' : L2.St} {F' H' : Hp} {xx : XX} {PP : Nat → Prop}, (match ρ'[0]? with
      | some (Sl.ora m') => PP m'
      | _ => as.head?.map isD ≠ some false ∧ PP 0) → Rel ⟨K, R, q, F0, H⟩ F' H' σ' ρ' xx → ∃ m', PP m' ∧ ∀ z, q = some z → R.cnt z H' ≤ m' := by
    intro ρ' σ' F' H' xx PP p r
    split at p
    · rename_i m' e
      obtain ⟨y, h1, _, h3⟩ := r.s.or 0 m' e
      refine ⟨m', p, fun z hz => ?_⟩
      have h1' : q = some y := h1
      rw [hz] at h1'
      cases h1'
      exact h3
    · obtain ⟨p1, p2⟩ := p
      have qn : q = none := hq.resolve_right fun z => p1 (by
        cases as with
        | nil => cases z
        | cons b t => cases z; rfl)
      exact ⟨0, p2, fun z hz => by rw [qn] at hz; cases hz⟩
  have fin : ∀ (d : D) (v : V) (ρ' : DL.Env) (σ' : L2.St) (F' H' : Hp), (match ρ'[0]? with
      | some (Sl.ora m') => P d m'
      | _ => as.head?.map isD ≠ some false ∧ P d 0) → Rel ⟨K, R, q, F0, H⟩ F' H' σ' ρ' [] → At K F' v d → Q v H' := by
    intro d v ρ' σ' F' H' p r a
    obtain ⟨m', h1, h2⟩ := cnt (PP := P d) p r
    exact k0 d m' v F' H' h1 r.w h2 a
  refine ⟨_, body cdv A out sh H E q F0 (fun x ρ => match ρ[0]? with
    | some (Sl.ora m') => PX x m'
    | _ => as.head?.map isD ≠ some false ∧ PX x 0) hg hr ?_, F0, _, [], _, rel_start w pa ho hm, says, ?_, ?_, ?_, ?_⟩
  · refine (takes_of (E := E) rfl rfl rfl rfl).imp fun cls dd σ H' ⟨F', ρ', xx, x, r, p, a⟩ => ?_
    obtain ⟨m', h1, h2⟩ := cnt (PP := PX x) p r
    exact kx x m' cls dd F' H' h1 r.w h2 a
  · exact fun ρ' σ' F' H' p e r => fin .none .non ρ' σ' F' H' p r .non
  · exact fun d v ρ' σ' F' H' p r a => fin d v ρ' σ' F' H' p r a
  · exact fun ρ' σ' F' H' p => p.elim
  · exact fun ρ' σ' F' H' p => p.elim
theorem Rel.bare {c : Cn} {F H : Hp} {σ : L2.St} {ρ : List Sl} {xx : XX} (r : Rel c F H σ ρ xx) : Rel c F H σ ρ [] :=
  ⟨r.w, ⟨r.s.len, r.s.im, r.s.ow, r.s.dj, r.s.or, r.s.ou, (fun _ hp => nomatch hp), List.nodup_nil⟩⟩
end DL
namespace DL
end DL
namespace DL
open PySem L2
end DL
namespace DL
open PySem PyProof.Rows L2 RZ
/-- how far both are gone -/
structure MixGone (z t u p q a b : Addr) (n : Nat) (h : Heap) : Prop where
  zip : IsZip h z t u .none
  its : IsPair h t (.ref p) (.ref q)
  two : ∃ x y, IsPair h u x y
  fst : h.IsTupleIter p a n
  snd : h.IsListIter q b n
theorem five {z t u p q c : Addr} {P : Addr → Prop} (hc : c ∈ [z, t, u, p, q]) (h1 : P z) (h2 : P t) (h3 : P u) (h4 : P p) (h5 : P q) : P c := by
  simp only [List.mem_cons, List.not_mem_nil, or_false] at hc
  rcases hc with rfl | rfl | rfl | rfl | rfl <;> assumption
theorem MixGone.there {z t u p q a b : Addr} {n : Nat} {h : Heap} (m : MixGone z t u p q a b n h) {c : Addr} (hc : c ∈ [z, t, u, p, q]) :
    ∃ o, h.get? c = some o ∧ ∀ v, o.data ≠ .cell v := by
  obtain ⟨k1, k2, ⟨x, y, k3⟩, ⟨o4, e4, _, f4⟩, ⟨o5, e5, _, f5⟩⟩ := m
  refine five (P := fun c => ∃ o, h.get? c = some o ∧ ∀ v, o.data ≠ .cell v) hc ⟨_, k1, ?_⟩ ⟨_, k2, ?_⟩ ⟨_, k3, ?_⟩ ⟨o4, e4, ?_⟩ ⟨o5, e5, ?_⟩
  · exact fun v e => nomatch e
  · exact fun v e => nomatch e
  · exact fun v e => nomatch e
  · exact fun v e => by
      rw [f4] at e
      cases e
  · exact fun v e => by
      rw [f5] at e
      cases e
theorem MixGone.keep {z t u p q a b : Addr} {n : Nat} {h h' : Heap} (m : MixGone z t u p q a b n h) (k : ∀ c, c ∈ [z, t, u, p, q] → ∀ o, h.get? c = some o → h'.get? c = some o) : MixGone z t u p q a b n h' := by
  obtain ⟨k1, k2, ⟨x, y, k3⟩, k4, k5⟩ := m
  have kz := k z (by simp)
  have kt := k t (by simp)
  have ku := k u (by simp)
  have kp := k p (by simp)
  have kq := k q (by simp)
  exact ⟨kz _ k1, kt _ k2, ⟨x, y, ku _ k3⟩, k4.at kp, k5.at kq⟩
end DL
namespace DL
open PySem L2
end DL
namespace DL
open PySem PyProof.Rows L2
end DL
namespace DL
open PySem PyProof.Rows L2
end DL
namespace DL
open PySem PyProof.Rows L2
def CdD (pr : Program) (wd : PySem.World) (K : PySem.W.Frag) (gl : Str → Option Value) (bas : Heap) (R : Orc) (k : Nat) (x : Str) (n : Nat) (dds : List D) (S : SpD) : Prop :=
  ∃ (f : Addr) (fd : FuncData) (ps : List Str) (ds : List Value) (dvs : List V), FnG pr wd K gl bas k f fd ps (spD K R (n + dds.length) S) ∧ gl x = some (.ref f) ∧ PySem.W.keepIn K (.ref f) = true ∧ Binds K fd ps ds ∧ Vals dvs ds ∧ ∀ F, AtAll K F dvs dds
theorem CdD.more {pr : Program} {wd : PySem.World} {K : PySem.W.Frag} {gl : Str → Option Value} {bas : Heap} {R : Orc} {j k : Nat} {x : Str} {n : Nat} {dds : List D} {S : SpD} (C : CdD pr wd K gl bas R j x n dds S) (h : j ≤ k) : CdD pr wd K gl bas R k x n dds S := by
  obtain ⟨f, fd, ps, ds, dvs, F, a, b, d, e, u⟩ := C
  exact ⟨f, fd, ps, ds, dvs, F.more h, a, b, d, e, u⟩
end DL
namespace DL
open PySem L2
end DL
namespace DL
open PySem L2
section
variable {c : Cn} {F H : Hp} {σ : L2.St} {ρ : DL.Env} {xx yy : XX}
/-- a list of lists at A, its rows at as -/
structure Nest (K : PySem.W.Frag) (F : Hp) (A : Addr) (as : List Addr) (rows : List (List D)) : Prop where
  o : F A = some (.lst (as.map V.ref))
  n : as.length = rows.length
  r : ∀ (k : Nat) (a : Addr) (r : List D), as[k]? = some a → rows[k]? = some r → ∃ vs, F a = some (.lst vs) ∧ AtAll K F vs r
theorem Nest.mono {K : PySem.W.Frag} {F F' : Hp} {A : Addr} {as : List Addr} {rows : List (List D)} (h : Nest K F A as rows) (e : Ex F F') : Nest K F' A as rows :=
  ⟨e _ _ h.o, h.n, fun k a r h1 h2 => let ⟨vs, q1, q2⟩ := h.r k a r h1 h2; ⟨vs, e _ _ q1, q2.mono e⟩⟩
theorem rows_at {K : PySem.W.Frag} {F : Hp} : ∀ (as : List Addr) (rows : List (List D)), as.length = rows.length → (∀ (k : Nat) (a : Addr) (r : List D), as[k]? = some a → rows[k]? = some r → ∃ vs, F a = some (.lst vs) ∧ AtAll K F vs r) → AtAll K F (as.map V.ref) (rows.map PyData.list)
  | [], [], _, _ => .nil
  | [], _ :: _, h, _ => (by simp at h)
  | _ :: _, [], h, _ => (by simp at h)
  | a :: as, r :: rows, h, k => by
    obtain ⟨vs, q1, q2⟩ := k 0 a r rfl rfl
    exact .cons (.lst (.inl (.inl q1)) q2) (rows_at as rows (by simpa using h) fun j a r h1 h2 => k (j + 1) a r h1 h2)
theorem Nest.at {K : PySem.W.Frag} {F : Hp} {A : Addr} {as : List Addr} {rows : List (List D)} (h : Nest K F A as rows) : At K F (.ref A) (.list (rows.map PyData.list)) := .lst (.inl (.inl h.o)) (rows_at as rows h.n h.r)
end
end DL
namespace DL
open PySem L2
section
variable {K : PySem.W.Frag} {R : Orc} {F H : Hp} {v0 vc : V} {i j r w : Int} {s : Str} {rest : List D}
/-- the row at a, and all else -/
structure WI (K : PySem.W.Frag) (R : Orc) (F G Hw : Hp) (a U : Addr) (as : List Addr) (e : DL.Env) (σ : L2.St) (ds : List D) (H' : Hp) : Prop where
  x : ∃ F' us', Ex G F' ∧ Rel ⟨K, R, none, F, Hw⟩ F' H' σ e [(a, .o (.lst us'))] ∧ AtAll K F' us' ds
  u : H' U = some (.lst (as.map V.ref))
theorem WI.row {G Hw H' : Hp} {a U : Addr} {as : List Addr} {e : DL.Env} {σ : L2.St} {ds : List D} (h : WI K R F G Hw a U as e σ ds H') : ∃ us', H' a = some (.lst us') ∧ us'.length = ds.length := by
  obtain ⟨F', us', _, r, at_⟩ := h.x
  exact ⟨us', (r.s.ex (a, .o (.lst us')) (List.mem_cons_self ..)).1.o, at_.length⟩
theorem WI.put {G Hw H' : Hp} {a U : Addr} {as : List Addr} {e : DL.Env} {σ : L2.St} {ds : List D} {F2 : Hp} {us' : List V} {v : V} {d : D} {k : Nat} (hU : a ≠ U) (ef : Ex G F2) (r : Rel ⟨K, R, none, F, Hw⟩ F2 H' σ e [(a, .o (.lst us'))]) (ha : AtAll K F2 us' ds) (hu : H' U = some (.lst (as.map V.ref))) (hv : At K F2 v d) :
    WI K R F G Hw a U as e σ (ds.set k d) (upd H' a (.lst (us'.set k v))) :=
  ⟨⟨F2, us'.set k v, ef, r.mutX (show upd H' a _ a = _ from upd_same), ha.set hv k⟩, by rw [upd_ne (Ne.symm hU)]; exact hu⟩
end
section
variable {K : PySem.W.Frag} {R : Orc} {F H : Hp} {v0 vc : V} {i j r w : Int} {s : Str} {rest : List D} {Hw : Hp} {a U : Addr} {as : List Addr} {x : Option V} {ds : List D} {Z : Ends}
theorem WI.step {G : Hp} {F2 H2 : Hp} {us : List V} {e : DL.Env} {σ : L2.St} (hw : Hw U = some (.lst (as.map V.ref))) (ef : Ex G F2) (r2 : Rel ⟨K, R, none, F, Hw⟩ F2 H2 σ e [(a, .o (.lst us))]) (ha : AtAll K F2 us ds) : WI K R F G Hw a U as e σ ds H2 :=
  ⟨⟨F2, us, ef, r2, ha⟩, (r2.w.kp U _ hw fun z => z).1⟩
end
end DL
namespace DL
open PySem L2
end DL
namespace DL
open PySem L2
end DL
namespace DL
open PySem L2
end DL
namespace DL
open PySem L2 PyProof.Rows
/-- p, of the class cls, has been caught where the slots are σ and the heap is H -/
structure Catch (X : Cx) (pins : List (Addr × Obj)) (p : Addr) (cls : Value) (d : Option Addr) (σ : L2.St) (H : Hp) (s : Shared) : Prop where
  ok : X.Ok
  new : H p = none
  air : ∃ (B : Heap) (sI : Shared), Inv X pins σ H sI ∧ (∀ b o, sI.heap.get? b = some o → b ∉ frs X.stack → B.get? b = some o) ∧ sI.heap.UpToSlots s.heap ∧ s.os = sI.os ∧ AllBare s.gens ∧ HandSPX.FlyingZ B X.stack p (Zc cls d) s.heap
theorem frs_local {X : Cx} (hs : X.stack = X.env :: X.outer) (hf : X.env.frame = some X.env.locals) : frs X.stack = X.env.locals :: X.fs := by
  rw [hs]
  exact List.filterMap_cons_some hf
section
variable {X : Cx} {pins : List (Addr × Obj)} {p : Addr} {cls : Value} {d : Option Addr} {σ : L2.St} {H : Hp} {s : Shared} {D : Ends}
namespace Catch
theorem inv (c : Catch X pins p cls d σ H s) : Inv X pins σ H s := c.air.elim fun _ q => q.elim fun _ ⟨I, nb, up, os, ag, fl⟩ => I.landed nb fl.1 up os ag
/-- it is no frame of the stack, and it is new to the heap ahead -/
theorem out (c : Catch X pins p cls d σ H s) : p ∉ frs X.stack := fun m => by
  obtain ⟨B, sI, I, nb, up, os, ag, fl⟩ := c.air
  obtain ⟨ob, vs, e, _, hd⟩ := fl.there
  obtain ⟨o', o2, e2, q⟩ := fl.2.2.1.mem m
  cases Option.some.inj (e.symm.trans e2)
  exact q vs hd
theorem fresh (c : Catch X pins p cls d σ H s) : X.ex = [] → X.s_0.heap.get? p = none ∧ ∀ q ∈ X.pn ++ pins, q.1 ≠ p := by
  intro hx
  have out := c.out
  obtain ⟨B, sI, I, nb, up, os, ag, fl⟩ := c.air
  have unseen : ∀ o, sI.heap.get? p ≠ some o := fun o e => by
    have z := (nb p o e out).symm.trans fl.2.1
    cases z
  constructor
  · refine Option.eq_none_iff_forall_not_mem.mpr fun o e => ?_
    obtain ⟨o2, q⟩ := I.base.there p o e (by rw [hx]; exact List.not_mem_nil)
    exact unseen o2 q
  · exact fun q m z => unseen q.2 (z ▸ (I.pin q m).1)
/-- the context in which a suite runs -/
theorem held (c : Catch X pins p cls d σ H s) (hs : X.stack = X.env :: X.outer) (hf : X.env.frame = some X.env.locals) : p ≠ X.env.locals ∧ p ∉ X.fs ∧ ∃ ob, s.heap.get? p = some ob ∧ Zc cls d ob ∧ (∃ vs, ob.data = .fields vs) ∧ Inv (X.suite p ((p, ob) :: (X.pn ++ pins))) [] σ H s := by
  have out := c.out
  rw [frs_local hs hf] at out
  obtain ⟨n1, n2⟩ := List.ne_and_not_mem_of_not_mem_cons out
  obtain ⟨B, sI, I, nb, up, os, ag, fl⟩ := id c.air
  obtain ⟨ob, vs, e, z, hd⟩ := fl.there
  exact ⟨n1, n2, ob, e, z, ⟨vs, hd⟩, c.inv.suite e hd c.new n1 n2⟩
/-- a clause's class is read -/
theorem reads {x : Str} {v : Value} {np : Pos} {Q E : Value → Shared → Prop} (c : Catch X pins p cls d σ H s) (hs : X.stack = X.env :: X.outer) (hf : X.env.frame = some X.env.locals) (hc : Names X x v) (q : Q v s) : wpAny (model X.prog X.w) (X.A.mark (some (.ref p))) (eval (.Name x np) X.env) Q E s := by
  obtain ⟨_, _, ob, _, _, _, S⟩ := c.held hs hf
  rcases hc with ⟨g, nd, m | ⟨m, b, nn⟩⟩
  · exact ld_glob (X := X.suite p ((p, ob) :: (X.pn ++ pins))) S g m q nd
  · exact ld_blt (X := X.suite p ((p, ob) :: (X.pn ++ pins))) S g m b q nn nd
end Catch
end
end DL
namespace DL
open PySem L2 PyProof.Rows
end DL
namespace DL
open PySem L2 PyProof.Rows
end DL
namespace DL
open PySem L2
def CdXD (pr : Program) (wd : PySem.World) (K : PySem.W.Frag) (gl : Str → Option Value) (bas : Heap) (R : Orc) (k : Nat) (x : Str) (n : Nat) (dds : List D) (S : SpX) : Prop :=
  ∃ (f : Addr) (fd : FuncData) (ps : List Str) (ds : List Value) (dvs : List V), FnX pr wd K gl bas k f fd ps (spX K gl R (n + dds.length) S) ∧ gl x = some (.ref f) ∧ PySem.W.keepIn K (.ref f) = true ∧ Binds K fd ps ds ∧ Vals dvs ds ∧ ∀ F, AtAll K F dvs dds
theorem CdXD.more {pr : Program} {wd : PySem.World} {K : PySem.W.Frag} {gl : Str → Option Value} {bas : Heap} {R : Orc} {j k : Nat} {x : Str} {n : Nat} {dds : List D} {S : SpX} (C : CdXD pr wd K gl bas R j x n dds S) (h : j ≤ k) : CdXD pr wd K gl bas R k x n dds S := by
  obtain ⟨f, fd, ps, ds, dvs, F, a, b, d, e, u⟩ := C
  exact ⟨f, fd, ps, ds, dvs, F.more h, a, b, d, e, u⟩
end DL
namespace DL
open PySem L2
end DL
namespace DL
open PySem L2 PySem.Spec PyProof.Rows
mutual
def nkD : D → Option NestedKey
  | .none => some .none
  | .int i => some (.num i)
  | .str x => some (.text x)
  | .tuple ds => (nkAll ds).map .tup
  | _ => none
def nkAll : List D → Option (List NestedKey)
  | [] => some []
  | d :: ds => match nkD d, nkAll ds with
    | some k, some ks => some (k :: ks)
    | _, _ => none
end
theorem nkAll_cons {d : D} {ds : List D} {ks : List NestedKey} (h : nkAll (d :: ds) = some ks) : ∃ k ks', nkD d = some k ∧ nkAll ds = some ks' ∧ ks = k :: ks' := by
  unfold nkAll at h
  split at h
  · rename_i k ks' h1 h2
    cases h
    exact ⟨k, ks', h1, h2, rfl⟩
  · cases h
mutual
theorem nk_inj : ∀ (d e : D) (k : NestedKey), nkD d = some k → nkD e = some k → d = e
  | .none, e, k, h1, h2 => by
    cases (show some NestedKey.none = some k from h1)
    cases e with
    | none => rfl
    | bool b => cases (show (none : Option NestedKey) = some _ from h2)
    | int i => cases (show some (NestedKey.num i) = some .none from h2)
    | str x => cases (show some (NestedKey.text x) = some .none from h2)
    | list xs => cases (show (none : Option NestedKey) = some _ from h2)
    | dict xs => cases (show (none : Option NestedKey) = some _ from h2)
    | tuple xs =>
      obtain ⟨ks, _, z⟩ := Option.map_eq_some_iff.mp (show (nkAll xs).map NestedKey.tup = some _ from h2)
      cases z
  | .bool b, e, k, h1, h2 => by cases (show (none : Option NestedKey) = some _ from h1)
  | .list xs, e, k, h1, h2 => by cases (show (none : Option NestedKey) = some _ from h1)
  | .dict xs, e, k, h1, h2 => by cases (show (none : Option NestedKey) = some _ from h1)
  | .int i, e, k, h1, h2 => by
    cases (show some (NestedKey.num i) = some k from h1)
    cases e with
    | none => cases (show some NestedKey.none = some (.num i) from h2)
    | bool b => cases (show (none : Option NestedKey) = some _ from h2)
    | int j => cases (show some (NestedKey.num j) = some (.num i) from h2); rfl
    | str x => cases (show some (NestedKey.text x) = some (.num i) from h2)
    | list xs => cases (show (none : Option NestedKey) = some _ from h2)
    | dict xs => cases (show (none : Option NestedKey) = some _ from h2)
    | tuple xs =>
      obtain ⟨ks, _, z⟩ := Option.map_eq_some_iff.mp (show (nkAll xs).map NestedKey.tup = some _ from h2)
      cases z
  | .str x, e, k, h1, h2 => by
    cases (show some (NestedKey.text x) = some k from h1)
    cases e with
    | none => cases (show some NestedKey.none = some (.text x) from h2)
    | bool b => cases (show (none : Option NestedKey) = some _ from h2)
    | int j => cases (show some (NestedKey.num j) = some (.text x) from h2)
    | str y => cases (show some (NestedKey.text y) = some (.text x) from h2); rfl
    | list xs => cases (show (none : Option NestedKey) = some _ from h2)
    | dict xs => cases (show (none : Option NestedKey) = some _ from h2)
    | tuple xs =>
      obtain ⟨ks, _, z⟩ := Option.map_eq_some_iff.mp (show (nkAll xs).map NestedKey.tup = some _ from h2)
      cases z
  | .tuple xs, e, k, h1, h2 => by
    obtain ⟨ks, h1', rfl⟩ := Option.map_eq_some_iff.mp (show (nkAll xs).map NestedKey.tup = some _ from h1)
    cases e with
    | none => cases (show some NestedKey.none = some (.tup ks) from h2)
    | bool b => cases (show (none : Option NestedKey) = some _ from h2)
    | int j => cases (show some (NestedKey.num j) = some (.tup ks) from h2)
    | str y => cases (show some (NestedKey.text y) = some (.tup ks) from h2)
    | list xs => cases (show (none : Option NestedKey) = some _ from h2)
    | dict xs => cases (show (none : Option NestedKey) = some _ from h2)
    | tuple ys =>
      obtain ⟨ks', h2', z⟩ := Option.map_eq_some_iff.mp (show (nkAll ys).map NestedKey.tup = some _ from h2)
      cases z
      rw [nkAll_inj xs ys ks h1' h2']
theorem nkAll_inj : ∀ (ds es : List D) (ks : List NestedKey), nkAll ds = some ks → nkAll es = some ks → ds = es
  | [], [], _, _, _ => rfl
  | [], e :: es, ks, h1, h2 => by
    obtain ⟨_, _, _, _, rfl⟩ := nkAll_cons h2
    cases (show some ([] : List NestedKey) = some _ from h1)
  | d :: ds, [], ks, h1, h2 => by
    obtain ⟨_, _, _, _, rfl⟩ := nkAll_cons h1
    cases (show some ([] : List NestedKey) = some _ from h2)
  | d :: ds, e :: es, ks, h1, h2 => by
    obtain ⟨k, ks', a1, a2, rfl⟩ := nkAll_cons h1
    obtain ⟨k', ks'', b1, b2, z⟩ := nkAll_cons h2
    cases z
    rw [nk_inj d e k a1 b1, nkAll_inj ds es ks' a2 b2]
end
abbrev NE (β : Type) := NestedKey × Addr × β
/-- a datum whose object is a key -/
def KeyAt (K : PySem.W.Frag) (F : Hp) (b : Addr) (k : NestedKey) (d : D) : Prop := At K F (.ref b) d ∧ nkD d = some k ∧ k.depth ≤ 8
def valN (xs : List (NE V)) (k : NestedKey) : Option V := (xs.find? fun p => decide (p.1 = k)).map (·.2.2)
theorem valN_some {xs : List (NE V)} {k : NestedKey} {v : V} (h : valN xs k = some v) : ∃ p ∈ xs, p.1 = k ∧ p.2.2 = v := by
  obtain ⟨p, hp, rfl⟩ := Option.map_eq_some_iff.mp h
  exact ⟨p, List.mem_of_find?_eq_some hp, by simpa using List.find?_some hp, rfl⟩
end DL
namespace DL
open PySem L2
section
variable {rs : SpD} {c : Cn} {w : PySem.World} {F H : Hp} {v0 v1 v2 : V} {a : Addr} {sc co : D} {ths : List D} {g : D → D}
/-- what the dict tells -/
def ThOk (K : PySem.W.Frag) (F : Hp) (g : D → D) (xs : List (NE V)) : Prop := ∀ p ∈ xs, ∃ d, KeyAt K F p.2.1 p.1 d ∧ At K F p.2.2 (g d)
theorem ThOk.mono {K : PySem.W.Frag} {F' : Hp} {xs : List (NE V)} (e : Ex F F') (h : ThOk K F g xs) : ThOk K F' g xs := fun p hp => let ⟨d, ⟨a, b, c⟩, z⟩ := h p hp; ⟨d, ⟨a.mono e, b, c⟩, z.mono e⟩
theorem ThOk.val {K : PySem.W.Frag} {xs : List (NE V)} {k : NestedKey} {v : V} {d : D} (h : ThOk K F g xs) (e : valN xs k = some v) (hk : nkD d = some k) : At K F v (g d) := by
  obtain ⟨p, mp, rfl, rfl⟩ := valN_some e
  obtain ⟨d', ⟨_, q, _⟩, z⟩ := h p mp
  rw [nk_inj d d' _ hk q]
  exact z
end
end DL
namespace DL
open PySem L2 PySem.Spec PyProof.Rows
end DL
namespace DL
open PySem L2 PySem.Spec PyProof.Rows
end DL
namespace DL
open PySem L2
end DL
namespace DL
open PySem L2
def rgOk (a b : Int) : Prop := -1000000 ≤ a ∧ a ≤ 1000000 ∧ -1000000 ≤ b ∧ b ≤ 1000000
theorem rgOk.ok {a b : Int} (h : rgOk a b) : RgOk a b := by
  obtain ⟨h1, h2, h3, h4⟩ := h
  exact ⟨by omega, by omega, by omega, by omega, by omega⟩
end DL
namespace DL
open PySem L2
end DL
namespace DL.Am
open PySem L2 DL
end DL.Am
namespace DL.Lz
open PySem Sem
section
variable {prog : Program} {w : PySem.World} {A : Around} {E : Value → Shared → Prop} {s : Shared} {z t u p q : Addr} {fa fb : List Addr} {na nb i : Nat} {Pa Pb : Nat → Value → Prop} {Sa Sb : Nat → Heap → Prop}
/-- where a zip stands: its parts, and no pair out or one that is alive -/
structure Zat (z t u p q L : Addr) (Sa Sb : Nat → Heap → Prop) (i : Nat) (h : Heap) : Prop where
  its : IsPair h t (.ref p) (.ref q)
  a : Sa i h
  b : Sb i h
  z : (IsZip h z t u .none ∧ ∃ x y, IsPair h u x y) ∨ ∃ (T : Addr) (f : Bool) (oT : Obj), IsZipHeld h z t u T f ∧ h.get? T = some oT ∧ T ≠ z ∧ T ≠ p ∧ T ≠ q ∧ T ≠ L
theorem Zat.keep {L : Addr} {h h' : Heap} {prog : Program} {w : PySem.World} {A : Around} (S : ZipSep2 z t u p q fa fb) (Da : Draws prog w A p fa na Pa Sa) (Db : Draws prog w A q fb nb Pb Sb) (st : Zat z t u p q L Sa Sb i h) (k : ∀ b o, b ≠ L → h.get? b = some o → h'.get? b = some o) (nz : L ≠ z) (nt : L ≠ t) (nu : L ≠ u) (na' : L ∉ fa) (nb' : L ∉ fb) : Zat z t u p q L Sa Sb i h' := by
  refine ⟨k _ _ (Ne.symm nt) st.its, Da.frame _ _ _ st.a fun b hb o e => k b o (fun x => na' (x ▸ hb)) e, Db.frame _ _ _ st.b fun b hb o e => k b o (fun x => nb' (x ▸ hb)) e, ?_⟩
  rcases st.z with ⟨hz, x0, y0, hu⟩ | ⟨T, f, oT, hz, hT, t1, t2, t3, t4⟩
  · exact .inl ⟨k _ _ (Ne.symm nz) hz, x0, y0, k _ _ (Ne.symm nu) hu⟩
  · exact .inr ⟨T, f, oT, k _ _ (Ne.symm nz) hz, k _ _ t4 hT, t1, t2, t3, t4⟩
end
end DL.Lz
namespace DL.Lz
open PySem PyProof.Rows L2 RZ
end DL.Lz
namespace DL
open PySem L2 PyProof.Rows
end DL
namespace DL.Lz
open PySem Sem PyProof.Rows L2 RZ
abbrev IsZf (h : Heap) (z t u : Addr) (v : Value) (f : Bool) : Prop := h.get? z = some { cls := .type "zip", dict := none, data := .fields #[v, .bool f, .bool false, .ref t, .ref u], slots := #[] }
section
variable {prog : Program} {w : PySem.World} {A : Around} {E : Value → Shared → Prop} {s : Shared} {z t u p q : Addr} {fa fb : List Addr} {na nb i : Nat} {Pa Pb : Nat → Value → Prop} {Sa Sb : Nat → Heap → Prop} {x0 y0 v : Value} {f : Bool}
/-- fresh, or with a pair out of which nothing is known -/
def Zn (z t u : Addr) (h : Heap) : Prop := ∃ v f, IsZf h z t u v f ∧ (v = .none ∨ ∃ T : Addr, v = rawInt T)
end
/-- how far both are gone -/
structure NmGone (z t u p q a b : Addr) (n : Nat) (h : Heap) : Prop where
  zip : Zn z t u h
  its : IsPair h t (.ref p) (.ref q)
  two : ∃ x y, IsPair h u x y
  fst : h.IsTupleIter p a n
  snd : h.IsTupleIter q b n
section
variable {z t u p q a b : Addr} {n : Nat} {h h' : Heap}
theorem NmGone.there (m : NmGone z t u p q a b n h) {c : Addr} (hc : c ∈ [z, t, u, p, q]) : ∃ o, h.get? c = some o ∧ ∀ v, o.data ≠ .cell v := by
  obtain ⟨⟨v1, f1, k1, _⟩, k2, ⟨x, y, k3⟩, ⟨o4, e4, _, f4⟩, ⟨o5, e5, _, f5⟩⟩ := m
  refine five (P := fun c => ∃ o, h.get? c = some o ∧ ∀ v, o.data ≠ .cell v) hc ⟨_, k1, nofun⟩ ⟨_, k2, nofun⟩ ⟨_, k3, nofun⟩ ⟨o4, e4, fun v e => ?_⟩ ⟨o5, e5, fun v e => ?_⟩
  · rw [f4] at e
    cases e
  · rw [f5] at e
    cases e
end
end DL.Lz
namespace DL
open PySem L2 PyProof.Rows
def Zk (H : Hp) (v : V) : Prop := ∃ (a : Addr) (o : Obj) (u : HO), v = .ref a ∧ H a = some (.frz o u) ∧ o.cls = .type "tuple" ∧ o.dict = none
/-- what a def promises that hands out such a tuple -/
def spZ (K : PySem.W.Frag) (R : Orc) (n : Nat) (S : SpD) : Sp := fun vs H Q _ => ∃ (q : Option Addr) (F : Hp) (as : List Ar) (m : Nat) (P : D → Nat → Prop), World R q F H F H ∧ Paired (ArAt ⟨K, R, q, F, H⟩ F) vs as ∧ as.length = n ∧ oraAt as ∧ (q = none ∨ as[0]? = some .ora) ∧ (∀ p, q = some p → R.cnt p H ≤ m) ∧ S as m P ∧
  ∀ d m' v F' H', P d m' → World R q F H F' H' → (∀ p, q = some p → R.cnt p H' ≤ m') → At K F' v d → Zk H' v → Q v H'
def CdZ (pr : Program) (wd : PySem.World) (K : PySem.W.Frag) (gl : Str → Option Value) (bas : Heap) (R : Orc) (k : Nat) (x : Str) (n : Nat) (S : SpD) : Prop :=
  ∃ (f : Addr) (fd : FuncData) (ps : List Str), FnG pr wd K gl bas k f fd ps (spZ K R n S) ∧ gl x = some (.ref f) ∧ PySem.W.keepIn K (.ref f) = true ∧ Binds K fd ps []
section
variable {pr : Program} {wd : PySem.World} {K : PySem.W.Frag} {gl : Str → Option Value} {bas : Heap} {R : Orc} {j k n : Nat} {x : Str} {S : SpD}
theorem CdZ.more (C : CdZ pr wd K gl bas R j x n S) (h : j ≤ k) : CdZ pr wd K gl bas R k x n S := by
  obtain ⟨f, fd, ps, F, rest⟩ := C
  exact ⟨f, fd, ps, F.more h, rest⟩
end
end DL
namespace DL.Ms
open PySem L2 PySem.Spec PyProof.Rows
end DL.Ms
namespace DL
open PySem L2 PySem.Spec PyProof.Rows
end DL
namespace DL
open PySem L2
end DL
namespace DL
open PySem L2
end DL
namespace DL
open PySem L2 PyProof.Rows
abbrev TD := List (List Key × D)
/-- what stands in the heap's dict, entry by entry -/
def TAt (K : PySem.W.Frag) (F : Hp) (kvs : List (List Key × V)) (xs : TD) : Prop := Paired (fun (p : List Key × V) (q : List Key × D) => p.1 = q.1 ∧ At K F p.2 q.2) kvs xs
section
variable {K : PySem.W.Frag} {F F' H : Hp} {a : Addr}
theorem TAt.mono (e : Ex F F') {kvs : List (List Key × V)} {xs : TD} (h : TAt K F kvs xs) : TAt K F' kvs xs := by
  unfold TAt at h ⊢
  induction h with
  | nil => exact .nil
  | cons h t ih => exact .cons ⟨h.1, h.2.mono e⟩ ih
end
end DL
namespace DL
open PySem L2
end DL
namespace DL
open PySem L2
section
variable {X : Cx} {c : Cn}
/-- arguments, some of them slots -/
abbrev Ar2 := Ar ⊕ Nat
abbrev AM2 := Env → (List Ar2 → Env → Prop) → Prop
def A2At (c : Cn) (F : Hp) (σ : L2.St) : V → Ar2 → Prop
  | v, .inl x => ArAt c F v x
  | v, .inr i => σ[i]? = some (some v)
theorem A2At.mono {F F' : Hp} {σ : L2.St} (e : Ex F F') {v : V} {x : Ar2} (h : A2At c F σ v x) : A2At c F' σ v x := by
  cases x with
  | inl x => exact ArAt.mono e h
  | inr i => exact h
variable {e : Expr} {es : List Expr}
variable {k : Nat} {f : Addr} {fd : FuncData} {ps : List Str} {S : SpD} {x : Str} {p pos : Pos} {fa : AM2} {n i : Nat}
end
end DL
namespace DL
open PySem L2
end DL
namespace DL
open PySem L2
end DL
namespace DL
open PySem L2 PyProof.Rows
end DL
namespace Q71
open PySem L2 DL
/-- the law's numbers: some integer below the total -/
def s_next : SpD := fun as m P => ∃ n : Int, as = [.ora, .d (.int n)] ∧ 0 < n ∧ n < 1073741824 ∧ m < 1048576 ∧ ∀ i : Int, 0 ≤ i → i < n → P (.int i) (m + 1)
/-- is_integer(thing), slots 0 thing -/
def g_is_integer : SM := sRet (dAnd (dIsi "int" (hS 0)) (dNot (dIsi "bool" (hS 0))))
def r_is_integer : SpD := raw g_is_integer 1
/-- is_within(thing, least, most), slots 0 thing 1 least 2 most -/
def g_is_within : SM := sRet (dAnd (dCall 1 r_is_integer (aCons (dV 0) (aNil))) (dChain gLe gLe (hS 1) (hS 0) (hS 2)))
def r_is_within : SpD := raw g_is_within 3
/-- is_tuple(thing, least, most), slots 0 thing 1 least 2 most -/
def g_is_tuple : SM := sRet (dAnd (dIsi "tuple" (hS 0)) (dChain gLe gLe (hS 1) (hV (dCB gLen (DL.gCons (hS 0) (DL.gNil)))) (hS 2)))
def r_is_tuple : SpD := raw g_is_tuple 3
/-- is_one_of(thing, words), slots 0 thing 1 words -/
def g_is_one_of : SM := sRet (dAnd (dIsi "str" (hS 0)) (d2 gInU (hS 0) (hS 1)))
def r_is_one_of : SpD := raw g_is_one_of 2
/-- _is_step(thing), slots 0 thing -/
def g__is_step : SM := sSeq (sIf (bOr (bNot (bTruth (hV (dCall 3 r_is_tuple (aCons (dV 0) (aCons (dC (.int 3)) (aCons (dC (.int 3)) (aNil)))))))) (bNot (bTruth (hV (dCall 2 r_is_one_of (aCons (d2 gIx (hS 0) (hV (dC (.int 2)))) (aCons (dC (.tuple ([("down" : Str), ("up" : Str), ("near" : Str)].map PyData.str))) (aNil)))))))) (sRet (dC (.bool false))) (sNo)) (sRet (dAnd (dCall 3 r_is_within (aCons (d2 gIx (hS 0) (hV (dC (.int 0)))) (aCons (dC (.int 1)) (aCons (dC (.int 2000)) (aNil))))) (dCall 3 r_is_within (aCons (d2 gIx (hS 0) (hV (dC (.int 1)))) (aCons (dC (.int 1)) (aCons (dC (.int 2000)) (aNil)))))))
def r__is_step : SpD := raw g__is_step 1
/-- need_chain(thing), slots 0 thing 1 product 2 number 3 step -/
def g_need_chain : SM := sSeq (sIf (bNot (bTruth (hV (dCall 3 r_is_tuple (aCons (dV 0) (aCons (dC (.int 0)) (aCons (dC (.int 4)) (aNil)))))))) (sNever) (sNo)) (sSeq (sSet 1 (dC (.int 1))) (sSeq (sFor (iEn (lCons (dV 0) (lNil))) (gTupT 2 (gConsT (gN 2) (gConsT (gN 3) (gNoT)))) (sSeq (sIf (bNot (bTruth (hV (dCall 1 r__is_step (aCons (dV 3) (aNil)))))) (sNever) (sNo)) (sSeq (sAug 1 gImul (hV (d2 gIx (hS 3) (hV (dC (.int 1)))))) (sIf (bD (d2 gGt (hS 1) (hV (dC (.int 100000))))) (sNever) (sNo))))) (sRet (dV 0))))
def r_need_chain : SpD := raw g_need_chain 4
/-- _quotient(top, bottom, rounding), slots 0 top 1 bottom 2 rounding -/
def g__quotient : SM := sSeq (sIf (bD (d2 gEq (hS 2) (hV (dC (.str ("up" : Str)))))) (sRet (dNeg (d2 gDiv (hV (dNeg (dV 0))) (hS 1)))) (sNo)) (sSeq (sIf (bD (d2 gEq (hS 2) (hV (dC (.str ("near" : Str)))))) (sRet (d2 gDiv (hV (d2 gAdd (hV (d2 gMul (hV (dC (.int 2))) (hS 0))) (hS 1))) (hV (d2 gMul (hV (dC (.int 2))) (hS 1))))) (sNo)) (sRet (d2 gDiv (hS 0) (hS 1))))
def r__quotient : SpD := raw g__quotient 3
/-- _moved(chain, frame), slots 0 chain 1 frame 2 top 3 bottom 4 rounding -/
def g__moved : SM := sSeq (sFor (iSeq (dV 0)) (gTupT 3 (gConsT (gN 2) (gConsT (gN 3) (gConsT (gN 4) (gNoT))))) (sSet 1 (dCall 3 r__quotient (aCons (d2 gMul (hS 1) (hS 2)) (aCons (dV 3) (aCons (dV 4) (aNil))))))) (sRet (dV 1))
def r__moved : SpD := raw g__moved 5
/-- moved(chain, frame), slots 0 chain 1 frame -/
def g_moved : SM := sSeq (sExpr (dCall 1 r_need_chain (aCons (dV 0) (aNil)))) (sSeq (sIf (bNot (bTruth (hV (dCall 3 r_is_within (aCons (dV 1) (aCons (dC (.int 0)) (aCons (dC (.int 1000000000000)) (aNil)))))))) (sNever) (sNo)) (sRet (dCall 2 r__moved (aCons (dV 0) (aCons (dV 1) (aNil))))))
def r_moved : SpD := raw g_moved 2
/-- _bottom(chain), slots 0 chain 1 product 2 step -/
def g__bottom : SM := sSeq (sSet 1 (dC (.int 1))) (sSeq (sFor (iSeq (dV 0)) (gN 2) (sAug 1 gImul (hV (d2 gIx (hS 2) (hV (dC (.int 1))))))) (sRet (dV 1)))
def r__bottom : SpD := raw g__bottom 3
/-- slope(chain), slots 0 chain 1 top 2 step 3 bottom 4 common -/
def g_slope : SM := sSeq (sExpr (dCall 1 r_need_chain (aCons (dV 0) (aNil)))) (sSeq (sSet 1 (dC (.int 1))) (sSeq (sFor (iSeq (dV 0)) (gN 2) (sAug 1 gImul (hV (d2 gIx (hS 2) (hV (dC (.int 0))))))) (sSeq (sSet 3 (dCall 1 r__bottom (aCons (dV 0) (aNil)))) (sSeq (sSet 4 (dCB gGcd (DL.gCons (hS 1) (DL.gCons (hS 3) (DL.gNil))))) (sRet (dTup (lCons (d2 gDiv (hS 1) (hS 4)) (lCons (d2 gDiv (hS 3) (hS 4)) (lNil)))))))))
def r_slope : SpD := raw g_slope 5
/-- _primes_of(number), slots 0 number 1 primes 2 prime -/
def g__primes_of : SM := sSeq (sSetN 1 (dLst (lNil))) (sSeq (sSet 2 (dC (.int 2))) (sSeq (sWhile (bD (d2 gGt (hS 0) (hV (dC (.int 1))))) (sSeq (sWhile (bD (d2 gEq (hV (d2 gMod (hS 0) (hS 2))) (hV (dC (.int 0))))) (sSeq (sApp 1 (dV 2)) (sAug 0 gIdiv (hS 2)))) (sAug 2 gIadd (hV (dC (.int 1)))))) (sRet (dV 1))))
def r__primes_of : SpD := raw g__primes_of 3
/-- _comes_again(rises, many), slots 0 rises 1 many -/
def g__comes_again : SM := sRet (d2 gEq (hV (d2 gAdd (hV (dSl (hS 0) (oI (dV 1)) (oNo))) (hV (dSl (hS 0) (oNo) (oI (dV 1)))))) (hS 0))
def r__comes_again : SpD := raw g__comes_again 2
/-- period(chain), slots 0 chain 1 many 2 frames 3 rises 4 prime 5 frame 6 ahead 7 after -/
def g_period : SM := sSeq (sExpr (dCall 1 r_need_chain (aCons (dV 0) (aNil)))) (sSeq (sSet 1 (dCall 1 r__bottom (aCons (dV 0) (aNil)))) (sSeq (sSet 2 (dLc (iRange1 (lCons (d2 gAdd (hS 1) (hV (dC (.int 1)))) (lNil))) (gN 5) (bYes) (dCall 2 r__moved (aCons (dV 0) (aCons (dV 5) (aNil)))) [5])) (sSeq (sSet 3 (dLc (iZp (lCons (dV 2) (lCons (dSl (hS 2) (oI (dC (.int 1))) (oNo)) (lNil)))) (gTupT 2 (gConsT (gN 6) (gConsT (gN 7) (gNoT)))) (bYes) (d2 DL.gSub (hS 7) (hS 6)) [6, 7])) (sSeq (sFor (iSeq (dCall 1 r__primes_of (aCons (dV 1) (aNil)))) (gN 4) (sIf (bTruth (hV (dCall 2 r__comes_again (aCons (dV 3) (aCons (d2 gDiv (hS 1) (hS 4)) (aNil)))))) (sAug 1 gIdiv (hS 4)) (sNo))) (sRet (dTup (lCons (dV 1) (lCons (d2 gIx (hS 2) (hS 1)) (lNil)))))))))
def r_period : SpD := raw g_period 8
/-- _law_of(_law_m, _law_some), slots 0 _law_m 1 _law_some -/
def g__law_of : SM := sRet (d2 gIx (hS 1) (hV (dCallO 0 2 s_next (aOra 0 (aCons (dCB gLen (DL.gCons (hS 1) (DL.gNil))) (aNil))))))
def r__law_of : SpD := raw g__law_of 2
/-- _law_chain(_law_m, _law_most), slots 0 _law_m 1 _law_most 2 _law_k 3 _law_found 4 _law_size 5 _law_pair -/
def g__law_chain : SM := sSeq (sParNI 3 4 (dLst (lNil)) (dC (.int 1))) (sSeq (sFor (iRange1 (lCons (dCallO 0 2 s_next (aOra 0 (aCons (d2 gAdd (hS 1) (hV (dC (.int 1)))) (aNil)))) (lNil))) (gN 2) (sSeq (sSet 5 (dCallO 0 2 r__law_of (aOra 0 (aCons (dLst (lCons (dTup (lCons (dC (.int 1)) (lCons (dC (.int 1)) (lNil)))) (lCons (dTup (lCons (dC (.int 1)) (lCons (dC (.int 2)) (lNil)))) (lCons (dTup (lCons (dC (.int 2)) (lCons (dC (.int 1)) (lNil)))) (lCons (dTup (lCons (dC (.int 2)) (lCons (dC (.int 3)) (lNil)))) (lCons (dTup (lCons (dC (.int 3)) (lCons (dC (.int 2)) (lNil)))) (lCons (dTup (lCons (dC (.int 4)) (lCons (dC (.int 5)) (lNil)))) (lCons (dTup (lCons (dC (.int 5)) (lCons (dC (.int 4)) (lNil)))) (lCons (dTup (lCons (dC (.int 24)) (lCons (dC (.int 25)) (lNil)))) (lCons (dTup (lCons (dC (.int 25)) (lCons (dC (.int 24)) (lNil)))) (lCons (dTup (lCons (dC (.int 6)) (lCons (dC (.int 4)) (lNil)))) (lCons (dTup (lCons (dC (.int 10)) (lCons (dC (.int 3)) (lNil)))) (lNil))))))))))))) (aNil))))) (sSeq (sSet 5 (dIf (bD (d2 gLe (hV (d2 gMul (hS 4) (hV (d2 gIx (hS 5) (hV (dC (.int 1))))))) (hV (dC (.int 20000))))) (dV 5) (dTup (lCons (d2 gIx (hS 5) (hV (dC (.int 0)))) (lCons (dC (.int 1)) (lNil)))))) (sSeq (sSet 4 (d2 gMul (hS 4) (hV (d2 gIx (hS 5) (hV (dC (.int 1))))))) (sApp 3 (d2 gAdd (hS 5) (hV (dTup (lCons (dCallO 0 2 r__law_of (aOra 0 (aCons (dLst (lCons (dC (.str ("down" : Str))) (lCons (dC (.str ("up" : Str))) (lCons (dC (.str ("near" : Str))) (lNil))))) (aNil)))) (lNil)))))))))) (sRet (dCB gTuple (DL.gCons (hS 3) (DL.gNil)))))
def r__law_chain : SpD := raw g__law_chain 6
/-- _law_moved(_law_chain_here, _law_frame), slots 0 _law_chain_here 1 _law_frame 2 _law_above 3 _law_below 4 _law_rounding 5 _law_size 6 _law_down 7 _law_rest -/
def g__law_moved : SM := sSeq (sFor (iSeq (dV 0)) (gTupT 3 (gConsT (gN 2) (gConsT (gN 3) (gConsT (gN 4) (gNoT))))) (sSeq (sSet 5 (d2 gMul (hS 1) (hS 2))) (sSeq (sPar 6 7 (lCons (d2 gDiv (hS 5) (hS 3)) (lCons (d2 gMod (hV (dCB gInt (DL.gCons (hS 5) (DL.gNil)))) (hS 3)) (lNil)))) (sIf (bD (d2 gEq (hS 4) (hV (dC (.str ("down" : Str)))))) (sSet 1 (dV 6)) (sIf (bD (d2 gEq (hS 4) (hV (dC (.str ("up" : Str)))))) (sSet 1 (d2 gAdd (hS 6) (hV (dCB gInt (DL.gCons (hV (d2 gGt (hS 7) (hV (dC (.int 0))))) (DL.gNil)))))) (sSet 1 (d2 gAdd (hS 6) (hV (dCB gInt (DL.gCons (hV (d2 gGe (hV (d2 gMul (hV (dC (.int 2))) (hS 7))) (hS 3))) (DL.gNil))))))))))) (sRet (dV 1))
def r__law_moved : SpD := raw g__law_moved 8
/-- _law_products(_law_chain_here), slots 0 _law_chain_here 1 _law_move 2 _law_above 3 _law_below -/
def g__law_products : SM := sSeq (sAsg (dTup (lCons (dC (.int 1)) (lCons (dC (.int 1)) (lNil)))) (gTupT 2 (gConsT (gN 2) (gConsT (gN 3) (gNoT))))) (sSeq (sFor (iSeq (dV 0)) (gN 1) (sPar 2 3 (lCons (d2 gMul (hS 2) (hV (d2 gIx (hS 1) (hV (dC (.int 0)))))) (lCons (d2 gMul (hS 3) (hV (d2 gIx (hS 1) (hV (dC (.int 1)))))) (lNil))))) (sRet (dTup (lCons (dV 2) (lCons (dV 3) (lNil))))))
def r__law_products : SpD := raw g__law_products 4
/-- _law_measure(_law_one, _law_other), slots 0 _law_one 1 _law_other -/
def g__law_measure : SM := sSeq (sWhile (bD (d2 gGt (hS 1) (hV (dC (.int 0))))) (sPar 0 1 (lCons (dV 1) (lCons (d2 gMod (hV (dCB gInt (DL.gCons (hS 0) (DL.gNil)))) (hS 1)) (lNil))))) (sRet (dV 0))
def r__law_measure : SpD := raw g__law_measure 2
/-- _law_rise(_law_row, _law_frame, _law_many), slots 0 _law_row 1 _law_frame 2 _law_many -/
def g__law_rise : SM := sRet (d2 DL.gSub (hV (d2 gIx (hS 0) (hV (d2 gAdd (hS 1) (hS 2))))) (hV (d2 gIx (hS 0) (hS 1))))
def r__law_rise : SpD := raw g__law_rise 3
/-- _law_period(_law_chain_here), slots 0 _law_chain_here 1 _law_row 2 _law_many 3 _law_above 4 _law_below 5 _law_rise_here 6 _law_frame -/
def g__law_period : SM := sSeq (sAsg (dCall 1 r__law_products (aCons (dV 0) (aNil))) (gTupT 2 (gConsT (gN 3) (gConsT (gN 4) (gNoT))))) (sSeq (sSet 1 (dLc (iRange1 (lCons (d2 gAdd (hV (d2 gMul (hV (dC (.int 3))) (hS 4))) (hV (dC (.int 1)))) (lNil))) (gN 6) (bYes) (dCall 2 r__law_moved (aCons (dV 0) (aCons (dV 6) (aNil)))) [6])) (sSeq (sFor (iRange2 (lCons (dC (.int 1)) (lCons (d2 gAdd (hS 4) (hV (dC (.int 1)))) (lNil)))) (gN 2) (sSeq (sSet 5 (d2 DL.gSub (hV (d2 gIx (hS 1) (hS 2))) (hV (d2 gIx (hS 1) (hV (dC (.int 0))))))) (sIf (bD (d2 gEq (hV (d2 gMul (hS 5) (hS 4))) (hV (d2 gMul (hS 2) (hS 3))))) (sSeq (sSet 6 (dC (.int 0))) (sSeq (sWhile (bAnd (bD (d2 gLt (hS 6) (hS 4))) (bD (d2 gEq (hV (dCall 3 r__law_rise (aCons (dV 1) (aCons (dV 6) (aCons (dV 2) (aNil)))))) (hS 5)))) (sSet 6 (d2 gAdd (hS 6) (hV (dC (.int 1)))))) (sIf (bD (d2 gEq (hS 6) (hS 4))) (sRet (dTup (lCons (dV 2) (lCons (dV 5) (lNil))))) (sNo)))) (sNo)))) (sRet (dC .none))))
def r__law_period : SpD := raw g__law_period 7
/-- law behind its first row, slots 0 _law_script 1 _law_m 2 _law_turn 3 _law_told 4 _law_chain_here 5 _law_part 6 _law_frame 7 _law_again 8 _law_above 9 _law_below 10 _law_word -/
def g_law : SM := sSeq (sFor (iRange1 (lCons (d2 gAdd (hV (dC (.int 4))) (hV (dCB gMin (DL.gCons (hV (dCB gLen (DL.gCons (hS 0) (DL.gNil)))) (DL.gCons (hV (dC (.int 7))) (DL.gNil)))))) (lNil))) (gN 2) (sSeq (sSet 4 (dCallO 1 2 r__law_chain (aOra 1 (aCons (dC (.int 4)) (aNil))))) (sSeq (sAsg (dCall 1 r__law_products (aCons (dV 4) (aNil))) (gTupT 2 (gConsT (gN 8) (gConsT (gN 9) (gNoT))))) (sSeq (sSet 5 (dCall 2 r__law_measure (aCons (dV 8) (aCons (dV 9) (aNil))))) (sSeq (sIf (bD (d2 gNe (hV (dCall 1 r_slope (aCons (dV 4) (aNil)))) (hV (dTup (lCons (d2 gDiv (hS 8) (hS 5)) (lCons (d2 gDiv (hS 9) (hS 5)) (lNil))))))) (sRet (dC (.bool false))) (sNo)) (sSeq (sFor (iRange1 (lCons (dCB gMin (DL.gCons (hV (d2 gMul (hV (dC (.int 3))) (hS 9))) (DL.gCons (hV (dC (.int 60))) (DL.gNil)))) (lNil))) (gN 6) (sIf (bD (d2 gNe (hV (dCall 2 r_moved (aCons (dV 4) (aCons (dV 6) (aNil))))) (hV (dCall 2 r__law_moved (aCons (dV 4) (aCons (dV 6) (aNil))))))) (sRet (dC (.bool false))) (sNo))) (sSeq (sFor (iRange1 (lCons (dC (.int 4)) (lNil))) (gN 7) (sSeq (sSet 6 (d2 DL.gSub (hV (dCallO 1 2 r__law_of (aOra 1 (aCons (dLst (lCons (d2 gPow (hV (dC (.int 10))) (hV (dC (.int 12)))) (lCons (d2 gPow (hV (dC (.int 10))) (hV (dC (.int 11)))) (lCons (d2 gAdd (hV (d2 gPow (hV (dC (.int 10))) (hV (dC (.int 9))))) (hV (dC (.int 7)))) (lCons (dC (.int 12345678901)) (lNil)))))) (aNil))))) (hV (dCallO 1 2 s_next (aOra 1 (aCons (dC (.int 1000)) (aNil))))))) (sIf (bD (d2 gNe (hV (dCall 2 r_moved (aCons (dV 4) (aCons (dV 6) (aNil))))) (hV (dCall 2 r__law_moved (aCons (dV 4) (aCons (dV 6) (aNil))))))) (sRet (dC (.bool false))) (sNo)))) (sIf (bD (d2 gLt (hS 9) (hV (dC (.int 2001))))) (sSeq (sSetN 3 (dLst (lCons (dCall 1 r_period (aCons (dV 4) (aNil))) (lCons (dCall 1 r_period (aCons (dV 4) (aNil))) (lNil))))) (sIf (bD (d2 gNeS (hV (dCB gReprS (DL.gCons (hS 3) (DL.gNil)))) (hV (dCB gReprS (DL.gCons (hV (d2 gMul (hV (dLst (lCons (dCall 1 r__law_period (aCons (dV 4) (aNil))) (lNil)))) (hV (dC (.int 2))))) (DL.gNil)))))) (sRet (dC (.bool false))) (sNo))) (sNo))))))))) (sSeq (sSetN 3 (dLc (iSeq (dTup (lCons (dC (.str ("down" : Str))) (lCons (dC (.str ("up" : Str))) (lCons (dC (.str ("near" : Str))) (lNil)))))) (gN 10) (bYes) (dCall 2 r_moved (aCons (dTup (lCons (dTup (lCons (dC (.int 1)) (lCons (dC (.int 2)) (lCons (dV 10) (lNil))))) (lNil))) (aCons (dC (.int 3)) (aNil)))) [10])) (sSeq (sApp 3 (dCall 2 r_moved (aCons (dTup (lCons (dTup (lCons (dC (.int 1)) (lCons (dC (.int 2)) (lCons (dC (.str ("near" : Str))) (lNil))))) (lNil))) (aCons (dC (.int 5)) (aNil))))) (sSeq (sIf (bD (d2 gNe (hV (dCall 1 r_period (aCons (dTup (lCons (dTup (lCons (dC (.int 1)) (lCons (dC (.int 50)) (lCons (dC (.str ("down" : Str))) (lNil))))) (lCons (dTup (lCons (dC (.int 50)) (lCons (dC (.int 1)) (lCons (dC (.str ("up" : Str))) (lNil))))) (lCons (dTup (lCons (dC (.int 1)) (lCons (dC (.int 50)) (lCons (dC (.str ("near" : Str))) (lNil))))) (lNil))))) (aNil)))) (hV (dTup (lCons (dC (.int 50)) (lCons (dC (.int 1)) (lNil))))))) (sRet (dC (.bool false))) (sNo)) (sSeq (sIf (bD (d2 gNe (hV (dCall 1 r_period (aCons (dTup (lCons (dTup (lCons (dC (.int 1)) (lCons (dC (.int 1999)) (lCons (dC (.str ("down" : Str))) (lNil))))) (lCons (dTup (lCons (dC (.int 1)) (lCons (dC (.int 2)) (lCons (dC (.str ("up" : Str))) (lNil))))) (lNil)))) (aNil)))) (hV (dTup (lCons (dC (.int 3998)) (lCons (dC (.int 1)) (lNil))))))) (sRet (dC (.bool false))) (sNo)) (sSeq (sIf (bD (d2 gNe (hV (dCall 1 r_period (aCons (dTup (lCons (dTup (lCons (dC (.int 1)) (lCons (dC (.int 2)) (lCons (dC (.str ("down" : Str))) (lNil))))) (lCons (dTup (lCons (dC (.int 2)) (lCons (dC (.int 1)) (lCons (dC (.str ("up" : Str))) (lNil))))) (lNil)))) (aNil)))) (hV (dTup (lCons (dC (.int 2)) (lCons (dC (.int 2)) (lNil))))))) (sRet (dC (.bool false))) (sNo)) (sRet (dAnd (d2 gEq (hS 3) (hV (dLst (lCons (dC (.int 1)) (lCons (dC (.int 2)) (lCons (dC (.int 2)) (lCons (dC (.int 3)) (lNil)))))))) (d2 gEq (hV (dCall 1 r_period (aCons (dTup (lNil)) (aNil)))) (hV (dTup (lCons (dC (.int 1)) (lCons (dC (.int 1)) (lNil)))))))))))))
def lawSays (ns : List Int) : Prop := g_law ⟨fun _ => False, fun d _ => d = .bool true, fun _ => False, fun _ => False⟩ [.im (.list (ns.map PyData.int)), .ora 0, .no, .no, .no, .no, .no, .no, .no, .no, .no]
end Q71
namespace Q71
open PySem L2 DL
def topS (i : Nat) : Stmt := PySem.Challenge.pw_captionhouse_k71_whole_chains_moved.main.body.getD i (.Pass ⟨0, 0, 0, 0⟩)
structure Tx (K : PySem.W.Frag) (gl : Str → Option Value) : Prop where
  n_bool : gl "bool" = none
  n_enumerate : gl "enumerate" = none
  n_int : gl "int" = none
  n_isinstance : gl "isinstance" = none
  n_len : gl "len" = none
  n_list : gl "list" = none
  n_min : gl "min" = none
  n_range : gl "range" = none
  n_repr : gl "repr" = none
  n_str : gl "str" = none
  n_tuple : gl "tuple" = none
  n_zip : gl "zip" = none
  c_MOST_FRAME : ∃ t, gl "MOST_FRAME" = some (.int 1000000000000 t)
  c_MOST_OF_STEP : ∃ t, gl "MOST_OF_STEP" = some (.int 2000 t)
  c_MOST_PRODUCT : ∃ t, gl "MOST_PRODUCT" = some (.int 100000 t)
  c_MOST_STEPS : ∃ t, gl "MOST_STEPS" = some (.int 4 t)
  t_ROUNDINGS : ∃ u, gl "ROUNDINGS" = some (.ref u) ∧ ∀ F, At K F (.ref u) (.tuple ([("down" : Str), ("up" : Str), ("near" : Str)].map PyData.str))
  f_gcd : gl "gcd" = some (.builtin "math.gcd")
section
variable {pr : Program} {wd : PySem.World} {K : PySem.W.Frag} {gl : Str → Option Value} {bas : Heap} {R : Orc}
abbrev st_is_integer : Stmt := topS 2
def names_is_integer : List Str := ["thing"]
theorem sc_is_integer : FnScope names_is_integer ["thing"] (defScope st_is_integer) := ⟨rfl, rfl, rfl, by decide +kernel, rfl, by decide +kernel, by decide +kernel⟩
theorem ok_is_integer {fa : Addr} {fd : FuncData} (T : Tx K gl) (F : L2.Fun K "is_integer" "is_integer" st_is_integer fa fd) : FnG pr wd K gl bas 1 fa fd ["thing"] (spD K R 1 r_is_integer) := by
  have sc := sc_is_integer
  refine FnG.data (g := g_is_integer) F sc rfl fun cdv A out sh H E q F hg hr => ?_
  exact (ds_one (dp_ret (de_and (de_isi rfl rfl T.n_isinstance rfl T.n_int (by decide +kernel) (dh_v (pv 0))) (pe_one (de_not (de_isi rfl rfl T.n_isinstance rfl T.n_bool (by decide +kernel) (dh_v (pv 0))))))))
abbrev st_is_within : Stmt := topS 3
def names_is_within : List Str := ["thing", "least", "most"]
theorem sc_is_within : FnScope names_is_within ["thing", "least", "most"] (defScope st_is_within) := ⟨rfl, rfl, rfl, by decide +kernel, rfl, by decide +kernel, by decide +kernel⟩
theorem ok_is_within {fa : Addr} {fd : FuncData} (T : Tx K gl) (F : L2.Fun K "is_within" "is_within" st_is_within fa fd) (C_is_integer : Cd pr wd K gl bas R 1 "is_integer" 1 r_is_integer) : FnG pr wd K gl bas 2 fa fd ["thing", "least", "most"] (spD K R 3 r_is_within) := by
  have sc := sc_is_within
  refine FnG.data (g := g_is_within) F sc rfl fun cdv A out sh H E q F hg hr => ?_
  exact (ds_one (dp_ret (de_and (de_cd (C_is_integer.more (by decide)) rfl hg hr rfl (da_cons (de_v (pv 0)) da_nil)) (pe_one (de_chain (sem_le) (sem_le) (dh_v (pv 1)) (dh_v (pv 0)) (dh_v (pv 2)) rfl)))))
abbrev st_is_tuple : Stmt := topS 4
def names_is_tuple : List Str := ["thing", "least", "most"]
theorem sc_is_tuple : FnScope names_is_tuple ["thing", "least", "most"] (defScope st_is_tuple) := ⟨rfl, rfl, rfl, by decide +kernel, rfl, by decide +kernel, by decide +kernel⟩
theorem ok_is_tuple {fa : Addr} {fd : FuncData} (T : Tx K gl) (F : L2.Fun K "is_tuple" "is_tuple" st_is_tuple fa fd) : FnG pr wd K gl bas 1 fa fd ["thing", "least", "most"] (spD K R 3 r_is_tuple) := by
  have sc := sc_is_tuple
  refine FnG.data (g := g_is_tuple) F sc rfl fun cdv A out sh H E q F hg hr => ?_
  exact (ds_one (dp_ret (de_and (de_isi rfl rfl T.n_isinstance rfl T.n_tuple (by decide +kernel) (dh_v (pv 0))) (pe_one (de_chain (sem_le) (sem_le) (dh_v (pv 1)) (dh_of (de_cb (sem_len rfl) rfl T.n_len (by decide +kernel) (dg_cons (dh_v (pv 0)) dg_nil))) (dh_v (pv 2)) rfl)))))
abbrev st_is_one_of : Stmt := topS 5
def names_is_one_of : List Str := ["thing", "words"]
theorem sc_is_one_of : FnScope names_is_one_of ["thing", "words"] (defScope st_is_one_of) := ⟨rfl, rfl, rfl, by decide +kernel, rfl, by decide +kernel, by decide +kernel⟩
theorem ok_is_one_of {fa : Addr} {fd : FuncData} (T : Tx K gl) (F : L2.Fun K "is_one_of" "is_one_of" st_is_one_of fa fd) : FnG pr wd K gl bas 1 fa fd ["thing", "words"] (spD K R 2 r_is_one_of) := by
  have sc := sc_is_one_of
  refine FnG.data (g := g_is_one_of) F sc rfl fun cdv A out sh H E q F hg hr => ?_
  exact (ds_one (dp_ret (de_and (de_isi rfl rfl T.n_isinstance rfl T.n_str (by decide +kernel) (dh_v (pv 0))) (pe_one (de_cmp (sem_inU rfl (hu65 hr)) (dh_v (pv 0)) (dh_v (pv 1)) rfl)))))
abbrev st__is_step : Stmt := topS 19
def names__is_step : List Str := ["thing"]
theorem sc__is_step : FnScope names__is_step ["thing"] (defScope st__is_step) := ⟨rfl, rfl, rfl, by decide +kernel, rfl, by decide +kernel, by decide +kernel⟩
theorem ok__is_step {fa : Addr} {fd : FuncData} (T : Tx K gl) (F : L2.Fun K "_is_step" "_is_step" st__is_step fa fd) (C_is_tuple : Cd pr wd K gl bas R 1 "is_tuple" 3 r_is_tuple) (C_is_one_of : Cd pr wd K gl bas R 1 "is_one_of" 2 r_is_one_of) (C_is_within : Cd pr wd K gl bas R 2 "is_within" 3 r_is_within) : FnG pr wd K gl bas 3 fa fd ["thing"] (spD K R 1 r__is_step) := by
  have sc := sc__is_step
  refine FnG.data (g := g__is_step) F sc rfl fun cdv A out sh H E q F hg hr => ?_
  exact (ds_cons (dp_if (PW.pt (dw_or (dt_not (dt_truth rfl (dh_of (de_cd (C_is_tuple.more (by decide)) rfl hg hr rfl (da_cons (de_v (pv 0)) (da_cons de_int (da_cons de_int da_nil))))))) (pw_or1 (dt_not (dt_truth rfl (dh_of (de_cd (C_is_one_of.more (by decide)) rfl hg hr rfl (da_cons (de_ix rfl (dh_v (pv 0)) (dh_of de_int) (fun _ _ => rfl)) (da_cons (de_gtop rfl T.t_ROUNDINGS) da_nil))))))))) (ds_one (dp_ret de_bl)) ds_nil)
    (ds_one (dp_ret (de_and (de_cd (C_is_within.more (by decide)) rfl hg hr rfl (da_cons (de_ix rfl (dh_v (pv 0)) (dh_of de_int) (fun _ _ => rfl)) (da_cons de_int (da_cons (de_gint rfl T.c_MOST_OF_STEP) da_nil)))) (pe_one (de_cd (C_is_within.more (by decide)) rfl hg hr rfl (da_cons (de_ix rfl (dh_v (pv 0)) (dh_of de_int) (fun _ _ => rfl)) (da_cons de_int (da_cons (de_gint rfl T.c_MOST_OF_STEP) da_nil)))))))))
abbrev st_need_chain : Stmt := topS 15
def names_need_chain : List Str := ["thing", "product", "number", "step"]
theorem sc_need_chain : FnScope names_need_chain ["thing"] (defScope st_need_chain) := ⟨rfl, rfl, rfl, by decide +kernel, rfl, by decide +kernel, by decide +kernel⟩
theorem ok_need_chain {fa : Addr} {fd : FuncData} (T : Tx K gl) (F : L2.Fun K "need_chain" "need_chain" st_need_chain fa fd) (C_is_tuple : Cd pr wd K gl bas R 1 "is_tuple" 3 r_is_tuple) (C__is_step : Cd pr wd K gl bas R 3 "_is_step" 1 r__is_step) : FnG pr wd K gl bas 4 fa fd ["thing"] (spD K R 1 r_need_chain) := by
  have sc := sc_need_chain
  refine FnG.data (g := g_need_chain) F sc rfl fun cdv A out sh H E q F hg hr => ?_
  exact (ds_cons (dp_if (dt_not (dt_truth rfl (dh_of (de_cd (C_is_tuple.more (by decide)) rfl hg hr rfl (da_cons (de_v (pv 0)) (da_cons de_int (da_cons (de_gint rfl T.c_MOST_STEPS) da_nil))))))) ds_never ds_nil)
    (ds_cons (dp_set sc.nd (i := 1) rfl (by first | exact Or.inl rfl | exact Or.inr rfl) de_int)
    (ds_cons (dp_for PassesOwn.never rfl (di_enum rfl rfl T.n_enumerate (dl_cons (de_v (pv 0)) dl_nil)) (dg_tup rfl rfl (dgs_cons (dg_name sc.nd (i := 2) rfl (by first | exact Or.inl rfl | exact Or.inr rfl)) (dgs_cons (dg_name sc.nd (i := 3) rfl (by first | exact Or.inl rfl | exact Or.inr rfl)) dgs_nil))) (ds_cons (dp_if (dt_not (dt_truth rfl (dh_of (de_cd (C__is_step.more (by decide)) rfl hg hr rfl (da_cons (de_v (pv 3)) da_nil))))) ds_never ds_nil)
    (ds_cons (dp_aug sc.nd (i := 1) rfl (by first | exact Or.inl rfl | exact Or.inr rfl) (dh_of (de_ix rfl (dh_v (pv 3)) (dh_of de_int) (fun _ _ => rfl))) sem_imul)
    (ds_one (dp_if (dt_cmp (sem_gt) (dh_v (pv 1)) (dh_of (de_gint rfl T.c_MOST_PRODUCT)) (nomark _)) ds_never ds_nil)))))
    (ds_one (dp_ret (de_v (pv 0)))))))
abbrev st__quotient : Stmt := topS 21
def names__quotient : List Str := ["top", "bottom", "rounding"]
theorem sc__quotient : FnScope names__quotient ["top", "bottom", "rounding"] (defScope st__quotient) := ⟨rfl, rfl, rfl, by decide +kernel, rfl, by decide +kernel, by decide +kernel⟩
theorem ok__quotient {fa : Addr} {fd : FuncData} (T : Tx K gl) (F : L2.Fun K "_quotient" "_quotient" st__quotient fa fd) : FnG pr wd K gl bas 1 fa fd ["top", "bottom", "rounding"] (spD K R 3 r__quotient) := by
  have sc := sc__quotient
  refine FnG.data (g := g__quotient) F sc rfl fun cdv A out sh H E q F hg hr => ?_
  exact (ds_cons (dp_if (dt_cmp (sem_eq rfl (hu64 hr)) (dh_v (pv 2)) (dh_of de_str) (nomark _)) (ds_one (dp_ret (de_neg (de_bin (sem_div) (dh_of (de_neg (de_v (pv 0)))) (dh_v (pv 1)))))) ds_nil)
    (ds_cons (dp_if (dt_cmp (sem_eq rfl (hu64 hr)) (dh_v (pv 2)) (dh_of de_str) (nomark _)) (ds_one (dp_ret (de_bin (sem_div) (dh_of (de_bin (sem_add rfl) (dh_of (de_bin (sem_mul rfl) (dh_of de_int) (dh_v (pv 0)))) (dh_v (pv 1)))) (dh_of (de_bin (sem_mul rfl) (dh_of de_int) (dh_v (pv 1))))))) ds_nil)
    (ds_one (dp_ret (de_bin (sem_div) (dh_v (pv 0)) (dh_v (pv 1)))))))
abbrev st__moved : Stmt := topS 20
def names__moved : List Str := ["chain", "frame", "top", "bottom", "rounding"]
theorem sc__moved : FnScope names__moved ["chain", "frame"] (defScope st__moved) := ⟨rfl, rfl, rfl, by decide +kernel, rfl, by decide +kernel, by decide +kernel⟩
theorem ok__moved {fa : Addr} {fd : FuncData} (T : Tx K gl) (F : L2.Fun K "_moved" "_moved" st__moved fa fd) (C__quotient : Cd pr wd K gl bas R 1 "_quotient" 3 r__quotient) : FnG pr wd K gl bas 2 fa fd ["chain", "frame"] (spD K R 2 r__moved) := by
  have sc := sc__moved
  refine FnG.data (g := g__moved) F sc rfl fun cdv A out sh H E q F hg hr => ?_
  exact (ds_cons (dp_for PassesOwn.never rfl (di_seq rfl (de_v (pv 0))) (dg_tup rfl rfl (dgs_cons (dg_name sc.nd (i := 2) rfl (by first | exact Or.inl rfl | exact Or.inr rfl)) (dgs_cons (dg_name sc.nd (i := 3) rfl (by first | exact Or.inl rfl | exact Or.inr rfl)) (dgs_cons (dg_name sc.nd (i := 4) rfl (by first | exact Or.inl rfl | exact Or.inr rfl)) dgs_nil)))) (ds_one (dp_set sc.nd (i := 1) rfl (by first | exact Or.inl rfl | exact Or.inr rfl) (de_cd (C__quotient.more (by decide)) rfl hg hr rfl (da_cons (de_bin (sem_mul rfl) (dh_v (pv 1)) (dh_v (pv 2))) (da_cons (de_v (pv 3)) (da_cons (de_v (pv 4)) da_nil)))))))
    (ds_one (dp_ret (de_v (pv 1)))))
abbrev st_moved : Stmt := topS 16
def names_moved : List Str := ["chain", "frame"]
theorem sc_moved : FnScope names_moved ["chain", "frame"] (defScope st_moved) := ⟨rfl, rfl, rfl, by decide +kernel, rfl, by decide +kernel, by decide +kernel⟩
theorem ok_moved {fa : Addr} {fd : FuncData} (T : Tx K gl) (F : L2.Fun K "moved" "moved" st_moved fa fd) (C_need_chain : Cd pr wd K gl bas R 4 "need_chain" 1 r_need_chain) (C_is_within : Cd pr wd K gl bas R 2 "is_within" 3 r_is_within) (C__moved : Cd pr wd K gl bas R 2 "_moved" 2 r__moved) : FnG pr wd K gl bas 5 fa fd ["chain", "frame"] (spD K R 2 r_moved) := by
  have sc := sc_moved
  refine FnG.data (g := g_moved) F sc rfl fun cdv A out sh H E q F hg hr => ?_
  exact (ds_cons (dp_expr (de_cd (C_need_chain.more (by decide)) rfl hg hr rfl (da_cons (de_v (pv 0)) da_nil)))
    (ds_cons (dp_if (dt_not (dt_truth rfl (dh_of (de_cd (C_is_within.more (by decide)) rfl hg hr rfl (da_cons (de_v (pv 1)) (da_cons de_int (da_cons (de_gint rfl T.c_MOST_FRAME) da_nil))))))) ds_never ds_nil)
    (ds_one (dp_ret (de_cd (C__moved.more (by decide)) rfl hg hr rfl (da_cons (de_v (pv 0)) (da_cons (de_v (pv 1)) da_nil)))))))
abbrev st__bottom : Stmt := topS 22
def names__bottom : List Str := ["chain", "product", "step"]
theorem sc__bottom : FnScope names__bottom ["chain"] (defScope st__bottom) := ⟨rfl, rfl, rfl, by decide +kernel, rfl, by decide +kernel, by decide +kernel⟩
theorem ok__bottom {fa : Addr} {fd : FuncData} (T : Tx K gl) (F : L2.Fun K "_bottom" "_bottom" st__bottom fa fd) : FnG pr wd K gl bas 1 fa fd ["chain"] (spD K R 1 r__bottom) := by
  have sc := sc__bottom
  refine FnG.data (g := g__bottom) F sc rfl fun cdv A out sh H E q F hg hr => ?_
  exact (ds_cons (dp_set sc.nd (i := 1) rfl (by first | exact Or.inl rfl | exact Or.inr rfl) de_int)
    (ds_cons (dp_for PassesOwn.never rfl (di_seq rfl (de_v (pv 0))) (dg_name sc.nd (i := 2) rfl (by first | exact Or.inl rfl | exact Or.inr rfl)) (ds_one (dp_aug sc.nd (i := 1) rfl (by first | exact Or.inl rfl | exact Or.inr rfl) (dh_of (de_ix rfl (dh_v (pv 2)) (dh_of de_int) (fun _ _ => rfl))) sem_imul)))
    (ds_one (dp_ret (de_v (pv 1))))))
abbrev st_slope : Stmt := topS 17
def names_slope : List Str := ["chain", "top", "step", "bottom", "common"]
theorem sc_slope : FnScope names_slope ["chain"] (defScope st_slope) := ⟨rfl, rfl, rfl, by decide +kernel, rfl, by decide +kernel, by decide +kernel⟩
theorem ok_slope {fa : Addr} {fd : FuncData} (T : Tx K gl) (F : L2.Fun K "slope" "slope" st_slope fa fd) (C_need_chain : Cd pr wd K gl bas R 4 "need_chain" 1 r_need_chain) (C__bottom : Cd pr wd K gl bas R 1 "_bottom" 1 r__bottom) : FnG pr wd K gl bas 5 fa fd ["chain"] (spD K R 1 r_slope) := by
  have sc := sc_slope
  refine FnG.data (g := g_slope) F sc rfl fun cdv A out sh H E q F hg hr => ?_
  exact (ds_cons (dp_expr (de_cd (C_need_chain.more (by decide)) rfl hg hr rfl (da_cons (de_v (pv 0)) da_nil)))
    (ds_cons (dp_set sc.nd (i := 1) rfl (by first | exact Or.inl rfl | exact Or.inr rfl) de_int)
    (ds_cons (dp_for PassesOwn.never rfl (di_seq rfl (de_v (pv 0))) (dg_name sc.nd (i := 2) rfl (by first | exact Or.inl rfl | exact Or.inr rfl)) (ds_one (dp_aug sc.nd (i := 1) rfl (by first | exact Or.inl rfl | exact Or.inr rfl) (dh_of (de_ix rfl (dh_v (pv 2)) (dh_of de_int) (fun _ _ => rfl))) sem_imul)))
    (ds_cons (dp_set sc.nd (i := 3) rfl (by first | exact Or.inl rfl | exact Or.inr rfl) (de_cd (C__bottom.more (by decide)) rfl hg hr rfl (da_cons (de_v (pv 0)) da_nil)))
    (ds_cons (dp_set sc.nd (i := 4) rfl (by first | exact Or.inl rfl | exact Or.inr rfl) (de_cf sem_gcd rfl T.f_gcd (dg_cons (dh_v (pv 1)) (dg_cons (dh_v (pv 3)) dg_nil))))
    (ds_one (dp_ret (de_tup (dl_cons (de_bin (sem_div) (dh_v (pv 1)) (dh_v (pv 4))) (dl_cons (de_bin (sem_div) (dh_v (pv 3)) (dh_v (pv 4))) dl_nil))))))))))
abbrev st__primes_of : Stmt := topS 23
def names__primes_of : List Str := ["number", "primes", "prime"]
theorem sc__primes_of : FnScope names__primes_of ["number"] (defScope st__primes_of) := ⟨rfl, rfl, rfl, by decide +kernel, rfl, by decide +kernel, by decide +kernel⟩
theorem ok__primes_of {fa : Addr} {fd : FuncData} (T : Tx K gl) (F : L2.Fun K "_primes_of" "_primes_of" st__primes_of fa fd) : FnG pr wd K gl bas 1 fa fd ["number"] (spD K R 1 r__primes_of) := by
  have sc := sc__primes_of
  refine FnG.data (g := g__primes_of) F sc rfl fun cdv A out sh H E q F hg hr => ?_
  exact (ds_cons (dp_setN sc.nd (i := 1) rfl (by first | exact Or.inl rfl | exact Or.inr rfl) (dn_lst dl_nil))
    (ds_cons (dp_set sc.nd (i := 2) rfl (by first | exact Or.inl rfl | exact Or.inr rfl) de_int)
    (ds_cons (dp_while PassesOwn.never (dt_cmp (sem_gt) (dh_v (pv 0)) (dh_of de_int) (nomark _)) (ds_cons (dp_while PassesOwn.never (dt_cmp (sem_eq rfl (hu64 hr)) (dh_of (de_bin (sem_mod) (dh_v (pv 0)) (dh_v (pv 2)))) (dh_of de_int) (nomark _)) (ds_cons (dp_app rfl (pv 1) (de_v (pv 2)))
    (ds_one (dp_aug sc.nd (i := 0) rfl (by first | exact Or.inl rfl | exact Or.inr rfl) (dh_v (pv 2)) sem_idiv))))
    (ds_one (dp_aug sc.nd (i := 2) rfl (by first | exact Or.inl rfl | exact Or.inr rfl) (dh_of de_int) sem_iadd))))
    (ds_one (dp_ret (de_v (pv 1)))))))
abbrev st__comes_again : Stmt := topS 24
def names__comes_again : List Str := ["rises", "many"]
theorem sc__comes_again : FnScope names__comes_again ["rises", "many"] (defScope st__comes_again) := ⟨rfl, rfl, rfl, by decide +kernel, rfl, by decide +kernel, by decide +kernel⟩
theorem ok__comes_again {fa : Addr} {fd : FuncData} (T : Tx K gl) (F : L2.Fun K "_comes_again" "_comes_again" st__comes_again fa fd) : FnG pr wd K gl bas 1 fa fd ["rises", "many"] (spD K R 2 r__comes_again) := by
  have sc := sc__comes_again
  refine FnG.data (g := g__comes_again) F sc rfl fun cdv A out sh H E q F hg hr => ?_
  exact (ds_one (dp_ret (de_cmp (sem_eq rfl (hu64 hr)) (dh_of (de_bin (sem_add rfl) (dh_of (de_sl rfl (dh_v (pv 0)) (do_i (de_v (pv 1))) do_no)) (dh_of (de_sl rfl (dh_v (pv 0)) do_no (do_i (de_v (pv 1))))))) (dh_v (pv 0)) (nomark _))))
abbrev st_period : Stmt := topS 18
def names_period : List Str := ["chain", "many", "frames", "rises", "prime", "frame", "ahead", "after"]
theorem sc_period : FnScope names_period ["chain"] (defScope st_period) := ⟨rfl, rfl, rfl, by decide +kernel, rfl, by decide +kernel, by decide +kernel⟩
theorem ok_period {fa : Addr} {fd : FuncData} (T : Tx K gl) (F : L2.Fun K "period" "period" st_period fa fd) (C_need_chain : Cd pr wd K gl bas R 4 "need_chain" 1 r_need_chain) (C__bottom : Cd pr wd K gl bas R 1 "_bottom" 1 r__bottom) (C__moved : Cd pr wd K gl bas R 2 "_moved" 2 r__moved) (C__primes_of : Cd pr wd K gl bas R 1 "_primes_of" 1 r__primes_of) (C__comes_again : Cd pr wd K gl bas R 1 "_comes_again" 2 r__comes_again) : FnG pr wd K gl bas 5 fa fd ["chain"] (spD K R 1 r_period) := by
  have sc := sc_period
  refine FnG.data (g := g_period) F sc rfl fun cdv A out sh H E q F hg hr => ?_
  exact (ds_cons (dp_expr (de_cd (C_need_chain.more (by decide)) rfl hg hr rfl (da_cons (de_v (pv 0)) da_nil)))
    (ds_cons (dp_set sc.nd (i := 1) rfl (by first | exact Or.inl rfl | exact Or.inr rfl) (de_cd (C__bottom.more (by decide)) rfl hg hr rfl (da_cons (de_v (pv 0)) da_nil)))
    (ds_cons (dp_setLc (n := 2) (own := [("frame", 5)]) rfl sc.nd rfl rfl (sw_true rfl rfl rfl (by decide +kernel)) (di_range1 rfl T.n_range (dl_cons (de_bin (sem_add rfl) (dh_v (pv 1)) (dh_of de_int)) dl_nil)) (blkOk_by (own := [("frame", 5)]) (N := names_period) (sc := defScope st_period) (by decide +kernel)) (by decide) (fun _ _ _ _ _ => (dg_name sc.nd (i := 5) rfl (by first | exact Or.inl rfl | exact Or.inr rfl))) (fun _ _ _ _ _ => dts_nil) (fun _ _ _ _ _ => (de_cd (C__moved.more (by decide)) rfl hg hr rfl (da_cons (de_v (pv 0)) (da_cons (de_v (pv 5)) da_nil)))))
    (ds_cons (dp_setLc (n := 3) (own := [("ahead", 6), ("after", 7)]) rfl sc.nd rfl rfl (sw_true rfl rfl rfl (by decide +kernel)) (di_zip rfl rfl T.n_zip (dl_cons (de_v (pv 2)) (dl_cons (de_sl rfl (dh_v (pv 2)) (do_i de_int) do_no) dl_nil))) (blkOk_by (own := [("ahead", 6), ("after", 7)]) (N := names_period) (sc := defScope st_period) (by decide +kernel)) (by decide) (fun _ _ _ _ _ => (dg_tup rfl rfl (dgs_cons (dg_name sc.nd (i := 6) rfl (by first | exact Or.inl rfl | exact Or.inr rfl)) (dgs_cons (dg_name sc.nd (i := 7) rfl (by first | exact Or.inl rfl | exact Or.inr rfl)) dgs_nil)))) (fun _ _ _ _ _ => dts_nil) (fun _ _ _ _ _ => (de_bin (sem_sub) (dh_v (pv 7)) (dh_v (pv 6)))))
    (ds_cons (dp_for PassesOwn.never rfl (di_seq rfl (de_cd (C__primes_of.more (by decide)) rfl hg hr rfl (da_cons (de_v (pv 1)) da_nil))) (dg_name sc.nd (i := 4) rfl (by first | exact Or.inl rfl | exact Or.inr rfl)) (ds_one (dp_if (dt_truth rfl (dh_of (de_cd (C__comes_again.more (by decide)) rfl hg hr rfl (da_cons (de_v (pv 3)) (da_cons (de_bin (sem_div) (dh_v (pv 1)) (dh_v (pv 4))) da_nil))))) (ds_one (dp_aug sc.nd (i := 1) rfl (by first | exact Or.inl rfl | exact Or.inr rfl) (dh_v (pv 4)) sem_idiv)) ds_nil)))
    (ds_one (dp_ret (de_tup (dl_cons (de_v (pv 1)) (dl_cons (de_ix rfl (dh_v (pv 2)) (dh_v (pv 1)) (fun _ _ => rfl)) dl_nil))))))))))
abbrev st__law_of : Stmt := topS 28
def names__law_of : List Str := ["_law_m", "_law_some"]
theorem sc__law_of : FnScope names__law_of ["_law_m", "_law_some"] (defScope st__law_of) := ⟨rfl, rfl, rfl, by decide +kernel, rfl, by decide +kernel, by decide +kernel⟩
theorem ok__law_of {fa : Addr} {fd : FuncData} (T : Tx K gl) (F : L2.Fun K "_law_of" "_law_of" st__law_of fa fd) (C__law_next : Cd pr wd K gl bas R 1 "_law_next" 2 s_next) : FnG pr wd K gl bas 2 fa fd ["_law_m", "_law_some"] (spD K R 2 r__law_of) := by
  have sc := sc__law_of
  refine FnG.data (g := g__law_of) F sc rfl fun cdv A out sh H E q F hg hr => ?_
  exact (ds_one (dp_ret (de_ix rfl (dh_v (pv 1)) (dh_of (de_cdO (i := 0) (C__law_next.more (by decide)) rfl hg hr rfl (da_ora (pv 0) (da_cons (de_cb (sem_len rfl) rfl T.n_len (by decide +kernel) (dg_cons (dh_v (pv 1)) dg_nil)) da_nil)))) (fun _ _ => rfl))))
abbrev st__law_chain : Stmt := topS 29
def names__law_chain : List Str := ["_law_m", "_law_most", "_law_k", "_law_found", "_law_size", "_law_pair"]
theorem sc__law_chain : FnScope names__law_chain ["_law_m", "_law_most"] (defScope st__law_chain) := ⟨rfl, rfl, rfl, by decide +kernel, rfl, by decide +kernel, by decide +kernel⟩
theorem ok__law_chain {fa : Addr} {fd : FuncData} (T : Tx K gl) (F : L2.Fun K "_law_chain" "_law_chain" st__law_chain fa fd) (C__law_next : Cd pr wd K gl bas R 1 "_law_next" 2 s_next) (C__law_of : Cd pr wd K gl bas R 2 "_law_of" 2 r__law_of) : FnG pr wd K gl bas 3 fa fd ["_law_m", "_law_most"] (spD K R 2 r__law_chain) := by
  have sc := sc__law_chain
  refine FnG.data (g := g__law_chain) F sc rfl fun cdv A out sh H E q F hg hr => ?_
  exact (ds_cons (dp_parNI rfl sc.nd (i := 3) (j := 4) rfl rfl (by decide) rfl rfl (dn_lst dl_nil) de_int rfl)
    (ds_cons (dp_for PassesOwn.never rfl (di_range1 rfl T.n_range (dl_cons (de_cdO (i := 0) (C__law_next.more (by decide)) rfl hg hr rfl (da_ora (pv 0) (da_cons (de_bin (sem_add rfl) (dh_v (pv 1)) (dh_of de_int)) da_nil))) dl_nil)) (dg_name sc.nd (i := 2) rfl (by first | exact Or.inl rfl | exact Or.inr rfl)) (ds_cons (dp_set sc.nd (i := 5) rfl (by first | exact Or.inl rfl | exact Or.inr rfl) (de_cdO (i := 0) (C__law_of.more (by decide)) rfl hg hr rfl (da_ora (pv 0) (da_cons (de_n (dn_lst (dl_cons (de_tup (dl_cons de_int (dl_cons de_int dl_nil))) (dl_cons (de_tup (dl_cons de_int (dl_cons de_int dl_nil))) (dl_cons (de_tup (dl_cons de_int (dl_cons de_int dl_nil))) (dl_cons (de_tup (dl_cons de_int (dl_cons de_int dl_nil))) (dl_cons (de_tup (dl_cons de_int (dl_cons de_int dl_nil))) (dl_cons (de_tup (dl_cons de_int (dl_cons de_int dl_nil))) (dl_cons (de_tup (dl_cons de_int (dl_cons de_int dl_nil))) (dl_cons (de_tup (dl_cons de_int (dl_cons de_int dl_nil))) (dl_cons (de_tup (dl_cons de_int (dl_cons de_int dl_nil))) (dl_cons (de_tup (dl_cons de_int (dl_cons de_int dl_nil))) (dl_cons (de_tup (dl_cons de_int (dl_cons de_int dl_nil))) dl_nil))))))))))))) da_nil))))
    (ds_cons (dp_set sc.nd (i := 5) rfl (by first | exact Or.inl rfl | exact Or.inr rfl) (de_if (dt_cmp (sem_le) (dh_of (de_bin (sem_mul rfl) (dh_v (pv 4)) (dh_of (de_ix rfl (dh_v (pv 5)) (dh_of de_int) (fun _ _ => rfl))))) (dh_of de_int) (nomark _)) (de_v (pv 5)) (de_tup (dl_cons (de_ix rfl (dh_v (pv 5)) (dh_of de_int) (fun _ _ => rfl)) (dl_cons de_int dl_nil)))))
    (ds_cons (dp_set sc.nd (i := 4) rfl (by first | exact Or.inl rfl | exact Or.inr rfl) (de_bin (sem_mul rfl) (dh_v (pv 4)) (dh_of (de_ix rfl (dh_v (pv 5)) (dh_of de_int) (fun _ _ => rfl)))))
    (ds_one (dp_app rfl (pv 3) (de_bin (sem_add rfl) (dh_v (pv 5)) (dh_of (de_tup (dl_cons (de_cdO (i := 0) (C__law_of.more (by decide)) rfl hg hr rfl (da_ora (pv 0) (da_cons (de_n (dn_lst (dl_cons de_str (dl_cons de_str (dl_cons de_str dl_nil))))) da_nil))) dl_nil))))))))))
    (ds_one (dp_ret (de_ct (sem_tuple rfl) rfl T.n_tuple (by decide +kernel) (dg_cons (dh_v (pv 3)) dg_nil))))))
abbrev st__law_moved : Stmt := topS 30
def names__law_moved : List Str := ["_law_chain_here", "_law_frame", "_law_above", "_law_below", "_law_rounding", "_law_size", "_law_down", "_law_rest"]
theorem sc__law_moved : FnScope names__law_moved ["_law_chain_here", "_law_frame"] (defScope st__law_moved) := ⟨rfl, rfl, rfl, by decide +kernel, rfl, by decide +kernel, by decide +kernel⟩
theorem ok__law_moved {fa : Addr} {fd : FuncData} (T : Tx K gl) (F : L2.Fun K "_law_moved" "_law_moved" st__law_moved fa fd) : FnG pr wd K gl bas 1 fa fd ["_law_chain_here", "_law_frame"] (spD K R 2 r__law_moved) := by
  have sc := sc__law_moved
  refine FnG.data (g := g__law_moved) F sc rfl fun cdv A out sh H E q F hg hr => ?_
  exact (ds_cons (dp_for PassesOwn.never rfl (di_seq rfl (de_v (pv 0))) (dg_tup rfl rfl (dgs_cons (dg_name sc.nd (i := 2) rfl (by first | exact Or.inl rfl | exact Or.inr rfl)) (dgs_cons (dg_name sc.nd (i := 3) rfl (by first | exact Or.inl rfl | exact Or.inr rfl)) (dgs_cons (dg_name sc.nd (i := 4) rfl (by first | exact Or.inl rfl | exact Or.inr rfl)) dgs_nil)))) (ds_cons (dp_set sc.nd (i := 5) rfl (by first | exact Or.inl rfl | exact Or.inr rfl) (de_bin (sem_mul rfl) (dh_v (pv 1)) (dh_v (pv 2))))
    (ds_cons (dp_par rfl sc.nd (i := 6) (j := 7) rfl rfl (by decide) rfl rfl (dl_cons (de_bin (sem_div) (dh_v (pv 5)) (dh_v (pv 3))) (dl_cons (de_bin (sem_mod) (dh_of (de_ct (sem_int) rfl T.n_int (by decide +kernel) (dg_cons (dh_v (pv 5)) dg_nil))) (dh_v (pv 3))) dl_nil)) rfl)
    (ds_one (dp_if (dt_cmp (sem_eq rfl (hu64 hr)) (dh_v (pv 4)) (dh_of de_str) (nomark _)) (ds_one (dp_set sc.nd (i := 1) rfl (by first | exact Or.inl rfl | exact Or.inr rfl) (de_v (pv 6)))) (ds_one (dp_if (dt_cmp (sem_eq rfl (hu64 hr)) (dh_v (pv 4)) (dh_of de_str) (nomark _)) (ds_one (dp_set sc.nd (i := 1) rfl (by first | exact Or.inl rfl | exact Or.inr rfl) (de_bin (sem_add rfl) (dh_v (pv 6)) (dh_of (de_ct (sem_int) rfl T.n_int (by decide +kernel) (dg_cons (dh_of (de_cmp (sem_gt) (dh_v (pv 7)) (dh_of de_int) (nomark _))) dg_nil)))))) (ds_one (dp_set sc.nd (i := 1) rfl (by first | exact Or.inl rfl | exact Or.inr rfl) (de_bin (sem_add rfl) (dh_v (pv 6)) (dh_of (de_ct (sem_int) rfl T.n_int (by decide +kernel) (dg_cons (dh_of (de_cmp (sem_ge) (dh_of (de_bin (sem_mul rfl) (dh_of de_int) (dh_v (pv 7)))) (dh_v (pv 3)) (nomark _))) dg_nil)))))))))))))
    (ds_one (dp_ret (de_v (pv 1)))))
abbrev st__law_products : Stmt := topS 31
def names__law_products : List Str := ["_law_chain_here", "_law_move", "_law_above", "_law_below"]
theorem sc__law_products : FnScope names__law_products ["_law_chain_here"] (defScope st__law_products) := ⟨rfl, rfl, rfl, by decide +kernel, rfl, by decide +kernel, by decide +kernel⟩
theorem ok__law_products {fa : Addr} {fd : FuncData} (T : Tx K gl) (F : L2.Fun K "_law_products" "_law_products" st__law_products fa fd) : FnG pr wd K gl bas 1 fa fd ["_law_chain_here"] (spD K R 1 r__law_products) := by
  have sc := sc__law_products
  refine FnG.data (g := g__law_products) F sc rfl fun cdv A out sh H E q F hg hr => ?_
  exact (ds_cons (dp_asg (de_tup (dl_cons de_int (dl_cons de_int dl_nil))) (dg_tup rfl rfl (dgs_cons (dg_name sc.nd (i := 2) rfl (by first | exact Or.inl rfl | exact Or.inr rfl)) (dgs_cons (dg_name sc.nd (i := 3) rfl (by first | exact Or.inl rfl | exact Or.inr rfl)) dgs_nil))))
    (ds_cons (dp_for PassesOwn.never rfl (di_seq rfl (de_v (pv 0))) (dg_name sc.nd (i := 1) rfl (by first | exact Or.inl rfl | exact Or.inr rfl)) (ds_one (dp_par rfl sc.nd (i := 2) (j := 3) rfl rfl (by decide) rfl rfl (dl_cons (de_bin (sem_mul rfl) (dh_v (pv 2)) (dh_of (de_ix rfl (dh_v (pv 1)) (dh_of de_int) (fun _ _ => rfl)))) (dl_cons (de_bin (sem_mul rfl) (dh_v (pv 3)) (dh_of (de_ix rfl (dh_v (pv 1)) (dh_of de_int) (fun _ _ => rfl)))) dl_nil)) rfl)))
    (ds_one (dp_ret (de_tup (dl_cons (de_v (pv 2)) (dl_cons (de_v (pv 3)) dl_nil)))))))
abbrev st__law_measure : Stmt := topS 32
def names__law_measure : List Str := ["_law_one", "_law_other"]
theorem sc__law_measure : FnScope names__law_measure ["_law_one", "_law_other"] (defScope st__law_measure) := ⟨rfl, rfl, rfl, by decide +kernel, rfl, by decide +kernel, by decide +kernel⟩
theorem ok__law_measure {fa : Addr} {fd : FuncData} (T : Tx K gl) (F : L2.Fun K "_law_measure" "_law_measure" st__law_measure fa fd) : FnG pr wd K gl bas 1 fa fd ["_law_one", "_law_other"] (spD K R 2 r__law_measure) := by
  have sc := sc__law_measure
  refine FnG.data (g := g__law_measure) F sc rfl fun cdv A out sh H E q F hg hr => ?_
  exact (ds_cons (dp_while PassesOwn.never (dt_cmp (sem_gt) (dh_v (pv 1)) (dh_of de_int) (nomark _)) (ds_one (dp_par rfl sc.nd (i := 0) (j := 1) rfl rfl (by decide) rfl rfl (dl_cons (de_v (pv 1)) (dl_cons (de_bin (sem_mod) (dh_of (de_ct (sem_int) rfl T.n_int (by decide +kernel) (dg_cons (dh_v (pv 0)) dg_nil))) (dh_v (pv 1))) dl_nil)) rfl)))
    (ds_one (dp_ret (de_v (pv 0)))))
abbrev st__law_rise : Stmt := topS 34
def names__law_rise : List Str := ["_law_row", "_law_frame", "_law_many"]
theorem sc__law_rise : FnScope names__law_rise ["_law_row", "_law_frame", "_law_many"] (defScope st__law_rise) := ⟨rfl, rfl, rfl, by decide +kernel, rfl, by decide +kernel, by decide +kernel⟩
theorem ok__law_rise {fa : Addr} {fd : FuncData} (T : Tx K gl) (F : L2.Fun K "_law_rise" "_law_rise" st__law_rise fa fd) : FnG pr wd K gl bas 1 fa fd ["_law_row", "_law_frame", "_law_many"] (spD K R 3 r__law_rise) := by
  have sc := sc__law_rise
  refine FnG.data (g := g__law_rise) F sc rfl fun cdv A out sh H E q F hg hr => ?_
  exact (ds_one (dp_ret (de_bin (sem_sub) (dh_of (de_ix rfl (dh_v (pv 0)) (dh_of (de_bin (sem_add rfl) (dh_v (pv 1)) (dh_v (pv 2)))) (fun _ _ => rfl))) (dh_of (de_ix rfl (dh_v (pv 0)) (dh_v (pv 1)) (fun _ _ => rfl))))))
abbrev st__law_period : Stmt := topS 33
def names__law_period : List Str := ["_law_chain_here", "_law_row", "_law_many", "_law_above", "_law_below", "_law_rise_here", "_law_frame"]
theorem sc__law_period : FnScope names__law_period ["_law_chain_here"] (defScope st__law_period) := ⟨rfl, rfl, rfl, by decide +kernel, rfl, by decide +kernel, by decide +kernel⟩
theorem ok__law_period {fa : Addr} {fd : FuncData} (T : Tx K gl) (F : L2.Fun K "_law_period" "_law_period" st__law_period fa fd) (C__law_products : Cd pr wd K gl bas R 1 "_law_products" 1 r__law_products) (C__law_moved : Cd pr wd K gl bas R 1 "_law_moved" 2 r__law_moved) (C__law_rise : Cd pr wd K gl bas R 1 "_law_rise" 3 r__law_rise) : FnG pr wd K gl bas 2 fa fd ["_law_chain_here"] (spD K R 1 r__law_period) := by
  have sc := sc__law_period
  refine FnG.data (g := g__law_period) F sc rfl fun cdv A out sh H E q F hg hr => ?_
  exact (ds_cons (dp_asg (de_cd (C__law_products.more (by decide)) rfl hg hr rfl (da_cons (de_v (pv 0)) da_nil)) (dg_tup rfl rfl (dgs_cons (dg_name sc.nd (i := 3) rfl (by first | exact Or.inl rfl | exact Or.inr rfl)) (dgs_cons (dg_name sc.nd (i := 4) rfl (by first | exact Or.inl rfl | exact Or.inr rfl)) dgs_nil))))
    (ds_cons (dp_setLc (n := 1) (own := [("_law_frame", 6)]) rfl sc.nd rfl rfl (sw_true rfl rfl rfl (by decide +kernel)) (di_range1 rfl T.n_range (dl_cons (de_bin (sem_add rfl) (dh_of (de_bin (sem_mul rfl) (dh_of de_int) (dh_v (pv 4)))) (dh_of de_int)) dl_nil)) (blkOk_by (own := [("_law_frame", 6)]) (N := names__law_period) (sc := defScope st__law_period) (by decide +kernel)) (by decide) (fun _ _ _ _ _ => (dg_name sc.nd (i := 6) rfl (by first | exact Or.inl rfl | exact Or.inr rfl))) (fun _ _ _ _ _ => dts_nil) (fun _ _ _ _ _ => (de_cd (C__law_moved.more (by decide)) rfl hg hr rfl (da_cons (de_v (pv 0)) (da_cons (de_v (pv 6)) da_nil)))))
    (ds_cons (dp_for PassesOwn.never rfl (di_range2 rfl T.n_range (dl_cons de_int (dl_cons (de_bin (sem_add rfl) (dh_v (pv 4)) (dh_of de_int)) dl_nil))) (dg_name sc.nd (i := 2) rfl (by first | exact Or.inl rfl | exact Or.inr rfl)) (ds_cons (dp_set sc.nd (i := 5) rfl (by first | exact Or.inl rfl | exact Or.inr rfl) (de_bin (sem_sub) (dh_of (de_ix rfl (dh_v (pv 1)) (dh_v (pv 2)) (fun _ _ => rfl))) (dh_of (de_ix rfl (dh_v (pv 1)) (dh_of de_int) (fun _ _ => rfl)))))
    (ds_one (dp_if (dt_cmp (sem_eq rfl (hu64 hr)) (dh_of (de_bin (sem_mul rfl) (dh_v (pv 5)) (dh_v (pv 4)))) (dh_of (de_bin (sem_mul rfl) (dh_v (pv 2)) (dh_v (pv 3)))) (nomark _)) (ds_cons (dp_set sc.nd (i := 6) rfl (by first | exact Or.inl rfl | exact Or.inr rfl) de_int)
    (ds_cons (dp_while PassesOwn.never (PW.pt (dw_and (dt_cmp (sem_lt) (dh_v (pv 6)) (dh_v (pv 4)) (nomark _)) (pw_and1 (dt_cmp (sem_eq rfl (hu64 hr)) (dh_of (de_cd (C__law_rise.more (by decide)) rfl hg hr rfl (da_cons (de_v (pv 1)) (da_cons (de_v (pv 6)) (da_cons (de_v (pv 2)) da_nil))))) (dh_v (pv 5)) (nomark _))))) (ds_one (dp_set sc.nd (i := 6) rfl (by first | exact Or.inl rfl | exact Or.inr rfl) (de_bin (sem_add rfl) (dh_v (pv 6)) (dh_of de_int)))))
    (ds_one (dp_if (dt_cmp (sem_eq rfl (hu64 hr)) (dh_v (pv 6)) (dh_v (pv 4)) (nomark _)) (ds_one (dp_ret (de_tup (dl_cons (de_v (pv 2)) (dl_cons (de_v (pv 5)) dl_nil))))) ds_nil)))) ds_nil))))
    (ds_one (dp_ret de_non)))))
abbrev st__law_next : Stmt := topS 27
def names__law_next : List Str := ["_law_m", "_law_total", "_law_k", "_law_cell", "_law_mixed", "_law_rest"]
theorem sc__law_next : FnScope names__law_next ["_law_m", "_law_total"] (defScope st__law_next) := ⟨rfl, rfl, rfl, by decide +kernel, rfl, by decide +kernel, by decide +kernel⟩
theorem ok__law_next {fa : Addr} {fd : FuncData} (T : Tx K gl) (F : L2.Fun K "_law_next" "_law_next" st__law_next fa fd) : FnG pr wd K gl bas 1 fa fd ["_law_m", "_law_total"] (spD K srcOrc 2 s_next) := by
  have nd := sc__law_next.nd
  refine FnG.of F sc__law_next (fun vs H Q E ⟨q, F0, as, m, P, w, pa, hl, _⟩ => by rw [paired_len pa, hl]; rfl) fun cdv A out sh H vs Q E hg hr ⟨qo, F0, as, m, P, w, pa, hl, ho, hq, hm, ⟨n, eas, n0, n1, m1, kP⟩, k0⟩ => ?_
  subst eas
  obtain ⟨v1, vs, rfl, a1, pa⟩ : ∃ v1 vs', vs = v1 :: vs' ∧ ArAt ⟨K, srcOrc, qo, F0, H⟩ F0 v1 .ora ∧ Paired (ArAt ⟨K, srcOrc, qo, F0, H⟩ F0) vs' [.d (.int n)] := by
    cases pa with
    | cons a b => (exact ⟨_, _, rfl, a, b⟩)
  obtain ⟨v2, rfl, a2⟩ : ∃ v2, vs = [v2] ∧ ArAt ⟨K, srcOrc, qo, F0, H⟩ F0 v2 (.d (.int n)) := by
    cases pa with
    | cons a b => cases b; exact ⟨_, rfl, a⟩
  obtain ⟨q, eq, rfl⟩ := a1
  cases (show qo = some q from eq)
  have e2 : v2 = .int n := by
    have z : At K F0 v2 (.int n) := a2
    cases z
    rfl
  subst e2
  obtain ⟨c, l, cs, ls, k, s0⟩ := w.or q rfl
  have hk : k ≤ m := by have := hm q rfl; rw [s0.spot] at this; exact this
  refine ⟨_, pss_cons (ps_while PassesOwn.never (PW.pt (pw_and (pt_cmpR (op_neD (hu64 hr)) (pe_dget (hu_of hr) (pv 0) pe_str (fun _ _ => rfl)) (pe_lst pa_nil) (nomark _)) (pw_and1 (pt_cmpR op_eq (pe_ix ix_list (pe_dget (hu_of hr) (pv 0) pe_str (fun _ _ => rfl)) pe_int (fun _ _ => rfl)) pe_int (nomark _)))))
      (pss_one (ps_dput (hu_of hr) (pv 0) pe_str (pe_slice sl_list (pe_dget (hu_of hr) (pv 0) pe_str (fun _ _ => rfl)) (po_some pe_int) po_none) rfl)))
    (pss_cons (ps_if (pt_cmpR (op_neD (hu64 hr)) (pe_dget (hu_of hr) (pv 0) pe_str (fun _ _ => rfl)) (pe_lst pa_nil) (nomark _))
      (pss_cons (ps_set (i := 5) nd rfl (Or.inl rfl) (pe_callTy call_int1 rfl T.n_int (by decide +kernel) (pa_cons (pe_ix ix_list (pe_dget (hu_of hr) (pv 0) pe_str (fun _ _ => rfl)) pe_int (fun _ _ => rfl)) pa_nil)))
        (pss_cons (ps_asg (pe_op op_fdiv (pv 5) (pv 1)) (pg_sub (pe_dget (hu_of hr) (pv 0) pe_str (fun _ _ => rfl)) pe_int set_list))
          (pss_one (ps_ret (pe_op op_mod (pv 5) (pv 1)))))) pss_nil)
    (pss_cons (ps_set (i := 2) nd rfl (Or.inl rfl) (pe_op op_add (pe_dget (hu_of hr) (pv 0) pe_str (fun _ _ => rfl)) pe_int))
    (pss_cons (ps_dput (hu_of hr) (pv 0) pe_str (pv 2) rfl)
    (pss_cons (ps_set (i := 3) nd rfl (Or.inl rfl) (pe_ifExp (pt_cmpR (op_neD (hu64 hr)) (pe_dget (hu_of hr) (pv 0) pe_str (fun _ _ => rfl)) (pe_lst pa_nil) (nomark _))
        (pe_ix ix_list (pe_dget (hu_of hr) (pv 0) pe_str (fun _ _ => rfl)) (pe_op op_mod (pe_callTy call_int1 rfl T.n_int (by decide +kernel) (pa_cons (pv 2) pa_nil)) (pe_callB call_len_seq rfl T.n_len (by decide +kernel) (pa_cons (pe_dget (hu_of hr) (pv 0) pe_str (fun _ _ => rfl)) pa_nil))) (fun _ _ => rfl)) pe_int))
    (pss_cons (ps_set (i := 4) nd rfl (Or.inl rfl) (pe_op op_mul (pe_callTy call_int1 rfl T.n_int (by decide +kernel) (pa_cons (pe_op op_add (pe_op op_add (pe_op op_mod (pe_callTy call_int1 rfl T.n_int (by decide +kernel) (pa_cons (pv 3) pa_nil)) pe_int) (pe_op op_mul pe_int (pv 2))) (pe_op op_mul (pe_op op_mul pe_int (pv 2)) (pv 2))) pa_nil)) pe_int))
    (pss_cons (ps_set (i := 4) nd rfl (Or.inl rfl) (pe_op op_mul (pe_callTy call_int1 rfl T.n_int (by decide +kernel) (pa_cons (pe_op op_add (pe_op op_mod (pe_callTy call_int1 rfl T.n_int (by decide +kernel) (pa_cons (pv 4) pa_nil)) pe_int) (pe_op op_mul pe_int (pv 2))) pa_nil)) pe_int))
    (pss_one (ps_ret (pe_op op_mod (pe_callTy call_int1 rfl T.n_int (by decide +kernel) (pa_cons (pe_op op_fdiv (pe_op op_mod (pe_callTy call_int1 rfl T.n_int (by decide +kernel) (pa_cons (pv 4) pa_nil)) pe_int) pe_int) pa_nil)) (pv 1)))))))))), ?_⟩
  have fin : ∀ (r : Int) (H' : Hp) (l' : Addr) (ls' : List Int) (k' : Nat), 0 ≤ r → r < n → SrcAt H' q c l' cs ls' k' → k' ≤ k + 1 → Tou q H H' → Q (.int r) H' := by
    intro r H' l' ls' k' r0 r1 s' hk' t'
    refine k0 (.int r) (m + 1) _ F0 H' (kP r r0 r1) (t'.world w ⟨_, _, _, _, _, s'⟩) (fun p e => ?_) (.int r)
    cases e
    rw [s'.spot]
    omega
  have modn : ∀ x : Int, 0 ≤ x % n ∧ x % n < n := fun x => ⟨Int.emod_nonneg x (by omega), Int.emod_lt_of_pos x n0⟩
  refine next_while s0 rfl fun l1 ls1 H1 s1 t1 => ?_
  refine ne_left s1 rfl fun H2 s2 t2 => ?_
  have t12 := t1.trans t2
  cases ls1 with
  | cons x r =>
    refine rdL s2 rfl ⟨l1, _, 0, .int x, rfl, rfl, SqL.of s2.dl, by simp [atI, ixN], .inl ⟨_, rfl, ?_⟩⟩
    refine ⟨_, rfl, _, rfl, _, _, rfl, rfl, ⟨n0, n1⟩, ?_⟩
    refine rdL s2 rfl ⟨l1, _, 0, 0, rfl, rfl, s2.dl, by simp [ixN], ?_⟩
    have e1 : ((x :: r).map V.int).set 0 (V.int (x / n)) = ((x / n) :: r).map V.int := rfl
    rw [e1]
    have s3 := s2.setV ((x / n) :: r) s2.nl
    refine ⟨_, rfl, _, rfl, _, _, rfl, rfl, n0, ?_⟩
    exact fin _ _ _ _ _ (modn x).1 (modn x).2 s3 (Nat.le_succ k) (t12.trans (Tou.putL s2))
  | nil =>
    refine rdS s2 rfl ⟨_, _, rfl, rfl, ?_⟩
    change L2.gName 2 (V.int ((k + 1 : Nat) : Int)) _ H2 _
    refine ⟨_, rfl, _, rfl, q, _, rfl, DPut.k (k := kS) s2.dq small3, ?_⟩
    have s3 : SrcAt (upd H2 q (.dK [(kC, .ref c), (kL, .ref l1), (kS, .int ((k + 1 : Nat) : Int))])) q c l1 cs [] (k + 1) := s2.setS (k + 1)
    have t3 := t12.trans (Tou.putQ (l' := l1) (v := .int ((k + 1 : Nat) : Int)) s2 (.inl rfl) (fun _ z => by cases z))
    rw [put_kS]
    have kb : ((k + 1 : Nat) : Int) < 2097152 := by omega
    have kn : (0 : Int) ≤ ((k + 1 : Nat) : Int) := by omega
    generalize ((k + 1 : Nat) : Int) = j at kb kn s3 t3
    refine cell_use s3 rfl rfl fun z H4 s4 t4 => ?_
    have small : ∀ i : Int, 0 ≤ i → i < 2097152 → (-(2 ^ 64) < i ∧ i < 2 ^ 64) := fun i a b => ⟨by omega, by omega⟩
    refine ⟨_, rfl, .inl ⟨_, rfl, ?_⟩⟩
    refine ⟨_, _, rfl, rfl, (by decide : (0 : Int) < 2147483563), ?_⟩
    refine ⟨_, rfl, _, _, rfl, rfl, .inl ⟨by decide, by decide⟩, ?_⟩
    refine ⟨_, _, rfl, rfl, ?_⟩
    refine ⟨_, rfl, _, _, rfl, rfl, .inl ⟨by decide, by decide⟩, ?_⟩
    refine ⟨_, rfl, _, _, rfl, rfl, .inr (small j kn kb), ?_⟩
    refine ⟨_, _, rfl, rfl, .inl ⟨_, rfl, ?_⟩⟩
    refine ⟨_, _, rfl, rfl, .inr ⟨by decide, by decide⟩, ?_⟩
    refine ⟨_, rfl, .inl ⟨_, rfl, ?_⟩⟩
    refine ⟨_, _, rfl, rfl, (by decide : (0 : Int) < 2147483563), ?_⟩
    refine ⟨_, rfl, _, _, rfl, rfl, .inl ⟨by decide, by decide⟩, ?_⟩
    refine ⟨_, _, rfl, rfl, .inl ⟨_, rfl, ?_⟩⟩
    refine ⟨_, _, rfl, rfl, .inr ⟨by decide, by decide⟩, ?_⟩
    refine ⟨_, rfl, .inl ⟨_, rfl, ?_⟩⟩
    refine ⟨_, _, rfl, rfl, (by decide : (0 : Int) < 2147483549), ?_⟩
    refine ⟨_, _, rfl, rfl, ⟨by decide, by decide⟩, .inl ⟨_, rfl, ?_⟩⟩
    refine ⟨_, rfl, _, _, rfl, rfl, n0, ?_⟩
    exact fin _ _ _ _ _ (modn _).1 (modn _).2 s4 (Nat.le_refl _) (t3.trans t4)
abbrev st__law_begun : Stmt := topS 26
def names__law_begun : List Str := ["_law_script", "_law_cell"]
theorem sc__law_begun : FnScope names__law_begun ["_law_script"] (defScope st__law_begun) := ⟨rfl, rfl, rfl, by decide +kernel, rfl, by decide +kernel, by decide +kernel⟩
theorem ok__law_begun {fa : Addr} {fd : FuncData} (T : Tx K gl) (F : L2.Fun K "_law_begun" "_law_begun" st__law_begun fa fd) : FnG pr wd K gl bas 1 fa fd ["_law_script"] (spBegun K) := by
  have sc := sc__law_begun
  refine FnG.of F sc (fun vs H Q E h => ?_) fun cdv A out sh H vs Q E hg hr h => ?_
  · obtain ⟨a, ns, rfl, _⟩ := h
    rfl
  obtain ⟨a, ns, rfl, sq, hl, k⟩ := h
  refine ⟨_, pss_one (ps_ret (pe_disp (pps_cons pe_str (dn_list (c := ⟨K, Orc.nil, none, H, H⟩) rfl rfl T.n_list (dg_cons (dh_v (pv 0)) dg_nil)) (pps_cons pe_str (dn_lc (c := ⟨K, Orc.nil, none, H, H⟩) (own := [("_law_cell", 1)]) rfl sc.nd (di_seq rfl (de_v (pv 0))) (blkOk_by (own := [("_law_cell", 1)]) (N := names__law_begun) (sc := defScope st__law_begun) (by decide +kernel)) (by decide) (fun _ _ _ _ _ => (dg_name sc.nd (i := 1) rfl (by first | exact Or.inl rfl | exact Or.inr rfl))) (fun _ _ _ _ _ => (dts_one (dt_cmp (sem_ge) (dh_v (pv 1)) (dh_of (de_bin (sem_pow) (dh_of de_int) (dh_of de_int))) (nomark _)))) (fun _ _ _ _ _ => (de_v (pv 1)))) (pps_cons pe_str pe_int pps_nil))) rfl rfl (by decide) (by decide))), ?_⟩
  have w : World Orc.nil none H H H H := World.start (Ex.refl H) (fun _ _ z => z) fun _ z => nomatch z
  have r : Rel ⟨K, Orc.nil, none, H, H⟩ H H (start names__law_begun [.ref a]) (startE names__law_begun.length [.d (.list (ns.map PyData.int))] 0) [] :=
    rel_start w (.cons (.lst sq (AtAll.ofInts ns)) .nil) (fun i z => by cases i with | zero => rfl | succ i => cases z) fun _ z => nomatch z
  exact disp_use r rfl rfl (made_data ns hl) (by omega) (Nat.le_trans (great_len ns) (by omega)) fun q c l H' e1 e2 e3 e4 s => k q c l _ _ H' e1 e2 e3 e4 s
abbrev st_law : Stmt := topS 35
def names_law : List Str := ["_law_script", "_law_m", "_law_turn", "_law_told", "_law_chain_here", "_law_part", "_law_frame", "_law_again", "_law_above", "_law_below", "_law_word"]
theorem sc_law : FnScope names_law ["_law_script"] (defScope st_law) := ⟨rfl, rfl, rfl, by decide +kernel, rfl, by decide +kernel, by decide +kernel⟩
theorem noIm (i : Nat) (d : D) : ([.ora 0, .no, .no, .no, .no, .no, .no, .no, .no, .no] : List Sl)[i]? ≠ some (.im d) := by
  intro e
  have := List.mem_of_getElem? e
  simp at this
theorem noOw {ns : List Int} (i : Nat) (d : D) : ([.im (.list (ns.map PyData.int)), .ora 0, .no, .no, .no, .no, .no, .no, .no, .no, .no] : List Sl)[i]? ≠ some (.ow d) := by
  intro e
  have := List.mem_of_getElem? e
  simp at this
theorem oneOra {ns : List Int} (i m : Nat) (e : ([.im (.list (ns.map PyData.int)), .ora 0, .no, .no, .no, .no, .no, .no, .no, .no, .no] : List Sl)[i]? = some (.ora m)) : i = 1 ∧ m = 0 := by
  have hi : i < 11 := by
    have := (List.getElem?_eq_some_iff.mp e).1
    simpa using this
  have : i = 0 ∨ i = 1 ∨ i = 2 ∨ i = 3 ∨ i = 4 ∨ i = 5 ∨ i = 6 ∨ i = 7 ∨ i = 8 ∨ i = 9 ∨ i = 10 := by omega
  rcases this with rfl | rfl | rfl | rfl | rfl | rfl | rfl | rfl | rfl | rfl | rfl <;> simp at e <;> simp [e]
theorem rel_law {K : PySem.W.Frag} {q c l a : Addr} {H H1 : Hp} {cs ls ns : List Int} (w : World srcOrc (some q) H H1 H H1) (sq : SqL K H a (ns.map V.int)) (s : SrcAt H1 q c l cs ls 0) :
    Rel ⟨K, srcOrc, some q, H, H1⟩ H H1 ((start names_law [.ref a]).set 1 (some (.ref q))) [.im (.list (ns.map PyData.int)), .ora 0, .no, .no, .no, .no, .no, .no, .no, .no, .no] [] := by
  refine ⟨w, ⟨rfl, fun i d e => ?_, fun i d e => ?_, fun i j d e b z => ?_, fun i n e => ?_, fun i j m n e1 e2 => ?_, (fun _ hp => nomatch hp), List.nodup_nil⟩⟩
  · rcases i with _ | i
    · cases e
      exact ⟨_, rfl, .lst sq (AtAll.ofInts ns)⟩
    · exact absurd e (noIm i d)
  · exact absurd e (noOw i d)
  · exact absurd z (noOw i d)
  · obtain ⟨rfl, rfl⟩ := oneOra i n e
    exact ⟨q, rfl, rfl, by rw [s.spot]; exact Nat.le_refl _⟩
  · rw [(oneOra i m e1).1, (oneOra j n e2).1]
def spLawG (K : PySem.W.Frag) : Sp := fun vs H Q _ => ∃ (a : Addr) (ns : List Int), vs = [.ref a] ∧ SqL K H a (ns.map V.int) ∧ ns.length ≤ 63 ∧ ∀ H', Q (.bl true) H'
theorem ok_law {fa fb : Addr} {fd fdb : FuncData} (T : Tx K gl) (F : L2.Fun K "law" "law" st_law fa fd) (Fb : FnG pr wd K gl bas 1 fb fdb ["_law_script"] (spBegun K)) (gb : gl "_law_begun" = some (.ref fb)) (kb : PySem.W.keepIn K (.ref fb) = true) (bb : Binds K fdb ["_law_script"] []) (C__law_chain : Cd pr wd K gl bas srcOrc 3 "_law_chain" 2 r__law_chain) (C__law_products : Cd pr wd K gl bas srcOrc 1 "_law_products" 1 r__law_products) (C__law_measure : Cd pr wd K gl bas srcOrc 1 "_law_measure" 2 r__law_measure) (C_slope : Cd pr wd K gl bas srcOrc 5 "slope" 1 r_slope) (C_moved : Cd pr wd K gl bas srcOrc 5 "moved" 2 r_moved) (C__law_moved : Cd pr wd K gl bas srcOrc 1 "_law_moved" 2 r__law_moved) (C__law_of : Cd pr wd K gl bas srcOrc 2 "_law_of" 2 r__law_of) (C__law_next : Cd pr wd K gl bas srcOrc 1 "_law_next" 2 s_next) (C_period : Cd pr wd K gl bas srcOrc 5 "period" 1 r_period) (C__law_period : Cd pr wd K gl bas srcOrc 2 "_law_period" 1 r__law_period)
    (says : ∀ ns : List Int, ns.length ≤ 63 → lawSays ns) : FnG pr wd K gl bas 6 fa fd ["_law_script"] (spLawG K) := by
  have sc := sc_law
  refine FnG.of F sc (fun vs H Q E h => ?_) fun cdv A out sh H vs Q E hg hr h => ?_
  · obtain ⟨a, ns, rfl, _⟩ := h
    rfl
  obtain ⟨a, ns, rfl, sq, hl, k⟩ := h
  refine ⟨_, pss_cons (ps_set (i := 1) sc.nd rfl (by first | exact Or.inl rfl | exact Or.inr rfl) (pe_callG Fb hg (hr.mono (by decide)) rfl gb kb bb (pa_cons (pv 0) pa_nil)))
    (pss_some (ι := Option Addr × Hp × Hp) (t := fun i => tS ⟨K, srcOrc, i.1, i.2.1, i.2.2⟩ g_law) fun ⟨qo, F0, H0⟩ => ?_), ?_⟩
  · exact (ds_cons (dp_for PassesOwn.never rfl (di_range1 rfl T.n_range (dl_cons (de_bin (sem_add rfl) (dh_of de_int) (dh_of (de_cb (sem_min rfl rfl) rfl T.n_min (by decide +kernel) (dg_cons (dh_of (de_cb (sem_len rfl) rfl T.n_len (by decide +kernel) (dg_cons (dh_v (pv 0)) dg_nil))) (dg_cons (dh_of de_int) dg_nil))))) dl_nil)) (dg_name sc.nd (i := 2) rfl (by first | exact Or.inl rfl | exact Or.inr rfl)) (ds_cons (dp_set sc.nd (i := 4) rfl (by first | exact Or.inl rfl | exact Or.inr rfl) (de_cdO (i := 1) (C__law_chain.more (by decide)) rfl hg hr rfl (da_ora (pv 1) (da_cons de_int da_nil))))
    (ds_cons (dp_asg (de_cd (C__law_products.more (by decide)) rfl hg hr rfl (da_cons (de_v (pv 4)) da_nil)) (dg_tup rfl rfl (dgs_cons (dg_name sc.nd (i := 8) rfl (by first | exact Or.inl rfl | exact Or.inr rfl)) (dgs_cons (dg_name sc.nd (i := 9) rfl (by first | exact Or.inl rfl | exact Or.inr rfl)) dgs_nil))))
    (ds_cons (dp_set sc.nd (i := 5) rfl (by first | exact Or.inl rfl | exact Or.inr rfl) (de_cd (C__law_measure.more (by decide)) rfl hg hr rfl (da_cons (de_v (pv 8)) (da_cons (de_v (pv 9)) da_nil))))
    (ds_cons (dp_if (dt_cmp (sem_ne rfl (hu64 hr)) (dh_of (de_cd (C_slope.more (by decide)) rfl hg hr rfl (da_cons (de_v (pv 4)) da_nil))) (dh_of (de_tup (dl_cons (de_bin (sem_div) (dh_v (pv 8)) (dh_v (pv 5))) (dl_cons (de_bin (sem_div) (dh_v (pv 9)) (dh_v (pv 5))) dl_nil)))) (nomark _)) (ds_one (dp_ret de_bl)) ds_nil)
    (ds_cons (dp_for PassesOwn.never rfl (di_range1 rfl T.n_range (dl_cons (de_cb (sem_min rfl rfl) rfl T.n_min (by decide +kernel) (dg_cons (dh_of (de_bin (sem_mul rfl) (dh_of de_int) (dh_v (pv 9)))) (dg_cons (dh_of de_int) dg_nil))) dl_nil)) (dg_name sc.nd (i := 6) rfl (by first | exact Or.inl rfl | exact Or.inr rfl)) (ds_one (dp_if (dt_cmp (sem_ne rfl (hu64 hr)) (dh_of (de_cd (C_moved.more (by decide)) rfl hg hr rfl (da_cons (de_v (pv 4)) (da_cons (de_v (pv 6)) da_nil)))) (dh_of (de_cd (C__law_moved.more (by decide)) rfl hg hr rfl (da_cons (de_v (pv 4)) (da_cons (de_v (pv 6)) da_nil)))) (nomark _)) (ds_one (dp_ret de_bl)) ds_nil)))
    (ds_cons (dp_for PassesOwn.never rfl (di_range1 rfl T.n_range (dl_cons de_int dl_nil)) (dg_name sc.nd (i := 7) rfl (by first | exact Or.inl rfl | exact Or.inr rfl)) (ds_cons (dp_set sc.nd (i := 6) rfl (by first | exact Or.inl rfl | exact Or.inr rfl) (de_bin (sem_sub) (dh_of (de_cdO (i := 1) (C__law_of.more (by decide)) rfl hg hr rfl (da_ora (pv 1) (da_cons (de_n (dn_lst (dl_cons (de_bin (sem_pow) (dh_of de_int) (dh_of de_int)) (dl_cons (de_bin (sem_pow) (dh_of de_int) (dh_of de_int)) (dl_cons (de_bin (sem_add rfl) (dh_of (de_bin (sem_pow) (dh_of de_int) (dh_of de_int))) (dh_of de_int)) (dl_cons de_int dl_nil)))))) da_nil)))) (dh_of (de_cdO (i := 1) (C__law_next.more (by decide)) rfl hg hr rfl (da_ora (pv 1) (da_cons de_int da_nil))))))
    (ds_one (dp_if (dt_cmp (sem_ne rfl (hu64 hr)) (dh_of (de_cd (C_moved.more (by decide)) rfl hg hr rfl (da_cons (de_v (pv 4)) (da_cons (de_v (pv 6)) da_nil)))) (dh_of (de_cd (C__law_moved.more (by decide)) rfl hg hr rfl (da_cons (de_v (pv 4)) (da_cons (de_v (pv 6)) da_nil)))) (nomark _)) (ds_one (dp_ret de_bl)) ds_nil))))
    (ds_one (dp_if (dt_cmp (sem_lt) (dh_v (pv 9)) (dh_of de_int) (nomark _)) (ds_cons (dp_setN sc.nd (i := 3) rfl (by first | exact Or.inl rfl | exact Or.inr rfl) (dn_lst (dl_cons (de_cd (C_period.more (by decide)) rfl hg hr rfl (da_cons (de_v (pv 4)) da_nil)) (dl_cons (de_cd (C_period.more (by decide)) rfl hg hr rfl (da_cons (de_v (pv 4)) da_nil)) dl_nil))))
    (ds_one (dp_if (dt_cmp (sem_neS) (dh_of (de_cb (sem_repr rfl hg (hu64 hr)) rfl T.n_repr (by decide +kernel) (dg_cons (dh_v (pv 3)) dg_nil))) (dh_of (de_cb (sem_repr rfl hg (hu64 hr)) rfl T.n_repr (by decide +kernel) (dg_cons (dh_of (de_bin (sem_mul rfl) (dh_of (de_n (dn_lst (dl_cons (de_cd (C__law_period.more (by decide)) rfl hg hr rfl (da_cons (de_v (pv 4)) da_nil)) dl_nil)))) (dh_of de_int))) dg_nil))) (nomark _)) (ds_one (dp_ret de_bl)) ds_nil))) ds_nil)))))))))
    (ds_cons (dp_setLcN (n := 3) (own := [("_law_word", 10)]) rfl sc.nd rfl rfl (sw_true rfl rfl rfl (by decide +kernel)) (di_seq rfl (de_tup (dl_cons de_str (dl_cons de_str (dl_cons de_str dl_nil))))) (blkOk_by (own := [("_law_word", 10)]) (N := names_law) (sc := defScope st_law) (by decide +kernel)) (by decide) (fun _ _ _ _ _ => (dg_name sc.nd (i := 10) rfl (by first | exact Or.inl rfl | exact Or.inr rfl))) (fun _ _ _ _ _ => dts_nil) (fun _ _ _ _ _ => (de_cd (C_moved.more (by decide)) rfl hg hr rfl (da_cons (de_tup (dl_cons (de_tup (dl_cons de_int (dl_cons de_int (dl_cons (de_v (pv 10)) dl_nil)))) dl_nil)) (da_cons de_int da_nil)))))
    (ds_cons (dp_app rfl (pv 3) (de_cd (C_moved.more (by decide)) rfl hg hr rfl (da_cons (de_tup (dl_cons (de_tup (dl_cons de_int (dl_cons de_int (dl_cons de_str dl_nil)))) dl_nil)) (da_cons de_int da_nil))))
    (ds_cons (dp_if (dt_cmp (sem_ne rfl (hu64 hr)) (dh_of (de_cd (C_period.more (by decide)) rfl hg hr rfl (da_cons (de_tup (dl_cons (de_tup (dl_cons de_int (dl_cons de_int (dl_cons de_str dl_nil)))) (dl_cons (de_tup (dl_cons de_int (dl_cons de_int (dl_cons de_str dl_nil)))) (dl_cons (de_tup (dl_cons de_int (dl_cons de_int (dl_cons de_str dl_nil)))) dl_nil)))) da_nil))) (dh_of (de_tup (dl_cons de_int (dl_cons de_int dl_nil)))) (nomark _)) (ds_one (dp_ret de_bl)) ds_nil)
    (ds_cons (dp_if (dt_cmp (sem_ne rfl (hu64 hr)) (dh_of (de_cd (C_period.more (by decide)) rfl hg hr rfl (da_cons (de_tup (dl_cons (de_tup (dl_cons de_int (dl_cons de_int (dl_cons de_str dl_nil)))) (dl_cons (de_tup (dl_cons de_int (dl_cons de_int (dl_cons de_str dl_nil)))) dl_nil))) da_nil))) (dh_of (de_tup (dl_cons de_int (dl_cons de_int dl_nil)))) (nomark _)) (ds_one (dp_ret de_bl)) ds_nil)
    (ds_cons (dp_if (dt_cmp (sem_ne rfl (hu64 hr)) (dh_of (de_cd (C_period.more (by decide)) rfl hg hr rfl (da_cons (de_tup (dl_cons (de_tup (dl_cons de_int (dl_cons de_int (dl_cons de_str dl_nil)))) (dl_cons (de_tup (dl_cons de_int (dl_cons de_int (dl_cons de_str dl_nil)))) dl_nil))) da_nil))) (dh_of (de_tup (dl_cons de_int (dl_cons de_int dl_nil)))) (nomark _)) (ds_one (dp_ret de_bl)) ds_nil)
    (ds_one (dp_ret (de_and (de_cmp (sem_eq rfl (hu64 hr)) (dh_v (pv 3)) (dh_of (de_n (dn_lst (dl_cons de_int (dl_cons de_int (dl_cons de_int (dl_cons de_int dl_nil))))))) (nomark _)) (pe_one (de_cmp (sem_eq rfl (hu64 hr)) (dh_of (de_cd (C_period.more (by decide)) rfl hg hr rfl (da_cons (de_tup dl_nil) da_nil))) (dh_of (de_tup (dl_cons de_int (dl_cons de_int dl_nil)))) (nomark _))))))))))))
  refine ⟨.ref a, rfl, a, ns, rfl, sq, hl, fun q c l cs ls H1 ex hq hc hL s => ⟨(some q, H, H1), H, _, [], _, ?_, says ns hl, ?_, ?_, ?_, ?_⟩⟩
  · have w : World srcOrc (some q) H H1 H H1 := by
      refine World.start ex (fun b hb z => ?_) fun p e => ?_
      · rcases s.foot z with rfl | rfl | rfl
        · exact hb hq
        · exact hb hc
        · exact hb hL
      · cases e
        exact ⟨_, _, _, _, _, s⟩
    exact rel_law w sq s
  · exact fun _ _ _ _ z => z.elim
  · rintro d v ρ' σ' F' H' rfl _ at_
    cases at_
    exact k _
  · exact fun _ _ _ _ z => z.elim
  · exact fun _ _ _ _ z => z.elim
end
end Q71
namespace Q71
open PySem L2 DL
open PySem.W (nsIn keepIn codeIn fnOf)
theorem all_mk {l : PySem.W.OpenLaw} {wd : PySem.World} {K : PySem.W.Frag} {h : Heap} {gl : Str → Option Value} {fa : Addr} (X : K.In h) (G : h.Ns mainGlobals gl) (hfa : gl "law" = some (.ref fa))
    {f0 : Addr} {od0 an0 : Option Addr} {sl0 : Array (Option Value)} {oc0 kV0 dc0 pm0 cd0 ct0 : Value}
    (a0 : nsIn K mainGlobals "is_integer" = some (some (.ref f0))) (l0 : K.lookup f0 = some ⟨oc0, od0, .func (fnOf "is_integer" "is_integer" (defArgs st_is_integer) (defBody st_is_integer) (defScope st_is_integer) .none kV0 dc0 pm0 an0 cd0 ct0), sl0⟩) (c0 : codeIn K cd0 "is_integer" = true) (k0 : keepIn K (.ref f0) = true)
    {f1 : Addr} {od1 an1 : Option Addr} {sl1 : Array (Option Value)} {oc1 kV1 dc1 pm1 cd1 ct1 : Value}
    (a1 : nsIn K mainGlobals "is_within" = some (some (.ref f1))) (l1 : K.lookup f1 = some ⟨oc1, od1, .func (fnOf "is_within" "is_within" (defArgs st_is_within) (defBody st_is_within) (defScope st_is_within) .none kV1 dc1 pm1 an1 cd1 ct1), sl1⟩) (c1 : codeIn K cd1 "is_within" = true) (k1 : keepIn K (.ref f1) = true)
    {f2 : Addr} {od2 an2 : Option Addr} {sl2 : Array (Option Value)} {oc2 kV2 dc2 pm2 cd2 ct2 : Value}
    (a2 : nsIn K mainGlobals "is_tuple" = some (some (.ref f2))) (l2 : K.lookup f2 = some ⟨oc2, od2, .func (fnOf "is_tuple" "is_tuple" (defArgs st_is_tuple) (defBody st_is_tuple) (defScope st_is_tuple) .none kV2 dc2 pm2 an2 cd2 ct2), sl2⟩) (c2 : codeIn K cd2 "is_tuple" = true) (k2 : keepIn K (.ref f2) = true)
    {f3 : Addr} {od3 an3 : Option Addr} {sl3 : Array (Option Value)} {oc3 kV3 dc3 pm3 cd3 ct3 : Value}
    (a3 : nsIn K mainGlobals "is_one_of" = some (some (.ref f3))) (l3 : K.lookup f3 = some ⟨oc3, od3, .func (fnOf "is_one_of" "is_one_of" (defArgs st_is_one_of) (defBody st_is_one_of) (defScope st_is_one_of) .none kV3 dc3 pm3 an3 cd3 ct3), sl3⟩) (c3 : codeIn K cd3 "is_one_of" = true) (k3 : keepIn K (.ref f3) = true)
    {f4 : Addr} {od4 an4 : Option Addr} {sl4 : Array (Option Value)} {oc4 kV4 dc4 pm4 cd4 ct4 : Value}
    (a4 : nsIn K mainGlobals "_is_step" = some (some (.ref f4))) (l4 : K.lookup f4 = some ⟨oc4, od4, .func (fnOf "_is_step" "_is_step" (defArgs st__is_step) (defBody st__is_step) (defScope st__is_step) .none kV4 dc4 pm4 an4 cd4 ct4), sl4⟩) (c4 : codeIn K cd4 "_is_step" = true) (k4 : keepIn K (.ref f4) = true)
    {f5 : Addr} {od5 an5 : Option Addr} {sl5 : Array (Option Value)} {oc5 kV5 dc5 pm5 cd5 ct5 : Value}
    (a5 : nsIn K mainGlobals "need_chain" = some (some (.ref f5))) (l5 : K.lookup f5 = some ⟨oc5, od5, .func (fnOf "need_chain" "need_chain" (defArgs st_need_chain) (defBody st_need_chain) (defScope st_need_chain) .none kV5 dc5 pm5 an5 cd5 ct5), sl5⟩) (c5 : codeIn K cd5 "need_chain" = true) (k5 : keepIn K (.ref f5) = true)
    {f6 : Addr} {od6 an6 : Option Addr} {sl6 : Array (Option Value)} {oc6 kV6 dc6 pm6 cd6 ct6 : Value}
    (a6 : nsIn K mainGlobals "_quotient" = some (some (.ref f6))) (l6 : K.lookup f6 = some ⟨oc6, od6, .func (fnOf "_quotient" "_quotient" (defArgs st__quotient) (defBody st__quotient) (defScope st__quotient) .none kV6 dc6 pm6 an6 cd6 ct6), sl6⟩) (c6 : codeIn K cd6 "_quotient" = true) (k6 : keepIn K (.ref f6) = true)
    {f7 : Addr} {od7 an7 : Option Addr} {sl7 : Array (Option Value)} {oc7 kV7 dc7 pm7 cd7 ct7 : Value}
    (a7 : nsIn K mainGlobals "_moved" = some (some (.ref f7))) (l7 : K.lookup f7 = some ⟨oc7, od7, .func (fnOf "_moved" "_moved" (defArgs st__moved) (defBody st__moved) (defScope st__moved) .none kV7 dc7 pm7 an7 cd7 ct7), sl7⟩) (c7 : codeIn K cd7 "_moved" = true) (k7 : keepIn K (.ref f7) = true)
    {f8 : Addr} {od8 an8 : Option Addr} {sl8 : Array (Option Value)} {oc8 kV8 dc8 pm8 cd8 ct8 : Value}
    (a8 : nsIn K mainGlobals "moved" = some (some (.ref f8))) (l8 : K.lookup f8 = some ⟨oc8, od8, .func (fnOf "moved" "moved" (defArgs st_moved) (defBody st_moved) (defScope st_moved) .none kV8 dc8 pm8 an8 cd8 ct8), sl8⟩) (c8 : codeIn K cd8 "moved" = true) (k8 : keepIn K (.ref f8) = true)
    {f9 : Addr} {od9 an9 : Option Addr} {sl9 : Array (Option Value)} {oc9 kV9 dc9 pm9 cd9 ct9 : Value}
    (a9 : nsIn K mainGlobals "_bottom" = some (some (.ref f9))) (l9 : K.lookup f9 = some ⟨oc9, od9, .func (fnOf "_bottom" "_bottom" (defArgs st__bottom) (defBody st__bottom) (defScope st__bottom) .none kV9 dc9 pm9 an9 cd9 ct9), sl9⟩) (c9 : codeIn K cd9 "_bottom" = true) (k9 : keepIn K (.ref f9) = true)
    {f10 : Addr} {od10 an10 : Option Addr} {sl10 : Array (Option Value)} {oc10 kV10 dc10 pm10 cd10 ct10 : Value}
    (a10 : nsIn K mainGlobals "slope" = some (some (.ref f10))) (l10 : K.lookup f10 = some ⟨oc10, od10, .func (fnOf "slope" "slope" (defArgs st_slope) (defBody st_slope) (defScope st_slope) .none kV10 dc10 pm10 an10 cd10 ct10), sl10⟩) (c10 : codeIn K cd10 "slope" = true) (k10 : keepIn K (.ref f10) = true)
    {f11 : Addr} {od11 an11 : Option Addr} {sl11 : Array (Option Value)} {oc11 kV11 dc11 pm11 cd11 ct11 : Value}
    (a11 : nsIn K mainGlobals "_primes_of" = some (some (.ref f11))) (l11 : K.lookup f11 = some ⟨oc11, od11, .func (fnOf "_primes_of" "_primes_of" (defArgs st__primes_of) (defBody st__primes_of) (defScope st__primes_of) .none kV11 dc11 pm11 an11 cd11 ct11), sl11⟩) (c11 : codeIn K cd11 "_primes_of" = true) (k11 : keepIn K (.ref f11) = true)
    {f12 : Addr} {od12 an12 : Option Addr} {sl12 : Array (Option Value)} {oc12 kV12 dc12 pm12 cd12 ct12 : Value}
    (a12 : nsIn K mainGlobals "_comes_again" = some (some (.ref f12))) (l12 : K.lookup f12 = some ⟨oc12, od12, .func (fnOf "_comes_again" "_comes_again" (defArgs st__comes_again) (defBody st__comes_again) (defScope st__comes_again) .none kV12 dc12 pm12 an12 cd12 ct12), sl12⟩) (c12 : codeIn K cd12 "_comes_again" = true) (k12 : keepIn K (.ref f12) = true)
    {f13 : Addr} {od13 an13 : Option Addr} {sl13 : Array (Option Value)} {oc13 kV13 dc13 pm13 cd13 ct13 : Value}
    (a13 : nsIn K mainGlobals "period" = some (some (.ref f13))) (l13 : K.lookup f13 = some ⟨oc13, od13, .func (fnOf "period" "period" (defArgs st_period) (defBody st_period) (defScope st_period) .none kV13 dc13 pm13 an13 cd13 ct13), sl13⟩) (c13 : codeIn K cd13 "period" = true) (k13 : keepIn K (.ref f13) = true)
    {f14 : Addr} {od14 an14 : Option Addr} {sl14 : Array (Option Value)} {oc14 kV14 dc14 pm14 cd14 ct14 : Value}
    (a14 : nsIn K mainGlobals "_law_of" = some (some (.ref f14))) (l14 : K.lookup f14 = some ⟨oc14, od14, .func (fnOf "_law_of" "_law_of" (defArgs st__law_of) (defBody st__law_of) (defScope st__law_of) .none kV14 dc14 pm14 an14 cd14 ct14), sl14⟩) (c14 : codeIn K cd14 "_law_of" = true) (k14 : keepIn K (.ref f14) = true)
    {f15 : Addr} {od15 an15 : Option Addr} {sl15 : Array (Option Value)} {oc15 kV15 dc15 pm15 cd15 ct15 : Value}
    (a15 : nsIn K mainGlobals "_law_chain" = some (some (.ref f15))) (l15 : K.lookup f15 = some ⟨oc15, od15, .func (fnOf "_law_chain" "_law_chain" (defArgs st__law_chain) (defBody st__law_chain) (defScope st__law_chain) .none kV15 dc15 pm15 an15 cd15 ct15), sl15⟩) (c15 : codeIn K cd15 "_law_chain" = true) (k15 : keepIn K (.ref f15) = true)
    {f16 : Addr} {od16 an16 : Option Addr} {sl16 : Array (Option Value)} {oc16 kV16 dc16 pm16 cd16 ct16 : Value}
    (a16 : nsIn K mainGlobals "_law_moved" = some (some (.ref f16))) (l16 : K.lookup f16 = some ⟨oc16, od16, .func (fnOf "_law_moved" "_law_moved" (defArgs st__law_moved) (defBody st__law_moved) (defScope st__law_moved) .none kV16 dc16 pm16 an16 cd16 ct16), sl16⟩) (c16 : codeIn K cd16 "_law_moved" = true) (k16 : keepIn K (.ref f16) = true)
    {f17 : Addr} {od17 an17 : Option Addr} {sl17 : Array (Option Value)} {oc17 kV17 dc17 pm17 cd17 ct17 : Value}
    (a17 : nsIn K mainGlobals "_law_products" = some (some (.ref f17))) (l17 : K.lookup f17 = some ⟨oc17, od17, .func (fnOf "_law_products" "_law_products" (defArgs st__law_products) (defBody st__law_products) (defScope st__law_products) .none kV17 dc17 pm17 an17 cd17 ct17), sl17⟩) (c17 : codeIn K cd17 "_law_products" = true) (k17 : keepIn K (.ref f17) = true)
    {f18 : Addr} {od18 an18 : Option Addr} {sl18 : Array (Option Value)} {oc18 kV18 dc18 pm18 cd18 ct18 : Value}
    (a18 : nsIn K mainGlobals "_law_measure" = some (some (.ref f18))) (l18 : K.lookup f18 = some ⟨oc18, od18, .func (fnOf "_law_measure" "_law_measure" (defArgs st__law_measure) (defBody st__law_measure) (defScope st__law_measure) .none kV18 dc18 pm18 an18 cd18 ct18), sl18⟩) (c18 : codeIn K cd18 "_law_measure" = true) (k18 : keepIn K (.ref f18) = true)
    {f19 : Addr} {od19 an19 : Option Addr} {sl19 : Array (Option Value)} {oc19 kV19 dc19 pm19 cd19 ct19 : Value}
    (a19 : nsIn K mainGlobals "_law_rise" = some (some (.ref f19))) (l19 : K.lookup f19 = some ⟨oc19, od19, .func (fnOf "_law_rise" "_law_rise" (defArgs st__law_rise) (defBody st__law_rise) (defScope st__law_rise) .none kV19 dc19 pm19 an19 cd19 ct19), sl19⟩) (c19 : codeIn K cd19 "_law_rise" = true) (k19 : keepIn K (.ref f19) = true)
    {f20 : Addr} {od20 an20 : Option Addr} {sl20 : Array (Option Value)} {oc20 kV20 dc20 pm20 cd20 ct20 : Value}
    (a20 : nsIn K mainGlobals "_law_period" = some (some (.ref f20))) (l20 : K.lookup f20 = some ⟨oc20, od20, .func (fnOf "_law_period" "_law_period" (defArgs st__law_period) (defBody st__law_period) (defScope st__law_period) .none kV20 dc20 pm20 an20 cd20 ct20), sl20⟩) (c20 : codeIn K cd20 "_law_period" = true) (k20 : keepIn K (.ref f20) = true)
    {f21 : Addr} {od21 an21 : Option Addr} {sl21 : Array (Option Value)} {oc21 kV21 dc21 pm21 cd21 ct21 : Value}
    (a21 : nsIn K mainGlobals "_law_next" = some (some (.ref f21))) (l21 : K.lookup f21 = some ⟨oc21, od21, .func (fnOf "_law_next" "_law_next" (defArgs st__law_next) (defBody st__law_next) (defScope st__law_next) .none kV21 dc21 pm21 an21 cd21 ct21), sl21⟩) (c21 : codeIn K cd21 "_law_next" = true) (k21 : keepIn K (.ref f21) = true)
    {f22 : Addr} {od22 an22 : Option Addr} {sl22 : Array (Option Value)} {oc22 kV22 dc22 pm22 cd22 ct22 : Value}
    (a22 : nsIn K mainGlobals "_law_begun" = some (some (.ref f22))) (l22 : K.lookup f22 = some ⟨oc22, od22, .func (fnOf "_law_begun" "_law_begun" (defArgs st__law_begun) (defBody st__law_begun) (defScope st__law_begun) .none kV22 dc22 pm22 an22 cd22 ct22), sl22⟩) (c22 : codeIn K cd22 "_law_begun" = true) (k22 : keepIn K (.ref f22) = true)
    {f23 : Addr} {od23 an23 : Option Addr} {sl23 : Array (Option Value)} {oc23 kV23 dc23 pm23 cd23 ct23 : Value}
    (a23 : nsIn K mainGlobals "law" = some (some (.ref f23))) (l23 : K.lookup f23 = some ⟨oc23, od23, .func (fnOf "law" "law" (defArgs st_law) (defBody st_law) (defScope st_law) .none kV23 dc23 pm23 an23 cd23 ct23), sl23⟩) (c23 : codeIn K cd23 "law" = true) (k23 : keepIn K (.ref f23) = true)
    (z_bool : nsIn K mainGlobals "bool" = some none)
    (z_enumerate : nsIn K mainGlobals "enumerate" = some none)
    (z_int : nsIn K mainGlobals "int" = some none)
    (z_isinstance : nsIn K mainGlobals "isinstance" = some none)
    (z_len : nsIn K mainGlobals "len" = some none)
    (z_list : nsIn K mainGlobals "list" = some none)
    (z_min : nsIn K mainGlobals "min" = some none)
    (z_range : nsIn K mainGlobals "range" = some none)
    (z_repr : nsIn K mainGlobals "repr" = some none)
    (z_str : nsIn K mainGlobals "str" = some none)
    (z_tuple : nsIn K mainGlobals "tuple" = some none)
    (z_zip : nsIn K mainGlobals "zip" = some none)
    {t_MOST_FRAME : Tok} (v_MOST_FRAME : nsIn K mainGlobals "MOST_FRAME" = some (some (.int 1000000000000 t_MOST_FRAME)))
    {t_MOST_OF_STEP : Tok} (v_MOST_OF_STEP : nsIn K mainGlobals "MOST_OF_STEP" = some (some (.int 2000 t_MOST_OF_STEP)))
    {t_MOST_PRODUCT : Tok} (v_MOST_PRODUCT : nsIn K mainGlobals "MOST_PRODUCT" = some (some (.int 100000 t_MOST_PRODUCT)))
    {t_MOST_STEPS : Tok} (v_MOST_STEPS : nsIn K mainGlobals "MOST_STEPS" = some (some (.int 4 t_MOST_STEPS)))
    {u_ROUNDINGS : Addr} {dd_ROUNDINGS : Option Addr} {nn_ROUNDINGS : Nat} {sl_ROUNDINGS : Array (Option Value)} {k0_ROUNDINGS : Tok} {k1_ROUNDINGS : Tok} {k2_ROUNDINGS : Tok} (v_ROUNDINGS : nsIn K mainGlobals "ROUNDINGS" = some (some (.ref u_ROUNDINGS))) (w_ROUNDINGS : K.lookup u_ROUNDINGS = some ⟨.type "tuple", dd_ROUNDINGS, .seq #[.str "down" k0_ROUNDINGS, .str "up" k1_ROUNDINGS, .str "near" k2_ROUNDINGS] nn_ROUNDINGS, sl_ROUNDINGS⟩)
    (v_gcd : nsIn K mainGlobals "gcd" = some (some (.builtin "math.gcd")))
    (says : ∀ ns : List Int, ns.length ≤ 63 → lawSays ns) :
    ∃ fd : FuncData, (∀ (s : Shared) (v : Value), BindsTo s fd ⟨[v], []⟩ [("_law_script", v)]) ∧ ∀ bas : Heap, K.In bas → bas.Ns mainGlobals gl → FnG l.prog wd K gl bas 6 fa fd ["_law_script"] (spLawG K) := by
  have e := hfa.symm.trans (PySem.W.mg_of X G a23)
  cases e
  have T : Tx K gl := ⟨PySem.W.mg_none_of X G z_bool, PySem.W.mg_none_of X G z_enumerate, PySem.W.mg_none_of X G z_int, PySem.W.mg_none_of X G z_isinstance, PySem.W.mg_none_of X G z_len, PySem.W.mg_none_of X G z_list, PySem.W.mg_none_of X G z_min, PySem.W.mg_none_of X G z_range, PySem.W.mg_none_of X G z_repr, PySem.W.mg_none_of X G z_str, PySem.W.mg_none_of X G z_tuple, PySem.W.mg_none_of X G z_zip, ⟨_, PySem.W.mg_of X G v_MOST_FRAME⟩, ⟨_, PySem.W.mg_of X G v_MOST_OF_STEP⟩, ⟨_, PySem.W.mg_of X G v_MOST_PRODUCT⟩, ⟨_, PySem.W.mg_of X G v_MOST_STEPS⟩, ⟨_, PySem.W.mg_of X G v_ROUNDINGS, at_top w_ROUNDINGS (Nat.le_of_ble_eq_true rfl) (.cons ⟨_, rfl⟩ (.cons ⟨_, rfl⟩ (.cons ⟨_, rfl⟩ .nil)))⟩, PySem.W.mg_of X G v_gcd⟩
  have F0 := fun_mk (st := st_is_integer) l0 c0 k0
  have b0 := F0.binds (ps := ["thing"]) fun _ _ _ _ _ _ us hl => match us, hl with | [_], _ => rfl
  have F1 := fun_mk (st := st_is_within) l1 c1 k1
  have b1 := F1.binds (ps := ["thing", "least", "most"]) fun _ _ _ _ _ _ us hl => match us, hl with | [_, _, _], _ => rfl
  have F2 := fun_mk (st := st_is_tuple) l2 c2 k2
  have b2 := F2.binds (ps := ["thing", "least", "most"]) fun _ _ _ _ _ _ us hl => match us, hl with | [_, _, _], _ => rfl
  have F3 := fun_mk (st := st_is_one_of) l3 c3 k3
  have b3 := F3.binds (ps := ["thing", "words"]) fun _ _ _ _ _ _ us hl => match us, hl with | [_, _], _ => rfl
  have F4 := fun_mk (st := st__is_step) l4 c4 k4
  have b4 := F4.binds (ps := ["thing"]) fun _ _ _ _ _ _ us hl => match us, hl with | [_], _ => rfl
  have F5 := fun_mk (st := st_need_chain) l5 c5 k5
  have b5 := F5.binds (ps := ["thing"]) fun _ _ _ _ _ _ us hl => match us, hl with | [_], _ => rfl
  have F6 := fun_mk (st := st__quotient) l6 c6 k6
  have b6 := F6.binds (ps := ["top", "bottom", "rounding"]) fun _ _ _ _ _ _ us hl => match us, hl with | [_, _, _], _ => rfl
  have F7 := fun_mk (st := st__moved) l7 c7 k7
  have b7 := F7.binds (ps := ["chain", "frame"]) fun _ _ _ _ _ _ us hl => match us, hl with | [_, _], _ => rfl
  have F8 := fun_mk (st := st_moved) l8 c8 k8
  have b8 := F8.binds (ps := ["chain", "frame"]) fun _ _ _ _ _ _ us hl => match us, hl with | [_, _], _ => rfl
  have F9 := fun_mk (st := st__bottom) l9 c9 k9
  have b9 := F9.binds (ps := ["chain"]) fun _ _ _ _ _ _ us hl => match us, hl with | [_], _ => rfl
  have F10 := fun_mk (st := st_slope) l10 c10 k10
  have b10 := F10.binds (ps := ["chain"]) fun _ _ _ _ _ _ us hl => match us, hl with | [_], _ => rfl
  have F11 := fun_mk (st := st__primes_of) l11 c11 k11
  have b11 := F11.binds (ps := ["number"]) fun _ _ _ _ _ _ us hl => match us, hl with | [_], _ => rfl
  have F12 := fun_mk (st := st__comes_again) l12 c12 k12
  have b12 := F12.binds (ps := ["rises", "many"]) fun _ _ _ _ _ _ us hl => match us, hl with | [_, _], _ => rfl
  have F13 := fun_mk (st := st_period) l13 c13 k13
  have b13 := F13.binds (ps := ["chain"]) fun _ _ _ _ _ _ us hl => match us, hl with | [_], _ => rfl
  have F14 := fun_mk (st := st__law_of) l14 c14 k14
  have b14 := F14.binds (ps := ["_law_m", "_law_some"]) fun _ _ _ _ _ _ us hl => match us, hl with | [_, _], _ => rfl
  have F15 := fun_mk (st := st__law_chain) l15 c15 k15
  have b15 := F15.binds (ps := ["_law_m", "_law_most"]) fun _ _ _ _ _ _ us hl => match us, hl with | [_, _], _ => rfl
  have F16 := fun_mk (st := st__law_moved) l16 c16 k16
  have b16 := F16.binds (ps := ["_law_chain_here", "_law_frame"]) fun _ _ _ _ _ _ us hl => match us, hl with | [_, _], _ => rfl
  have F17 := fun_mk (st := st__law_products) l17 c17 k17
  have b17 := F17.binds (ps := ["_law_chain_here"]) fun _ _ _ _ _ _ us hl => match us, hl with | [_], _ => rfl
  have F18 := fun_mk (st := st__law_measure) l18 c18 k18
  have b18 := F18.binds (ps := ["_law_one", "_law_other"]) fun _ _ _ _ _ _ us hl => match us, hl with | [_, _], _ => rfl
  have F19 := fun_mk (st := st__law_rise) l19 c19 k19
  have b19 := F19.binds (ps := ["_law_row", "_law_frame", "_law_many"]) fun _ _ _ _ _ _ us hl => match us, hl with | [_, _, _], _ => rfl
  have F20 := fun_mk (st := st__law_period) l20 c20 k20
  have b20 := F20.binds (ps := ["_law_chain_here"]) fun _ _ _ _ _ _ us hl => match us, hl with | [_], _ => rfl
  have F21 := fun_mk (st := st__law_next) l21 c21 k21
  have b21 := F21.binds (ps := ["_law_m", "_law_total"]) fun _ _ _ _ _ _ us hl => match us, hl with | [_, _], _ => rfl
  have F22 := fun_mk (st := st__law_begun) l22 c22 k22
  have b22 := F22.binds (ps := ["_law_script"]) fun _ _ _ _ _ _ us hl => match us, hl with | [_], _ => rfl
  have F23 := fun_mk (st := st_law) l23 c23 k23
  have b23 := F23.binds (ps := ["_law_script"]) fun _ _ _ _ _ _ us hl => match us, hl with | [_], _ => rfl
  refine ⟨fnOf "law" "law" (defArgs st_law) (defBody st_law) (defScope st_law) .none kV23 dc23 pm23 an23 cd23 ct23, fun s v => .of_eq rfl, fun bas _ _ => ?_⟩
  have C__law_next : Cd l.prog wd K gl bas srcOrc 1 "_law_next" 2 s_next := ⟨_, _, _, ok__law_next T F21, PySem.W.mg_of X G a21, k21, b21⟩
  have C_is_integer : Cd l.prog wd K gl bas srcOrc 1 "is_integer" 1 r_is_integer := ⟨_, _, _, ok_is_integer T F0, PySem.W.mg_of X G a0, k0, b0⟩
  have C_is_within : Cd l.prog wd K gl bas srcOrc 2 "is_within" 3 r_is_within := ⟨_, _, _, ok_is_within T F1 C_is_integer, PySem.W.mg_of X G a1, k1, b1⟩
  have C_is_tuple : Cd l.prog wd K gl bas srcOrc 1 "is_tuple" 3 r_is_tuple := ⟨_, _, _, ok_is_tuple T F2, PySem.W.mg_of X G a2, k2, b2⟩
  have C_is_one_of : Cd l.prog wd K gl bas srcOrc 1 "is_one_of" 2 r_is_one_of := ⟨_, _, _, ok_is_one_of T F3, PySem.W.mg_of X G a3, k3, b3⟩
  have C__is_step : Cd l.prog wd K gl bas srcOrc 3 "_is_step" 1 r__is_step := ⟨_, _, _, ok__is_step T F4 C_is_tuple C_is_one_of C_is_within, PySem.W.mg_of X G a4, k4, b4⟩
  have C_need_chain : Cd l.prog wd K gl bas srcOrc 4 "need_chain" 1 r_need_chain := ⟨_, _, _, ok_need_chain T F5 C_is_tuple C__is_step, PySem.W.mg_of X G a5, k5, b5⟩
  have C__quotient : Cd l.prog wd K gl bas srcOrc 1 "_quotient" 3 r__quotient := ⟨_, _, _, ok__quotient T F6, PySem.W.mg_of X G a6, k6, b6⟩
  have C__moved : Cd l.prog wd K gl bas srcOrc 2 "_moved" 2 r__moved := ⟨_, _, _, ok__moved T F7 C__quotient, PySem.W.mg_of X G a7, k7, b7⟩
  have C_moved : Cd l.prog wd K gl bas srcOrc 5 "moved" 2 r_moved := ⟨_, _, _, ok_moved T F8 C_need_chain C_is_within C__moved, PySem.W.mg_of X G a8, k8, b8⟩
  have C__bottom : Cd l.prog wd K gl bas srcOrc 1 "_bottom" 1 r__bottom := ⟨_, _, _, ok__bottom T F9, PySem.W.mg_of X G a9, k9, b9⟩
  have C_slope : Cd l.prog wd K gl bas srcOrc 5 "slope" 1 r_slope := ⟨_, _, _, ok_slope T F10 C_need_chain C__bottom, PySem.W.mg_of X G a10, k10, b10⟩
  have C__primes_of : Cd l.prog wd K gl bas srcOrc 1 "_primes_of" 1 r__primes_of := ⟨_, _, _, ok__primes_of T F11, PySem.W.mg_of X G a11, k11, b11⟩
  have C__comes_again : Cd l.prog wd K gl bas srcOrc 1 "_comes_again" 2 r__comes_again := ⟨_, _, _, ok__comes_again T F12, PySem.W.mg_of X G a12, k12, b12⟩
  have C_period : Cd l.prog wd K gl bas srcOrc 5 "period" 1 r_period := ⟨_, _, _, ok_period T F13 C_need_chain C__bottom C__moved C__primes_of C__comes_again, PySem.W.mg_of X G a13, k13, b13⟩
  have C__law_of : Cd l.prog wd K gl bas srcOrc 2 "_law_of" 2 r__law_of := ⟨_, _, _, ok__law_of T F14 C__law_next, PySem.W.mg_of X G a14, k14, b14⟩
  have C__law_chain : Cd l.prog wd K gl bas srcOrc 3 "_law_chain" 2 r__law_chain := ⟨_, _, _, ok__law_chain T F15 C__law_next C__law_of, PySem.W.mg_of X G a15, k15, b15⟩
  have C__law_moved : Cd l.prog wd K gl bas srcOrc 1 "_law_moved" 2 r__law_moved := ⟨_, _, _, ok__law_moved T F16, PySem.W.mg_of X G a16, k16, b16⟩
  have C__law_products : Cd l.prog wd K gl bas srcOrc 1 "_law_products" 1 r__law_products := ⟨_, _, _, ok__law_products T F17, PySem.W.mg_of X G a17, k17, b17⟩
  have C__law_measure : Cd l.prog wd K gl bas srcOrc 1 "_law_measure" 2 r__law_measure := ⟨_, _, _, ok__law_measure T F18, PySem.W.mg_of X G a18, k18, b18⟩
  have C__law_rise : Cd l.prog wd K gl bas srcOrc 1 "_law_rise" 3 r__law_rise := ⟨_, _, _, ok__law_rise T F19, PySem.W.mg_of X G a19, k19, b19⟩
  have C__law_period : Cd l.prog wd K gl bas srcOrc 2 "_law_period" 1 r__law_period := ⟨_, _, _, ok__law_period T F20 C__law_products C__law_moved C__law_rise, PySem.W.mg_of X G a20, k20, b20⟩
  exact ok_law T F23 (ok__law_begun T F22) (PySem.W.mg_of X G a22) k22 b22 C__law_chain C__law_products C__law_measure C_slope C_moved C__law_moved C__law_of C__law_next C_period C__law_period says
end Q71
namespace Q71
inductive Ro | dn | up | nr
structure Sp where
  t : Int
  b : Int
  r : Ro
def q1 : Ro → Int → Int → Int
  | .dn, n, b => n / b
  | .up, n, b => -(-n / b)
  | .nr, n, b => (2 * n + b) / (2 * b)
def lq : Ro → Int → Int → Int
  | .dn, n, b => n / b
  | .up, n, b => n / b + (if 0 < n % b then 1 else 0)
  | .nr, n, b => n / b + (if b ≤ 2 * (n % b) then 1 else 0)
theorem lq_q1 (r : Ro) (n : Int) {b : Int} (hb : 0 < b) : lq r n b = q1 r n b := by
  have e := Int.mul_ediv_add_emod n b
  have h0 := Int.emod_nonneg n (show b ≠ 0 by omega)
  have h1 := Int.emod_lt_of_pos n hb
  cases r with
  | dn => rfl
  | up =>
    show n / b + (if 0 < n % b then 1 else 0) = -(-n / b)
    generalize n / b = q at *
    generalize n % b = s at *
    have e2 : -n = -s + b * (-q) := by rw [Int.mul_neg]; omega
    rw [e2, Int.add_mul_ediv_left _ _ (by omega : b ≠ 0)]
    by_cases z : 0 < s
    · rw [if_pos z]
      have a1 : -1 ≤ -s / b := (Int.le_ediv_iff_mul_le hb).mpr (by omega)
      have a2 : -s / b < 0 := (Int.ediv_lt_iff_lt_mul hb).mpr (by omega)
      omega
    · rw [if_neg z]
      have : s = 0 := by omega
      subst this
      simp
  | nr =>
    show n / b + (if b ≤ 2 * (n % b) then 1 else 0) = (2 * n + b) / (2 * b)
    generalize n / b = q at *
    generalize n % b = s at *
    have e2 : 2 * n + b = (2 * s + b) + 2 * b * q := by rw [Int.mul_assoc]; omega
    rw [e2, Int.add_mul_ediv_left _ _ (by omega : 2 * b ≠ 0)]
    by_cases z : b ≤ 2 * s
    · rw [if_pos z]
      have a1 : 1 ≤ (2 * s + b) / (2 * b) := (Int.le_ediv_iff_mul_le (by omega)).mpr (by omega)
      have a2 : (2 * s + b) / (2 * b) < 2 := (Int.ediv_lt_iff_lt_mul (by omega)).mpr (by omega)
      omega
    · rw [if_neg z]
      have a1 : 0 ≤ (2 * s + b) / (2 * b) := (Int.le_ediv_iff_mul_le (by omega)).mpr (by omega)
      have a2 : (2 * s + b) / (2 * b) < 1 := (Int.ediv_lt_iff_lt_mul (by omega)).mpr (by omega)
      omega
theorem q1_add (r : Ro) (n k : Int) {b : Int} (hb : 0 < b) : q1 r (n + b * k) b = q1 r n b + k := by
  cases r with
  | dn => exact Int.add_mul_ediv_left _ _ (by omega)
  | up =>
    show -(-(n + b * k) / b) = -(-n / b) + k
    have e : -(n + b * k) = -n + b * (-k) := by rw [Int.mul_neg]; omega
    rw [e, Int.add_mul_ediv_left _ _ (by omega : b ≠ 0)]
    omega
  | nr =>
    show (2 * (n + b * k) + b) / (2 * b) = (2 * n + b) / (2 * b) + k
    have e : 2 * (n + b * k) + b = (2 * n + b) + 2 * b * k := by rw [Int.mul_assoc]; omega
    rw [e, Int.add_mul_ediv_left _ _ (by omega : 2 * b ≠ 0)]
theorem q1_zero (r : Ro) {b : Int} (hb : 0 < b) : q1 r 0 b = 0 := by
  cases r with
  | dn => show (0 : Int) / b = 0; simp
  | up => show -(-(0 : Int) / b) = 0; simp
  | nr =>
    show (2 * 0 + b) / (2 * b) = 0
    have a1 : 0 ≤ (2 * 0 + b) / (2 * b) := (Int.le_ediv_iff_mul_le (by omega)).mpr (by omega)
    have a2 : (2 * 0 + b) / (2 * b) < 1 := (Int.ediv_lt_iff_lt_mul (by omega)).mpr (by omega)
    omega
def mv : List Sp → Int → Int
  | [], x => x
  | s :: c, x => mv c (q1 s.r (x * s.t) s.b)
def bot : List Sp → Int
  | [] => 1
  | s :: c => s.b * bot c
def top : List Sp → Int
  | [] => 1
  | s :: c => s.t * top c
def Ok (c : List Sp) : Prop := ∀ s ∈ c, 1 ≤ s.t ∧ s.t ≤ 50 ∧ 1 ≤ s.b ∧ s.b ≤ 2000
theorem bot_pos : ∀ {c : List Sp}, Ok c → 1 ≤ bot c
  | [], _ => by show (1 : Int) ≤ 1; omega
  | s :: c, h => by
    have h1 := (h s (List.mem_cons_self ..)).2.2.1
    have h2 := bot_pos fun x hx => h x (List.mem_cons_of_mem _ hx)
    show 1 ≤ s.b * bot c
    have := Int.mul_le_mul h1 h2 (by omega) (by omega)
    omega
theorem top_pos : ∀ {c : List Sp}, Ok c → 1 ≤ top c
  | [], _ => by show (1 : Int) ≤ 1; omega
  | s :: c, h => by
    have h1 := (h s (List.mem_cons_self ..)).1
    have h2 := top_pos fun x hx => h x (List.mem_cons_of_mem _ hx)
    show 1 ≤ s.t * top c
    have := Int.mul_le_mul h1 h2 (by omega) (by omega)
    omega
theorem mv_add : ∀ {c : List Sp}, Ok c → ∀ (x k : Int), mv c (x + bot c * k) = mv c x + top c * k
  | [], _, x, k => by show x + 1 * k = x + 1 * k; rfl
  | s :: c, h, x, k => by
    have h1 := (h s (List.mem_cons_self ..)).2.2.1
    have ih := mv_add (c := c) fun x hx => h x (List.mem_cons_of_mem _ hx)
    show mv c (q1 s.r ((x + s.b * bot c * k) * s.t) s.b) = mv c (q1 s.r (x * s.t) s.b) + s.t * top c * k
    have e : (x + s.b * bot c * k) * s.t = x * s.t + s.b * (bot c * (k * s.t)) := by
      rw [Int.add_mul]
      congr 1
      simp only [Int.mul_assoc]
    rw [e, q1_add _ _ _ (by omega), ih]
    congr 1
    rw [← Int.mul_assoc, Int.mul_comm, ← Int.mul_assoc]
theorem mv_zero : ∀ {c : List Sp}, Ok c → mv c 0 = 0
  | [], _ => rfl
  | s :: c, h => by
    have h1 := (h s (List.mem_cons_self ..)).2.2.1
    show mv c (q1 s.r (0 * s.t) s.b) = 0
    rw [Int.zero_mul, q1_zero _ (by omega)]
    exact mv_zero fun x hx => h x (List.mem_cons_of_mem _ hx)
section
variable {f : Nat → Int}
def Per (f : Nat → Int) (m : Nat) : Prop := ∀ x, f (x + m) = f x + f m
theorem per_sub (h0 : f 0 = 0) {a b : Nat} (ha : Per f a) (hb : Per f b) (h : b ≤ a) : Per f (a - b) := by
  have key : ∀ x, f (x + (a - b)) = f x + f a - f b := fun x => by
    have h1 := hb (x + (a - b))
    have h2 := ha x
    have e : x + (a - b) + b = x + a := by omega
    rw [e] at h1
    omega
  intro x
  have k0 := key 0
  rw [Nat.zero_add, h0] at k0
  rw [key x, k0]
  omega
theorem per_zero (h0 : f 0 = 0) : Per f 0 := fun x => by rw [h0]; simp
theorem per_add {a b : Nat} (ha : Per f a) (hb : Per f b) : Per f (a + b) := fun x => by
  rw [← Nat.add_assoc, hb (x + a), ha x, hb a]
  omega
theorem per_mul (h0 : f 0 = 0) {a : Nat} (ha : Per f a) : ∀ k, Per f (k * a)
  | 0 => by rw [Nat.zero_mul]; exact per_zero h0
  | k + 1 => by rw [Nat.succ_mul]; exact per_add (per_mul h0 ha k) ha
theorem per_val (h0 : f 0 = 0) {a : Nat} (ha : Per f a) : ∀ k : Nat, f (k * a) = k * f a
  | 0 => by simp [h0]
  | k + 1 => by
    rw [Nat.succ_mul, ha (k * a), per_val h0 ha k]
    have : ((k + 1 : Nat) : Int) * f a = k * f a + f a := by rw [Int.natCast_add]; simp [Int.add_mul]
    rw [this]
theorem least_of {p : Nat → Prop} : ∀ n, p n → ∃ m, p m ∧ ∀ k, p k → m ≤ k := by
  intro n
  induction n using
    Nat.strongRecOn with
  | ind n ih =>
    intro hn
    by_cases h : ∃ k, p k ∧ k < n
    · obtain ⟨k, hk, hlt⟩ := h
      exact ih k hlt hk
    · refine ⟨n, hn, fun k hk => ?_⟩
      refine Classical.byContradiction fun q => h ⟨k, hk, by omega⟩
structure Lst (f : Nat → Int) (p : Nat) : Prop where
  pos : 0 < p
  per : Per f p
  iff : ∀ m, Per f m ↔ p ∣ m
theorem ex_lst (h0 : f 0 = 0) {B : Nat} (hB : 0 < B) (h : Per f B) : ∃ p, Lst f p := by
  obtain ⟨p, ⟨hp, hper⟩, hl⟩ := least_of (p := fun m => 0 < m ∧ Per f m) B ⟨hB, h⟩
  refine ⟨p, hp, hper, fun m => ⟨fun hm => ?_, fun ⟨k, e⟩ => ?_⟩⟩
  · induction m using Nat.strongRecOn with
    | ind m ih =>
      by_cases z : m < p
      · by_cases z0 : m = 0
        · subst z0; exact Nat.dvd_zero p
        · have := hl m ⟨by omega, hm⟩
          omega
      · have := ih (m - p) (by omega) (per_sub h0 hm hper (by omega))
        have e : m = (m - p) + p := by omega
        rw [e]
        exact Nat.dvd_add this (Nat.dvd_refl p)
  · subst e
    rw [Nat.mul_comm]
    exact per_mul h0 hper k
/-- alike on one round is alike for ever -/
theorem per_round {B m : Nat} {A : Int} (hB : 0 < B) (hA : ∀ x, f (x + B) = f x + A) {v : Int} (h : ∀ x, x < B → f (x + m) = f x + v) (h0 : f 0 = 0) : Per f m ∧ f m = v := by
  have all : ∀ x, f (x + m) = f x + v := by
    intro x
    induction x using Nat.strongRecOn with
    | ind x ih =>
      by_cases z : x < B
      · exact h x z
      · have h1 := ih (x - B) (by omega)
        have h2 := hA (x - B)
        have h3 := hA (x - B + m)
        have e1 : x - B + B = x := by omega
        have e2 : x - B + m + B = x + m := by omega
        rw [e1] at h2
        rw [e2] at h3
        omega
  have hv : f m = v := by
    have := all 0
    rw [Nat.zero_add, h0] at this
    omega
  exact ⟨fun x => by rw [all x, hv], hv⟩
/-- the rises, gone round -/
theorem per_rot {B m : Nat} {A : Int} (hB : 0 < B) (hA : ∀ x, f (x + B) = f x + A) (hm : m ≤ B) (h0 : f 0 = 0) :
    (∀ i, i < B → f ((if i + m < B then i + m else i + m - B) + 1) - f (if i + m < B then i + m else i + m - B) = f (i + 1) - f i) ↔ Per f m := by
  have shift : ∀ i, i < B → f ((if i + m < B then i + m else i + m - B) + 1) - f (if i + m < B then i + m else i + m - B) = f (i + m + 1) - f (i + m) := by
    intro i hi
    by_cases z : i + m < B
    · rw [if_pos z]
    · rw [if_neg z]
      have h1 := hA (i + m - B)
      have h2 := hA (i + m - B + 1)
      have e1 : i + m - B + B = i + m := by omega
      have e2 : i + m - B + 1 + B = i + m + 1 := by omega
      rw [e1] at h1
      rw [e2] at h2
      omega
  constructor
  · intro h
    have key : ∀ x, x ≤ B → f (x + m) = f x + f m := by
      intro x
      induction x with
      | zero => intro _; rw [Nat.zero_add, h0]; omega
      | succ x ih =>
        intro hx
        have h1 := ih (by omega)
        have h2 := h x (by omega)
        rw [shift x (by omega)] at h2
        have e : x + 1 + m = x + m + 1 := by omega
        rw [e]
        omega
    exact (per_round hB hA (v := f m) (fun x hx => key x (by omega)) h0).1
  · intro h i hi
    rw [shift i hi]
    have h1 := h i
    have h2 := h (i + 1)
    have e : i + 1 + m = i + m + 1 := by omega
    rw [e] at h2
    omega
end
def Pr (q : Nat) : Prop := 2 ≤ q ∧ ∀ d, d ∣ q → d = 1 ∨ d = q
theorem pr_cop {q c L : Nat} (hq : Pr q) (hn : ¬ q ∣ c) (h : c ∣ q * L) : c ∣ L := by
  have g : Nat.gcd c q = 1 := by
    rcases hq.2 _ (Nat.gcd_dvd_right c q) with h | h
    · exact h
    · have := Nat.gcd_dvd_left c q
      rw [h] at this
      exact absurd this hn
  have hc : Nat.Coprime c q := g
  exact hc.dvd_of_dvd_mul_left h
/-- parting by each prime as long as it goes -/
def parted (p0 : Nat) : List Nat → Nat → Nat
  | [], m => m
  | q :: L, m => parted p0 L (if p0 ∣ m / q then m / q else m)
def prod : List Nat → Nat
  | [] => 1
  | q :: L => q * prod L
theorem parted_eq {p0 : Nat} (h0 : 0 < p0) : ∀ (L : List Nat) (c : Nat), 0 < c → (∀ q ∈ L, Pr q) → c ∣ prod L → prod L ∣ p0 * c → parted p0 L (p0 * c) = p0
  | [], c, hc, _, h, _ => by
    have : c = 1 := Nat.dvd_one.mp h
    subst this
    show p0 * 1 = p0
    omega
  | q :: L, c, hc, hp, h, hm => by
    have hq := hp q (List.mem_cons_self ..)
    have hp' : ∀ x ∈ L, Pr x := fun x hx => hp x (List.mem_cons_of_mem _ hx)
    have q0 : 0 < q := by have := hq.1; omega
    have hqm : q ∣ p0 * c := Nat.dvd_trans ⟨prod L, rfl⟩ hm
    have hm' : prod L ∣ p0 * c := Nat.dvd_trans ⟨q, by show q * prod L = _; rw [Nat.mul_comm]⟩ hm
    show parted p0 L (if p0 ∣ p0 * c / q then p0 * c / q else p0 * c) = p0
    by_cases z : q ∣ c
    · obtain ⟨d, rfl⟩ := z
      have e : p0 * (q * d) / q = p0 * d := by
        rw [Nat.mul_left_comm]
        exact Nat.mul_div_cancel_left _ q0
      rw [e, if_pos ⟨d, rfl⟩]
      refine parted_eq h0 L d (Nat.pos_of_mul_pos_left hc) hp' ?_ ?_
      · exact Nat.dvd_of_mul_dvd_mul_left q0 h
      · have : q * prod L ∣ q * (p0 * d) := by
          rw [← Nat.mul_left_comm]
          exact hm
        exact Nat.dvd_of_mul_dvd_mul_left q0 this
    · have nd : ¬ p0 ∣ p0 * c / q := by
        rintro ⟨k, e⟩
        refine z ⟨k, ?_⟩
        have e2 : p0 * c = q * (p0 * k) := by rw [← e]; exact (Nat.mul_div_cancel' hqm).symm
        rw [Nat.mul_left_comm] at e2
        exact Nat.eq_of_mul_eq_mul_left h0 e2
      rw [if_neg nd]
      exact parted_eq h0 L c hc hp' (pr_cop hq z h) hm'
end Q71
namespace Q71
open PySem L2 DL
theorem d_is_integer {i : Int} {m : Nat} {P : D → Nat → Prop} (h : P (.bool true) 0) : r_is_integer [.d (.int i)] m P := by
  refine ⟨trivial, true, k_int, trivial, false, k_ib, ?_⟩
  exact ⟨hd_d, h⟩
theorem d_is_within {i a b : Int} {m : Nat} {P : D → Nat → Prop} (h1 : a ≤ i) (h2 : i ≤ b) (h : P (.bool true) 0) : r_is_within [.d (.int i), .d (.int a), .d (.int b)] m P := by
  refine ⟨rfl, rfl, d_is_integer ?_⟩
  simp [raw, startE, arSl, sSeq, sIf, sRet, sRetN, sNo, sSet, sSetN, sExpr, sAsg, dCall, dCallO, aCons, aNil, aOra, dV, hS, hV, dC, d2, see, seeAll, dCB, DL.gCons, DL.gNil, dChain, bD, bAnd, bOr, bNot, dAnd, dOr, dNot, dNeg, dIf, dIsi, bTruth, truD, lCons, lNil, dTup, dLst, isD, gCmp, gAdd, DL.gSub, gIs, gIsNot, gLen, gN, gTupT, gConsT, gNoT, ownL, dSl, oI, oNo, h1, h2, h]
theorem d_is_tuple {ds : List D} {a b : Int} {m : Nat} {P : D → Nat → Prop} (h1 : a ≤ ds.length) (h2 : (ds.length : Int) ≤ b) (h : P (.bool true) 0) : r_is_tuple [.d (.tuple ds), .d (.int a), .d (.int b)] m P := by
  refine ⟨trivial, true, k_tt, ?_⟩
  simp [raw, startE, arSl, sSeq, sIf, sRet, sRetN, sNo, sSet, sSetN, sExpr, sAsg, dCall, dCallO, aCons, aNil, aOra, dV, hS, hV, dC, d2, see, seeAll, dCB, DL.gCons, DL.gNil, dChain, bD, bAnd, bOr, bNot, dAnd, dOr, dNot, dNeg, dIf, dIsi, bTruth, truD, lCons, lNil, dTup, dLst, isD, gCmp, gAdd, DL.gSub, gIs, gIsNot, gLen, gN, gTupT, gConsT, gNoT, ownL, dSl, oI, oNo, h1, h2, h]
def rdS : Ro → Str
  | .dn => "down"
  | .up => "up"
  | .nr => "near"
def Sp.d (s : Sp) : D := .tuple [.int s.t, .int s.b, .str (rdS s.r)]
def chD (c : List Sp) : D := .tuple (c.map Sp.d)
theorem d_one_of {r : Ro} {m : Nat} {P : D → Nat → Prop} (h : P (.bool true) 0) : r_is_one_of [.d (.str (rdS r)), .d (.tuple ([("down" : Str), ("up" : Str), ("near" : Str)].map PyData.str))] m P := by
  refine ⟨trivial, true, k_ss, trivial, trivial, _, ofStrs_map _, ?_⟩
  have e : ([("down" : Str), ("up" : Str), ("near" : Str)].any fun z => z == rdS r) = true := by cases r <;> decide +kernel
  rw [e]
  exact ⟨hd_d, h⟩
structure OkS (s : Sp) : Prop where
  t0 : 1 ≤ s.t
  t1 : s.t ≤ 50
  b0 : 1 ≤ s.b
  b1 : s.b ≤ 2000
theorem d_is_step {s : Sp} {m : Nat} {P : D → Nat → Prop} (o : OkS s) (h : P (.bool true) 0) : r__is_step [.d s.d] m P := by
  have := o.t0
  have := o.t1
  have := o.b0
  have := o.b1
  refine ⟨rfl, rfl, d_is_tuple (by simp) (by simp) ?_⟩
  refine ⟨trivial, _, rfl, rfl, rfl, d_one_of ?_⟩
  refine ⟨trivial, _, rfl, rfl, rfl, d_is_within (by omega) (by omega) ?_⟩
  refine ⟨trivial, _, rfl, rfl, rfl, d_is_within (by omega) (by omega) ?_⟩
  exact ⟨hd_d, h⟩
theorem small {i : Int} (h0 : 0 ≤ i) (h1 : i ≤ 1000000000000000000) : -(2 ^ 64) < i ∧ i < 2 ^ 64 := by
  have e : (2 : Int) ^ 64 = 18446744073709551616 := by decide
  rw [e]
  omega
theorem bot_ok {c : List Sp} (h : ∀ s ∈ c, OkS s) : Ok c := fun s hs => ⟨(h s hs).t0, (h s hs).t1, (h s hs).b0, (h s hs).b1⟩
/-- the product of all beginnings is no greater -/
theorem need_loop {C : D} {E : DE} : ∀ (c : List Sp) (k : Nat) (p : Int) (s2 s3 : Sl), (∀ s ∈ c, OkS s) → 1 ≤ p → p * bot c ≤ 100000 → (∀ s2 s3, E.nx [.im C, .im (.int (p * bot c)), s2, s3]) →
    forL (gTupT 2 (gConsT (gN 2) (gConsT (gN 3) (gNoT)))) (sSeq (sIf (bNot (bTruth (hV (dCall 1 r__is_step (aCons (dV 3) (aNil)))))) (sNever) (sNo)) (sSeq (sAug 1 gImul (hV (d2 gIx (hS 3) (hV (dC (.int 1)))))) (sIf (bD (d2 gGt (hS 1) (hV (dC (.int 100000))))) (sNever) (sNo)))) E ((c.map Sp.d).mapIdx fun i d => .tuple [.int (((k + i : Nat)) : Int), d]) [.im C, .im (.int p), s2, s3]
  | [], k, p, s2, s3, _, _, _, h => by
    have := h s2 s3
    rw [show p * bot [] = p from Int.mul_one p] at this
    exact this
  | s :: c, k, p, s2, s3, o, hp, hb, h => by
    have os := o s (List.mem_cons_self ..)
    have o' : ∀ s ∈ c, OkS s := fun x hx => o x (List.mem_cons_of_mem _ hx)
    have b1 := bot_pos (bot_ok o')
    have sb := os.b0
    have sb1 := os.b1
    have e : p * bot (s :: c) = p * s.b * bot c := (Int.mul_assoc ..).symm
    rw [e] at hb h
    have hps : 1 ≤ p * s.b := by
      have := Int.mul_le_mul hp sb (by omega) (by omega)
      omega
    have hle : p * s.b ≤ p * s.b * bot c := by
      have := Int.mul_le_mul_of_nonneg_left b1 (show 0 ≤ p * s.b by omega)
      omega
    rw [List.map_cons, List.mapIdx_cons]
    refine ⟨rfl, rfl, rfl, rfl, d_is_step os ?_⟩
    refine ⟨trivial, trivial, _, rfl, .inr (small (by omega) (by omega)), ?_⟩
    have ng : ¬ 100000 < p * s.b := by omega
    refine ⟨trivial, ?_⟩
    show if decide (100000 < p * s.b) = true then _ else _
    rw [if_neg (by simpa using ng)]
    have e2 : (fun (i : Nat) (d : D) => (PyData.tuple [.int (((k + (i + 1) : Nat)) : Int), d])) = fun i d => PyData.tuple [.int ((((k + 1) + i : Nat)) : Int), d] := by
      funext i d
      rw [Nat.add_assoc, Nat.add_comm 1 i]
    rw [e2]
    exact need_loop c (k + 1) _ _ _ o' hps hb h
structure GC (c : List Sp) : Prop where
  len : c.length ≤ 4
  ok : ∀ s ∈ c, OkS s
  bt : bot c ≤ 100000
theorem d_need {c : List Sp} {m : Nat} {P : D → Nat → Prop} (g : GC c) (h : P (chD c) 0) : r_need_chain [.d (chD c)] m P := by
  have := g.len
  refine ⟨rfl, rfl, d_is_tuple (by omega) (by rw [List.length_map]; omega) ?_⟩
  show forL _ _ _ (enD (c.map Sp.d)) [.im (chD c), .im (.int 1), .no, .no]
  have e : enD (c.map Sp.d) = (c.map Sp.d).mapIdx fun i d => .tuple [.int (((0 + i : Nat)) : Int), d] := by
    unfold enD
    simp
  rw [e]
  exact need_loop c 0 1 _ _ g.ok (by omega) (by rw [Int.one_mul]; exact g.bt) fun s2 s3 => ⟨hd_d, h⟩
theorem bot_loop {C : D} {E : DE} : ∀ (c : List Sp) (p : Int) (s2 : Sl), (∀ s ∈ c, OkS s) → (∀ s2, E.nx [.im C, .im (.int (p * bot c)), s2]) →
    forL (gN 2) (sAug 1 gImul (hV (d2 gIx (hS 2) (hV (dC (.int 1)))))) E (c.map Sp.d) [.im C, .im (.int p), s2]
  | [], p, s2, _, h => by
    have := h s2
    rw [show p * bot [] = p from Int.mul_one p] at this
    exact this
  | s :: c, p, s2, o, h => by
    have os := o s (List.mem_cons_self ..)
    have sb := os.b0
    have sb1 := os.b1
    have e : p * bot (s :: c) = p * s.b * bot c := (Int.mul_assoc ..).symm
    rw [e] at h
    refine ⟨trivial, trivial, _, rfl, .inr (small (by omega) (by omega)), ?_⟩
    exact bot_loop c _ _ (fun x hx => o x (List.mem_cons_of_mem _ hx)) h
theorem d_bottom {c : List Sp} {m : Nat} {P : D → Nat → Prop} (g : GC c) (h : P (.int (bot c)) 0) : r__bottom [.d (chD c)] m P := by
  show forL _ _ _ (c.map Sp.d) [.im (chD c), .im (.int 1), .no]
  refine bot_loop c 1 _ g.ok fun s2 => ?_
  rw [Int.one_mul]
  exact ⟨hd_d, h⟩
theorem top_loop {C : D} {E : DE} {s3 s4 : Sl} : ∀ (c : List Sp) (p : Int) (s2 : Sl), (∀ s ∈ c, OkS s) → (∀ s2, E.nx [.im C, .im (.int (p * top c)), s2, s3, s4]) →
    forL (gN 2) (sAug 1 gImul (hV (d2 gIx (hS 2) (hV (dC (.int 0)))))) E (c.map Sp.d) [.im C, .im (.int p), s2, s3, s4]
  | [], p, s2, _, h => by
    have := h s2
    rw [show p * top [] = p from Int.mul_one p] at this
    exact this
  | s :: c, p, s2, o, h => by
    have os := o s (List.mem_cons_self ..)
    have sb := os.t0
    have sb1 := os.t1
    have e : p * top (s :: c) = p * s.t * top c := (Int.mul_assoc ..).symm
    rw [e] at h
    refine ⟨trivial, trivial, _, rfl, .inr (small (by omega) (by omega)), ?_⟩
    exact top_loop c _ _ (fun x hx => o x (List.mem_cons_of_mem _ hx)) h
theorem okI (i : Int) : okD (.int i) := rfl
theorem okR (r : Ro) : okD (.str (rdS r)) := by
  show SeqAt.shaped _ = true
  cases r <;> decide +kernel
theorem o_up : okD (.str ("up" : Str)) := by show SeqAt.shaped _ = true; decide +kernel
theorem o_dn : okD (.str ("down" : Str)) := by show SeqAt.shaped _ = true; decide +kernel
theorem o_nr : okD (.str ("near" : Str)) := by show SeqAt.shaped _ = true; decide +kernel
theorem e_up (r : Ro) : PyData.eqv (.str (rdS r)) (.str ("up" : Str)) = (match r with | .up => true | _ => false) := by cases r <;> decide +kernel
theorem e_dn (r : Ro) : PyData.eqv (.str (rdS r)) (.str ("down" : Str)) = (match r with | .dn => true | _ => false) := by cases r <;> decide +kernel
theorem e_nr (r : Ro) : PyData.eqv (.str (rdS r)) (.str ("near" : Str)) = (match r with | .nr => true | _ => false) := by cases r <;> decide +kernel
theorem d_quot {n b : Int} {r : Ro} {m : Nat} {P : D → Nat → Prop} (b0 : 1 ≤ b) (b1 : b ≤ 2000) (h : P (.int (q1 r n b)) 0) : r__quotient [.d (.int n), .d (.int b), .d (.str (rdS r))] m P := by
  have e1 := e_up r
  have e2 := e_nr r
  have l1 : -18446744073709551616 < b := by omega
  refine ⟨trivial, okR r, o_up, ?_⟩
  rw [e1]
  cases r with
  | up => exact ⟨trivial, ⟨by omega, by omega⟩, hd_d, h⟩
  | dn =>
    refine ⟨trivial, okR .dn, o_nr, ?_⟩
    rw [e2]
    exact ⟨trivial, trivial, ⟨by omega, by omega⟩, hd_d, h⟩
  | nr =>
    refine ⟨trivial, okR .nr, o_nr, ?_⟩
    rw [e2]
    refine ⟨trivial, .inl (small (by omega) (by omega)), trivial, trivial, .inl (small (by omega) (by omega)), ⟨by omega, by omega⟩, hd_d, h⟩
theorem mv_loop {C : D} {E : DE} : ∀ (c : List Sp) (x : Int) (s2 s3 s4 : Sl), (∀ s ∈ c, OkS s) → (∀ s2 s3 s4, E.nx [.im C, .im (.int (mv c x)), s2, s3, s4]) →
    forL (gTupT 3 (gConsT (gN 2) (gConsT (gN 3) (gConsT (gN 4) (gNoT))))) (sSet 1 (dCall 3 r__quotient (aCons (d2 gMul (hS 1) (hS 2)) (aCons (dV 3) (aCons (dV 4) (aNil)))))) E (c.map Sp.d) [.im C, .im (.int x), s2, s3, s4]
  | [], x, s2, s3, s4, _, h => h s2 s3 s4
  | s :: c, x, s2, s3, s4, o, h => by
    have os := o s (List.mem_cons_self ..)
    have := os.t0
    have := os.t1
    refine ⟨rfl, rfl, trivial, trivial, .inr (small (by omega) (by omega)), rfl, rfl, d_quot os.b0 os.b1 ?_⟩
    exact mv_loop c _ _ _ _ (fun x hx => o x (List.mem_cons_of_mem _ hx)) h
theorem d__moved {c : List Sp} {x : Int} {m : Nat} {P : D → Nat → Prop} (g : GC c) (h : P (.int (mv c x)) 0) : r__moved [.d (chD c), .d (.int x)] m P := by
  show forL _ _ _ (c.map Sp.d) [.im (chD c), .im (.int x), .no, .no, .no]
  exact mv_loop c x _ _ _ g.ok fun s2 s3 s4 => ⟨hd_d, h⟩
theorem d_moved {c : List Sp} {x : Int} {m : Nat} {P : D → Nat → Prop} (g : GC c) (x0 : 0 ≤ x) (x1 : x ≤ 1000000000000) (h : P (.int (mv c x)) 0) : r_moved [.d (chD c), .d (.int x)] m P := by
  refine ⟨rfl, rfl, d_need g ?_⟩
  refine ⟨rfl, rfl, d_is_within x0 x1 ?_⟩
  exact ⟨rfl, rfl, d__moved g ⟨hd_d, h⟩⟩
end Q71
namespace Q71
open PySem L2 DL
abbrev lmBody : SM := sSeq (sSet 5 (d2 gMul (hS 1) (hS 2))) (sSeq (sPar 6 7 (lCons (d2 gDiv (hS 5) (hS 3)) (lCons (d2 gMod (hV (dCB gInt (DL.gCons (hS 5) (DL.gNil)))) (hS 3)) (lNil)))) (sIf (bD (d2 gEq (hS 4) (hV (dC (.str ("down" : Str)))))) (sSet 1 (dV 6)) (sIf (bD (d2 gEq (hS 4) (hV (dC (.str ("up" : Str)))))) (sSet 1 (d2 gAdd (hS 6) (hV (dCB gInt (DL.gCons (hV (d2 gGt (hS 7) (hV (dC (.int 0))))) (DL.gNil)))))) (sSet 1 (d2 gAdd (hS 6) (hV (dCB gInt (DL.gCons (hV (d2 gGe (hV (d2 gMul (hV (dC (.int 2))) (hS 7))) (hS 3))) (DL.gNil)))))))))
theorem lm_step {C : D} {E : DE} {s : Sp} {x : Int} {s5 s6 s7 : Sl} (os : OkS s) (h : ∀ s5 s6 s7, E.nx [.im C, .im (.int (lq s.r (x * s.t) s.b)), .im (.int s.t), .im (.int s.b), .im (.str (rdS s.r)), s5, s6, s7]) :
    lmBody E [.im C, .im (.int x), .im (.int s.t), .im (.int s.b), .im (.str (rdS s.r)), s5, s6, s7] := by
  have := os.t0
  have := os.t1
  have := os.b0
  have := os.b1
  obtain ⟨t, b, r⟩ := s
  simp only at *
  have e1 := e_up r
  have e2 := e_dn r
  refine ⟨trivial, trivial, .inr (small (by omega) (by omega)), ?_⟩
  refine ⟨trivial, trivial, ⟨by omega, by omega⟩, trivial, trivial, by omega, ?_⟩
  refine ⟨trivial, okR r, o_dn, ?_⟩
  rw [e2]
  cases r with
  | dn => exact h _ _ _
  | up =>
    refine ⟨trivial, okR .up, o_up, ?_⟩
    rw [e1]
    refine ⟨trivial, trivial, ?_⟩
    have h := h (.im (.int (x * t))) (.im (.int (x * t / b))) (.im (.int (x * t % b)))
    show E.nx [_, .im (.int (x * t / b + (if decide (0 < x * t % b) = true then 1 else 0))), _, _, _, _, _, _]
    have e : x * t / b + (if decide (0 < x * t % b) = true then 1 else 0) = lq .up (x * t) b := by
      show _ = x * t / b + (if 0 < x * t % b then 1 else 0)
      simp
    rw [e]
    exact h
  | nr =>
    refine ⟨trivial, okR .nr, o_up, ?_⟩
    rw [e1]
    refine ⟨trivial, trivial, .inl (small (by omega) (by omega)), trivial, ?_⟩
    have h := h (.im (.int (x * t))) (.im (.int (x * t / b))) (.im (.int (x * t % b)))
    show E.nx [_, .im (.int (x * t / b + (if decide (b ≤ 2 * (x * t % b)) = true then 1 else 0))), _, _, _, _, _, _]
    have e : x * t / b + (if decide (b ≤ 2 * (x * t % b)) = true then 1 else 0) = lq .nr (x * t) b := by
      show _ = x * t / b + (if b ≤ 2 * (x * t % b) then 1 else 0)
      simp
    rw [e]
    exact h
theorem lm_loop {C : D} {E : DE} : ∀ (c : List Sp) (x : Int) (s2 s3 s4 s5 s6 s7 : Sl), (∀ s ∈ c, OkS s) → (∀ s2 s3 s4 s5 s6 s7, E.nx [.im C, .im (.int (mv c x)), s2, s3, s4, s5, s6, s7]) →
    forL (gTupT 3 (gConsT (gN 2) (gConsT (gN 3) (gConsT (gN 4) (gNoT))))) lmBody E (c.map Sp.d) [.im C, .im (.int x), s2, s3, s4, s5, s6, s7]
  | [], x, s2, s3, s4, s5, s6, s7, _, h => h s2 s3 s4 s5 s6 s7
  | s :: c, x, s2, s3, s4, s5, s6, s7, o, h => by
    have os := o s (List.mem_cons_self ..)
    refine ⟨rfl, rfl, lm_step os fun a b d => ?_⟩
    rw [lq_q1 _ _ (by have := os.b0; omega)]
    exact lm_loop c _ _ _ _ _ _ _ (fun x hx => o x (List.mem_cons_of_mem _ hx)) h
theorem d_lmoved {c : List Sp} {x : Int} {m : Nat} {P : D → Nat → Prop} (g : GC c) (h : P (.int (mv c x)) 0) : r__law_moved [.d (chD c), .d (.int x)] m P := by
  show forL _ _ _ (c.map Sp.d) [.im (chD c), .im (.int x), .no, .no, .no, .no, .no, .no]
  exact lm_loop c x _ _ _ _ _ _ g.ok fun s2 s3 s4 s5 s6 s7 => ⟨hd_d, h⟩
theorem lp_loop {C : D} {E : DE} : ∀ (c : List Sp) (p q : Int) (s1 : Sl), (∀ s ∈ c, OkS s) → (∀ s1, E.nx [.im C, s1, .im (.int (p * top c)), .im (.int (q * bot c))]) →
    forL (gN 1) (sPar 2 3 (lCons (d2 gMul (hS 2) (hV (d2 gIx (hS 1) (hV (dC (.int 0)))))) (lCons (d2 gMul (hS 3) (hV (d2 gIx (hS 1) (hV (dC (.int 1)))))) (lNil)))) E (c.map Sp.d) [.im C, s1, .im (.int p), .im (.int q)]
  | [], p, q, s1, _, h => by
    have := h s1
    rw [show p * top [] = p from Int.mul_one p, show q * bot [] = q from Int.mul_one q] at this
    exact this
  | s :: c, p, q, s1, o, h => by
    have os := o s (List.mem_cons_self ..)
    have := os.t0
    have := os.t1
    have := os.b0
    have := os.b1
    have e : p * top (s :: c) = p * s.t * top c := (Int.mul_assoc ..).symm
    have e' : q * bot (s :: c) = q * s.b * bot c := (Int.mul_assoc ..).symm
    rw [e, e'] at h
    refine ⟨trivial, trivial, _, rfl, .inr (small (by omega) (by omega)), trivial, trivial, _, rfl, .inr (small (by omega) (by omega)), ?_⟩
    exact lp_loop c _ _ _ (fun x hx => o x (List.mem_cons_of_mem _ hx)) h
theorem d_prods {c : List Sp} {m : Nat} {P : D → Nat → Prop} (g : GC c) (h : P (.tuple [.int (top c), .int (bot c)]) 0) : r__law_products [.d (chD c)] m P := by
  refine ⟨by show 2 ≤ 1000000; omega, rfl, rfl, ?_⟩
  show forL _ _ _ (c.map Sp.d) [.im (chD c), .no, .im (.int 1), .im (.int 1)]
  refine lp_loop c 1 1 _ g.ok fun s1 => ?_
  rw [Int.one_mul, Int.one_mul]
  exact ⟨by show 2 ≤ 1000000; omega, hd_d, h⟩
theorem d_measure {a b : Nat} {m : Nat} {P : D → Nat → Prop} (h : P (.int ((Nat.gcd a b : Nat) : Int)) 0) : r__law_measure [.d (.int a), .d (.int b)] m P := by
  refine ⟨fun n ρ => ∃ x y : Nat, ρ = [.im (.int x), .im (.int y)] ∧ y = n ∧ Nat.gcd x y = Nat.gcd a b, ⟨b, a, b, rfl, rfl, rfl⟩, ?_⟩
  rintro n ρ ⟨x, y, rfl, rfl, e⟩
  refine ⟨trivial, ?_⟩
  show if decide ((0 : Int) < (y : Int)) = true then _ else _
  by_cases z : 0 < y
  · have z' : decide ((0 : Int) < (y : Int)) = true := by simp; omega
    rw [if_pos z']
    refine ⟨trivial, trivial, by omega, ?_⟩
    refine ⟨x % y, Nat.mod_lt _ z, y, x % y, rfl, rfl, ?_⟩
    rw [← e, Nat.gcd_comm x y, Nat.gcd_rec y x, Nat.gcd_comm]
  · have z' : ¬ decide ((0 : Int) < (y : Int)) = true := by simp; omega
    have y0 : y = 0 := by omega
    subst y0
    rw [if_neg z']
    rw [Nat.gcd_zero_right] at e
    rw [e]
    exact ⟨hd_d, h⟩
theorem d_slope {c : List Sp} {m : Nat} {P : D → Nat → Prop} (g : GC c) (hg : (Nat.gcd (top c).natAbs (bot c).natAbs : Int) < 1073741824) (h : P (.tuple [.int (top c / (Nat.gcd (top c).natAbs (bot c).natAbs : Nat)), .int (bot c / (Nat.gcd (top c).natAbs (bot c).natAbs : Nat))]) 0) : r_slope [.d (chD c)] m P := by
  refine ⟨rfl, rfl, d_need g ?_⟩
  show forL _ _ _ (c.map Sp.d) [.im (chD c), .im (.int 1), .no, .no, .no]
  refine top_loop c 1 _ g.ok fun s2 => ?_
  rw [Int.one_mul]
  refine ⟨rfl, rfl, d_bottom g ?_⟩
  have p : 0 < Nat.gcd (top c).natAbs (bot c).natAbs := Nat.gcd_pos_of_pos_right _ (by have := bot_pos (bot_ok g.ok); omega)
  refine ⟨trivial, trivial, trivial, trivial, ⟨by omega, by omega⟩, trivial, trivial, ⟨by omega, by omega⟩, (by show 2 ≤ 1000000; omega), hd_d, h⟩
end Q71
namespace Q71
open PySem L2 DL
def natD (n : Nat) : D := .int (n : Int)
structure PI (B : Nat) (n k : Nat) (L : List Nat) : Prop where
  n0 : 0 < n
  k2 : 2 ≤ k
  pr : ∀ q ∈ L, Pr q
  mul : prod (L ++ [n]) = B
  sm : ∀ d, 2 ≤ d → d < k → ¬ d ∣ n
  len : L.length + n ≤ B
theorem prod_app (L : List Nat) (n : Nat) : prod (L ++ [n]) = prod L * n := by
  induction L with
  | nil => simp [prod]
  | cons q L ih => show q * prod (L ++ [n]) = q * prod L * n; rw [ih, Nat.mul_assoc]
theorem pi_pr {B n k : Nat} {L : List Nat} (h : PI B n k L) (hd : k ∣ n) : Pr k := by
  refine ⟨h.k2, fun d hdk => ?_⟩
  refine Classical.byContradiction fun q => ?_
  have kpos : 0 < k := by have := h.k2; omega
  have d0 : 0 < d := Nat.pos_of_dvd_of_pos hdk kpos
  have dl := Nat.le_of_dvd kpos hdk
  refine h.sm d ?_ ?_ (Nat.dvd_trans hdk hd)
  · have : d ≠ 1 := fun e => q (.inl e)
    omega
  · have : d ≠ k := fun e => q (.inr e)
    omega
theorem pi_div {B n k : Nat} {L : List Nat} (h : PI B n k L) (hd : k ∣ n) : PI B (n / k) k (L ++ [k]) := by
  have k2 := h.k2
  have n0 := h.n0
  have le := Nat.le_of_dvd n0 hd
  have e : k * (n / k) = n := Nat.mul_div_cancel' hd
  refine ⟨Nat.div_pos le (by omega), k2, fun q hq => ?_, ?_, fun d h2 hk hdn => h.sm d h2 hk (Nat.dvd_trans hdn (Nat.div_dvd_of_dvd hd)), ?_⟩
  · (rcases List.mem_append.mp hq with hq | hq)
    · exact h.pr q hq
    · simp at hq
      rw [hq]
      exact pi_pr h hd
  · have m := h.mul
    rw [prod_app] at m
    rw [prod_app, prod_app, Nat.mul_assoc, e]
    exact m
  · have l := h.len
    (rw [List.length_append, List.length_singleton])
    have : n / k < n := Nat.div_lt_self n0 (by omega)
    omega
theorem pi_next {B n k : Nat} {L : List Nat} (h : PI B n k L) (hd : ¬ k ∣ n) : PI B n (k + 1) L := by
  refine ⟨h.n0, by have := h.k2; omega, h.pr, h.mul, fun d h2 hk => ?_, h.len⟩
  by_cases e : d = k
  · rw [e]
    exact hd
  · exact h.sm d h2 (by omega)
theorem pi_le {B n k : Nat} {L : List Nat} (h : PI B n k L) (hn : 1 < n) : k ≤ n := by
  refine Classical.byContradiction fun q => ?_
  exact h.sm n (by omega) (by omega) (Nat.dvd_refl n)
theorem d_primes {B : Nat} {m : Nat} {P : D → Nat → Prop} (b0 : 0 < B) (b1 : B ≤ 100000) (h : ∀ L : List Nat, (∀ q ∈ L, Pr q) → prod L = B → L.length ≤ B → (∀ q ∈ L, q ≤ 100001) → P (.list (L.map natD)) 0) : r__primes_of [.d (.int B)] m P := by
  refine ⟨by decide, ?_⟩
  refine ⟨fun w ρ => ∃ (n k : Nat) (L : List Nat), ρ = [.im (.int n), .ow (.list (L.map natD)), .im (.int k)] ∧ ((w + k = 2 * n + 2 ∧ k ≤ n + 1) ∨ (n = 1 ∧ w = 0)) ∧ PI B n k L, ⟨2 * B, B, 2, [], rfl, .inl ⟨by omega, by omega⟩, ⟨b0, by omega, (fun _ z => nomatch z), by simp [prod], fun d h2 hk => by omega, by simp⟩⟩, ?_⟩
  rintro w ρ ⟨n, k, L, rfl, hw, pi⟩
  refine ⟨trivial, ?_⟩
  have hl := pi.len
  have hB : n ≤ 100000 := by omega
  show if decide ((1 : Int) < (n : Int)) = true then _ else _
  by_cases z : 1 < n
  · rw [if_pos (by simpa using (show (1 : Int) < n by omega))]
    have le := pi_le pi z
    -- the inner loop
    refine ⟨fun w' ρ => ∃ (n' : Nat) (L : List Nat), ρ = [.im (.int n'), .ow (.list (L.map natD)), .im (.int k)] ∧ w' = n' ∧ n' ≤ n ∧ PI B n' k L, ⟨n, n, L, rfl, rfl, Nat.le_refl n, pi⟩, ?_⟩
    rintro w' ρ ⟨n', L', rfl, ew, hn', pi'⟩
    have hw : w + k = 2 * n + 2 := by omega
    have k2 := pi'.k2
    refine ⟨trivial, trivial, by omega, okI _, okI _, ?_⟩
    have ee : PyData.eqv (.int ((n' : Int) % (k : Int))) (.int 0) = decide (k ∣ n') := by
      have : ((n' : Int) % (k : Int)) = ((n' % k : Nat) : Int) := (Int.natCast_emod ..).symm
      have e9 : ∀ a b : Int, PyData.eqv (.int a) (.int b) = (a == b) := fun a b => by simp [PyData.eqv]
      rw [this, e9]
      by_cases hd : k ∣ n'
      · rw [decide_eq_true hd, Nat.mod_eq_zero_of_dvd hd]
        rfl
      · rw [decide_eq_false hd]
        have ne : n' % k ≠ 0 := fun e => hd (Nat.dvd_of_mod_eq_zero e)
        (exact beq_eq_false_iff_ne.mpr (by omega))
    rw [ee]
    show if decide (k ∣ n') = true then _ else _
    by_cases hd : k ∣ n'
    · rw [if_pos (by simpa using hd)]
      have pd := pi_div pi' hd
      have lt : n' / k < n' := Nat.div_lt_self pi'.n0 (by omega)
      have ll := pi'.len
      refine ⟨trivial, by rw [List.length_map]; omega, trivial, trivial, ⟨by omega, by omega⟩, n' / k, by omega, n' / k, L' ++ [k], ?_, rfl, by omega, pd⟩
      show [Sl.im (.int ((n' : Int) / (k : Int))), Sl.ow (.list (L'.map natD ++ [.int (k : Int)])), Sl.im (.int k)] = _
      rw [List.map_append]
      have : ((n' : Int) / (k : Int)) = ((n' / k : Nat) : Int) := (Int.natCast_ediv ..).symm
      rw [this]
      rfl
    · rw [if_neg (by simpa using hd)]
      have pn := pi_next pi' hd
      refine ⟨trivial, ?_⟩
      by_cases o : 1 < n'
      · have := pi_le pi' o
        exact ⟨2 * n' + 2 - (k + 1), by omega, n', k + 1, L', by simp, .inl ⟨by omega, by omega⟩, pn⟩
      · have := pi'.n0
        exact ⟨0, by omega, n', k + 1, L', by simp, .inr ⟨by omega, rfl⟩, pn⟩
  · rw [if_neg (by simpa using (show ¬ (1 : Int) < n by omega))]
    have n1 : n = 1 := by have := pi.n0; omega
    subst n1
    have m := pi.mul
    rw [prod_app, Nat.mul_one] at m
    refine ⟨hd_d, h L pi.pr m (by omega) fun q hq => ?_⟩
    have hqB : q ∣ B := by
      rw [← m]
      clear h hl hw pi z m
      induction L with
      | nil => cases hq
      | cons x L ih =>
        (rcases List.mem_cons.mp hq with rfl | hq)
        · exact ⟨prod L, rfl⟩
        · exact Nat.dvd_trans (ih hq) ⟨x, by show x * prod L = _; rw [Nat.mul_comm]⟩
    have := Nat.le_of_dvd b0 hqB
    omega
end Q71
namespace Q71
open PySem L2 DL
theorem six_lo {n k : Nat} (h : k ≤ n) : HT.sIx n 0 (some (k : Int)) = k := by
  unfold HT.sIx
  simp
  rw [if_neg (by omega)]
  omega
theorem six_hi {n k : Nat} (h : k ≤ n) : HT.sIx n n (some (k : Int)) = k := by
  unfold HT.sIx
  simp
  rw [if_neg (by omega)]
  omega
theorem cut_lo {l : List D} {k : Nat} (h : k ≤ l.length) : cutD l (some (k : Int)) none = l.drop k := by
  unfold cutD
  rw [six_lo h]
  have e2 : HT.sIx l.length l.length none = l.length := rfl
  rw [e2]
  exact List.take_of_length_le (by rw [List.length_drop]; exact Nat.le_refl _)
theorem cut_hi {l : List D} {k : Nat} (h : k ≤ l.length) : cutD l none (some (k : Int)) = l.take k := by
  unfold cutD
  rw [six_hi h]
  have e2 : HT.sIx l.length 0 none = 0 := rfl
  rw [e2]
  rfl
theorem atI_nat {l : List D} {i : Nat} {d : D} (h : l[i]? = some d) : atI l (i : Int) = some d := by
  have hi : i < l.length := (List.getElem?_eq_some_iff.mp h).1
  unfold atI ixN
  (rw [if_pos (by omega), if_pos (by omega)])
  exact h
theorem eqv_iLs : ∀ xs ys : List Int, PyData.eqvAll (xs.map PyData.int) (ys.map PyData.int) = decide (xs = ys)
  | [], [] => rfl
  | [], _ :: _ => (by simp [PyData.eqvAll])
  | _ :: _, [] => (by simp [PyData.eqvAll])
  | x :: xs, y :: ys => by
    simp only [List.map_cons, PyData.eqvAll, PyData.eqv, eqv_iLs xs ys]
    by_cases h : x = y <;> by_cases h2 : xs = ys <;> simp [h, h2]
theorem eqv_il (xs ys : List Int) : PyData.eqv (.list (xs.map PyData.int)) (.list (ys.map PyData.int)) = decide (xs = ys) := by
  rw [← eqv_iLs xs ys]
  simp [PyData.eqv]
def iL (f : Nat → Int) (n : Nat) : List Int := (List.range n).map f
theorem iL_len (f : Nat → Int) (n : Nat) : (iL f n).length = n := by simp [iL]
theorem iL_get {f : Nat → Int} {n i : Nat} (h : i < n) : (iL f n)[i]? = some (f i) := by
  unfold iL
  rw [List.getElem?_map, List.getElem?_range h]
  rfl
theorem rot_eq {r : Nat → Int} {B m : Nat} (hm : m ≤ B) : ((iL r B).drop m ++ (iL r B).take m = iL r B) ↔ ∀ i, i < B → r (if i + m < B then i + m else i + m - B) = r i := by
  have g : ∀ i, i < B → ((iL r B).drop m ++ (iL r B).take m)[i]? = some (r (if i + m < B then i + m else i + m - B)) := by
    intro i hi
    by_cases z : i + m < B
    · rw [if_pos z, List.getElem?_append_left (by rw [List.length_drop, iL_len]; omega), List.getElem?_drop, Nat.add_comm m i]
      exact iL_get z
    · rw [if_neg z, List.getElem?_append_right (by rw [List.length_drop, iL_len]; omega), List.length_drop, iL_len, List.getElem?_take_of_lt (by omega)]
      have e : i - (B - m) = i + m - B := by omega
      rw [e]
      exact iL_get (by omega)
  constructor
  · intro h i hi
    have := g i hi
    rw [h, iL_get hi] at this
    (exact (Option.some.inj this).symm)
  · intro h
    refine List.ext_getElem? fun i => ?_
    by_cases hi : i < B
    · rw [g i hi, h i hi, iL_get hi]
    · rw [List.getElem?_eq_none (by rw [List.length_append, List.length_drop, List.length_take, iL_len]; omega), List.getElem?_eq_none (by rw [iL_len]; omega)]
theorem d_again {r : Nat → Int} {B k : Nat} (hm : k ≤ B) (hB : B ≤ 100000) {m : Nat} {P : D → Nat → Prop} (h1 : (∀ i, i < B → r (if i + k < B then i + k else i + k - B) = r i) → P (.bool true) 0) (h2 : ¬ (∀ i, i < B → r (if i + k < B then i + k else i + k - B) = r i) → P (.bool false) 0) :
    r__comes_again [.d (.list ((iL r B).map PyData.int)), .d (.int k)] m P := by
  have l1 := cut_lo (l := (iL r B).map PyData.int) (k := k) (by rw [List.length_map, iL_len]; exact hm)
  have l2 := cut_hi (l := (iL r B).map PyData.int) (k := k) (by rw [List.length_map, iL_len]; exact hm)
  refine ⟨trivial, trivial, ?_⟩
  show (cutD ((iL r B).map PyData.int) (some (k : Int)) none).length + (cutD ((iL r B).map PyData.int) none (some (k : Int))).length ≤ 1000000 ∧ _
  rw [l1, l2]
  refine ⟨by rw [List.length_drop, List.length_take, List.length_map, iL_len]; omega, trivial, ?_⟩
  have e : (((iL r B).map PyData.int).drop k ++ ((iL r B).map PyData.int).take k) = ((iL r B).drop k ++ (iL r B).take k).map PyData.int := by
    rw [List.map_append, List.map_drop, List.map_take]
  rw [e]
  refine ⟨okD_ints _, okD_ints _, ?_⟩
  rw [eqv_il]
  by_cases z : (iL r B).drop k ++ (iL r B).take k = iL r B
  · rw [decide_eq_true z]
    exact ⟨hd_d, h1 ((rot_eq hm).mp z)⟩
  · rw [decide_eq_false z]
    exact ⟨hd_d, h2 fun q => z ((rot_eq hm).mpr q)⟩
def fn (c : List Sp) : Nat → Int := fun x => mv c (x : Int)
def bn (c : List Sp) : Nat := (bot c).toNat
structure GP (c : List Sp) (p : Nat) : Prop where
  g : GC c
  l : Lst (fn c) p
theorem bn_eq {c : List Sp} (g : GC c) : bot c = (bn c : Int) ∧ 0 < bn c ∧ bn c ≤ 100000 := by
  have h1 := bot_pos (bot_ok g.ok)
  have h2 := g.bt
  unfold bn
  omega
theorem fn_zero {c : List Sp} (g : GC c) : fn c 0 = 0 := mv_zero (bot_ok g.ok)
theorem fn_add {c : List Sp} (g : GC c) (x : Nat) : fn c (x + bn c) = fn c x + top c := by
  have h := mv_add (bot_ok g.ok) (x : Int) 1
  rw [Int.mul_one, Int.mul_one, (bn_eq g).1] at h
  show mv c ((x + bn c : Nat) : Int) = mv c (x : Int) + top c
  rw [Int.natCast_add]
  exact h
theorem fn_bn {c : List Sp} (g : GC c) : fn c (bn c) = top c := by
  have := fn_add g 0
  rw [Nat.zero_add, fn_zero g] at this
  omega
theorem per_bn {c : List Sp} (g : GC c) : Per (fn c) (bn c) := fun x => by rw [fn_add g x, fn_bn g]
theorem ex_gp {c : List Sp} (g : GC c) : ∃ p, GP c p := by
  obtain ⟨p, hp⟩ := ex_lst (fn_zero g) (bn_eq g).2.1 (per_bn g)
  exact ⟨p, g, hp⟩
theorem gp_le {c : List Sp} {p : Nat} (h : GP c p) : p ∣ bn c ∧ p ≤ bn c := by
  have d := (h.l.iff _).mp (per_bn h.g)
  exact ⟨d, Nat.le_of_dvd (bn_eq h.g).2.1 d⟩
theorem rg_nat (n : Nat) : rgD 0 (n : Int) = (List.range n).map natD := by
  unfold rgD natD
  simp
def rise (f : Nat → Int) (i : Nat) : Int := f (i + 1) - f i
theorem per_loop {C F R : D} {c : List Sp} {p : Nat} (gp : GP c p) {E : DE} (eR : R = .list ((iL (rise (fn c)) (bn c)).map PyData.int)) : ∀ (L : List Nat) (k : Nat) (s4 s5 s6 s7 : Sl), (∀ q ∈ L, 0 < q ∧ q ≤ 100001) → k ≤ bn c → (∀ s4, E.nx [.im C, .im (.int (parted p L k)), .im F, .im R, s4, s5, s6, s7]) →
    forL (gN 4) (sIf (bTruth (hV (dCall 2 r__comes_again (aCons (dV 3) (aCons (d2 gDiv (hS 1) (hS 4)) (aNil)))))) (sAug 1 gIdiv (hS 4)) (sNo)) E (L.map natD) [.im C, .im (.int k), .im F, .im R, s4, s5, s6, s7]
  | [], k, s4, s5, s6, s7, _, _, h => h s4
  | q :: L, k, s4, s5, s6, s7, hq, hk, h => by
    obtain ⟨q0, q1⟩ := hq q (List.mem_cons_self ..)
    have hq' : ∀ x ∈ L, 0 < x ∧ x ≤ 100001 := fun x hx => hq x (List.mem_cons_of_mem _ hx)
    have ed : ((k : Int) / (q : Int)) = ((k / q : Nat) : Int) := (Int.natCast_ediv ..).symm
    have le : k / q ≤ k := Nat.div_le_self k q
    have b := bn_eq gp.g
    refine ⟨trivial, trivial, ⟨by omega, by omega⟩, rfl, rfl, ?_⟩
    rw [ed, eR]
    have iff := per_rot (f := fn c) (B := bn c) (m := k / q) b.2.1 (fn_add gp.g) (by omega) (fn_zero gp.g)
    refine d_again (r := rise (fn c)) (by omega) (by omega) (fun z => ?_) fun z => ?_
    · have dv := (gp.l.iff _).mp (iff.mp z)
      have e : parted p (q :: L) k = parted p L (k / q) := by
        show parted p L (if p ∣ k / q then k / q else k) = _
        rw [if_pos dv]
      rw [e] at h
      refine ⟨trivial, trivial, ⟨by omega, by omega⟩, ?_⟩
      rw [ed, ← eR]
      exact per_loop gp eR L (k / q) _ _ _ _ hq' (by omega) h
    · have dv : ¬ p ∣ k / q := fun y => z (iff.mpr ((gp.l.iff _).mpr y))
      have e : parted p (q :: L) k = parted p L k := by
        show parted p L (if p ∣ k / q then k / q else k) = _
        rw [if_neg dv]
      rw [e] at h
      rw [← eR]
      exact per_loop gp eR L k _ _ _ _ hq' hk h
def mvI (c : List Sp) : D → D
  | .int i => .int (mv c i)
  | _ => .none
def pairT (p : D × D) : D := .tuple [p.1, p.2]
theorem zip_tail (l : List D) : zipD l (cutD l (some 1) none) = (l.zip l.tail).map pairT := by
  have e : cutD l (some 1) none = l.tail := by
    cases l with
    | nil => rfl
    | cons b r =>
      unfold cutD
      have e1 : HT.sIx (b :: r).length 0 (some 1) = 1 := by
        unfold HT.sIx
        simp
      have e2 : HT.sIx (b :: r).length (b :: r).length none = (b :: r).length := rfl
      rw [e1, e2]
      simp
  rw [e]
  unfold zipD
  rw [List.zip, List.map_zipWith]
  rfl
theorem zip_iL (f : Nat → Int) (n : Nat) : ((iL f (n + 1)).map PyData.int).zip ((iL f (n + 1)).map PyData.int).tail = (List.range n).map fun i => (PyData.int (f i), PyData.int (f (i + 1))) := by
  refine List.ext_getElem? fun i => ?_
  by_cases hi : i < n
  · rw [List.getElem?_map, List.getElem?_range hi]
    have h1 : ((iL f (n + 1)).map PyData.int)[i]? = some (PyData.int (f i)) := by
      rw [List.getElem?_map, iL_get (by omega)]
      rfl
    have h2 : ((iL f (n + 1)).map PyData.int).tail[i]? = some (PyData.int (f (i + 1))) := by
      rw [List.getElem?_tail, List.getElem?_map, iL_get (by omega)]
      rfl
    unfold List.zip
    rw [List.getElem?_zipWith, h1, h2]
    rfl
  · rw [List.getElem?_eq_none (by rw [List.length_zip, List.length_tail, List.length_map, iL_len]; omega), List.getElem?_eq_none (by simp; omega)]
def subP : D → D
  | .tuple [.int a, .int b] => .int (b - a)
  | _ => .none
theorem d_period {c : List Sp} {p : Nat} (gp : GP c p) {m : Nat} {P : D → Nat → Prop} (h : P (.tuple [.int p, .int (fn c p)]) 0) : r_period [.d (chD c)] m P := by
  have b := bn_eq gp.g
  have pl := gp_le gp
  refine ⟨rfl, rfl, d_need gp.g ?_⟩
  refine ⟨rfl, rfl, d_bottom gp.g ?_⟩
  rw [b.1]
  refine ⟨trivial, ⟨by omega, by omega⟩, ?_⟩
  have ec : ((bn c : Int) + 1) = ((bn c + 1 : Nat) : Int) := by omega
  rw [ec, rg_nat]
  refine ⟨by simp; omega, ⟨by simp, fun j hj => by simp at hj; subst hj; rfl⟩, ?_⟩
  refine lcL_map (ρ := [.im (chD c), .im (.int (bn c)), .no, .no, .no, .no, .no, .no]) (mvI c) _ [] ?_ ?_
  · intro d hd Q hQ
    obtain ⟨i, hi, rfl⟩ := List.mem_map.mp hd
    exact ⟨rfl, rfl, d__moved gp.g (hQ _ rfl)⟩
  · have ef : ([] : List D) ++ ((List.range (bn c + 1)).map natD).map (mvI c) = (iL (fn c) (bn c + 1)).map PyData.int := by
      rw [List.nil_append, List.map_map]
      unfold iL
      rw [List.map_map]
      rfl
    rw [ef]
    refine ⟨trivial, ?_⟩
    show (zipD ((iL (fn c) (bn c + 1)).map PyData.int) (cutD ((iL (fn c) (bn c + 1)).map PyData.int) (some 1) none)).length ≤ 1000000 ∧ _
    rw [zip_tail, zip_iL]
    refine ⟨by simp; omega, ⟨by simp, fun j hj => by simp at hj; rcases hj with rfl | rfl <;> rfl⟩, ?_⟩
    refine lcL_map (ρ := [.im (chD c), .im (.int (bn c)), .im (.list ((iL (fn c) (bn c + 1)).map PyData.int)), .no, .no, .no, .no, .no]) subP _ [] ?_ ?_
    · intro d hd Q hQ
      (obtain ⟨q, hq, rfl⟩ := List.mem_map.mp hd)
      obtain ⟨i, hi, rfl⟩ := List.mem_map.mp hq
      exact ⟨rfl, rfl, trivial, trivial, hQ _ rfl⟩
    · have er : ([] : List D) ++ (((List.range (bn c)).map fun i => (PyData.int (fn c i), PyData.int (fn c (i + 1)))).map pairT).map subP = (iL (rise (fn c)) (bn c)).map PyData.int := by
        rw [List.nil_append, List.map_map, List.map_map]
        unfold iL
        rw [List.map_map]
        rfl
      rw [er]
      refine ⟨rfl, rfl, d_primes b.2.1 b.2.2 fun L lp lm ll lq => ?_⟩
      refine per_loop gp rfl L (bn c) _ _ _ _ (fun q hq => ⟨by have := (lp q hq).1; omega, lq q hq⟩) (Nat.le_refl _) fun s4 => ?_
      have ep : parted p L (bn c) = p := by
        obtain ⟨k, hk⟩ := pl.1
        have k0 : 0 < k := by
          refine Nat.pos_of_ne_zero fun z => ?_
          rw [z, Nat.mul_zero] at hk
          omega
        rw [hk]
        refine parted_eq gp.l.pos L k k0 lp ?_ ?_
        · rw [lm, hk]
          exact ⟨p, Nat.mul_comm ..⟩
        · rw [lm, hk]
          exact Nat.dvd_refl _
      rw [ep]
      refine ⟨trivial, trivial, _, atI_nat (i := p) (d := .int (fn c p)) ?_, (by show 2 ≤ 1000000; omega), hd_d, h⟩
      rw [List.getElem?_map, iL_get (by omega)]
      rfl
end Q71
namespace Q71
open PySem L2 DL
theorem d_rise {f : Nat → Int} {N a b : Nat} (h : a + b < N) {m : Nat} {P : D → Nat → Prop} (hp : P (.int (f (a + b) - f a)) 0) : r__law_rise [.d (.list ((iL f N).map PyData.int)), .d (.int a), .d (.int b)] m P := by
  have e : ((a : Int) + (b : Int)) = ((a + b : Nat) : Int) := by omega
  have g : ∀ i, i < N → ((iL f N).map PyData.int)[i]? = some (.int (f i)) := fun i hi => by
    rw [List.getElem?_map, iL_get hi]
    rfl
  refine ⟨trivial, trivial, trivial, ?_⟩
  show ∃ d, atI ((iL f N).map PyData.int) ((a : Int) + (b : Int)) = some d ∧ _
  rw [e]
  exact ⟨_, atI_nat (g _ h), trivial, trivial, _, atI_nat (g _ (by omega)), hd_d, hp⟩
theorem eqi (a b : Int) : PyData.eqv (.int a) (.int b) = decide (a = b) := by
  by_cases h : a = b
  · simp [PyData.eqv, h]
  · simp [PyData.eqv, h]
abbrev yrBody : SM := sSeq (sSet 5 (d2 DL.gSub (hV (d2 gIx (hS 1) (hS 2))) (hV (d2 gIx (hS 1) (hV (dC (.int 0))))))) (sIf (bD (d2 gEq (hV (d2 gMul (hS 5) (hS 4))) (hV (d2 gMul (hS 2) (hS 3))))) (sSeq (sSet 6 (dC (.int 0))) (sSeq (sWhile (bAnd (bD (d2 gLt (hS 6) (hS 4))) (bD (d2 gEq (hV (dCall 3 r__law_rise (aCons (dV 1) (aCons (dV 6) (aCons (dV 2) (aNil)))))) (hS 5)))) (sSet 6 (d2 gAdd (hS 6) (hV (dC (.int 1)))))) (sIf (bD (d2 gEq (hS 6) (hS 4))) (sRet (dTup (lCons (dV 2) (lCons (dV 5) (lNil))))) (sNo)))) (sNo))
theorem lper_loop {C : D} {c : List Sp} {p : Nat} (gp : GP c p) (hb : bn c ≤ 2000) {E : DE} (hr : ∀ s5 s6, E.rt (.tuple [.int p, .int (fn c p)]) [.im C, .im (.list ((iL (fn c) (3 * bn c + 1)).map PyData.int)), .im (.int p), .im (.int (top c)), .im (.int (bn c)), s5, s6]) : ∀ (n k : Nat) (s2 s5 s6 : Sl), 1 ≤ k → k ≤ p → p < k + n →  k + n = bn c + 1 →
    forL (gN 2) yrBody E ((List.range' k n).map natD) [.im C, .im (.list ((iL (fn c) (3 * bn c + 1)).map PyData.int)), s2, .im (.int (top c)), .im (.int (bn c)), s5, s6]
  | 0, k, s2, s5, s6, h1, h2, h3, h4 => by omega
  | n + 1, k, s2, s5, s6, h1, h2, h3, h4 => by
    have b := bn_eq gp.g
    have z0 := fn_zero gp.g
    have g : ∀ i, i < 3 * bn c + 1 → ((iL (fn c) (3 * bn c + 1)).map PyData.int)[i]? = some (.int (fn c i)) := fun i hi => by
      rw [List.getElem?_map, iL_get hi]
      rfl
    have ih := fun s2 s5 s6 => lper_loop gp hb hr n (k + 1) s2 s5 s6
    rw [List.range'_succ, List.map_cons]
    refine ⟨trivial, trivial, _, atI_nat (g k (by omega)), trivial, _, atI_nat (i := 0) (g 0 (by omega)), ?_⟩
    have es : fn c k - fn c 0 = fn c k := by omega
    have next : k < p → ∀ s5 s6, forL (gN 2) yrBody E ((List.range' (k + 1) n).map natD) [.im C, .im (.list ((iL (fn c) (3 * bn c + 1)).map PyData.int)), .im (.int k), .im (.int (top c)), .im (.int (bn c)), s5, s6] := fun lt s5 s6 => ih _ s5 s6 (by omega) (by omega) (by omega) (by omega)
    refine ⟨trivial, trivial, .inr (small (by omega) (by omega)), trivial, trivial, .inl (small (by omega) (by omega)), okI _, okI _, ?_⟩
    rw [es, eqi]
    by_cases q : fn c k * (bn c : Int) = (k : Int) * top c
    · rw [decide_eq_true q]
      refine ⟨fun w ρ => ∃ fr : Nat, ρ = [.im C, .im (.list ((iL (fn c) (3 * bn c + 1)).map PyData.int)), .im (.int k), .im (.int (top c)), .im (.int (bn c)), .im (.int (fn c k)), .im (.int fr)] ∧ w + fr = bn c ∧ ∀ x, x < fr → fn c (x + k) = fn c x + fn c k, ⟨bn c, 0, rfl, rfl, fun x hx => by omega⟩, ?_⟩
      rintro w ρ ⟨fr, rfl, hw, hx⟩
      refine ⟨trivial, trivial, ?_⟩
      have stop : ∀ fr : Nat, fr < bn c → fn c (fr + k) ≠ fn c fr + fn c k → sIf (bD (d2 gEq (hS 6) (hS 4))) (sRet (dTup (lCons (dV 2) (lCons (dV 5) (lNil))))) (sNo) { E with nx := forL (gN 2) yrBody E ((List.range' (k + 1) n).map natD) } [.im C, .im (.list ((iL (fn c) (3 * bn c + 1)).map PyData.int)), .im (.int k), .im (.int (top c)), .im (.int (bn c)), .im (.int (fn c k)), .im (.int fr)] := by
        intro fr hf ne
        refine ⟨trivial, trivial, okI _, okI _, ?_⟩
        rw [eqi, decide_eq_false (by omega)]
        refine next ?_ _ _
        refine Nat.lt_of_le_of_ne h2 fun e => ?_
        subst e
        exact ne (gp.l.per fr)
      by_cases hf : fr < bn c
      · show if decide ((fr : Int) < (bn c : Int)) = true then _ else _
        rw [if_pos (by simpa using hf)]
        refine ⟨rfl, rfl, d_rise (by omega) ?_⟩
        refine ⟨trivial, okI _, okI _, ?_⟩
        rw [eqi]
        by_cases y : fn c (fr + k) - fn c fr = fn c k
        · rw [decide_eq_true y]
          refine ⟨trivial, w - 1, by omega, fr + 1, rfl, by omega, fun x hx' => ?_⟩
          by_cases e : x = fr
          · subst e
            omega
          · exact hx x (by omega)
        · rw [decide_eq_false y]
          exact stop fr hf (by omega)
      · show if decide ((fr : Int) < (bn c : Int)) = true then _ else _
        rw [if_neg (by simpa using hf)]
        have ef : fr = bn c := by omega
        subst ef
        have pk := (per_round (f := fn c) (m := k) b.2.1 (fn_add gp.g) hx z0).1
        have dv := (gp.l.iff _).mp pk
        have ek : k = p := by
          have := Nat.le_of_dvd (by omega) dv
          omega
        subst ek
        refine ⟨trivial, trivial, okI _, okI _, ?_⟩
        rw [eqi, decide_eq_true rfl]
        exact ⟨(by show 2 ≤ 1000000; omega), hr _ _⟩
    · rw [decide_eq_false q]
      refine next ?_ _ _
      refine Nat.lt_of_le_of_ne h2 fun e => ?_
      subst e
      refine q ?_
      -- both are the way of so many rounds
      have v1 := per_val z0 gp.l.per (bn c)
      have v2 := per_val z0 (per_bn gp.g) k
      rw [fn_bn gp.g, Nat.mul_comm] at v2
      rw [v2] at v1
      rw [Int.mul_comm (fn c k)]
      omega
theorem d_lperiod {c : List Sp} {p : Nat} (gp : GP c p) (hb : bn c ≤ 2000) {m : Nat} {P : D → Nat → Prop} (h : P (.tuple [.int p, .int (fn c p)]) 0) : r__law_period [.d (chD c)] m P := by
  have b := bn_eq gp.g
  have pl := gp_le gp
  refine ⟨rfl, rfl, d_prods gp.g ?_⟩
  rw [b.1]
  refine ⟨rfl, rfl, trivial, .inl (small (by omega) (by omega)), ⟨by omega, by omega⟩, ?_⟩
  have ec : (3 * (bn c : Int) + 1) = ((3 * bn c + 1 : Nat) : Int) := by omega
  rw [ec, rg_nat]
  refine ⟨by simp; omega, ⟨by simp, fun j hj => by simp at hj; subst hj; rfl⟩, ?_⟩
  refine lcL_map (ρ := [.im (chD c), .no, .no, .im (.int (top c)), .im (.int (bn c)), .no, .no]) (mvI c) _ [] ?_ ?_
  · intro d hd Q hQ
    obtain ⟨i, hi, rfl⟩ := List.mem_map.mp hd
    exact ⟨rfl, rfl, d_lmoved gp.g (hQ _ rfl)⟩
  · have ef : ([] : List D) ++ ((List.range (3 * bn c + 1)).map natD).map (mvI c) = (iL (fn c) (3 * bn c + 1)).map PyData.int := by
      rw [List.nil_append, List.map_map]
      unfold iL
      rw [List.map_map]
      rfl
    rw [ef]
    refine ⟨trivial, ⟨by omega, by omega⟩, ?_⟩
    have er : rgD 1 ((bn c : Int) + 1) = (List.range' 1 (bn c)).map natD := by
      unfold rgD
      rw [List.range'_eq_map_range, List.map_map]
      have : ((bn c : Int) + 1 - 1).toNat = bn c := by omega
      rw [this]
      (refine List.map_congr_left fun i _ => ?_)
      show PyData.int (1 + (i : Int)) = PyData.int ((1 + i : Nat) : Int)
      rw [Int.natCast_add]
      rfl
    rw [er]
    refine lper_loop gp hb ?_ (bn c) 1 _ _ _ (by omega) gp.l.pos (by omega) (by omega)
    exact fun s5 s6 => ⟨hd_d, h⟩
end Q71
namespace Q71
open PySem L2 DL
theorem d_of {ds : List D} {m : Nat} {P : D → Nat → Prop} (hm : m < 1048576) (hl : 0 < ds.length) (hb : ds.length < 1000) (h : ∀ d ∈ ds, P d (m + 1)) : r__law_of [.ora, .d (.list ds)] m P := by
  refine ⟨trivial, trivial, trivial, rfl, rfl, rfl, (ds.length : Int), rfl, by omega, by omega, hm, fun i h0 h1 => ?_⟩
  have hi : i.toNat < ds.length := by omega
  refine ⟨ds[i.toNat], ?_, ?_⟩
  · unfold atI ixN
    rw [if_pos h0, if_pos h1]
    show ds[i.toNat]? = _
    rw [List.getElem?_eq_getElem hi]
  · exact h _ (List.getElem_mem hi)
theorem bot_snoc (c : List Sp) (s : Sp) : bot (c ++ [s]) = bot c * s.b := by
  induction c with
  | nil => show s.b * 1 = 1 * s.b; omega
  | cons x c ih => show x.b * bot (c ++ [s]) = x.b * bot c * s.b; rw [ih, Int.mul_assoc]
structure Drawn (c : List Sp) : Prop where
  ok : ∀ s ∈ c, OkS s
  bt : bot c ≤ 20000
abbrev chBody : SM := sSeq (sSet 5 (dCallO 0 2 r__law_of (aOra 0 (aCons (dLst (lCons (dTup (lCons (dC (.int 1)) (lCons (dC (.int 1)) (lNil)))) (lCons (dTup (lCons (dC (.int 1)) (lCons (dC (.int 2)) (lNil)))) (lCons (dTup (lCons (dC (.int 2)) (lCons (dC (.int 1)) (lNil)))) (lCons (dTup (lCons (dC (.int 2)) (lCons (dC (.int 3)) (lNil)))) (lCons (dTup (lCons (dC (.int 3)) (lCons (dC (.int 2)) (lNil)))) (lCons (dTup (lCons (dC (.int 4)) (lCons (dC (.int 5)) (lNil)))) (lCons (dTup (lCons (dC (.int 5)) (lCons (dC (.int 4)) (lNil)))) (lCons (dTup (lCons (dC (.int 24)) (lCons (dC (.int 25)) (lNil)))) (lCons (dTup (lCons (dC (.int 25)) (lCons (dC (.int 24)) (lNil)))) (lCons (dTup (lCons (dC (.int 6)) (lCons (dC (.int 4)) (lNil)))) (lCons (dTup (lCons (dC (.int 10)) (lCons (dC (.int 3)) (lNil)))) (lNil))))))))))))) (aNil))))) (sSeq (sSet 5 (dIf (bD (d2 gLe (hV (d2 gMul (hS 4) (hV (d2 gIx (hS 5) (hV (dC (.int 1))))))) (hV (dC (.int 20000))))) (dV 5) (dTup (lCons (d2 gIx (hS 5) (hV (dC (.int 0)))) (lCons (dC (.int 1)) (lNil)))))) (sSeq (sSet 4 (d2 gMul (hS 4) (hV (d2 gIx (hS 5) (hV (dC (.int 1))))))) (sApp 3 (d2 gAdd (hS 5) (hV (dTup (lCons (dCallO 0 2 r__law_of (aOra 0 (aCons (dLst (lCons (dC (.str ("down" : Str))) (lCons (dC (.str ("up" : Str))) (lCons (dC (.str ("near" : Str))) (lNil))))) (aNil)))) (lNil))))))))
theorem ch_step {E : DE} {m : Nat} {M : D} {acc : List Sp} {s2 s5 : Sl} (hm : m < 1040000) (dr : Drawn acc) (la : acc.length < 100) (h : ∀ s m' s5, Drawn (acc ++ [s]) → m' ≤ m + 2 → E.nx [.ora m', .im M, s2, .ow (.list ((acc ++ [s]).map Sp.d)), .im (.int (bot (acc ++ [s]))), s5]) :
    chBody E [.ora m, .im M, s2, .ow (.list (acc.map Sp.d)), .im (.int (bot acc)), s5] := by
  have b1 := bot_pos (bot_ok dr.ok)
  have b2 := dr.bt
  refine ⟨trivial, (by show 2 ≤ 1000000; omega), (by show 2 ≤ 1000000; omega), (by show 2 ≤ 1000000; omega), (by show 2 ≤ 1000000; omega), (by show 2 ≤ 1000000; omega), (by show 2 ≤ 1000000; omega), (by show 2 ≤ 1000000; omega), (by show 2 ≤ 1000000; omega), (by show 2 ≤ 1000000; omega), (by show 2 ≤ 1000000; omega), (by show 2 ≤ 1000000; omega), (by show 11 ≤ 1000000; omega), rfl, rfl, rfl, d_of (by omega) (by show 0 < 11; omega) (by show 11 < 1000; omega) fun y hy => ?_⟩
  obtain ⟨t, b, rfl, t0, t1, b0, b3⟩ : ∃ t b : Int, y = .tuple [.int t, .int b] ∧ 1 ≤ t ∧ t ≤ 50 ∧ 1 ≤ b ∧ b ≤ 50 := by
    simp at hy
    rcases hy with rfl | rfl | rfl | rfl | rfl | rfl | rfl | rfl | rfl | rfl | rfl <;> exact ⟨_, _, rfl, by omega, by omega, by omega, by omega⟩
  have fin : ∀ b' : Int, 1 ≤ b' → b' ≤ 50 → bot acc * b' ≤ 20000 → sSeq (sSet 4 (d2 gMul (hS 4) (hV (d2 gIx (hS 5) (hV (dC (.int 1))))))) (sApp 3 (d2 gAdd (hS 5) (hV (dTup (lCons (dCallO 0 2 r__law_of (aOra 0 (aCons (dLst (lCons (dC (.str ("down" : Str))) (lCons (dC (.str ("up" : Str))) (lCons (dC (.str ("near" : Str))) (lNil))))) (aNil)))) (lNil)))))) E [.ora (m + 1), .im M, s2, .ow (.list (acc.map Sp.d)), .im (.int (bot acc)), .im (.tuple [.int t, .int b'])] := by
    intro b' h0 h1 h2
    refine ⟨trivial, trivial, _, rfl, .inr (small (by omega) (by omega)), ?_⟩
    refine ⟨trivial, trivial, trivial, (by show 3 ≤ 1000000; omega), rfl, rfl, rfl, d_of (by omega) (by show 0 < 3; omega) (by show 3 < 1000; omega) fun y hy => ?_⟩
    obtain ⟨r, rfl⟩ : ∃ r : Ro, y = .str (rdS r) := by
      simp at hy
      rcases hy with rfl | rfl | rfl
      · exact ⟨.dn, rfl⟩
      · exact ⟨.up, rfl⟩
      · exact ⟨.nr, rfl⟩
    refine ⟨(by show 1 ≤ 1000000; omega), (by show 2 + 1 ≤ 1000000; omega), (by rw [List.length_map]; omega), ?_⟩
    have e : bot (acc ++ [⟨t, b', r⟩]) = bot acc * b' := bot_snoc acc ⟨t, b', r⟩
    have := h ⟨t, b', r⟩ (m + 1 + 1) (.im (.tuple [.int t, .int b'])) ⟨fun s hs => ?_, by rw [e]; exact h2⟩ (by omega)
    · rw [List.map_append, e] at this
      exact this
    · rcases List.mem_append.mp hs with hs | hs
      · exact dr.ok s hs
      · simp at hs
        subst hs
        exact ⟨t0, t1, h0, by show b' ≤ 2000; omega⟩
  refine ⟨trivial, trivial, _, rfl, .inr (small (by omega) (by omega)), ?_⟩
  show if decide (bot acc * b ≤ 20000) = true then _ else _
  by_cases z : bot acc * b ≤ 20000
  · rw [if_pos (by simpa using z)]
    exact fin b b0 b3 z
  · rw [if_neg (by simpa using z)]
    exact ⟨trivial, _, rfl, (by show 2 ≤ 1000000; omega), fin 1 (by omega) (by omega) (by omega)⟩
theorem ch_loop {E : DE} {M : D} : ∀ (ks : List D) (m : Nat) (acc : List Sp) (s2 s5 : Sl), m + 2 * ks.length < 1040000 → acc.length + ks.length < 100 → Drawn acc →
    (∀ c m' s2 s4 s5, Drawn c → c.length = acc.length + ks.length → m' ≤ m + 2 * ks.length → E.nx [.ora m', .im M, s2, .ow (.list (c.map Sp.d)), s4, s5]) →
    forL (gN 2) chBody E ks [.ora m, .im M, s2, .ow (.list (acc.map Sp.d)), .im (.int (bot acc)), s5]
  | [], m, acc, s2, s5, _, _, dr, h => h acc m _ _ _ dr rfl (Nat.le_refl _)
  | d :: ks, m, acc, s2, s5, hm, hl, dr, h => by
    rw [List.length_cons] at hm hl h
    refine ch_step (by omega) dr (by omega) fun s m' s5' dr' hm' => ?_
    refine ch_loop ks m' (acc ++ [s]) _ _ (by omega) (by rw [List.length_append, List.length_singleton]; omega) dr' fun c m2 a b e dc lc h2 => ?_
    rw [List.length_append, List.length_singleton] at lc
    exact h c m2 a b e dc (by omega) (by omega)
theorem d_chain {m : Nat} {P : D → Nat → Prop} (hm : m < 1030000) (h : ∀ c m', GC c → bn c ≤ 20000 → m' ≤ m + 20 → P (chD c) m') : r__law_chain [.ora, .d (.int 4)] m P := by
  refine ⟨(by show 0 ≤ 1000000; omega), ?_⟩
  refine ⟨trivial, trivial, rfl, rfl, rfl, 5, rfl, by omega, by omega, by omega, fun j j0 j1 => ?_⟩
  refine ⟨⟨by omega, by omega⟩, ?_⟩
  have hj : (rgD 0 j).length = j.toNat := by simp [rgD]
  refine ch_loop (rgD 0 j) (m + 1) [] _ _ (by rw [hj]; omega) (by rw [hj]; simp; omega) ⟨(fun _ z => nomatch z), by show (1 : Int) ≤ 20000; omega⟩ ?_
  intro c m2 a b e dc lc h2
  rw [hj] at lc h2
  rw [List.length_nil] at lc
  have bt := dc.bt
  exact ⟨trivial, h c m2 ⟨by omega, dc.ok, by omega⟩ (by unfold bn; omega) (by omega)⟩
end Q71
namespace Q71
open PySem L2 DL
abbrev lawBody : SM := (sSeq (sSet 4 (dCallO 1 2 r__law_chain (aOra 1 (aCons (dC (.int 4)) (aNil))))) (sSeq (sAsg (dCall 1 r__law_products (aCons (dV 4) (aNil))) (gTupT 2 (gConsT (gN 8) (gConsT (gN 9) (gNoT))))) (sSeq (sSet 5 (dCall 2 r__law_measure (aCons (dV 8) (aCons (dV 9) (aNil))))) (sSeq (sIf (bD (d2 gNe (hV (dCall 1 r_slope (aCons (dV 4) (aNil)))) (hV (dTup (lCons (d2 gDiv (hS 8) (hS 5)) (lCons (d2 gDiv (hS 9) (hS 5)) (lNil))))))) (sRet (dC (.bool false))) (sNo)) (sSeq (sFor (iRange1 (lCons (dCB gMin (DL.gCons (hV (d2 gMul (hV (dC (.int 3))) (hS 9))) (DL.gCons (hV (dC (.int 60))) (DL.gNil)))) (lNil))) (gN 6) (sIf (bD (d2 gNe (hV (dCall 2 r_moved (aCons (dV 4) (aCons (dV 6) (aNil))))) (hV (dCall 2 r__law_moved (aCons (dV 4) (aCons (dV 6) (aNil))))))) (sRet (dC (.bool false))) (sNo))) (sSeq (sFor (iRange1 (lCons (dC (.int 4)) (lNil))) (gN 7) (sSeq (sSet 6 (d2 DL.gSub (hV (dCallO 1 2 r__law_of (aOra 1 (aCons (dLst (lCons (d2 gPow (hV (dC (.int 10))) (hV (dC (.int 12)))) (lCons (d2 gPow (hV (dC (.int 10))) (hV (dC (.int 11)))) (lCons (d2 gAdd (hV (d2 gPow (hV (dC (.int 10))) (hV (dC (.int 9))))) (hV (dC (.int 7)))) (lCons (dC (.int 12345678901)) (lNil)))))) (aNil))))) (hV (dCallO 1 2 s_next (aOra 1 (aCons (dC (.int 1000)) (aNil))))))) (sIf (bD (d2 gNe (hV (dCall 2 r_moved (aCons (dV 4) (aCons (dV 6) (aNil))))) (hV (dCall 2 r__law_moved (aCons (dV 4) (aCons (dV 6) (aNil))))))) (sRet (dC (.bool false))) (sNo)))) (sIf (bD (d2 gLt (hS 9) (hV (dC (.int 2001))))) (sSeq (sSetN 3 (dLst (lCons (dCall 1 r_period (aCons (dV 4) (aNil))) (lCons (dCall 1 r_period (aCons (dV 4) (aNil))) (lNil))))) (sIf (bD (d2 gNeS (hV (dCB gReprS (DL.gCons (hS 3) (DL.gNil)))) (hV (dCB gReprS (DL.gCons (hV (d2 gMul (hV (dLst (lCons (dCall 1 r__law_period (aCons (dV 4) (aNil))) (lNil)))) (hV (dC (.int 2))))) (DL.gNil)))))) (sRet (dC (.bool false))) (sNo))) (sNo))))))))
abbrev frBody : SM := (sIf (bD (d2 gNe (hV (dCall 2 r_moved (aCons (dV 4) (aCons (dV 6) (aNil))))) (hV (dCall 2 r__law_moved (aCons (dV 4) (aCons (dV 6) (aNil))))))) (sRet (dC (.bool false))) (sNo))
abbrev agBody : SM := (sSeq (sSet 6 (d2 DL.gSub (hV (dCallO 1 2 r__law_of (aOra 1 (aCons (dLst (lCons (d2 gPow (hV (dC (.int 10))) (hV (dC (.int 12)))) (lCons (d2 gPow (hV (dC (.int 10))) (hV (dC (.int 11)))) (lCons (d2 gAdd (hV (d2 gPow (hV (dC (.int 10))) (hV (dC (.int 9))))) (hV (dC (.int 7)))) (lCons (dC (.int 12345678901)) (lNil)))))) (aNil))))) (hV (dCallO 1 2 s_next (aOra 1 (aCons (dC (.int 1000)) (aNil))))))) (sIf (bD (d2 gNe (hV (dCall 2 r_moved (aCons (dV 4) (aCons (dV 6) (aNil))))) (hV (dCall 2 r__law_moved (aCons (dV 4) (aCons (dV 6) (aNil))))))) (sRet (dC (.bool false))) (sNo)))
theorem fr_loop {S C : D} {c : List Sp} (gc : GC c) (eC : C = chD c) {E : DE} {m : Nat} {s2 s3 s5 s7 s8 s9 s10 : Sl} : ∀ (ks : List Nat) (s6 : Sl), (∀ k ∈ ks, k ≤ 100) → (∀ s6, E.nx [.im S, .ora m, s2, s3, .im C, s5, s6, s7, s8, s9, s10]) →
    forL (gN 6) frBody E (ks.map natD) [.im S, .ora m, s2, s3, .im C, s5, s6, s7, s8, s9, s10]
  | [], s6, _, h => h s6
  | k :: ks, s6, hk, h => by
    have k1 := hk k (List.mem_cons_self ..)
    subst eC
    refine ⟨rfl, rfl, d_moved gc (by omega) (by omega) ?_⟩
    refine ⟨rfl, rfl, d_lmoved gc ?_⟩
    refine ⟨okI _, okI _, ?_⟩
    rw [eqi, decide_eq_true rfl]
    exact fr_loop gc rfl ks _ (fun x hx => hk x (List.mem_cons_of_mem _ hx)) h
theorem ag_loop {S C : D} {c : List Sp} (gc : GC c) (eC : C = chD c) {E : DE} {s2 s3 s5 s8 s9 s10 : Sl} : ∀ (ks : List D) (m : Nat) (s6 s7 : Sl), m + 2 * ks.length < 1040000 → (∀ m' s6 s7, m' ≤ m + 2 * ks.length → E.nx [.im S, .ora m', s2, s3, .im C, s5, s6, s7, s8, s9, s10]) →
    forL (gN 7) agBody E ks [.im S, .ora m, s2, s3, .im C, s5, s6, s7, s8, s9, s10]
  | [], m, s6, s7, _, h => h m s6 s7 (Nat.le_refl _)
  | k :: ks, m, s6, s7, hm, h => by
    rw [List.length_cons] at hm h
    subst eC
    have z1 : (10 : Int) ^ (12 : Int).toNat = 1000000000000 := by decide
    have z2 : (10 : Int) ^ (11 : Int).toNat = 100000000000 := by decide
    have z3 : (10 : Int) ^ (9 : Int).toNat = 1000000000 := by decide
    refine ⟨trivial, ⟨by omega, by omega, by decide⟩, ⟨by omega, by omega, by decide⟩, ⟨by omega, by omega, by decide⟩, (by show 4 ≤ 1000000; omega), rfl, rfl, rfl, d_of (by omega) (by show 0 < 4; omega) (by show 4 < 1000; omega) fun y hy => ?_⟩
    obtain ⟨v, rfl, v0, v1⟩ : ∃ v : Int, y = .int v ∧ 1000 ≤ v ∧ v ≤ 1000000000000 := by
      simp at hy
      rcases hy with rfl | rfl | rfl | rfl
      · exact ⟨_, rfl, by omega, by omega⟩
      · exact ⟨_, rfl, by omega, by omega⟩
      · exact ⟨_, rfl, by omega, by omega⟩
      · exact ⟨_, rfl, by omega, by omega⟩
    refine ⟨trivial, rfl, rfl, rfl, 1000, rfl, by omega, by omega, by omega, fun j j0 j1 => ?_⟩
    refine ⟨rfl, rfl, d_moved gc (by omega) (by omega) ?_⟩
    refine ⟨rfl, rfl, d_lmoved gc ?_⟩
    refine ⟨okI _, okI _, ?_⟩
    rw [eqi, decide_eq_true rfl]
    exact ag_loop gc rfl ks _ _ _ (by omega) fun m' a b hm' => h m' a b (by omega)
structure Sh (k n : Nat) (d : D) : Prop where
  nd : nod d = true
  sh : d.showable = true
  lv : d.leavesShort 13 = true
  la : d.canLay0 = true
  dp : d.depth ≤ k
  bk : d.bulk ≤ n
theorem sh_int {i : Int} (h0 : 0 ≤ i) (h1 : i ≤ 99999999) : Sh 0 0 (.int i) := by
  refine ⟨rfl, ?_, ?_, rfl, Nat.le_refl _, Nat.le_refl _⟩
  · show decide (i.natAbs.log2 < 1920) = true
    refine decide_eq_true ?_
    by_cases z : i.natAbs = 0
    · rw [z]
      decide
    · have : i.natAbs.log2 < 30 := (Nat.log2_lt z).mpr (by have e : (2 : Nat) ^ 30 = 1073741824 := by decide
                                                           omega)
      omega
  · show decide ((PyData.shown (.int i)).length ≤ 13) = true
    exact decide_eq_true (PyData.shown_int_le2 (by omega) (by omega))
def two (a b : Int) : D := .tuple [.int a, .int b]
theorem sh_two {a b : Int} (a0 : 0 ≤ a) (a1 : a ≤ 99999999) (b0 : 0 ≤ b) (b1 : b ≤ 99999999) : Sh 1 10 (two a b) := by
  have x := sh_int a0 a1
  have y := sh_int b0 b1
  refine ⟨rfl, ?_, ?_, rfl, ?_, ?_⟩
  · show (PyData.showable (.int a) && (PyData.showable (.int b) && true)) = true
    rw [x.sh, y.sh]
    rfl
  · show (PyData.leavesShort 13 (.int a) && (PyData.leavesShort 13 (.int b) && true)) = true
    rw [x.lv, y.lv]
    rfl
  · simp [two, PyData.depth, PyData.depthAll]
  · simp [two, PyData.bulk, PyData.bulkAll]
theorem sh_pair {a b : Int} (a0 : 0 ≤ a) (a1 : a ≤ 99999999) (b0 : 0 ≤ b) (b1 : b ≤ 99999999) : Sh 2 100 (.list [two a b, two a b]) := by
  have x := sh_two a0 a1 b0 b1
  refine ⟨rfl, ?_, ?_, rfl, ?_, ?_⟩
  · show (PyData.showable (two a b) && (PyData.showable (two a b) && true)) = true
    rw [x.sh]
    rfl
  · show (PyData.leavesShort 13 (two a b) && (PyData.leavesShort 13 (two a b) && true)) = true
    rw [x.lv]
    rfl
  · simp [two, PyData.depth, PyData.depthAll]
  · simp [two, PyData.bulk, PyData.bulkAll]
theorem sh_len {k n : Nat} {d : D} (h : Sh k n d) (hn : n ≤ 66000) : d.shown.length ≤ 1000000 := by
  have := PyData.shown_le_bulk 13 (by omega) _ h.lv
  have := h.bk
  omega
theorem top_le : ∀ {c : List Sp}, (∀ s ∈ c, OkS s) → top c ≤ 50 ^ c.length
  | [], _ => by show (1 : Int) ≤ 50 ^ 0; decide
  | s :: c, o => by
    have os := o s (List.mem_cons_self ..)
    have ih := top_le fun x hx => o x (List.mem_cons_of_mem _ hx)
    have p := top_pos (bot_ok fun x hx => o x (List.mem_cons_of_mem _ hx))
    show s.t * top c ≤ 50 ^ (c.length + 1)
    have := Int.mul_le_mul os.t1 ih (by omega) (by omega)
    rw [Int.pow_succ, Int.mul_comm _ 50]
    exact this
theorem top_max {c : List Sp} (g : GC c) : top c ≤ 6250000 := by
  have h := top_le g.ok
  have l := g.len
  have : ∀ n : Nat, n ≤ 4 → (50 : Int) ^ n ≤ 6250000 := by
    intro n hn
    rcases n with _ | _ | _ | _ | _ | n
    · decide
    · decide
    · decide
    · decide
    · decide
    · omega
  have := this _ l
  omega
theorem fn_max {c : List Sp} {p : Nat} (gp : GP c p) : 0 ≤ fn c p ∧ fn c p ≤ 6250000 := by
  have z0 := fn_zero gp.g
  have v1 := per_val z0 gp.l.per (bn c)
  have v2 := per_val z0 (per_bn gp.g) p
  rw [fn_bn gp.g, Nat.mul_comm] at v2
  rw [v2] at v1
  have b := bn_eq gp.g
  have t := top_max gp.g
  have tp := top_pos (bot_ok gp.g.ok)
  have pl := (gp_le gp).2
  -- p * top = bn * f
  generalize fn c p = f at v1 ⊢
  have p0 := gp.l.pos
  constructor
  · refine Classical.byContradiction fun n => ?_
    have h1 : (bn c : Int) * f < 0 := Int.mul_neg_of_pos_of_neg (by omega) (by omega)
    have h2 : 0 ≤ (p : Int) * top c := Int.mul_nonneg (by omega) (by omega)
    omega
  · refine Classical.byContradiction fun n => ?_
    have h1 : (p : Int) * top c ≤ bn c * top c := Int.mul_le_mul_of_nonneg_right (by omega) (by omega)
    have h2 : (bn c : Int) * top c < bn c * f := Int.mul_lt_mul_of_pos_left (by omega) (by omega)
    omega
theorem law_turn {S : D} {E : DE} {m : Nat} {s2 s3 s4 s5 s6 s7 s8 s9 s10 : Sl} (hm : m < 1020000) (h : ∀ m' s2 s3 s4 s5 s6 s7 s8 s9, m' ≤ m + 100 → E.nx [.im S, .ora m', s2, s3, s4, s5, s6, s7, s8, s9, s10]) : lawBody E [.im S, .ora m, s2, s3, s4, s5, s6, s7, s8, s9, s10] := by
  refine ⟨trivial, rfl, rfl, rfl, d_chain (by omega) fun c m1 gc hb h1 => ?_⟩
  refine ⟨rfl, rfl, d_prods gc ?_⟩
  have b := bn_eq gc
  have tp := top_pos (bot_ok gc.ok)
  have tm := top_max gc
  obtain ⟨tn, et⟩ : ∃ tn : Nat, top c = tn := ⟨(top c).toNat, by omega⟩
  have gpos : 0 < Nat.gcd tn (bn c) := Nat.gcd_pos_of_pos_right _ b.2.1
  have gle : Nat.gcd tn (bn c) ≤ bn c := Nat.gcd_le_right _ b.2.1
  have eg : Nat.gcd (top c).natAbs (bot c).natAbs = Nat.gcd tn (bn c) := by
    rw [et, b.1]
    rfl
  refine ⟨rfl, rfl, ?_⟩
  rw [et, b.1]
  refine ⟨rfl, rfl, d_measure ?_⟩
  refine ⟨rfl, rfl, d_slope gc (by rw [eg]; omega) ?_⟩
  rw [eg, et, b.1]
  have ok2 : ∀ x y : Int, okD (.tuple [.int x, .int y]) := fun x y => by
    show SeqAt.shaped _ = true
    simp [SeqAt.shaped, PyData.canLay0, PyData.canLayAll0, PyData.depth, PyData.depthAll]
  have eq2 : ∀ x y : Int, PyData.eqv (.tuple [.int x, .int y]) (.tuple [.int x, .int y]) = true := fun x y => by simp [PyData.eqv, PyData.eqvAll]
  refine ⟨trivial, trivial, ⟨by omega, by omega⟩, trivial, trivial, ⟨by omega, by omega⟩, (by show 2 ≤ 1000000; omega), ok2 _ _, ok2 _ _, ?_⟩
  rw [eq2]
  refine ⟨trivial, .inl (small (by omega) (by omega)), ⟨by omega, by omega⟩, ?_⟩
  have ek : rgD 0 (min (3 * (bn c : Int)) 60) = (List.range (min (3 * bn c) 60)).map natD := by
    rw [← rg_nat]
    congr 1
    omega
  show forL (gN 6) frBody _ (rgD 0 (min (3 * (bn c : Int)) 60)) _
  rw [ek]
  refine fr_loop gc rfl _ _ (fun k hk => by have := List.mem_range.mp hk; omega) fun s6 => ?_
  refine ⟨⟨by omega, by omega⟩, ?_⟩
  have l4 : (rgD 0 4).length = 4 := by simp [rgD]
  refine ag_loop gc rfl (rgD 0 4) m1 _ _ (by rw [l4]; omega) fun m2 s6 s7 h2 => ?_
  rw [l4] at h2
  refine ⟨trivial, ?_⟩
  show if decide ((bn c : Int) < 2001) = true then _ else _
  by_cases z : bn c < 2001
  · rw [if_pos (by simp; omega)]
    obtain ⟨p, gp⟩ := ex_gp gc
    have fm := fn_max gp
    have pl := (gp_le gp).2
    have sp := sh_pair (a := (p : Int)) (b := fn c p) (by omega) (by omega) fm.1 (by omega)
    have ls := sh_len sp (by omega)
    refine ⟨rfl, rfl, d_period gp ?_⟩
    refine ⟨rfl, rfl, d_period gp ?_⟩
    refine ⟨(by show 2 ≤ 1000000; omega), trivial, sp.nd, sp.sh, Nat.le_trans sp.dp (by omega), ls, ?_⟩
    refine ⟨rfl, rfl, d_lperiod gp (by omega) ?_⟩
    refine ⟨(by show 1 ≤ 1000000; omega), ⟨by omega, by omega⟩, (by show 1 * 2 ≤ 1000000; omega), sp.nd, sp.sh, Nat.le_trans sp.dp (by omega), ls, ?_⟩
    have er : ∀ t : D, (List.replicate (Int.toNat 2) [t]).flatten = [t, t] := fun _ => rfl
    rw [er]
    generalize (PyData.list [PyData.tuple [PyData.int (p : Int), PyData.int (fn c p)], PyData.tuple [PyData.int (p : Int), PyData.int (fn c p)]]).shown = zs
    show if (!decide (zs = zs)) = true then _ else _
    rw [if_neg (by simp)]
    exact h _ _ _ _ _ _ _ _ _ (by omega)
  · rw [if_neg (by simp; omega)]
    exact h _ _ _ _ _ _ _ _ _ (by omega)
theorem law_loop {S : D} {E : DE} {s10 : Sl} : ∀ (ks : List D) (m : Nat) (s2 s3 s4 s5 s6 s7 s8 s9 : Sl), m + 100 * ks.length < 1020000 → (∀ m' s2 s3 s4 s5 s6 s7 s8 s9, E.nx [.im S, .ora m', s2, s3, s4, s5, s6, s7, s8, s9, s10]) → forL (gN 2) lawBody E ks [.im S, .ora m, s2, s3, s4, s5, s6, s7, s8, s9, s10]
  | [], m, s2, s3, s4, s5, s6, s7, s8, s9, _, h => h m s2 s3 s4 s5 s6 s7 s8 s9
  | d :: ks, m, s2, s3, s4, s5, s6, s7, s8, s9, hm, h => by
    rw [List.length_cons] at hm
    exact law_turn (by omega) fun m' a2 a3 a4 a5 a6 a7 a8 a9 hm' => law_loop ks m' _ _ _ _ _ _ _ _ (by omega) h
end Q71
namespace Q71
open PySem L2 DL
def c1 : List Sp := [⟨1, 50, .dn⟩, ⟨50, 1, .up⟩, ⟨1, 50, .nr⟩]
def c2 : List Sp := [⟨1, 1999, .dn⟩, ⟨1, 2, .up⟩]
def c3 : List Sp := [⟨1, 2, .dn⟩, ⟨2, 1, .up⟩]
theorem okS {t b : Int} {r : Ro} (h1 : 1 ≤ t) (h2 : t ≤ 50) (h3 : 1 ≤ b) (h4 : b ≤ 2000) : OkS ⟨t, b, r⟩ := ⟨h1, h2, h3, h4⟩
theorem g1 : GC c1 := ⟨by decide, fun s hs => by
  simp [c1] at hs
  rcases hs with rfl | rfl | rfl <;> exact okS (by omega) (by omega) (by omega) (by omega), by decide⟩
theorem g2 : GC c2 := ⟨by decide, fun s hs => by
  simp [c2] at hs
  rcases hs with rfl | rfl <;> exact okS (by omega) (by omega) (by omega) (by omega), by decide⟩
theorem g3 : GC c3 := ⟨by decide, fun s hs => by
  simp [c3] at hs
  rcases hs with rfl | rfl <;> exact okS (by omega) (by omega) (by omega) (by omega), by decide⟩
theorem g0 : GC [] := ⟨by decide, fun s hs => (by cases hs), by decide⟩
theorem gw (r : Ro) : GC [⟨1, 2, r⟩] := by
  refine ⟨(by show 1 ≤ 4; omega), fun s hs => ?_, (by show (2 : Int) * 1 ≤ 100000; omega)⟩
  simp at hs
  subst hs
  exact okS (by omega) (by omega) (by omega) (by omega)
theorem f1 (x : Nat) : fn c1 x = (x / 50 : Nat) := by
  show (2 * ((-(-((x : Int) * 1 / 50 * 50) / 1)) * 1) + 50) / (2 * 50) = ((x / 50 : Nat) : Int)
  omega
theorem f2 (x : Nat) : fn c2 x = -(-(((x / 1999 : Nat) : Int)) / 2) := by
  show -(-((x : Int) * 1 / 1999 * 1) / 2) = _
  omega
theorem f3 (x : Nat) : fn c3 x = ((x / 2 * 2 : Nat) : Int) := by
  show -(-((x : Int) * 1 / 2 * 2) / 1) = _
  omega
theorem lst_of {c : List Sp} {p : Nat} (g : GC c) (h0 : 0 < p) (hp : Per (fn c) p) (hq : ∀ m, 0 < m → m ∣ p → m < p → ¬ Per (fn c) m) : GP c p := by
  obtain ⟨q, gq⟩ := ex_gp g
  have d := (gq.l.iff p).mp hp
  have le := Nat.le_of_dvd h0 d
  by_cases z : q = p
  · exact z ▸ gq
  · exact absurd gq.l.per (hq q gq.l.pos d (by omega))
theorem p1 : GP c1 50 := by
  refine lst_of g1 (by omega) (fun x => by rw [f1, f1, f1]; omega) fun m m0 md ml hp => ?_
  have a := hp (50 - m)
  rw [f1, f1, f1] at a
  omega
theorem p2 : GP c2 3998 := by
  have e : bn c2 = 3998 := by decide
  refine lst_of g2 (by omega) (fun x => by rw [f2, f2, f2]; omega) fun m m0 md ml hp => ?_
  have h1 := hp 1999
  have h2 := hp (1999 - m)
  rw [f2, f2, f2] at h1 h2
  obtain ⟨k, hk⟩ := md
  have : m = 1999 ∨ m = 2 ∨ m = 1 := by
    have key : ∀ k, k ∣ 3998 → k = 1 ∨ k = 2 ∨ k = 1999 ∨ k = 3998 := by
      intro k hk
      have hl := Nat.le_of_dvd (by omega) hk
      have : ∀ k, k < 3999 → k ∣ 3998 → k = 1 ∨ k = 2 ∨ k = 1999 ∨ k = 3998 := by decide +kernel
      exact this k (by omega) hk
    rcases key m ⟨k, hk⟩ with h | h | h | h <;> omega
  rcases this with rfl | rfl | rfl <;> omega
theorem p3 : GP c3 2 := by
  refine lst_of g3 (by omega) (fun x => by rw [f3, f3, f3]; omega) fun m m0 md ml hp => ?_
  have a := hp 1
  rw [f3, f3, f3] at a
  omega
theorem p0 : GP [] 1 := by
  have e : ∀ x : Nat, fn [] x = (x : Int) := fun x => rfl
  refine lst_of g0 (by decide) (fun x => ?_) fun m m0 md ml hp => absurd m0 (by omega)
  rw [e, e, e]
  exact Int.natCast_add x 1
theorem v1 : fn c1 50 = 1 := by rw [f1]; rfl
theorem v2 : fn c2 3998 = 1 := by rw [f2]; omega
theorem v3 : fn c3 2 = 2 := by rw [f3]; omega
theorem v0 : fn [] 1 = 1 := rfl
theorem ok2 (x y : Int) : okD (.tuple [.int x, .int y]) := by
  show SeqAt.shaped _ = true
  simp [SeqAt.shaped, PyData.canLay0, PyData.canLayAll0, PyData.depth, PyData.depthAll]
theorem eq2 (x y : Int) : PyData.eqv (.tuple [.int x, .int y]) (.tuple [.int x, .int y]) = true := by simp [PyData.eqv, PyData.eqvAll]
def wI : D → D
  | .str z => if z = rdS .dn then .int 1 else .int 2
  | _ => .none
theorem w_case (r : Ro) : wI (.str (rdS r)) = .int (mv [⟨1, 2, r⟩] 3) := by
  cases r with
  | dn =>
    show (if rdS .dn = rdS .dn then PyData.int 1 else PyData.int 2) = _
    rw [if_pos rfl]
    rfl
  | up =>
    show (if rdS .up = rdS .dn then PyData.int 1 else PyData.int 2) = _
    (rw [if_neg (by decide +kernel)])
    rfl
  | nr =>
    show (if rdS .nr = rdS .dn then PyData.int 1 else PyData.int 2) = _
    (rw [if_neg (by decide +kernel)])
    rfl
theorem w_words {r : SpD} (hr : ∀ (k : Ro) (P : D → Nat → Prop), P (.int (mv [⟨1, 2, k⟩] 3)) 0 → r [.d (chD [⟨1, 2, k⟩]), .d (.int 3)] 0 P) {S : D} {m : Nat} {s2 s3 s4 s5 s6 s7 s8 s9 : Sl} {P : D → DL.Env → Prop} (h : P (.list [.int 1, .int 2, .int 2]) [.im S, .ora m, s2, s3, s4, s5, s6, s7, s8, s9, .no]) :
    (dLc (iSeq (dTup (lCons (dC (.str ("down" : Str))) (lCons (dC (.str ("up" : Str))) (lCons (dC (.str ("near" : Str))) (lNil)))))) (gN 10) (bYes) (dCall 2 r (aCons (dTup (lCons (dTup (lCons (dC (.int 1)) (lCons (dC (.int 2)) (lCons (dV 10) (lNil))))) (lNil))) (aCons (dC (.int 3)) (aNil)))) [10]) [.im S, .ora m, s2, s3, s4, s5, s6, s7, s8, s9, .no] P := by
  refine ⟨(by show 3 ≤ 1000000; omega), (by show 3 ≤ 1000000; omega), ⟨by simp, fun j hj => by simp at hj; subst hj; rfl⟩, ?_⟩
  refine lcL_map (ρ := [.im S, .ora m, s2, s3, s4, s5, s6, s7, s8, s9, .no]) wI _ [] ?_ h
  intro d hd Q hQ
  obtain ⟨r, rfl⟩ : ∃ r, d = .str (rdS r) := by
    simp at hd
    rcases hd with rfl | rfl | rfl
    · exact ⟨.dn, rfl⟩
    · exact ⟨.up, rfl⟩
    · exact ⟨.nr, rfl⟩
  rw [w_case] at hQ
  exact ⟨(by show 3 ≤ 1000000; omega), (by show 1 ≤ 1000000; omega), rfl, rfl, hr r _ (hQ _ rfl)⟩
theorem d_words {S : D} {m : Nat} {s2 s3 s4 s5 s6 s7 s8 s9 : Sl} {P : D → DL.Env → Prop} (h : P (.list [.int 1, .int 2, .int 2]) [.im S, .ora m, s2, s3, s4, s5, s6, s7, s8, s9, .no]) :
    (dLc (iSeq (dTup (lCons (dC (.str ("down" : Str))) (lCons (dC (.str ("up" : Str))) (lCons (dC (.str ("near" : Str))) (lNil)))))) (gN 10) (bYes) (dCall 2 r_moved (aCons (dTup (lCons (dTup (lCons (dC (.int 1)) (lCons (dC (.int 2)) (lCons (dV 10) (lNil))))) (lNil))) (aCons (dC (.int 3)) (aNil)))) [10]) [.im S, .ora m, s2, s3, s4, s5, s6, s7, s8, s9, .no] P := w_words (r := r_moved) (fun k P hp => d_moved (gw k) (by omega) (by omega) hp) h
abbrev restBody : SM := (sSeq (sSetN 3 (dLc (iSeq (dTup (lCons (dC (.str ("down" : Str))) (lCons (dC (.str ("up" : Str))) (lCons (dC (.str ("near" : Str))) (lNil)))))) (gN 10) (bYes) (dCall 2 r_moved (aCons (dTup (lCons (dTup (lCons (dC (.int 1)) (lCons (dC (.int 2)) (lCons (dV 10) (lNil))))) (lNil))) (aCons (dC (.int 3)) (aNil)))) [10])) (sSeq (sApp 3 (dCall 2 r_moved (aCons (dTup (lCons (dTup (lCons (dC (.int 1)) (lCons (dC (.int 2)) (lCons (dC (.str ("near" : Str))) (lNil))))) (lNil))) (aCons (dC (.int 5)) (aNil))))) (sSeq (sIf (bD (d2 gNe (hV (dCall 1 r_period (aCons (dTup (lCons (dTup (lCons (dC (.int 1)) (lCons (dC (.int 50)) (lCons (dC (.str ("down" : Str))) (lNil))))) (lCons (dTup (lCons (dC (.int 50)) (lCons (dC (.int 1)) (lCons (dC (.str ("up" : Str))) (lNil))))) (lCons (dTup (lCons (dC (.int 1)) (lCons (dC (.int 50)) (lCons (dC (.str ("near" : Str))) (lNil))))) (lNil))))) (aNil)))) (hV (dTup (lCons (dC (.int 50)) (lCons (dC (.int 1)) (lNil))))))) (sRet (dC (.bool false))) (sNo)) (sSeq (sIf (bD (d2 gNe (hV (dCall 1 r_period (aCons (dTup (lCons (dTup (lCons (dC (.int 1)) (lCons (dC (.int 1999)) (lCons (dC (.str ("down" : Str))) (lNil))))) (lCons (dTup (lCons (dC (.int 1)) (lCons (dC (.int 2)) (lCons (dC (.str ("up" : Str))) (lNil))))) (lNil)))) (aNil)))) (hV (dTup (lCons (dC (.int 3998)) (lCons (dC (.int 1)) (lNil))))))) (sRet (dC (.bool false))) (sNo)) (sSeq (sIf (bD (d2 gNe (hV (dCall 1 r_period (aCons (dTup (lCons (dTup (lCons (dC (.int 1)) (lCons (dC (.int 2)) (lCons (dC (.str ("down" : Str))) (lNil))))) (lCons (dTup (lCons (dC (.int 2)) (lCons (dC (.int 1)) (lCons (dC (.str ("up" : Str))) (lNil))))) (lNil)))) (aNil)))) (hV (dTup (lCons (dC (.int 2)) (lCons (dC (.int 2)) (lNil))))))) (sRet (dC (.bool false))) (sNo)) (sRet (dAnd (d2 gEq (hS 3) (hV (dLst (lCons (dC (.int 1)) (lCons (dC (.int 2)) (lCons (dC (.int 2)) (lCons (dC (.int 3)) (lNil)))))))) (d2 gEq (hV (dCall 1 r_period (aCons (dTup (lNil)) (aNil)))) (hV (dTup (lCons (dC (.int 1)) (lCons (dC (.int 1)) (lNil)))))))))))))
theorem if_per {c : List Sp} {p : Nat} {f : AM} {g : SM} {E : DE} {ρ : DL.Env} {h1 : HM} (gp : GP c p) (hh : ∀ P : Hd → DL.Env → Prop, P (.val (.tuple [.int p, .int (fn c p)])) ρ → h1 ρ P) (hf : ∀ P : List Ar → DL.Env → Prop, P [.d (chD c)] ρ → f ρ P) (h : E.nx ρ) :
    sIf (bD (d2 gNe (hV (dCall 1 r_period f)) h1)) g sNo E ρ := by
  refine hf _ ⟨rfl, rfl, d_period gp ?_⟩
  refine hh _ ?_
  refine ⟨ok2 _ _, ok2 _ _, ?_⟩
  rw [eq2]
  exact h
theorem two_of {p : Nat} {v w1 w2 : Int} {ρ : DL.Env} (e1 : w1 = (p : Int)) (e2 : w2 = v) (P : Hd → DL.Env → Prop) (h : P (.val (.tuple [.int p, .int v])) ρ) : (hV (dTup (lCons (dC (.int w1)) (lCons (dC (.int w2)) lNil)))) ρ P := by
  subst e1 e2
  exact ⟨(by show 2 ≤ 1000000; omega), h⟩
theorem chain6 {A B : DM} {I1 I2 I3 R : SM} {E : DE} {S : D} {m : Nat} {s2 s3 s4 s5 s6 s7 s8 s9 s10 : Sl} {a b c d : D} (hA : ∀ K : D → DL.Env → Prop, K (.list [a, b, c]) [.im S, .ora m, s2, s3, s4, s5, s6, s7, s8, s9, s10] → A [.im S, .ora m, s2, s3, s4, s5, s6, s7, s8, s9, s10] K)
    (hB : ∀ (s3 : Sl) (K : D → DL.Env → Prop), K d [.im S, .ora m, s2, s3, s4, s5, s6, s7, s8, s9, s10] → B [.im S, .ora m, s2, s3, s4, s5, s6, s7, s8, s9, s10] K) (h1 : ∀ (E : DE) ρ, E.nx ρ → I1 E ρ) (h2 : ∀ (E : DE) ρ, E.nx ρ → I2 E ρ) (h3 : ∀ (E : DE) ρ, E.nx ρ → I3 E ρ)
    (hR : R E [.im S, .ora m, s2, .ow (.list [a, b, c, d]), s4, s5, s6, s7, s8, s9, s10]) : sSeq (sSetN 3 A) (sSeq (sApp 3 B) (sSeq I1 (sSeq I2 (sSeq I3 R)))) E [.im S, .ora m, s2, s3, s4, s5, s6, s7, s8, s9, s10] := by
  refine hA _ ⟨trivial, hB _ _ ?_⟩
  refine ⟨(by show 3 < 1000000; omega), ?_⟩
  exact h1 _ _ (h2 _ _ (h3 _ _ hR))
theorem near5 {r : SpD} (hr : ∀ P : D → Nat → Prop, P (.int 3) 0 → r [.d (chD [⟨1, 2, .nr⟩]), .d (.int 5)] 0 P) {ρ : DL.Env} (K : D → DL.Env → Prop) (h : K (.int 3) ρ) : (dCall 2 r (aCons (dTup (lCons (dTup (lCons (dC (.int 1)) (lCons (dC (.int 2)) (lCons (dC (.str ("near" : Str))) (lNil))))) (lNil))) (aCons (dC (.int 5)) (aNil)))) ρ K :=
  ⟨(by show 3 ≤ 1000000; omega), (by show 1 ≤ 1000000; omega), rfl, rfl, hr _ h⟩
theorem last_ok {r : SpD} (hr : ∀ P : D → Nat → Prop, P (.tuple [.int 1, .int 1]) 0 → r [.d (chD [])] 0 P) {E : DE} {S : D} {m : Nat} {s2 s4 s5 s6 s7 s8 s9 s10 : Sl} (h : ∀ ρ, E.rt (.bool true) ρ) :
    (sRet (dAnd (d2 gEq (hS 3) (hV (dLst (lCons (dC (.int 1)) (lCons (dC (.int 2)) (lCons (dC (.int 2)) (lCons (dC (.int 3)) (lNil)))))))) (d2 gEq (hV (dCall 1 r (aCons (dTup (lNil)) (aNil)))) (hV (dTup (lCons (dC (.int 1)) (lCons (dC (.int 1)) (lNil)))))))) E [.im S, .ora m, s2, .ow (.list [.int 1, .int 2, .int 2, .int 3]), s4, s5, s6, s7, s8, s9, s10] := by
  have ok4 : okD (.list [.int 1, .int 2, .int 2, .int 3]) := by
    show SeqAt.shaped _ = true
    decide
  refine ⟨trivial, (by show 4 ≤ 1000000; omega), ok4, ok4, ?_⟩
  rw [show PyData.eqv (.list [.int 1, .int 2, .int 2, .int 3]) (.list [.int 1, .int 2, .int 2, .int 3]) = true by simp [PyData.eqv, PyData.eqvAll]]
  refine ⟨(by show 0 ≤ 1000000; omega), rfl, rfl, hr _ ?_⟩
  refine ⟨(by show 2 ≤ 1000000; omega), ok2 _ _, ok2 _ _, ?_⟩
  rw [eq2]
  exact h _
theorem rest_ok {S : D} {m : Nat} {s2 s3 s4 s5 s6 s7 s8 s9 : Sl} {E : DE} (h : ∀ ρ, E.rt (.bool true) ρ) : restBody E [.im S, .ora m, s2, s3, s4, s5, s6, s7, s8, s9, .no] := by
  refine chain6 (fun K hK => d_words hK) (fun s3 K hK => near5 (r := r_moved) (fun P hP => d_moved (gw .nr) (by omega) (by omega) hP) K hK) (fun E ρ h1 => ?_) (fun E ρ h2 => ?_) (fun E ρ h3 => ?_) (last_ok (r := r_period) (fun P hP => d_period p0 hP) h)
  · exact if_per p1 (two_of rfl v1.symm) (fun P hP => ⟨(by show 3 ≤ 1000000; omega), (by show 3 ≤ 1000000; omega), (by show 3 ≤ 1000000; omega), (by show 3 ≤ 1000000; omega), hP⟩) h1
  · exact if_per p2 (two_of rfl v2.symm) (fun P hP => ⟨(by show 3 ≤ 1000000; omega), (by show 3 ≤ 1000000; omega), (by show 2 ≤ 1000000; omega), hP⟩) h2
  · exact if_per p3 (two_of rfl v3.symm) (fun P hP => ⟨(by show 3 ≤ 1000000; omega), (by show 3 ≤ 1000000; omega), (by show 2 ≤ 1000000; omega), hP⟩) h3
theorem for4 {body R : SM} {E : DE} {ns : List Int} (h : forL (gN 2) body { E with nx := R E } (rgD 0 (4 + min (ns.length : Int) 7)) [.im (.list (ns.map PyData.int)), .ora 0, .no, .no, .no, .no, .no, .no, .no, .no, .no]) (hl : ns.length ≤ 63) :
    sSeq (sFor (iRange1 (lCons (d2 gAdd (hV (dC (.int 4))) (hV (dCB gMin (DL.gCons (hV (dCB gLen (DL.gCons (hS 0) (DL.gNil)))) (DL.gCons (hV (dC (.int 7))) (DL.gNil)))))) (lNil))) (gN 2) body) R E [.im (.list (ns.map PyData.int)), .ora 0, .no, .no, .no, .no, .no, .no, .no, .no, .no] := by
  have e : ((ns.map PyData.int).length : Int) = ns.length := by rw [List.length_map]
  refine ⟨trivial, ?_⟩
  show (_ ∧ _) ∧ forL _ _ _ (rgD 0 (4 + min ((ns.map PyData.int).length : Int) 7)) _
  rw [e]
  exact ⟨⟨by omega, by omega⟩, h⟩
theorem law_says : ∀ ns : List Int, ns.length ≤ 63 → lawSays ns := by
  intro ns hl
  refine for4 (body := lawBody) (R := restBody) ?_ hl
  refine law_loop _ 0 _ _ _ _ _ _ _ _ ?_ fun m' a b c d e f g i => rest_ok fun ρ => rfl
  have : (rgD 0 (4 + min (ns.length : Int) 7)).length = (4 + min (ns.length : Int) 7).toNat := by simp [rgD]
  omega
end Q71
open PySem PyProof.Rows PySem.W in
set_option maxRecDepth 100100 in
set_option maxHeartbeats 0 in
theorem PySem.Challenge.cw_captionhouse_k71_whole_chains_moved_holds : PySem.Challenge.rw_captionhouse_k71_whole_chains_moved.Holds := by
  w_on
  o_law
  k_head
  (case hw => w_witness2)
  k_fill
  refine DL.walkG (l := PySem.Challenge.rw_captionhouse_k71_whole_chains_moved) (n := 63) (k := 6) (x := "_law_script") (sp := fun w => Q71.spLawG (_)) rfl (by decide) rfl ⟨rfl, by decide, by decide⟩ (fun w h Y => PySem.W.kIn_of Y) ?F (fun w H a ns hl sq => ⟨a, ns, rfl, sq, hl, fun _ => rfl⟩)
  case F =>
    intro w gl fa h KX G hgl
    refine' Q71.all_mk KX G hgl ?a0 ?l0 ?c0 ?k0 ?a1 ?l1 ?c1 ?k1 ?a2 ?l2 ?c2 ?k2 ?a3 ?l3 ?c3 ?k3 ?a4 ?l4 ?c4 ?k4 ?a5 ?l5 ?c5 ?k5 ?a6 ?l6 ?c6 ?k6 ?a7 ?l7 ?c7 ?k7 ?a8 ?l8 ?c8 ?k8 ?a9 ?l9 ?c9 ?k9 ?a10 ?l10 ?c10 ?k10 ?a11 ?l11 ?c11 ?k11 ?a12 ?l12 ?c12 ?k12 ?a13 ?l13 ?c13 ?k13 ?a14 ?l14 ?c14 ?k14 ?a15 ?l15 ?c15 ?k15 ?a16 ?l16 ?c16 ?k16 ?a17 ?l17 ?c17 ?k17 ?a18 ?l18 ?c18 ?k18 ?a19 ?l19 ?c19 ?k19 ?a20 ?l20 ?c20 ?k20 ?a21 ?l21 ?c21 ?k21 ?a22 ?l22 ?c22 ?k22 ?a23 ?l23 ?c23 ?k23 ?z_bool ?z_enumerate ?z_int ?z_isinstance ?z_len ?z_list ?z_min ?z_range ?z_repr ?z_str ?z_tuple ?z_zip ?v_MOST_FRAME ?v_MOST_OF_STEP ?v_MOST_PRODUCT ?v_MOST_STEPS ?v_ROUNDINGS ?w_ROUNDINGS ?v_gcd Q71.law_says
    (case a0 => k_is)
    (case l0 => k_is)
    (case c0 => k_is)
    (case k0 => k_is)
    (case a1 => k_is)
    (case l1 => k_is)
    (case c1 => k_is)
    (case k1 => k_is)
    (case a2 => k_is)
    (case l2 => k_is)
    (case c2 => k_is)
    (case k2 => k_is)
    (case a3 => k_is)
    (case l3 => k_is)
    (case c3 => k_is)
    (case k3 => k_is)
    (case a4 => k_is)
    (case l4 => k_is)
    (case c4 => k_is)
    (case k4 => k_is)
    (case a5 => k_is)
    (case l5 => k_is)
    (case c5 => k_is)
    (case k5 => k_is)
    (case a6 => k_is)
    (case l6 => k_is)
    (case c6 => k_is)
    (case k6 => k_is)
    (case a7 => k_is)
    (case l7 => k_is)
    (case c7 => k_is)
    (case k7 => k_is)
    (case a8 => k_is)
    (case l8 => k_is)
    (case c8 => k_is)
    (case k8 => k_is)
    (case a9 => k_is)
    (case l9 => k_is)
    (case c9 => k_is)
    (case k9 => k_is)
    (case a10 => k_is)
    (case l10 => k_is)
    (case c10 => k_is)
    (case k10 => k_is)
    (case a11 => k_is)
    (case l11 => k_is)
    (case c11 => k_is)
    (case k11 => k_is)
    (case a12 => k_is)
    (case l12 => k_is)
    (case c12 => k_is)
    (case k12 => k_is)
    (case a13 => k_is)
    (case l13 => k_is)
    (case c13 => k_is)
    (case k13 => k_is)
    (case a14 => k_is)
    (case l14 => k_is)
    (case c14 => k_is)
    (case k14 => k_is)
    (case a15 => k_is)
    (case l15 => k_is)
    (case c15 => k_is)
    (case k15 => k_is)
    (case a16 => k_is)
    (case l16 => k_is)
    (case c16 => k_is)
    (case k16 => k_is)
    (case a17 => k_is)
    (case l17 => k_is)
    (case c17 => k_is)
    (case k17 => k_is)
    (case a18 => k_is)
    (case l18 => k_is)
    (case c18 => k_is)
    (case k18 => k_is)
    (case a19 => k_is)
    (case l19 => k_is)
    (case c19 => k_is)
    (case k19 => k_is)
    (case a20 => k_is)
    (case l20 => k_is)
    (case c20 => k_is)
    (case k20 => k_is)
    (case a21 => k_is)
    (case l21 => k_is)
    (case c21 => k_is)
    (case k21 => k_is)
    (case a22 => k_is)
    (case l22 => k_is)
    (case c22 => k_is)
    (case k22 => k_is)
    (case a23 => k_is)
    (case l23 => k_is)
    (case c23 => k_is)
    (case k23 => k_is)
    (case z_bool => k_is)
    (case z_enumerate => k_is)
    (case z_int => k_is)
    (case z_isinstance => k_is)
    (case z_len => k_is)
    (case z_list => k_is)
    (case z_min => k_is)
    (case z_range => k_is)
    (case z_repr => k_is)
    (case z_str => k_is)
    (case z_tuple => k_is)
    (case z_zip => k_is)
    (case v_MOST_FRAME => k_is)
    (case v_MOST_OF_STEP => k_is)
    (case v_MOST_PRODUCT => k_is)
    (case v_MOST_STEPS => k_is)
    (case v_ROUNDINGS => k_is)
    (case w_ROUNDINGS => k_is)
    (case v_gcd => k_is)

import PyProof.Rows.All
import Wide.All
import OpenK.AllK
import Wide.FinOn
import HandS.ForMost
import HandS.Flow
import HandS.IsInst
import HandS.Walk
import HandS.Zip
import HandS.Conv
import HandS.Wide
import HandS.TupAny
import HandS.Style
import HandS.SortInts
import KE.GoesMore
import HandS.Deep
import HandS.Text
import HandS.Strs
import HandS.SetBool
import HandS.Comp
import HandS.Gcd
import KE.DataMinMax
import KE.KTupSum
import KE.KMathGC
import HandS.EndBits
import HandS.ExcInit
import HandS.TryOnly
import HandS.WordsExc
import KE.GoesEnum
import HandS.ExcField
import HandS.StrMore
import HandS.TupMul
import HandS.Star
import HandS.Defaults
import PyProof.TupleOfStr
import HandS.FStr
import HandS.TryMany
import KE.KDictKeyed
import PyProof.ListStr
import KE.KDictZip
import KE.GoesZip
import HandS.ListItems
import PyProof.Rows.SetFrom
import HandS.SetKeys
import HandS.DictComp
import HandS.NoneIn
import HandS.Dict
import HandS.Flt
import KE.SortData
import HandS.TupSets
import HandS.Head0
import HandS.Head1
import HandS.Head2
import KE.KStateDown
import PySem.Challenge.RW_captionhouse_k80_whole_rates_there_and_b
set_option Elab.async false
set_option linter.all false
set_option maxRecDepth 100000
set_option maxHeartbeats 3900000
namespace Q80
open PySem.Calls PySem PyProof.Rows PySem.W
abbrev hdR : OpenRow := OpenLaw.row PySem.Challenge.rw_captionhouse_k80_whole_rates_there_and_b
def hdQ : Program := view hdR.prog [49]
def hdN0 : List PySem.Str := [Str.ofString "MOST_SIGNS", Str.ofString "TILDE", Str.ofString "PERCENT", Str.ofString "is_integer", Str.ofString "is_within", Str.ofString "is_tuple", Str.ofString "is_one_of", Str.ofString "is_sign", Str.ofString "has_signs", Str.ofString "BadFile", Str.ofString "BadChain", Str.ofString "OutOfPlace", Str.ofString "TooGreat", Str.ofString "MOST_CUES", Str.ofString "MOST_LINES", Str.ofString "MOST_FRAME", Str.ofString "LOWEST_OF_LINES", Str.ofString "need_file", Str.ofString "is_cue", Str.ofString "is_text", Str.ofString "_is_line", Str.ofString "MOST_STEPS", Str.ofString "MOST_OF_STEP", Str.ofString "MOST_PRODUCT", Str.ofString "ROUNDINGS", Str.ofString "need_chain", Str.ofString "moved", Str.ofString "period", Str.ofString "comes_back", Str.ofString "least_kept", Str.ofString "moved_file", Str.ofString "_is_step", Str.ofString "_moved", Str.ofString "_quotient", Str.ofString "_bottom", Str.ofString "_primes_of"]
def hdN1 : List PySem.Str := [Str.ofString "_comes_again", Str.ofString "_first_apart", Str.ofString "_law_mix", Str.ofString "_law_begun", Str.ofString "_law_draw", Str.ofString "_law_divisor", Str.ofString "_law_backs", Str.ofString "_law_short"]
def hdN : List PySem.Str := hdN0 ++ (hdN1)
section
local macro_rules
  | `(tactic| o_head $t:term) => `(tactic| (have hk := $t; assumption))
set_option maxRecDepth 100001 in
set_option maxHeartbeats 0 in
theorem hd0 (h : hdR.Holds) : hdR.Holds := by k_head
end
def hdP : Params := by constructor <;> exact default
noncomputable def hdA : List Addr := (hd0.heap_1 hdP).map (·.1)
theorem hdE : ∀ P, hdA = (hd0.heap_1 P).map (·.1) := fun _ => by kernel_rfl
noncomputable abbrev hdH : Hook := kHook hd0.heap_1 hdA hdE
set_option maxRecDepth 100001 in
set_option maxHeartbeats 0 in
theorem hdRun (w : World) : HandSHeadRun.RunEq hdR hdQ hdH (fun s => hdA.map (HandSHeadRun.getT s)) 20000 hdN w := by
  intro os
  kernel_rfl
end Q80
namespace DL
open PySem L2
abbrev D := PyData
def KD : Key → D
  | .inl i => .int i
  | .inr x => .str x
mutual
/-- the value v is the datum d, in what stands at H -/
inductive At (K : PySem.W.Frag) (H : Hp) : V → D → Prop
  | non : At K H .non .none
  | bl (b : Bool) : At K H (.bl b) (.bool b)
  | int (i : Int) : At K H (.int i) (.int i)
  | str (x : Str) : At K H (.str x) (.str x)
  | lst {a : Addr} {xs : List V} {ds : List D} : SqL K H a xs → AtAll K H xs ds → At K H (.ref a) (.list ds)
  | tup {a : Addr} {xs : List V} {ds : List D} : SqT K H a xs → AtAll K H xs ds → At K H (.ref a) (.tuple ds)
  | dk {a : Addr} {ks : List Key} {xs : List V} {ds : List D} : Rd H a (.dK (ks.zip xs)) → ks ≠ [] → ks.length = xs.length → AtAll K H xs ds → At K H (.ref a) (.dict ((ks.map KD).zip ds))
  | dt {a : Addr} {ks : List (List Key)} {xs : List V} {ds : List D} : H a = some (.dT (ks.zip xs)) → ks.length = xs.length → AtAll K H xs ds → At K H (.ref a) (.dict ((ks.map fun k => PyData.tuple (k.map KD)).zip ds))
inductive AtAll (K : PySem.W.Frag) (H : Hp) : List V → List D → Prop
  | nil : AtAll K H [] []
  | cons {v : V} {vs : List V} {d : D} {ds : List D} : At K H v d → AtAll K H vs ds → AtAll K H (v :: vs) (d :: ds)
end
def Ex (G G' : Hp) : Prop := ∀ a o, G a = some o → G' a = some o
theorem Ex.refl (G : Hp) : Ex G G := fun _ _ h => h
theorem Ex.trans {G G1 G2 : Hp} (a : Ex G G1) (b : Ex G1 G2) : Ex G G2 := fun x o h => b x o (a x o h)
theorem Ex.new {G : Hp} {p : Addr} {o : HO} (h : G p = none) : Ex G (upd G p o) := fun a u e => by
  rw [upd_ne (ne_of_none e h)]
  exact e
theorem Ex.rd {H H' : Hp} {a : Addr} {u : HO} (e : Ex H H') (h : Rd H a u) : Rd H' a u := by
  rcases h with h | ⟨o, h⟩
  · exact Or.inl (e a _ h)
  · exact Or.inr ⟨o, e a _ h⟩
theorem Ex.sl {K : PySem.W.Frag} {H H' : Hp} {a : Addr} {xs : List V} (e : Ex H H') (h : SqL K H a xs) : SqL K H' a xs := by
  rcases h with h | h
  · exact Or.inl (e.rd h)
  · exact Or.inr h
theorem Ex.st {K : PySem.W.Frag} {H H' : Hp} {a : Addr} {xs : List V} (e : Ex H H') (h : SqT K H a xs) : SqT K H' a xs := by
  rcases h with h | h
  · exact Or.inl (e.rd h)
  · exact Or.inr h
theorem At.mono {K : PySem.W.Frag} {H H' : Hp} (e : Ex H H') {v : V} {d : D} (h : At K H v d) : At K H' v d := by
  refine At.rec (motive_1 := fun v d _ => At K H' v d) (motive_2 := fun vs ds _ => AtAll K H' vs ds) ?_ ?_ ?_ ?_ ?_ ?_ ?_ ?_ ?_ ?_ h
  · exact .non
  · exact fun b => .bl b
  · exact fun i => .int i
  · exact fun x => .str x
  · exact fun s _ i => .lst (e.sl s) i
  · exact fun s _ i => .tup (e.st s) i
  · exact fun s n l _ i => .dk (e.rd s) n l i
  · exact fun s l _ i => .dt (e _ _ s) l i
  · exact .nil
  · exact fun _ _ i j => .cons i j
theorem AtAll.mono {K : PySem.W.Frag} {H H' : Hp} (e : Ex H H') : ∀ {vs : List V} {ds : List D}, AtAll K H vs ds → AtAll K H' vs ds
  | _, _, .nil => .nil
  | _, _, .cons h t => .cons (h.mono e) (AtAll.mono e t)
section
variable {K : PySem.W.Frag} {H : Hp}
theorem AtAll.length : ∀ {vs : List V} {ds : List D}, AtAll K H vs ds → vs.length = ds.length
  | _, _, .nil => rfl
  | _, _, .cons _ t => congrArg (· + 1) t.length
theorem AtAll.append : ∀ {vs ws : List V} {ds es : List D}, AtAll K H vs ds → AtAll K H ws es → AtAll K H (vs ++ ws) (ds ++ es)
  | _, _, _, _, .nil, s => s
  | _, _, _, _, .cons r t, s => .cons r (t.append s)
theorem AtAll.take : ∀ {vs : List V} {ds : List D} (n : Nat), AtAll K H vs ds → AtAll K H (vs.take n) (ds.take n)
  | _, _, 0, _ => by simpa using AtAll.nil
  | _, _, _ + 1, .nil => .nil
  | _, _, n + 1, .cons r t => .cons r (t.take n)
theorem AtAll.drop : ∀ {vs : List V} {ds : List D} (n : Nat), AtAll K H vs ds → AtAll K H (vs.drop n) (ds.drop n)
  | _, _, 0, r => r
  | _, _, _ + 1, .nil => .nil
  | _, _, n + 1, .cons _ t => t.drop n
theorem AtAll.get : ∀ {vs : List V} {ds : List D} {i : Nat} {d : D}, AtAll K H vs ds → ds[i]? = some d → ∃ v, vs[i]? = some v ∧ At K H v d
  | _, _, _, _, .nil, e => (by simp at e)
  | _, _, 0, _, .cons r _, e => (by simp at e; subst e; exact ⟨_, rfl, r⟩)
  | _, _, i + 1, d, .cons _ t, e => by
    obtain ⟨v, h1, h2⟩ := t.get (i := i) (d := d) (by simpa using e)
    exact ⟨v, by simpa using h1, h2⟩
theorem AtAll.set {x : V} {d : D} (r : At K H x d) : ∀ {vs : List V} {ds : List D} (i : Nat), AtAll K H vs ds → AtAll K H (vs.set i x) (ds.set i d)
  | _, _, _, .nil => .nil
  | _, _, 0, .cons _ t => (.cons r t)
  | _, _, i + 1, .cons q t => .cons q (AtAll.set r i t)
theorem AtAll.ints : ∀ {vs : List V} {ns : List Int}, AtAll K H vs (ns.map PyData.int) → vs = ns.map V.int
  | _, [], .nil => rfl
  | _, n :: ns, .cons r t => by cases r; rw [t.ints]; rfl
theorem AtAll.bools : ∀ {vs : List V} {ns : List Bool}, AtAll K H vs (ns.map PyData.bool) → vs = ns.map V.bl
  | _, [], .nil => rfl
  | _, n :: ns, .cons r t => by cases r; rw [t.bools]; rfl
theorem AtAll.ofInts : ∀ (ns : List Int), AtAll K H (ns.map V.int) (ns.map PyData.int)
  | [] => .nil
  | n :: ns => .cons (.int n) (AtAll.ofInts ns)
end
mutual
def nod : D → Bool
  | .list xs => nodAll xs
  | .tuple xs => nodAll xs
  | .dict _ => false
  | _ => true
def nodAll : List D → Bool
  | [] => true
  | x :: xs => nod x && nodAll xs
end
theorem At.dp {K : PySem.W.Frag} {H : Hp} {v : V} {d : D} (h : At K H v d) : nod d = true → Dp K H v d := by
  refine At.rec (motive_1 := fun v d _ => nod d = true → Dp K H v d) (motive_2 := fun vs ds _ => nodAll ds = true → DpAll K H vs ds) ?_ ?_ ?_ ?_ ?_ ?_ ?_ ?_ ?_ ?_ h
  · exact fun _ => .non
  · exact fun b _ => .bl b
  · exact fun i _ => .int i
  · exact fun x _ => .str x
  · exact fun s _ i e => .lst s (i (by simpa [nod] using e))
  · exact fun s _ i e => .tup s (i (by simpa [nod] using e))
  · exact fun _ _ _ _ _ e => by simp [nod] at e
  · exact fun _ _ _ _ e => by simp [nod] at e
  · exact fun _ => .nil
  · exact fun _ _ i j e => by
      simp only [nodAll, Bool.and_eq_true] at e
      exact .cons (i e.1) (j e.2)
end DL
namespace DL
open PySem L2
def Foot : Option Addr → Hp → Addr → Prop
  | none, _, _ => False
  | some q, H, a => a = q ∨ ∃ kvs k, H q = some (.dK kvs) ∧ (k, V.ref a) ∈ kvs
theorem Foot.eqv {p : Option Addr} {H H' : Hp} (h : ∀ q, p = some q → H' q = H q) (a : Addr) : Foot p H' a ↔ Foot p H a := by
  cases p with
  | none => exact Iff.rfl
  | some q =>
    have e := h q rfl
    show (a = q ∨ ∃ kvs k, H' q = some (.dK kvs) ∧ (k, V.ref a) ∈ kvs) ↔ (a = q ∨ ∃ kvs k, H q = some (.dK kvs) ∧ (k, V.ref a) ∈ kvs)
    rw [e]
structure Orc where
  I : Addr → Hp → Prop
  cnt : Addr → Hp → Nat
  al : ∀ q H a, I q H → Foot (some q) H a → H a ≠ none
  st : ∀ q H H', I q H → (∀ a, Foot (some q) H a → H' a = H a) → I q H'
  sc : ∀ q H H', I q H → (∀ a, Foot (some q) H a → H' a = H a) → cnt q H' = cnt q H
/-- no source of numbers -/
def Orc.nil : Orc := ⟨fun _ _ => False, fun _ _ => 0, fun _ _ _ h => h.elim, fun _ _ _ h => h.elim, fun _ _ _ h => h.elim⟩
/-- from F0 (known to stay) and H0 (all) to F and H -/
structure World (R : Orc) (p : Option Addr) (F0 H0 F H : Hp) : Prop where
  ff : Ex F0 F
  fh : Ex F H
  kp : ∀ a o, H0 a = some o → ¬ Foot p H0 a → H a = some o ∧ ¬ Foot p H a
  dom : ∀ a, H0 a ≠ none → H a ≠ none
  fn : ∀ a, H0 a ≠ none → F0 a = none → F a = none
  ft : ∀ a, F a ≠ none → ¬ Foot p H a
  or : ∀ q, p = some q → R.I q H
theorem World.start {R : Orc} {p : Option Addr} {F H : Hp} (fh : Ex F H) (ft : ∀ a, F a ≠ none → ¬ Foot p H a) (or : ∀ q, p = some q → R.I q H) : World R p F H F H :=
  ⟨Ex.refl F, fh, fun _ _ h f => ⟨h, f⟩, fun _ h => h, fun _ _ h => h, ft, or⟩
theorem World.here {R : Orc} {p : Option Addr} {F0 H0 F H : Hp} (w : World R p F0 H0 F H) : World R p F H F H := World.start w.fh w.ft w.or
theorem World.trans {R : Orc} {p : Option Addr} {F0 H0 F H F' H' : Hp} (w : World R p F0 H0 F H) (v : World R p F H F' H') : World R p F0 H0 F' H' := by
  refine ⟨w.ff.trans v.ff, v.fh, fun a o h f => ?_, fun a h => v.dom a (w.dom a h), fun a h f => v.fn a (w.dom a h) (w.fn a h f), v.ft, v.or⟩
  obtain ⟨h1, f1⟩ := w.kp a o h f
  exact v.kp a o h1 f1
theorem World.ofNone {R : Orc} {p : Option Addr} {F0 H0 F H F' H' : Hp} (w : World R p F0 H0 F H) (v : World R none F H F' H') : World R p F H F' H' := by
  have all : ∀ a, H a ≠ none → H' a = H a := fun a h => by
    cases e : H a with
    | none => exact absurd e h
    | some o => exact (v.kp a o e (fun z => z)).1
  have al : ∀ a, Foot p H a → H a ≠ none := fun a h => by
    cases p with
    | none => exact h.elim
    | some q => exact R.al q H a (w.or q rfl) h
  have hq : ∀ q, p = some q → H' q = H q := fun q e => all q (al q (by subst e; exact .inl rfl))
  have ff : ∀ a, Foot p H' a ↔ Foot p H a := Foot.eqv hq
  refine ⟨v.ff, v.fh, fun a o h f => ⟨(v.kp a o h (fun z => z)).1, fun z => f ((ff a).mp z)⟩, v.dom, v.fn, fun a h z => ?_, fun q e => ?_⟩
  · have z' := (ff a).mp z
    cases e : F a with
    | some o => exact w.ft a (by rw [e]; exact Option.some_ne_none o) z'
    | none => exact h (v.fn a (al a z') e)
  · subst e
    exact R.st q H H' (w.or q rfl) fun a h => all a (al a h)
theorem World.foot_al {R : Orc} {p : Option Addr} {F0 H0 F H : Hp} (w : World R p F0 H0 F H) {a : Addr} (h : Foot p H a) : H a ≠ none := by
  cases p with
  | none => exact h.elim
  | some q => exact R.al q H a (w.or q rfl) h
/-- a new object that is known from then on -/
theorem World.newF {R : Orc} {p : Option Addr} {F0 H0 F H : Hp} (w : World R p F0 H0 F H) {q : Addr} (o : HO) (hq : H q = none) : World R none F H (upd F q o) (upd H q o) := by
  refine ⟨?_, ?_, ?_, ?_, ?_, fun _ _ z => z, fun _ e => nomatch e⟩
  · intro a u e
    have : a ≠ q := fun z => by
      have := w.fh a u e
      rw [z, hq] at this
      cases this
    rw [upd_ne this]
    exact e
  · intro a u e
    by_cases h : a = q
    · subst h
      rw [upd_same] at e ⊢
      exact e
    · rw [upd_ne h] at e ⊢
      exact w.fh a u e
  · exact fun a u e _ => ⟨Ex.new hq a u e, fun z => z⟩
  · intro a h
    by_cases e : a = q
    · subst e
      exact absurd hq h
    · rw [upd_ne e]
      exact h
  · intro a h e
    by_cases z : a = q
    · subst z
      exact absurd hq h
    · rw [upd_ne z]
      exact e
/-- a new object that may change -/
theorem World.newO {R : Orc} {p : Option Addr} {F0 H0 F H : Hp} (w : World R p F0 H0 F H) {q : Addr} (o : HO) (hq : H q = none) : World R none F H F (upd H q o) := by
  refine ⟨Ex.refl F, fun a u e => Ex.new hq a u (w.fh a u e), fun a u e _ => ⟨Ex.new hq a u e, fun z => z⟩, fun a h => ?_, fun _ _ e => e, fun _ _ z => z, fun _ e => nomatch e⟩
  by_cases e : a = q
  · subst e
    exact absurd hq h
  · rw [upd_ne e]
    exact h
inductive Sl where
  | no | im (d : D) | ow (d : D) | ora (n : Nat)
structure Cn where
  K : PySem.W.Frag
  R : Orc
  p : Option Addr
  F0 : Hp
  H0 : Hp
/-- an object on the side: a datum's, or just this one -/
inductive XO where
  | d (d : D) | o (o : HO)
instance : Coe D XO := ⟨XO.d⟩
abbrev XX := List (Addr × XO)
/-- a list or dict that nobody else holds -/
def OwnO (K : PySem.W.Frag) (F H : Hp) (a : Addr) : D → Prop
  | .list ds => ∃ vs, H a = some (.lst vs) ∧ AtAll K F vs ds
  | .dict kd => (∃ (ks : List Key) (vs : List V) (ds : List D), kd = (ks.map KD).zip ds ∧ ks ≠ [] ∧ ks.length = vs.length ∧ H a = some (.dK (ks.zip vs)) ∧ AtAll K F vs ds) ∨
      ∃ (ks : List (List Key)) (vs : List V) (ds : List D), kd = (ks.map fun k => PyData.tuple (k.map KD)).zip ds ∧ ks.length = vs.length ∧ H a = some (.dT (ks.zip vs)) ∧ AtAll K F vs ds
  | _ => False
def OwnO.mono {K : PySem.W.Frag} {F F' H H' : Hp} {a : Addr} (e : Ex F F') (h : H' a = H a) : ∀ {d : D}, OwnO K F H a d → OwnO K F' H' a d
  | .list ds, ⟨vs, h1, h2⟩ => ⟨vs, h.trans h1, h2.mono e⟩
  | .dict kd, .inl ⟨ks, vs, ds, h0, hn, hl, h1, h2⟩ => .inl ⟨ks, vs, ds, h0, hn, hl, h.trans h1, h2.mono e⟩
  | .dict kd, .inr ⟨ks, vs, ds, h0, hl, h1, h2⟩ => .inr ⟨ks, vs, ds, h0, hl, h.trans h1, h2.mono e⟩
theorem OwnO.at {K : PySem.W.Frag} {F H : Hp} {a : Addr} : ∀ {d : D}, OwnO K F H a d → ∃ o, H a = some o ∧ ∀ F', Ex F F' → F' a = some o → At K F' (.ref a) d
  | .list ds, ⟨vs, h1, h2⟩ => ⟨_, h1, fun F' e h => .lst (.inl (.inl h)) (h2.mono e)⟩
  | .dict kd, .inl ⟨ks, vs, ds, h0, hn, hl, h1, h2⟩ => ⟨_, h1, fun F' e h => by subst h0; exact .dk (.inl h) hn hl (h2.mono e)⟩
  | .dict kd, .inr ⟨ks, vs, ds, h0, hl, h1, h2⟩ => ⟨_, h1, fun F' e h => by subst h0; exact .dt h hl (h2.mono e)⟩
def OwnX (K : PySem.W.Frag) (F H : Hp) (a : Addr) : XO → Prop
  | .d d => OwnO K F H a d
  | .o o => H a = some o
theorem OwnX.mono {K : PySem.W.Frag} {F F' H H' : Hp} {a : Addr} (e : Ex F F') (h : H' a = H a) : ∀ {x : XO}, OwnX K F H a x → OwnX K F' H' a x
  | .d _, z => OwnO.mono e h z
  | .o _, z => h.trans z
theorem OwnX.some {K : PySem.W.Frag} {F H : Hp} {a : Addr} : ∀ {x : XO}, OwnX K F H a x → ∃ o, H a = some o
  | .d _, z => let ⟨o, h, _⟩ := OwnO.at z; ⟨o, h⟩
  | .o o, z => ⟨o, z⟩
theorem OwnX.at {K : PySem.W.Frag} {F H : Hp} {a : Addr} {d : D} (h : OwnX K F H a (.d d)) : ∃ o, H a = Option.some o ∧ ∀ F', Ex F F' → F' a = Option.some o → At K F' (.ref a) d := OwnO.at h
/-- as it stands at a, the address being younger than the entry -/
structure Own (c : Cn) (F H : Hp) (a : Addr) (d : XO) : Prop where
  o : OwnX c.K F H a d
  f : F a = none
  y : c.H0 a = none
  n : ¬ Foot c.p H a
structure Slots (c : Cn) (F H : Hp) (σ : L2.St) (ρ : List Sl) (xx : XX) : Prop where
  len : ρ.length = σ.length
  im : ∀ (i : Nat) (d : D), ρ[i]? = some (.im d) → ∃ v, σ[i]? = some (some v) ∧ At c.K F v d
  ow : ∀ (i : Nat) (d : D), ρ[i]? = some (.ow d) → ∃ a, σ[i]? = some (some (.ref a)) ∧ Own c F H a d
  dj : ∀ (i j : Nat) (d e : D) (a : Addr), ρ[i]? = some (.ow d) → ρ[j]? = some (.ow e) → σ[i]? = some (some (.ref a)) → σ[j]? = some (some (.ref a)) → i = j
  or : ∀ (i n : Nat), ρ[i]? = some (.ora n) → ∃ q, c.p = some q ∧ σ[i]? = some (some (.ref q)) ∧ c.R.cnt q H ≤ n
  ou : ∀ (i j m n : Nat), ρ[i]? = some (.ora m) → ρ[j]? = some (.ora n) → i = j
  ex : ∀ p ∈ xx, Own c F H p.1 p.2 ∧ ∀ (i : Nat) (e : D), ρ[i]? = some (.ow e) → σ[i]? ≠ some (some (.ref p.1))
  xd : (xx.map (·.1)).Nodup
structure Rel (c : Cn) (F H : Hp) (σ : L2.St) (ρ : List Sl) (xx : XX) : Prop where
  w : World c.R c.p c.F0 c.H0 F H
  s : Slots c F H σ ρ xx
theorem Own.step {c : Cn} {F H F' H' : Hp} {a : Addr} {d : XO} (h : Own c F H a d) (v : World c.R c.p F H F' H') : Own c F' H' a d := by
  obtain ⟨o, ho⟩ := h.o.some
  obtain ⟨h1, h2⟩ := v.kp a o ho h.n
  exact ⟨h.o.mono v.ff (h1.trans ho.symm), v.fn a (by rw [ho]; exact Option.some_ne_none o) h.f, h.y, h2⟩
theorem Slots.step {c : Cn} {F H F' H' : Hp} {σ : L2.St} {ρ : List Sl} {xx : XX} (s : Slots c F H σ ρ xx) (v : World c.R c.p F H F' H') (hq : ∀ q, c.p = some q → c.R.cnt q H' ≤ c.R.cnt q H) : Slots c F' H' σ ρ xx := by
  refine ⟨s.len, fun i d e => ?_, fun i d e => ?_, s.dj, fun i n e => ?_, s.ou, fun p hp => ⟨(s.ex p hp).1.step v, (s.ex p hp).2⟩, s.xd⟩
  · obtain ⟨u, h1, h2⟩ := s.im i d e
    exact ⟨u, h1, h2.mono v.ff⟩
  · obtain ⟨a, h1, h2⟩ := s.ow i d e
    exact ⟨a, h1, h2.step v⟩
  · obtain ⟨q, h1, h2, h3⟩ := s.or i n e
    exact ⟨q, h1, h2, Nat.le_trans (hq q h1) h3⟩
theorem Rel.step {c : Cn} {F H F' H' : Hp} {σ : L2.St} {ρ : List Sl} {xx : XX} (r : Rel c F H σ ρ xx) (v : World c.R c.p F H F' H') (hq : ∀ q, c.p = some q → c.R.cnt q H' ≤ c.R.cnt q H) : Rel c F' H' σ ρ xx := ⟨r.w.trans v, r.s.step v hq⟩
theorem Rel.stepN {c : Cn} {F H F' H' : Hp} {σ : L2.St} {ρ : List Sl} {xx : XX} (r : Rel c F H σ ρ xx) (v : World c.R none F H F' H') : Rel c F' H' σ ρ xx := r.step (r.w.ofNone v) fun q e => by
  refine Nat.le_of_eq (c.R.sc q H H' (r.w.or q e) fun a ha => ?_)
  have al := c.R.al q H a (r.w.or q e) ha
  cases z : H a with
  | none => exact absurd z al
  | some o => exact (v.kp a o z fun y => y).1
theorem ora_back {ρ : List Sl} {k : Nat} {x : Sl} (hx : ∀ m, x ≠ .ora m) {i m : Nat} (q : (ρ.set k x)[i]? = some (.ora m)) : ρ[i]? = some (.ora m) := by
  rw [List.getElem?_set] at q
  by_cases z : k = i
  · rw [if_pos z] at q
    split at q
    · exact absurd (Option.some.inj q) (hx m)
    · cases q
  · rw [if_neg z] at q
    exact q
theorem ou_set {ρ : List Sl} {k : Nat} {x : Sl} (hx : ∀ m, x ≠ .ora m) (h : ∀ (i j m n : Nat), ρ[i]? = some (.ora m) → ρ[j]? = some (.ora n) → i = j) : ∀ (i j m n : Nat), (ρ.set k x)[i]? = some (.ora m) → (ρ.set k x)[j]? = some (.ora n) → i = j :=
  fun i j m n a b => h i j m n (ora_back hx a) (ora_back hx b)
theorem Rel.apart {c : Cn} {F H : Hp} {σ : L2.St} {ρ : List Sl} {xx : XX} (r : Rel c F H σ ρ xx) {a : Addr} {o : HO} (n : ¬ Foot c.p H a) : ∀ (i n : Nat), ρ[i]? = some (.ora n) → ∃ q, c.p = some q ∧ σ[i]? = some (some (.ref q)) ∧ c.R.cnt q (upd H a o) ≤ n := by
  intro i m e
  obtain ⟨q, h1, h2, h3⟩ := r.s.or i m e
  refine ⟨q, h1, h2, ?_⟩
  rw [c.R.sc q H _ (r.w.or q h1) fun b hb => ?_]
  · exact h3
  · rw [upd_ne]
    intro z
    subst z
    exact n (by rw [h1]; exact hb)
/-- an own object becomes known -/
theorem Rel.freeze {c : Cn} {F H : Hp} {σ : L2.St} {ρ : List Sl} {xx : XX} (r : Rel c F H σ ρ xx) {i : Nat} {d : D} (e : ρ[i]? = some (.ow d)) :
    ∃ F' v, σ[i]? = some (some v) ∧ Ex F F' ∧ At c.K F' v d ∧ Rel c F' H σ (ρ.set i (.im d)) xx := by
  obtain ⟨a, h1, h2⟩ := r.s.ow i d e
  obtain ⟨o, ho, at_⟩ := h2.o.at
  have ef : Ex F (upd F a o) := Ex.new h2.f
  have hi : i < ρ.length := (List.getElem?_eq_some_iff.mp e).1
  refine ⟨upd F a o, .ref a, h1, ef, at_ _ ef upd_same, ⟨?_, ?_⟩⟩
  · refine ⟨r.w.ff.trans ef, fun b u q => ?_, r.w.kp, r.w.dom, fun b h f => ?_, fun b h => ?_, r.w.or⟩
    · by_cases z : b = a
      · subst z
        rw [upd_same] at q
        cases q
        exact ho
      · rw [upd_ne z] at q
        exact r.w.fh b u q
    · by_cases z : b = a
      · subst z
        exact absurd h2.y h
      · rw [upd_ne z]
        exact r.w.fn b h f
    · by_cases z : b = a
      · subst z
        exact h2.n
      · rw [upd_ne z] at h
        exact r.w.ft b h
  · refine ⟨by simpa using r.s.len, fun j x q => ?_, fun j x q => ?_, fun j k x y b q1 q2 s1 s2 => ?_, fun j n q => r.s.or j n (ora_back (by intro m z; cases z) q), ou_set (by intro m z; cases z) r.s.ou, fun p hp => ?_, r.s.xd⟩
    · rw [List.getElem?_set] at q
      by_cases z : i = j
      · subst z
        rw [if_pos rfl, if_pos hi] at q
        cases q
        exact ⟨.ref a, h1, at_ _ ef upd_same⟩
      · rw [if_neg z] at q
        obtain ⟨v, g1, g2⟩ := r.s.im j x q
        exact ⟨v, g1, g2.mono ef⟩
    · rw [List.getElem?_set] at q
      by_cases z : i = j
      · subst z
        rw [if_pos rfl, if_pos hi] at q
        cases q
      · rw [if_neg z] at q
        obtain ⟨b, g1, g2⟩ := r.s.ow j x q
        have hb : b ≠ a := fun zz => by
          subst zz
          exact z (r.s.dj i j d x b e q h1 g1)
        exact ⟨b, g1, ⟨g2.o.mono ef rfl, by rw [upd_ne hb]; exact g2.f, g2.y, g2.n⟩⟩
    · rw [List.getElem?_set] at q1 q2
      by_cases z : i = j
      · subst z
        rw [if_pos rfl, if_pos hi] at q1
        cases q1
      · rw [if_neg z] at q1
        by_cases z2 : i = k
        · subst z2
          rw [if_pos rfl, if_pos hi] at q2
          cases q2
        · rw [if_neg z2] at q2
          exact r.s.dj j k x y b q1 q2 s1 s2
    · obtain ⟨g2, gn⟩ := r.s.ex p hp
      have hb : p.1 ≠ a := fun zz => gn i d e (by rw [zz]; exact h1)
      refine ⟨⟨g2.o.mono ef rfl, by rw [upd_ne hb]; exact g2.f, g2.y, g2.n⟩, fun j x q => ?_⟩
      rw [List.getElem?_set] at q
      by_cases z : i = j
      · subst z
        rw [if_pos rfl, if_pos hi] at q
        cases q
      · rw [if_neg z] at q
        exact gn j x q
/-- an own object changes -/
theorem Rel.mut {c : Cn} {F H : Hp} {σ : L2.St} {ρ : List Sl} {xx : XX} (r : Rel c F H σ ρ xx) {i : Nat} {d d' : D} {a : Addr} {o : HO} (e : ρ[i]? = some (.ow d)) (h1 : σ[i]? = some (some (.ref a)))
    (hn : OwnO c.K F (upd H a o) a d') : Rel c F (upd H a o) σ (ρ.set i (.ow d')) xx := by
  obtain ⟨a', h1', h2⟩ := r.s.ow i d e
  rw [h1] at h1'
  cases h1'
  obtain ⟨o0, ho, _⟩ := h2.o.at
  have hi : i < ρ.length := (List.getElem?_eq_some_iff.mp e).1
  have hq : ∀ q, c.p = some q → upd H a o q = H q := fun q ep => by
    rw [upd_ne]
    intro z
    subst z
    exact h2.n (by rw [ep]; exact .inl rfl)
  have ff : ∀ b, Foot c.p (upd H a o) b ↔ Foot c.p H b := Foot.eqv hq
  refine ⟨⟨r.w.ff, fun b u q => ?_, fun b u q f => ?_, fun b h => ?_, r.w.fn, fun b h z => r.w.ft b h ((ff b).mp z), fun q ep => ?_⟩, ?_⟩
  · rw [upd_ne (fun z => by subst z; rw [h2.f] at q; cases q)]
    exact r.w.fh b u q
  · obtain ⟨g1, g2⟩ := r.w.kp b u q f
    refine ⟨?_, fun z => g2 ((ff b).mp z)⟩
    rw [upd_ne (fun z => by subst z; rw [h2.y] at q; cases q)]
    exact g1
  · by_cases z : b = a
    · subst z
      rw [upd_same]
      exact Option.some_ne_none o
    · rw [upd_ne z]
      exact r.w.dom b h
  · refine c.R.st q H _ (r.w.or q ep) fun b hb => ?_
    rw [upd_ne]
    intro z
    subst z
    exact h2.n (by rw [ep]; exact hb)
  · refine ⟨by simpa using r.s.len, fun j x q => ?_, fun j x q => ?_, fun j k x y b q1 q2 s1 s2 => ?_, fun j n q => r.apart h2.n j n (ora_back (by intro m z; cases z) q), ou_set (by intro m z; cases z) r.s.ou, fun p hp => ?_, r.s.xd⟩
    · rw [List.getElem?_set] at q
      by_cases z : i = j
      · subst z
        rw [if_pos rfl, if_pos hi] at q
        cases q
      · rw [if_neg z] at q
        exact r.s.im j x q
    · rw [List.getElem?_set] at q
      by_cases z : i = j
      · subst z
        rw [if_pos rfl, if_pos hi] at q
        cases q
        exact ⟨a, h1, ⟨hn, h2.f, h2.y, fun z => h2.n ((ff a).mp z)⟩⟩
      · rw [if_neg z] at q
        obtain ⟨b, g1, g2⟩ := r.s.ow j x q
        have hb : b ≠ a := fun zz => by
          subst zz
          exact z (r.s.dj i j d x b e q h1 g1)
        exact ⟨b, g1, ⟨g2.o.mono (Ex.refl F) (upd_ne hb), g2.f, g2.y, fun z => g2.n ((ff b).mp z)⟩⟩
    · have back : ∀ (k : Nat) (y : D), (ρ.set i (.ow d'))[k]? = some (.ow y) → ∃ y', ρ[k]? = some (.ow y') := fun k y q => by
        rw [List.getElem?_set] at q
        by_cases z : i = k
        · subst z
          exact ⟨d, e⟩
        · rw [if_neg z] at q
          exact ⟨y, q⟩
      obtain ⟨x', q1'⟩ := back j x q1
      obtain ⟨y', q2'⟩ := back k y q2
      exact r.s.dj j k x' y' b q1' q2' s1 s2
    · obtain ⟨g2, gn⟩ := r.s.ex p hp
      have hb : p.1 ≠ a := fun zz => gn i d e (by rw [zz]; exact h1)
      refine ⟨⟨g2.o.mono (Ex.refl F) (upd_ne hb), g2.f, g2.y, fun z => g2.n ((ff p.1).mp z)⟩, fun j x q => ?_⟩
      rw [List.getElem?_set] at q
      by_cases z : i = j
      · subst z
        exact gn i d e
      · rw [if_neg z] at q
        exact gn j x q
/-- a new object, held by nobody -/
structure Fresh (c : Cn) (F H : Hp) (σ : L2.St) (ρ : List Sl) (xx : XX) (a : Addr) (d : XO) : Prop where
  own : Own c F H a d
  ne : ∀ (i : Nat) (e : D), ρ[i]? = some (.ow e) → σ[i]? ≠ some (some (.ref a))
  nx : ∀ p ∈ xx, p.1 ≠ a
theorem set_lt {α : Type} {ρ : List α} {i j : Nat} {x y : α} (h : (ρ.set i x)[j]? = some y) : (i = j ∧ i < ρ.length ∧ x = y) ∨ (i ≠ j ∧ ρ[j]? = some y) := by
  rw [List.getElem?_set] at h
  by_cases z : i = j
  · rw [if_pos z] at h
    by_cases hl : i < ρ.length
    · rw [if_pos hl] at h
      exact .inl ⟨z, hl, Option.some.inj h⟩
    · rw [if_neg hl] at h
      cases h
  · rw [if_neg z] at h
    exact .inr ⟨z, h⟩
theorem get_set_ne {α : Type} {ρ : List α} {i j : Nat} {x : α} (h : i ≠ j) : (ρ.set i x)[j]? = ρ[j]? := by rw [List.getElem?_set, if_neg h]
theorem get_set_eq {α : Type} {ρ : List α} {i : Nat} {x : α} (h : i < ρ.length) : (ρ.set i x)[i]? = some x := by rw [List.getElem?_set, if_pos rfl, if_pos h]
theorem Slots.put {c : Cn} {F H : Hp} {σ : L2.St} {ρ : List Sl} {xx : XX} (s : Slots c F H σ ρ xx) {v : V} {x : Sl} (i : Nat)
    (him : ∀ d, x = .im d → At c.K F v d) (how : ∀ d, x = .ow d → ∃ a, v = .ref a ∧ Fresh c F H σ ρ xx a d) (hor : ∀ n, x ≠ .ora n) : Slots c F H (σ.set i (some v)) (ρ.set i x) xx := by
  refine ⟨by simpa using s.len, fun j d q => ?_, fun j d q => ?_, fun j k d e b q1 q2 s1 s2 => ?_, fun j n q => ?_, ou_set hor s.ou, fun p hp => ⟨(s.ex p hp).1, fun j d q => ?_⟩, s.xd⟩
  · rcases set_lt q with ⟨rfl, hl, e⟩ | ⟨z, q⟩
    · exact ⟨v, get_set_eq (by rw [← s.len]; exact hl), him d e⟩
    · obtain ⟨u, g1, g2⟩ := s.im j d q
      exact ⟨u, by rw [get_set_ne z]; exact g1, g2⟩
  · rcases set_lt q with ⟨rfl, hl, e⟩ | ⟨z, q⟩
    · obtain ⟨a, ev, fr⟩ := how d e
      subst ev
      exact ⟨a, get_set_eq (by rw [← s.len]; exact hl), fr.own⟩
    · obtain ⟨u, g1, g2⟩ := s.ow j d q
      exact ⟨u, by rw [get_set_ne z]; exact g1, g2⟩
  · rcases set_lt q1 with ⟨rfl, hl, e1⟩ | ⟨z, q1⟩
    · rcases set_lt q2 with ⟨rfl, _, _⟩ | ⟨z2, q2⟩
      · rfl
      · exfalso
        obtain ⟨a, ev, fr⟩ := how d e1
        rw [get_set_eq (by rw [← s.len]; exact hl)] at s1
        rw [get_set_ne z2] at s2
        cases s1
        cases ev
        exact fr.ne k e q2 s2
    · rcases set_lt q2 with ⟨rfl, hl, e2⟩ | ⟨z2, q2⟩
      · exfalso
        obtain ⟨a, ev, fr⟩ := how e e2
        rw [get_set_eq (by rw [← s.len]; exact hl)] at s2
        rw [get_set_ne z] at s1
        cases s2
        cases ev
        exact fr.ne j d q1 s1
      · rw [get_set_ne z] at s1
        rw [get_set_ne z2] at s2
        exact s.dj j k d e b q1 q2 s1 s2
  · rcases set_lt q with ⟨rfl, hl, e⟩ | ⟨z, q⟩
    · exact absurd e (hor n)
    · obtain ⟨u, g1, g2, g3⟩ := s.or j n q
      exact ⟨u, g1, by rw [get_set_ne z]; exact g2, g3⟩
  · rcases set_lt q with ⟨rfl, hl, e⟩ | ⟨z, q⟩
    · obtain ⟨a, ev, fr⟩ := how d e
      subst ev
      rw [get_set_eq (by rw [← s.len]; exact hl)]
      intro zz
      cases zz
      exact fr.nx p hp rfl
    · rw [get_set_ne z]
      exact (s.ex p hp).2 j d q
theorem Rel.putI {c : Cn} {F H : Hp} {σ : L2.St} {ρ : List Sl} {xx : XX} (r : Rel c F H σ ρ xx) {v : V} {d : D} (i : Nat) (h : At c.K F v d) : Rel c F H (σ.set i (some v)) (ρ.set i (.im d)) xx :=
  ⟨r.w, r.s.put i (fun _ e => by cases e; exact h) (fun _ e => by cases e) (by intro m z; cases z)⟩
theorem Rel.putO {c : Cn} {F H : Hp} {σ : L2.St} {ρ : List Sl} {xx : XX} (r : Rel c F H σ ρ xx) {a : Addr} {d : D} (i : Nat) (h : Fresh c F H σ ρ xx a d) : Rel c F H (σ.set i (some (.ref a))) (ρ.set i (.ow d)) xx :=
  ⟨r.w, r.s.put i (fun _ e => by cases e) (fun _ e => by cases e; exact ⟨a, rfl, h⟩) (by intro m z; cases z)⟩
/-- what an own slot holds becomes known, as a value -/
theorem Fresh.freeze {c : Cn} {F H : Hp} {σ : L2.St} {ρ : List Sl} {xx : XX} {a : Addr} {d : D} (r : Rel c F H σ ρ xx) (h : Fresh c F H σ ρ xx a d) : ∃ F', Ex F F' ∧ At c.K F' (.ref a) d ∧ Rel c F' H σ ρ xx := by
  obtain ⟨o, ho, at_⟩ := h.own.o.at
  have ef : Ex F (upd F a o) := Ex.new h.own.f
  refine ⟨upd F a o, ef, at_ _ ef upd_same, ⟨⟨r.w.ff.trans ef, fun b u q => ?_, r.w.kp, r.w.dom, fun b g f => ?_, fun b g => ?_, r.w.or⟩, ⟨r.s.len, fun j x q => ?_, fun j x q => ?_, r.s.dj, r.s.or, r.s.ou, fun p hp => ?_, r.s.xd⟩⟩⟩
  · by_cases z : b = a
    · subst z
      rw [upd_same] at q
      cases q
      exact ho
    · rw [upd_ne z] at q
      exact r.w.fh b u q
  · by_cases z : b = a
    · subst z
      exact absurd h.own.y g
    · rw [upd_ne z]
      exact r.w.fn b g f
  · by_cases z : b = a
    · subst z
      exact h.own.n
    · rw [upd_ne z] at g
      exact r.w.ft b g
  · obtain ⟨v, g1, g2⟩ := r.s.im j x q
    exact ⟨v, g1, g2.mono ef⟩
  · obtain ⟨b, g1, g2⟩ := r.s.ow j x q
    have hb : b ≠ a := fun zz => by
      subst zz
      exact h.ne j x q g1
    exact ⟨b, g1, ⟨g2.o.mono ef rfl, by rw [upd_ne hb]; exact g2.f, g2.y, g2.n⟩⟩
  · obtain ⟨g2, gn⟩ := r.s.ex p hp
    exact ⟨⟨g2.o.mono ef rfl, by rw [upd_ne (h.nx p hp)]; exact g2.f, g2.y, g2.n⟩, gn⟩
theorem Fresh.new {c : Cn} {F H : Hp} {σ : L2.St} {ρ : List Sl} {xx : XX} (r : Rel c F H σ ρ xx) {q : Addr} {o : HO} {d : XO} (hq : H q = none) (h : OwnX c.K F (upd H q o) q d) :
    Rel c F (upd H q o) σ ρ xx ∧ Fresh c F (upd H q o) σ ρ xx q d := by
  have w := r.w.newO o hq
  refine ⟨r.stepN w, ⟨⟨h, ?_, ?_, fun z => ?_⟩, fun i e q1 q2 => ?_, fun p hp z => ?_⟩⟩
  · cases e : F q with
    | none => rfl
    | some u =>
      have := r.w.fh q u e
      rw [hq] at this
      cases this
  · cases e : c.H0 q with
    | none => rfl
    | some u => exact absurd hq (r.w.dom q (by rw [e]; exact Option.some_ne_none u))
  · have e : ∀ u, c.p = some u → upd H q o u = H u := fun u ep => by
      rw [upd_ne]
      intro zz
      subst zz
      exact r.w.foot_al (a := u) (by rw [ep]; exact .inl rfl) hq
    exact r.w.foot_al ((Foot.eqv e q).mp z) hq
  · obtain ⟨a, g1, g2⟩ := r.s.ow i e q1
    rw [q2] at g1
    cases g1
    obtain ⟨u, hu⟩ := g2.o.some
    rw [hq] at hu
    cases hu
  · obtain ⟨u, hu⟩ := (r.s.ex p hp).1.o.some
    rw [z, hq] at hu
    cases hu
/-- one more object on the side, and off again -/
theorem Rel.pushX {c : Cn} {F H : Hp} {σ : L2.St} {ρ : List Sl} {xx : XX} {a : Addr} {d : XO} (r : Rel c F H σ ρ xx) (h : Fresh c F H σ ρ xx a d) : Rel c F H σ ρ ((a, d) :: xx) := by
  refine ⟨r.w, ⟨r.s.len, r.s.im, r.s.ow, r.s.dj, r.s.or, r.s.ou, fun p hp => ?_, ?_⟩⟩
  · (rcases List.mem_cons.mp hp with rfl | hp)
    · exact ⟨h.own, h.ne⟩
    · exact r.s.ex p hp
  · rw [List.map_cons, List.nodup_cons]
    refine ⟨fun z => ?_, r.s.xd⟩
    obtain ⟨p, hp, e⟩ := List.mem_map.mp z
    exact h.nx p hp e
theorem Rel.popX {c : Cn} {F H : Hp} {σ : L2.St} {ρ : List Sl} {xx : XX} {a : Addr} {d : XO} (r : Rel c F H σ ρ ((a, d) :: xx)) : Rel c F H σ ρ xx ∧ Fresh c F H σ ρ xx a d := by
  have hx := r.s.xd
  rw [List.map_cons, List.nodup_cons] at hx
  have h0 := r.s.ex (a, d) (List.mem_cons_self ..)
  exact ⟨⟨r.w, ⟨r.s.len, r.s.im, r.s.ow, r.s.dj, r.s.or, r.s.ou, fun p hp => r.s.ex p (List.mem_cons_of_mem _ hp), hx.2⟩⟩, ⟨h0.1, h0.2, fun p hp e => hx.1 (List.mem_map.mpr ⟨p, hp, e⟩)⟩⟩
theorem Rel.mutX {c : Cn} {F H : Hp} {σ : L2.St} {ρ : List Sl} {xx : XX} {a : Addr} {d d' : XO} {o : HO} (r : Rel c F H σ ρ ((a, d) :: xx)) (hn : OwnX c.K F (upd H a o) a d') : Rel c F (upd H a o) σ ρ ((a, d') :: xx) := by
  obtain ⟨r0, h2⟩ := r.popX
  have hq : ∀ q, c.p = some q → upd H a o q = H q := fun q ep => by
    rw [upd_ne]
    intro z
    subst z
    exact h2.own.n (by rw [ep]; exact .inl rfl)
  have ff : ∀ b, Foot c.p (upd H a o) b ↔ Foot c.p H b := Foot.eqv hq
  have r1 : Rel c F (upd H a o) σ ρ xx := by
    refine ⟨⟨r0.w.ff, fun b u q => ?_, fun b u q f => ?_, fun b h => ?_, r0.w.fn, fun b h z => r0.w.ft b h ((ff b).mp z), fun q ep => ?_⟩, ⟨r0.s.len, r0.s.im, fun i x q => ?_, r0.s.dj, r0.apart h2.own.n, r0.s.ou, fun p hp => ?_, r0.s.xd⟩⟩
    · rw [upd_ne (fun z => by subst z; rw [h2.own.f] at q; cases q)]
      exact r0.w.fh b u q
    · obtain ⟨g1, g2⟩ := r0.w.kp b u q f
      refine ⟨?_, fun z => g2 ((ff b).mp z)⟩
      rw [upd_ne (fun z => by subst z; rw [h2.own.y] at q; cases q)]
      exact g1
    · by_cases z : b = a
      · subst z
        rw [upd_same]
        exact Option.some_ne_none o
      · rw [upd_ne z]
        exact r0.w.dom b h
    · refine c.R.st q H _ (r0.w.or q ep) fun b hb => ?_
      rw [upd_ne]
      intro z
      subst z
      exact h2.own.n (by rw [ep]; exact hb)
    · obtain ⟨b, g1, g2⟩ := r0.s.ow i x q
      have hb : b ≠ a := fun zz => by
        subst zz
        exact h2.ne i x q g1
      exact ⟨b, g1, ⟨g2.o.mono (Ex.refl F) (upd_ne hb), g2.f, g2.y, fun z => g2.n ((ff b).mp z)⟩⟩
    · obtain ⟨g2, gn⟩ := r0.s.ex p hp
      exact ⟨⟨g2.o.mono (Ex.refl F) (upd_ne (h2.nx p hp)), g2.f, g2.y, fun z => g2.n ((ff p.1).mp z)⟩, gn⟩
  exact r1.pushX ⟨⟨hn, h2.own.f, h2.own.y, fun z => h2.own.n ((ff a).mp z)⟩, h2.ne, h2.nx⟩
theorem Rel.newF {c : Cn} {F H : Hp} {σ : L2.St} {ρ : List Sl} {xx : XX} (r : Rel c F H σ ρ xx) {q : Addr} (o : HO) (hq : H q = none) : Rel c (upd F q o) (upd H q o) σ ρ xx := r.stepN (r.w.newF o hq)
theorem Rel.efF {c : Cn} {F H : Hp} {σ : L2.St} {ρ : List Sl} {xx : XX} (r : Rel c F H σ ρ xx) {q : Addr} (o : HO) (hq : H q = none) : Ex F (upd F q o) := (r.w.newF o hq).ff
end DL
namespace DL
open PySem L2
/-- the count of a source behind a call of a def that draws -/
theorem Rel.drew {c : Cn} {F H F' H' : Hp} {σ : L2.St} {ρ : List Sl} {xx : XX} (r : Rel c F H σ ρ xx) (v : World c.R c.p F H F' H') {i m n : Nat} (e : ρ[i]? = some (.ora m)) (hn : ∀ q, c.p = some q → c.R.cnt q H' ≤ n) : Rel c F' H' σ (ρ.set i (.ora n)) xx := by
  have nr : ∀ {j : Nat} {x : Sl}, (ρ.set i (.ora n))[j]? = some x → (∀ k, x ≠ .ora k) → ρ[j]? = some x := by
    intro j x q hx
    rcases set_lt q with ⟨_, _, z⟩ | ⟨_, q⟩
    · exact absurd z.symm (hx n)
    · exact q
  refine ⟨r.w.trans v, ⟨by simpa using r.s.len, fun j d q => ?_, fun j d q => ?_, fun j k d e' b q1 q2 => ?_, fun j k q => ?_, fun j k a b q1 q2 => ?_, fun p hp => ⟨(r.s.ex p hp).1.step v, fun j d q => (r.s.ex p hp).2 j d (nr q fun _ z => by cases z)⟩, r.s.xd⟩⟩
  · obtain ⟨u, h1, h2⟩ := r.s.im j d (nr q fun _ z => by cases z)
    exact ⟨u, h1, h2.mono v.ff⟩
  · obtain ⟨a, h1, h2⟩ := r.s.ow j d (nr q fun _ z => by cases z)
    exact ⟨a, h1, h2.step v⟩
  · exact r.s.dj j k d e' b (nr q1 fun _ z => by cases z) (nr q2 fun _ z => by cases z)
  · rcases set_lt q with ⟨z, _, y⟩ | ⟨z, q⟩
    · subst z
      cases y
      obtain ⟨p, h1, h2, _⟩ := r.s.or i m e
      exact ⟨p, h1, h2, hn p h1⟩
    · exact absurd (r.s.ou i j m k e q) z
  · have one : ∀ {j a : Nat}, (ρ.set i (.ora n))[j]? = some (.ora a) → i = j := by
      intro j a q
      rcases set_lt q with ⟨z, _, _⟩ | ⟨_, q⟩
      · exact z
      · exact r.s.ou i j m a e q
    exact (one q1).symm.trans (one q2)
end DL
namespace DL
open PySem L2
abbrev Env := List Sl
abbrev DM := Env → (D → Env → Prop) → Prop
abbrev BM := Env → (Bool → Env → Prop) → Prop
inductive Ar where
  | d (x : D) | ora
abbrev LM := Env → (List D → Env → Prop) → Prop
abbrev AM := Env → (List Ar → Env → Prop) → Prop
/-- a value, or what stands in a slot by the time it is wanted -/
inductive Hd where
  | val (d : D) | slot (i : Nat)
abbrev HM := Env → (Hd → Env → Prop) → Prop
def see (ρ : Env) (h : Hd) (k : D → Prop) : Prop := match h with
  | .val d => k d
  | .slot i => match ρ[i]? with
    | some (.im d) => k d
    | some (.ow d) => k d
    | _ => False
def HdAt (c : Cn) (F : Hp) (σ : L2.St) : Hd → V → Prop
  | .val d, v => At c.K F v d
  | .slot i, v => σ[i]? = some (some v)
def tD (c : Cn) (f : DM) : TE := fun σ H Q => ∃ F ρ xx P, Rel c F H σ ρ xx ∧ f ρ P ∧ ∀ d ρ' v F' H', P d ρ' → Ex F F' → Rel c F' H' σ ρ' xx → At c.K F' v d → Q v H'
/-- a new object, held by nobody -/
def tN (c : Cn) (f : DM) : TE := fun σ H Q => ∃ F ρ xx P, Rel c F H σ ρ xx ∧ f ρ P ∧ ∀ d ρ' a F' H', P d ρ' → Ex F F' → Rel c F' H' σ ρ' xx → Fresh c F' H' σ ρ' xx a d → Q (.ref a) H'
def tH (c : Cn) (f : HM) : TE := fun σ H Q => ∃ F ρ xx P, Rel c F H σ ρ xx ∧ f ρ P ∧ ∀ d ρ' v F' H', P d ρ' → Ex F F' → Rel c F' H' σ ρ' xx → HdAt c F' σ d v → Q v H'
def tT (c : Cn) (f : BM) : TT := fun σ H Q => ∃ F ρ xx P, Rel c F H σ ρ xx ∧ f ρ P ∧ ∀ b ρ' F' H', P b ρ' → Ex F F' → Rel c F' H' σ ρ' xx → Q b H'
def tL (c : Cn) (f : LM) : TA := fun σ H Q => ∃ F ρ xx P, Rel c F H σ ρ xx ∧ f ρ P ∧ ∀ ds ρ' vs F' H', P ds ρ' → Ex F F' → Rel c F' H' σ ρ' xx → AtAll c.K F' vs ds → Q vs H'
def ArAt (c : Cn) (F : Hp) : V → Ar → Prop
  | v, .d x => At c.K F v x
  | v, .ora => ∃ q, c.p = some q ∧ v = .ref q
def tAr (c : Cn) (f : AM) : TA := fun σ H Q => ∃ F ρ xx P, Rel c F H σ ρ xx ∧ f ρ P ∧ ∀ ds ρ' vs F' H', P ds ρ' → Ex F F' → Rel c F' H' σ ρ' xx → Paired (ArAt c F') vs ds → Q vs H'
theorem PE.to {X : Cx} {e : Expr} {t t' : TE} (h : PE X e t) (w : ∀ σ H Q, t' σ H Q → t σ H Q) : PE X e t' := ⟨fun pins s σ H Q I q => h.run pins s σ H Q I (w σ H Q q)⟩
theorem PT.to {X : Cx} {e : Expr} {t t' : TT} (h : PT X e t) (w : ∀ σ H Q, t' σ H Q → t σ H Q) : PT X e t' := ⟨fun pins s σ H Q I q => h.run pins s σ H Q I (w σ H Q q)⟩
theorem PA.to {X : Cx} {e : List Expr} {t t' : TA} (h : PA X e t) (w : ∀ σ H Q, t' σ H Q → t σ H Q) : PA X e t' := ⟨fun pos pins s σ H Q I q => h.run pos pins s σ H Q I (w σ H Q q)⟩
/-- what is to be read of a value: known, or the own object of a slot -/
def Bo (c : Cn) (F H : Hp) (v : V) (d : D) : Prop := At c.K F v d ∨ ∃ a, v = .ref a ∧ OwnO c.K F H a d
theorem Bo.at {c : Cn} {F H : Hp} {v : V} {d : D} (e : Ex F H) (h : Bo c F H v d) : At c.K H v d := by
  rcases h with h | ⟨a, rfl, h⟩
  · exact h.mono e
  · obtain ⟨o, ho, k⟩ := h.at
    exact k H e ho
theorem see_bo {c : Cn} {F H : Hp} {σ : L2.St} {ρ : Env} {xx : XX} (r : Rel c F H σ ρ xx) {h : Hd} {v : V} (hv : HdAt c F σ h v) {k : D → Prop} (hs : see ρ h k) : ∃ d, Bo c F H v d ∧ k d := by
  cases h with
  | val d => exact ⟨d, .inl hv, hs⟩
  | slot i =>
    unfold see at hs
    have hv' : σ[i]? = some (some v) := hv
    simp only at hs
    split at hs
    · rename_i d e
      obtain ⟨u, g1, g2⟩ := r.s.im i d e
      rw [hv'] at g1
      cases g1
      exact ⟨d, .inl g2, hs⟩
    · rename_i d e
      obtain ⟨u, g1, g2⟩ := r.s.ow i d e
      rw [hv'] at g1
      cases g1
      exact ⟨d, .inr ⟨u, rfl, g2.o⟩, hs⟩
    · exact hs.elim
theorem HdAt.mono {c : Cn} {F F' : Hp} (e : Ex F F') {σ : L2.St} {h : Hd} {v : V} (x : HdAt c F σ h v) : HdAt c F' σ h v := by
  cases h with
  | val d => exact At.mono e x
  | slot i => exact x
section
variable {X : Cx} {c : Cn} {e a b : Expr} {pos : Pos}
def dC (d : D) : DM := fun ρ P => P d ρ
theorem de_c {t : V} {d : D} (h : PE X e (tC t)) (hd : ∀ F, At c.K F t d) : PE X e (tD c (dC d)) := PE.to h fun σ H Q ⟨F, ρ, xx, P, r, q, k⟩ => k d ρ t F H q (Ex.refl F) r (hd F)
theorem de_int {i : Int} {j : Nat} : PE X (.Constant (.int i) j pos) (tD c (dC (.int i))) := de_c pe_int fun _ => .int i
theorem de_bl {i : Bool} {j : Nat} : PE X (.Constant (.bool i) j pos) (tD c (dC (.bool i))) := de_c pe_bl fun _ => .bl i
theorem de_non {j : Nat} : PE X (.Constant .none j pos) (tD c (dC .none)) := de_c pe_non fun _ => .non
theorem de_str {x : Str} {j : Nat} : PE X (.Constant (.str x) j pos) (tD c (dC (.str x))) := de_c pe_str fun _ => .str x
/-- a name of the module that holds a number, a text -/
theorem de_gint {x : Str} {i : Int} (hg : Gl X x) (hm : ∃ t, X.mg x = some (.int i t)) (hd : (x == ("__debug__" : Str)) = false := by decide) : PE X (.Name x pos) (tD c (dC (.int i))) := by
  obtain ⟨t, hm⟩ := hm
  exact de_c (pe_glob (v := .int i) hg hm ⟨t, rfl⟩ hd) fun _ => .int i
/-- a name of the module that holds a tuple of the top -/
theorem de_gref {x : Str} {u : Addr} {d : D} (hg : Gl X x) (hm : X.mg x = some (.ref u)) (ha : ∀ F, At c.K F (.ref u) d) (hd : (x == ("__debug__" : Str)) = false := by decide) : PE X (.Name x pos) (tD c (dC d)) :=
  de_c (pe_glob (v := .ref u) hg hm rfl hd) ha
/-- the slot's value, which is known from then on -/
def dV (i : Nat) : DM := fun ρ P => match ρ[i]? with
  | some (.im d) => P d ρ
  | some (.ow d) => P d (ρ.set i (.im d))
  | _ => False
theorem de_v {i : Nat} (h : PE X e (tVar i)) : PE X e (tD c (dV i)) := PE.to h fun σ H Q ⟨F, ρ, xx, P, r, q, k⟩ => by
  unfold dV at q
  split at q
  · rename_i d e
    obtain ⟨v, g1, g2⟩ := r.s.im i d e
    exact ⟨v, g1, k d ρ v F H q (Ex.refl F) r g2⟩
  · rename_i d e
    obtain ⟨F', v, g1, g2, g3, g4⟩ := r.freeze e
    exact ⟨v, g1, k d _ v F' H q g2 g4 g3⟩
  · exact q.elim
def hS (i : Nat) : HM := fun ρ P => (match ρ[i]? with
  | some (.im _) => True
  | some (.ow _) => True
  | _ => False) ∧ P (.slot i) ρ
theorem dh_v {i : Nat} (h : PE X e (tVar i)) : PE X e (tH c (hS i)) := PE.to h fun σ H Q ⟨F, ρ, xx, P, r, ⟨q0, q⟩, k⟩ => by
  split at q0
  · rename_i d e
    obtain ⟨v, g1, g2⟩ := r.s.im i d e
    exact ⟨v, g1, k _ ρ v F H q (Ex.refl F) r g1⟩
  · rename_i d e
    obtain ⟨v, g1, g2⟩ := r.s.ow i d e
    exact ⟨.ref v, g1, k _ ρ _ F H q (Ex.refl F) r g1⟩
  · exact q0.elim
def hV (f : DM) : HM := fun ρ P => f ρ fun d ρ' => P (.val d) ρ'
theorem dh_of {f : DM} (h : PE X e (tD c f)) : PE X e (tH c (hV f)) := PE.to h fun σ H Q ⟨F, ρ, xx, P, r, q, k⟩ => ⟨F, ρ, xx, _, r, q, fun d ρ' v F' H' p e r' at_ => k (.val d) ρ' v F' H' p e r' at_⟩
theorem de_n {f : DM} (h : PE X e (tN c f)) : PE X e (tD c f) := PE.to h fun σ H Q ⟨F, ρ, xx, P, r, q, k⟩ => ⟨F, ρ, xx, P, r, q, fun d ρ' a F' H' p e r' fr => by
  obtain ⟨F2, e2, at_, r2⟩ := fr.freeze r'
  exact k d ρ' (.ref a) F2 H' p (e.trans e2) r2 at_⟩
abbrev G2 := D → D → (D → Prop) → Prop
/-- f does on values what g tells of data -/
def Sem2 (X : Cx) (c : Cn) (f : Value → Value → Sem Value) (g : G2) : Prop := ∃ r : R2, OpR X f r ∧ ∀ (F H : Hp) (σ : L2.St) (ρ : Env) (xx : XX) (x y : D) (vx vy : V) (P : D → Prop) (Q : VK), Rel c F H σ ρ xx → Bo c F H vx x → Bo c F H vy y → g x y P →
  (∀ z v F' H', P z → Ex F F' → Rel c F' H' σ ρ xx → At c.K F' v z → Q v H') → r vx vy H Q
def d2 (g : G2) (fa fb : HM) : DM := fun ρ P => fa ρ fun x ρ1 => fb ρ1 fun y ρ2 => see ρ2 x fun dx => see ρ2 y fun dy => g dx dy fun z => P z ρ2
theorem d2_use {r : R2} {g : G2} {fa fb : HM} {ta tb : TE} (hr : ∀ (F H : Hp) (σ : L2.St) (ρ : Env) (xx : XX) (x y : D) (vx vy : V) (P : D → Prop) (Q : VK), Rel c F H σ ρ xx → Bo c F H vx x → Bo c F H vy y → g x y P →
    (∀ z v F' H', P z → Ex F F' → Rel c F' H' σ ρ xx → At c.K F' v z → Q v H') → r vx vy H Q) (ea : ta = tH c fa) (eb : tb = tH c fb) : ∀ σ H Q, tD c (d2 g fa fb) σ H Q → tOp r ta tb σ H Q := by
  rintro σ H Q ⟨F, ρ, xx, P, rel, q, k⟩
  subst ea eb
  refine ⟨F, ρ, xx, _, rel, q, fun x ρ1 v F1 H1 q1 e1 r1 h1 => ?_⟩
  refine ⟨F1, ρ1, xx, _, r1, q1, fun y ρ2 u F2 H2 q2 e2 r2 h2 => ?_⟩
  obtain ⟨dx, bx, q2⟩ := see_bo r2 (h1.mono e2) q2
  obtain ⟨dy, by_, q2⟩ := see_bo r2 h2 q2
  exact hr F2 H2 σ ρ2 xx dx dy v u _ Q r2 bx by_ q2 fun z w F' H' pz ez rz az => k z ρ2 w F' H' pz ((e1.trans e2).trans ez) rz az
theorem de_bin {op : Operator} {g : G2} {fa fb : HM} (hs : Sem2 X c (binaryOp op) g) (ha : PE X a (tH c fa)) (hb : PE X b (tH c fb)) : PE X (.BinOp a op b pos) (tD c (d2 g fa fb)) := by
  obtain ⟨r, ho, hr⟩ := hs
  exact PE.to (pe_op ho ha hb) (d2_use hr rfl rfl)
theorem de_cmp {op : CmpOp} {g : G2} {fa fb : HM} (hs : Sem2 X c (compareOp op) g) (ha : PE X a (tH c fa)) (hb : PE X b (tH c fb)) (hm : behindInMarks op b = false) : PE X (.Compare a [op] [b] pos) (tD c (d2 g fa fb)) := by
  obtain ⟨r, ho, hr⟩ := hs
  exact PE.to (pe_cmpR ho ha hb hm) (d2_use hr rfl rfl)
/-- a test: what is a bool -/
def bD (f : DM) : BM := fun ρ P => f ρ fun d ρ' => match d with
  | .bool b => P b ρ'
  | _ => False
theorem bD_use {f : DM} {t : TE} (et : t = tD c f) : ∀ σ H Q, tT c (bD f) σ H Q → (t σ H fun x H' => ∃ k, x = .bl k ∧ Q k H') := by
  rintro σ H Q ⟨F, ρ, xx, P, rel, q, k⟩
  subst et
  refine ⟨F, ρ, xx, _, rel, q, fun d ρ' v F' H' p e r at_ => ?_⟩
  cases d <;> first | exact p.elim | (cases at_; exact ⟨_, rfl, k _ ρ' F' H' p e r⟩)
theorem dt_cmp {op : CmpOp} {g : G2} {fa fb : HM} (hs : Sem2 X c (compareOp op) g) (ha : PE X a (tH c fa)) (hb : PE X b (tH c fb)) (hm : behindInMarks op b = false) : PT X (.Compare a [op] [b] pos) (tT c (bD (d2 g fa fb))) := by
  obtain ⟨r, ho, hr⟩ := hs
  refine PT.to (pt_cmpR ho ha hb hm) fun σ H Q h => d2_use hr rfl rfl σ H _ ?_
  exact bD_use rfl σ H Q h
/-- a < b < e -/
def dChain (g g' : G2) (fa fb fc : HM) : DM := fun ρ P => fa ρ fun x ρ1 => fb ρ1 fun y ρ2 => see ρ2 x fun dx => see ρ2 y fun dy => g dx dy fun z => match z with
  | .bool true => fc ρ2 fun w ρ3 => see ρ3 y fun dy' => see ρ3 w fun dw => g' dy' dw fun z' => P z' ρ3
  | .bool false => P (.bool false) ρ2
  | _ => False
theorem dChain_use {r r' : R2} {g g' : G2} {fa fb fc : HM} {ta tb tc : TE} (hr : ∀ (F H : Hp) (σ : L2.St) (ρ : Env) (xx : XX) (x y : D) (vx vy : V) (P : D → Prop) (Q : VK), Rel c F H σ ρ xx → Bo c F H vx x → Bo c F H vy y → g x y P →
    (∀ z v F' H', P z → Ex F F' → Rel c F' H' σ ρ xx → At c.K F' v z → Q v H') → r vx vy H Q)
    (hr' : ∀ (F H : Hp) (σ : L2.St) (ρ : Env) (xx : XX) (x y : D) (vx vy : V) (P : D → Prop) (Q : VK), Rel c F H σ ρ xx → Bo c F H vx x → Bo c F H vy y → g' x y P →
    (∀ z v F' H', P z → Ex F F' → Rel c F' H' σ ρ xx → At c.K F' v z → Q v H') → r' vx vy H Q) (ea : ta = tH c fa) (eb : tb = tH c fb) (ec : tc = tH c fc) : ∀ σ H Q, tD c (dChain g g' fa fb fc) σ H Q → tChain r r' ta tb tc σ H Q := by
  rintro σ H Q ⟨F, ρ, xx, P, rel, q, k⟩
  subst ea eb ec
  refine ⟨F, ρ, xx, _, rel, q, fun x ρ1 v F1 H1 q1 e1 r1 h1 => ?_⟩
  refine ⟨F1, ρ1, xx, _, r1, q1, fun y ρ2 u F2 H2 q2 e2 r2 h2 => ?_⟩
  obtain ⟨dx, bx, q2⟩ := see_bo r2 (h1.mono e2) q2
  obtain ⟨dy, by_, q2⟩ := see_bo r2 h2 q2
  refine hr F2 H2 σ ρ2 xx dx dy v u _ _ r2 bx by_ q2 fun z w F' H' pz ez rz az => ?_
  split at pz
  · cases az
    refine ⟨true, rfl, ?_⟩
    rw [if_pos rfl]
    refine ⟨F', ρ2, xx, _, rz, pz, fun t ρ3 s F3 H3 q3 e3 r3 h3 => ?_⟩
    obtain ⟨dy', by', q3⟩ := see_bo r3 (h2.mono (ez.trans e3)) q3
    obtain ⟨dw, bw, q3⟩ := see_bo r3 h3 q3
    exact hr' F3 H3 σ ρ3 xx dy' dw u s _ Q r3 by' bw q3 fun z' w' F4 H4 p4 e4 r4 a4 => k z' ρ3 w' F4 H4 p4 ((((e1.trans e2).trans ez).trans e3).trans e4) r4 a4
  · cases az
    refine ⟨false, rfl, ?_⟩
    (rw [if_neg Bool.false_ne_true])
    exact k _ ρ2 _ F' H' pz ((e1.trans e2).trans ez) rz (.bl false)
  · exact pz.elim
theorem de_chain {e3 : Expr} {op op' : CmpOp} {g g' : G2} {fa fb fc : HM} (hs : Sem2 X c (compareOp op) g) (hs' : Sem2 X c (compareOp op') g') (ha : PE X a (tH c fa)) (hb : PE X b (tH c fb)) (hc : PE X e3 (tH c fc)) (hm : lastMarks [op, op'] [b, e3] = false) :
    PE X (.Compare a [op, op'] [b, e3] pos) (tD c (dChain g g' fa fb fc)) := by
  obtain ⟨r, ho, hr⟩ := hs
  obtain ⟨r', ho', hr'⟩ := hs'
  exact PE.to (pe_chain ho ho' ha hb hc hm) (dChain_use hr hr' rfl rfl rfl)
theorem dt_chain {e3 : Expr} {op op' : CmpOp} {g g' : G2} {fa fb fc : HM} (hs : Sem2 X c (compareOp op) g) (hs' : Sem2 X c (compareOp op') g') (ha : PE X a (tH c fa)) (hb : PE X b (tH c fb)) (hc : PE X e3 (tH c fc)) (hm : lastMarks [op, op'] [b, e3] = false) :
    PT X (.Compare a [op, op'] [b, e3] pos) (tT c (bD (dChain g g' fa fb fc))) := by
  obtain ⟨r, ho, hr⟩ := hs
  obtain ⟨r', ho', hr'⟩ := hs'
  refine PT.to (pt_chain ho ho' ha hb hc hm) fun σ H Q h => dChain_use hr hr' rfl rfl rfl σ H _ (bD_use rfl σ H Q h)
def bAnd (f g : BM) : BM := fun ρ P => f ρ fun b ρ1 => if b = true then g ρ1 P else P false ρ1
def bOr (f g : BM) : BM := fun ρ P => f ρ fun b ρ1 => if b = true then P true ρ1 else g ρ1 P
def bNot (f : BM) : BM := fun ρ P => f ρ fun b ρ1 => P (!b) ρ1
variable {rest : List Expr}
theorem dw_and {f g : BM} (ha : PT X a (tT c f)) (hb : PW X (.BoolOp .And (b :: rest) pos) (tT c g)) : PW X (.BoolOp .And (a :: b :: rest) pos) (tT c (bAnd f g)) := by
  have h := pw_and ha hb
  refine ⟨fun wh pins s σ H Q I q => h.run wh pins s σ H Q I ?_⟩
  obtain ⟨F, ρ, xx, P, rel, q, k⟩ := q
  refine ⟨F, ρ, xx, _, rel, q, fun t ρ1 F1 H1 q1 e1 r1 => ?_⟩
  cases t with
  | true => exact ⟨F1, ρ1, xx, P, r1, q1, fun t' ρ2 F2 H2 q2 e2 r2 => k t' ρ2 F2 H2 q2 (e1.trans e2) r2⟩
  | false => exact k false ρ1 F1 H1 q1 e1 r1
theorem dw_or {f g : BM} (ha : PT X a (tT c f)) (hb : PW X (.BoolOp .Or (b :: rest) pos) (tT c g)) : PW X (.BoolOp .Or (a :: b :: rest) pos) (tT c (bOr f g)) := by
  have h := pw_or ha hb
  refine ⟨fun wh pins s σ H Q I q => h.run wh pins s σ H Q I ?_⟩
  obtain ⟨F, ρ, xx, P, rel, q, k⟩ := q
  refine ⟨F, ρ, xx, _, rel, q, fun t ρ1 F1 H1 q1 e1 r1 => ?_⟩
  cases t with
  | true => exact k true ρ1 F1 H1 q1 e1 r1
  | false => exact ⟨F1, ρ1, xx, P, r1, q1, fun t' ρ2 F2 H2 q2 e2 r2 => k t' ρ2 F2 H2 q2 (e1.trans e2) r2⟩
theorem dt_not {f : BM} (ha : PT X a (tT c f)) : PT X (.UnaryOp .Not a pos) (tT c (bNot f)) :=
  PT.to (pt_not ha) fun σ H Q ⟨F, ρ, xx, P, rel, q, k⟩ => ⟨F, ρ, xx, _, rel, q, fun t ρ1 F1 H1 q1 e1 r1 => k _ ρ1 F1 H1 q1 e1 r1⟩
/-- the same as values, of bools -/
def dAnd (f g : DM) : DM := fun ρ P => f ρ fun d ρ1 => match d with
  | .bool true => g ρ1 P
  | .bool false => P (.bool false) ρ1
  | _ => False
def dOr (f g : DM) : DM := fun ρ P => f ρ fun d ρ1 => match d with
  | .bool true => P (.bool true) ρ1
  | .bool false => g ρ1 P
  | _ => False
def dNot (f : DM) : DM := fun ρ P => f ρ fun d ρ1 => match d with
  | .bool b => P (.bool (!b)) ρ1
  | _ => False
theorem de_and {f g : DM} (ha : PE X a (tD c f)) (hb : PE X (.BoolOp .And (b :: rest) pos) (tD c g)) : PE X (.BoolOp .And (a :: b :: rest) pos) (tD c (dAnd f g)) :=
  PE.to (pe_and ha hb) fun σ H Q ⟨F, ρ, xx, P, rel, q, k⟩ => ⟨F, ρ, xx, _, rel, q, fun d ρ1 v F1 H1 q1 e1 r1 a1 => by
    split at q1
    · cases a1
      exact ⟨true, rfl, F1, ρ1, xx, P, r1, q1, fun t' ρ2 v2 F2 H2 q2 e2 r2 a2 => k t' ρ2 v2 F2 H2 q2 (e1.trans e2) r2 a2⟩
    · cases a1
      exact ⟨false, rfl, k _ ρ1 _ F1 H1 q1 e1 r1 (.bl false)⟩
    · exact q1.elim⟩
theorem de_or {f g : DM} (ha : PE X a (tD c f)) (hb : PE X (.BoolOp .Or (b :: rest) pos) (tD c g)) : PE X (.BoolOp .Or (a :: b :: rest) pos) (tD c (dOr f g)) :=
  PE.to (pe_or ha hb) fun σ H Q ⟨F, ρ, xx, P, rel, q, k⟩ => ⟨F, ρ, xx, _, rel, q, fun d ρ1 v F1 H1 q1 e1 r1 a1 => by
    split at q1
    · cases a1
      exact ⟨true, rfl, k _ ρ1 _ F1 H1 q1 e1 r1 (.bl true)⟩
    · cases a1
      exact ⟨false, rfl, F1, ρ1, xx, P, r1, q1, fun t' ρ2 v2 F2 H2 q2 e2 r2 a2 => k t' ρ2 v2 F2 H2 q2 (e1.trans e2) r2 a2⟩
    · exact q1.elim⟩
theorem de_not {f : DM} (ha : PE X a (tD c f)) : PE X (.UnaryOp .Not a pos) (tD c (dNot f)) :=
  PE.to (pe_not ha) fun σ H Q ⟨F, ρ, xx, P, rel, q, k⟩ => ⟨F, ρ, xx, _, rel, q, fun d ρ1 v F1 H1 q1 e1 r1 a1 => by
    cases d <;> first | exact q1.elim | (cases a1; exact ⟨_, rfl, k _ ρ1 _ F1 H1 q1 e1 r1 (.bl _)⟩)⟩
def dIf (t : BM) (f g : DM) : DM := fun ρ P => t ρ fun b ρ1 => if b = true then f ρ1 P else g ρ1 P
theorem de_if {e3 : Expr} {t : BM} {f g : DM} (hc : PT X e3 (tT c t)) (ha : PE X a (tD c f)) (hb : PE X b (tD c g)) : PE X (.IfExp e3 a b pos) (tD c (dIf t f g)) :=
  PE.to (pe_ifExp hc ha hb) fun σ H Q ⟨F, ρ, xx, P, rel, q, k⟩ => ⟨F, ρ, xx, _, rel, q, fun d ρ1 F1 H1 q1 e1 r1 => by
    cases d with
    | true => exact ⟨F1, ρ1, xx, P, r1, q1, fun t' ρ2 v2 F2 H2 q2 e2 r2 a2 => k t' ρ2 v2 F2 H2 q2 (e1.trans e2) r2 a2⟩
    | false => exact ⟨F1, ρ1, xx, P, r1, q1, fun t' ρ2 v2 F2 H2 q2 e2 r2 a2 => k t' ρ2 v2 F2 H2 q2 (e1.trans e2) r2 a2⟩⟩
/-- by truth -/
def truD : D → Bool
  | .none => false
  | .bool b => b
  | .int i => i != 0
  | .str x => x.length != 0
  | .list xs => !xs.isEmpty
  | .tuple xs => !xs.isEmpty
  | .dict xs => !xs.isEmpty
def lNil : LM := fun ρ P => P [] ρ
def lCons (f : DM) (g : LM) : LM := fun ρ P => f ρ fun d ρ1 => g ρ1 fun ds ρ2 => P (d :: ds) ρ2
theorem dl_nil : PA X [] (tL c lNil) := PA.to pa_nil fun σ H Q ⟨F, ρ, xx, P, rel, q, k⟩ => k [] ρ [] F H q (Ex.refl F) rel .nil
theorem dl_cons {es : List Expr} {f : DM} {g : LM} (ha : PE X e (tD c f)) (hr : PA X es (tL c g)) (hs : starEach (e :: es) X.env = (false, eval e X.env) :: starEach es X.env := by rfl) : PA X (e :: es) (tL c (lCons f g)) :=
  PA.to (pa_cons ha hr hs) fun σ H Q ⟨F, ρ, xx, P, rel, q, k⟩ => ⟨F, ρ, xx, _, rel, q, fun d ρ1 v F1 H1 q1 e1 r1 a1 => ⟨F1, ρ1, xx, _, r1, q1, fun ds ρ2 vs F2 H2 q2 e2 r2 a2 =>
    k (d :: ds) ρ2 (v :: vs) F2 H2 q2 (e1.trans e2) r2 (.cons (a1.mono e2) a2)⟩⟩
def dTup (f : LM) : DM := fun ρ P => f ρ fun ds ρ1 => ds.length ≤ 1000000 ∧ P (.tuple ds) ρ1
def dLst (f : LM) : DM := fun ρ P => f ρ fun ds ρ1 => ds.length ≤ 1000000 ∧ P (.list ds) ρ1
theorem sz {n : Nat} (h : n ≤ 1000000) : n ≤ sizeLine := Nat.le_trans h (by rw [sizeLine_eq]; decide)
theorem szl {n : Nat} (h : n ≤ 1000000) : n < sizeLine := Nat.lt_of_le_of_lt h (by rw [sizeLine_eq]; decide)
theorem de_tup {es : List Expr} {x1 : Nat} {f : LM} (h : PA X es (tL c f)) : PE X (.Tuple es x1 pos) (tD c (dTup f)) :=
  PE.to (pe_tup h) fun σ H Q ⟨F, ρ, xx, P, rel, q, k⟩ => ⟨F, ρ, xx, _, rel, q, fun ds ρ1 vs F1 H1 q1 e1 r1 a1 => ⟨sz (by rw [a1.length]; exact q1.1), fun p hp => by
    have e2 := r1.efF (.tup vs) hp
    exact k _ ρ1 _ _ _ q1.2 (e1.trans e2) (r1.newF _ hp) (.tup (.inl (.inl upd_same)) (a1.mono e2))⟩⟩
theorem dn_lst {es : List Expr} {f : LM} (h : PA X es (tL c f)) : PE X (.List es pos) (tN c (dLst f)) :=
  PE.to (pe_lst h) fun σ H Q ⟨F, ρ, xx, P, rel, q, k⟩ => ⟨F, ρ, xx, _, rel, q, fun ds ρ1 vs F1 H1 q1 e1 r1 a1 => ⟨sz (by rw [a1.length]; exact q1.1), fun p hp => by
    obtain ⟨r2, fr⟩ := Fresh.new (o := .lst vs) (d := .d <| .list ds) r1 hp ⟨vs, upd_same, a1⟩
    exact k _ ρ1 _ _ _ q1.2 e1 r2 fr⟩⟩
/-- arguments of a call of an own def: the source of numbers may be among them -/
def aNil : AM := fun ρ P => P [] ρ
def aCons (f : DM) (g : AM) : AM := fun ρ P => f ρ fun d ρ1 => g ρ1 fun ds ρ2 => P (.d d :: ds) ρ2
def aOra (i : Nat) (g : AM) : AM := fun ρ P => (match ρ[i]? with
  | some (.ora _) => True
  | _ => False) ∧ g ρ fun ds ρ2 => P (.ora :: ds) ρ2
theorem ArAt.mono {F F' : Hp} (e : Ex F F') {v : V} {x : Ar} (h : ArAt c F v x) : ArAt c F' v x := by
  cases x with
  | d x => exact At.mono e h
  | ora => exact h
theorem da_nil : PA X [] (tAr c aNil) := PA.to pa_nil fun σ H Q ⟨F, ρ, xx, P, rel, q, k⟩ => k [] ρ [] F H q (Ex.refl F) rel .nil
theorem da_cons {es : List Expr} {f : DM} {g : AM} (ha : PE X e (tD c f)) (hr : PA X es (tAr c g)) (hs : starEach (e :: es) X.env = (false, eval e X.env) :: starEach es X.env := by rfl) : PA X (e :: es) (tAr c (aCons f g)) :=
  PA.to (pa_cons ha hr hs) fun σ H Q ⟨F, ρ, xx, P, rel, q, k⟩ => ⟨F, ρ, xx, _, rel, q, fun d ρ1 v F1 H1 q1 e1 r1 a1 => ⟨F1, ρ1, xx, _, r1, q1, fun ds ρ2 vs F2 H2 q2 e2 r2 a2 =>
    k (.d d :: ds) ρ2 (v :: vs) F2 H2 q2 (e1.trans e2) r2 (.cons (show ArAt c F2 v (.d d) from a1.mono e2) a2)⟩⟩
theorem da_ora {es : List Expr} {i : Nat} {g : AM} (ha : PE X e (tVar i)) (hr : PA X es (tAr c g)) (hs : starEach (e :: es) X.env = (false, eval e X.env) :: starEach es X.env := by rfl) : PA X (e :: es) (tAr c (aOra i g)) :=
  PA.to (pa_cons ha hr hs) fun σ H Q ⟨F, ρ, xx, P, rel, ⟨q0, q⟩, k⟩ => by
    split at q0
    · rename_i e0
      obtain ⟨p, h1, h2, _⟩ := rel.s.or i _ e0
      exact ⟨.ref p, h2, F, ρ, xx, _, rel, q, fun ds ρ2 vs F2 H2 q2 e2 r2 a2 => k (.ora :: ds) ρ2 (.ref p :: vs) F2 H2 q2 e2 r2 (.cons (show ArAt c F2 (.ref p) .ora from ⟨p, h1, rfl⟩) a2)⟩
    · exact q0.elim
end
end DL
namespace DL
open PySem L2
open PyProof.Rows in
theorem op_catLL {X : Cx} : OpR X (binaryOp .Add) (fun x y H Q => ∃ l b xs zs, x = .ref l ∧ y = .ref b ∧ SqL X.K H l xs ∧ SqL X.K H b zs ∧ xs.length + zs.length ≤ sizeLine ∧ ∀ p, H p = none → Q (.ref p) (upd H p (.lst (xs ++ zs)))) := by
  (intro pins s σ H x y v u Q I rx ry h)
  (obtain ⟨l, b, xs, zs, rfl, rfl, hH, hB, hz, q⟩ := h)
  cases rx
  cases ry
  obtain ⟨its, r, pl, _⟩ := I.list hH
  obtain ⟨its2, r2, pl2, _⟩ := I.list hB
  obtain ⟨⟨cls, dd, data, sl⟩, n, ho, hc, hd0, hd⟩ := id pl
  obtain ⟨⟨cls2, dd2, data2, sl2⟩, n2, ho2, hc2, hd02, hd2⟩ := id pl2
  simp only at hc hd hc2 hd2 hd0 hd02
  subst hc hd hc2 hd2
  have e : its.toArray ++ its2.toArray = (its ++ its2).toArray := by simp
  have h1 := r.length
  have h2 := r2.length
  refine concat_meets ⟨_, ho, rfl⟩ ⟨_, ho2, rfl⟩ noFill_list_add seq_list_add PySem.F.slot_list_add PySem.F.entry_list_add (PySem.F.args_list_add_2 _ _) (list_addW l b its.toArray its2.toArray n n2 dd dd2 sl sl2 (by simp only [List.size_toArray]; omega)) ⟨ho, ho2, ?_⟩
  rw [e]
  (exact ⟨.ref _, _, I.lnew (t' := s.toks) (r.append r2) (by rw [List.length_append]; omega), rfl, q _ I.fresh⟩)
open PyProof.Rows in
theorem op_repA {X : Cx} : OpR X (binaryOp .Mult) (fun x y H Q => ∃ l k xs, x = .ref l ∧ y = .int k ∧ SqL X.K H l xs ∧ -(2 ^ 63) ≤ k ∧ k < 2 ^ 63 ∧ xs.length * k.toNat ≤ sizeLine ∧
    ∀ p, H p = none → Q (.ref p) (upd H p (.lst (List.replicate k.toNat xs).flatten))) := by
  (intro pins s σ H x y v u Q I rx ry h)
  (obtain ⟨l, k, xs, rfl, rfl, hH, h1, h2, hz, q⟩ := h)
  cases rx
  obtain ⟨t, rfl⟩ := ry
  obtain ⟨its, r, pl, _⟩ := I.list hH
  obtain ⟨⟨cls, dd, data, sl⟩, n, ho, hc, hd0, hd⟩ := id pl
  simp only at hc hd hd0
  subst hc hd
  have hl := r.length
  have hsz' : its.toArray.size * k.toNat ≤ 2 ^ 24 := by rw [List.size_toArray, ← hl]; rw [sizeLine_eq] at hz; omega
  refine wpAny_binaryOp_repeat_ref (T := "list") (U := "int") (by decide) ⟨_, ho, rfl⟩ (fun s' => typeIs_int s' k t) noFill_list_mul F.fills_int_mul F.slot_int_rmul repeat_list F.slot_int_index.lookup
    (call_meets F.slot_int_rmul (typeIs_int s k t) F.entry_int_rmul (F.args_int_rmul_2 _ _) (lm_int_rmul_list_any k t l its.toArray n dd sl)
      ⟨ho, rfl, ⟨_, ho, rfl⟩,
        call_meets F.slot_list_mul ⟨_, ho, rfl⟩ F.entry_list_mul (F.args_list_mul_2 _ _)
        (lm_list_mul_any l its.toArray n dd sl k t (by simp [Builtin.List.listFitsIndex]; omega) (by omega) (by simp [Builtin.List.listTooLong, sizeLine]; omega))
        ⟨ho, ?_⟩⟩)
  rw [listMul_foldl_if]
  (exact ⟨.ref _, _, I.lnew (t' := s.toks) (r.rep k.toNat) (by rw [PyProof.Rows.lm_len_rep_flat, Nat.mul_comm]; exact hz), rfl, q _ I.fresh⟩)
section
variable {c : Cn} {F H : Hp} {v : V}
theorem bo_int {i : Int} (h : Bo c F H v (.int i)) : v = .int i := by
  rcases h with h | ⟨a, _, h⟩
  · cases h; rfl
  · exact h.elim
theorem bo_bl {i : Bool} (h : Bo c F H v (.bool i)) : v = .bl i := by
  rcases h with h | ⟨a, _, h⟩
  · cases h; rfl
  · exact h.elim
theorem bo_str {i : Str} (h : Bo c F H v (.str i)) : v = .str i := by
  rcases h with h | ⟨a, _, h⟩
  · cases h; rfl
  · exact h.elim
theorem bo_non (h : Bo c F H v .none) : v = .non := by
  rcases h with h | ⟨a, _, h⟩
  · cases h; rfl
  · exact h.elim
theorem bo_lst {ds : List D} (e : Ex F H) (h : Bo c F H v (.list ds)) : ∃ a xs, v = .ref a ∧ SqL c.K H a xs ∧ AtAll c.K F xs ds := by
  rcases h with h | ⟨a, rfl, vs, h1, h2⟩
  · cases h with
    | lst s t => exact ⟨_, _, rfl, e.sl s, t⟩
  · exact ⟨a, vs, rfl, SqL.of h1, h2⟩
theorem bo_tup {ds : List D} (e : Ex F H) (h : Bo c F H v (.tuple ds)) : ∃ a xs, v = .ref a ∧ SqT c.K F a xs ∧ SqT c.K H a xs ∧ AtAll c.K F xs ds := by
  rcases h with h | ⟨a, rfl, h⟩
  · cases h with
    | tup s t => exact ⟨_, _, rfl, s, e.st s, t⟩
  · exact h.elim
end
def gAdd : G2 := fun x y P => match x, y with
  | .int i, .int j => P (.int (i + j))
  | .str a, .str b => a.length + b.length ≤ 1000000 ∧ P (.str (a ++ b))
  | .list xs, .list ys => xs.length + ys.length ≤ 1000000 ∧ P (.list (xs ++ ys))
  | .tuple xs, .tuple ys => xs.length + ys.length ≤ 1000000 ∧ P (.tuple (xs ++ ys))
  | _, _ => False
def gSub : G2 := fun x y P => match x, y with
  | .int i, .int j => P (.int (i - j))
  | _, _ => False
def gMul : G2 := fun x y P => match x, y with
  | .int i, .int j => ((-(2 ^ 64) < i ∧ i < 2 ^ 64) ∨ (-(2 ^ 64) < j ∧ j < 2 ^ 64)) ∧ P (.int (i * j))
  | .list xs, .int k => (-(2 ^ 63) ≤ k ∧ k < 2 ^ 63) ∧ xs.length * k.toNat ≤ 1000000 ∧ P (.list (List.replicate k.toNat xs).flatten)
  | _, _ => False
def gDiv : G2 := fun x y P => match x, y with
  | .int i, .int j => (0 < j ∧ j < 1073741824) ∧ P (.int (i / j))
  | _, _ => False
def gMod : G2 := fun x y P => match x, y with
  | .int i, .int j => 0 < j ∧ P (.int (i % j))
  | _, _ => False
def gPow : G2 := fun x y P => match x, y with
  | .int i, .int j => (0 ≤ j ∧ j ≤ 1000000 ∧ i.natAbs < 2 ^ 64) ∧ P (.int (i ^ j.toNat))
  | _, _ => False
theorem AtAll.nil_iff {K : PySem.W.Frag} {H : Hp} {vs : List V} {ds : List D} (h : AtAll K H vs ds) : vs = [] ↔ ds = [] := by cases h <;> simp
section
variable {X : Cx} {c : Cn}
theorem sem_add (hK : X.K = c.K) : Sem2 X c (binaryOp .Add) gAdd := by
  refine ⟨_, (op_add.or op_add_str).or (op_catLL.or L2.op_catA), fun F H σ ρ xx x y vx vy P Q r bx by_ g k => ?_⟩
  have e := r.w.fh
  unfold gAdd at g
  split at g
  · cases bo_int bx; cases bo_int by_
    exact .inl (.inl ⟨_, _, rfl, rfl, k _ _ F H g (Ex.refl F) r (.int _)⟩)
  · cases bo_str bx; cases bo_str by_
    exact .inl (.inr ⟨_, _, rfl, rfl, sz g.1, k _ _ F H g.2 (Ex.refl F) r (.str _)⟩)
  · obtain ⟨a, xs, rfl, s1, t1⟩ := bo_lst e bx
    obtain ⟨b, ys, rfl, s2, t2⟩ := bo_lst e by_
    refine .inr (.inl ⟨a, b, xs, ys, rfl, rfl, by rw [hK]; exact s1, by rw [hK]; exact s2, sz (by rw [t1.length, t2.length]; exact g.1), fun p hp => ?_⟩)
    have e2 := r.efF (.lst (xs ++ ys)) hp
    exact k _ _ _ _ g.2 e2 (r.newF _ hp) (.lst (.inl (.inl upd_same)) ((t1.append t2).mono e2))
  · obtain ⟨a, xs, rfl, f1, s1, t1⟩ := bo_tup e bx
    obtain ⟨b, ys, rfl, f2, s2, t2⟩ := bo_tup e by_
    refine .inr (.inr ⟨a, b, xs, ys, rfl, rfl, by rw [hK]; exact s1, by rw [hK]; exact s2, sz (by rw [t1.length, t2.length]; exact g.1), fun z => ?_, fun _ z => ?_, fun _ _ p hp => ?_⟩)
    · refine k _ _ F H g.2 (Ex.refl F) r ?_
      rw [t1.nil_iff.mp z, List.nil_append]
      exact .tup f2 t2
    · refine k _ _ F H g.2 (Ex.refl F) r ?_
      rw [t2.nil_iff.mp z, List.append_nil]
      exact .tup f1 t1
    · have e2 := r.efF (.tup (xs ++ ys)) hp
      exact k _ _ _ _ g.2 e2 (r.newF _ hp) (.tup (.inl (.inl upd_same)) ((t1.append t2).mono e2))
  · exact g.elim
theorem sem_sub : Sem2 X c (binaryOp .Sub) gSub := by
  refine ⟨_, op_sub, fun F H σ ρ xx x y vx vy P Q r bx by_ g k => ?_⟩
  unfold gSub at g
  split at g
  · cases bo_int bx; cases bo_int by_
    exact ⟨_, _, rfl, rfl, k _ _ F H g (Ex.refl F) r (.int _)⟩
  · exact g.elim
theorem AtAll.rep {K : PySem.W.Frag} {H : Hp} {vs : List V} {ds : List D} (h : AtAll K H vs ds) : ∀ n : Nat, AtAll K H (List.replicate n vs).flatten (List.replicate n ds).flatten
  | 0 => .nil
  | n + 1 => by
    (rw [List.replicate_succ, List.replicate_succ, List.flatten_cons, List.flatten_cons])
    exact h.append (AtAll.rep h n)
theorem sem_mul (hK : X.K = c.K) : Sem2 X c (binaryOp .Mult) gMul := by
  refine ⟨_, op_mul.or op_repA, fun F H σ ρ xx x y vx vy P Q r bx by_ g k => ?_⟩
  have e := r.w.fh
  unfold gMul at g
  split at g
  · cases bo_int bx; cases bo_int by_
    exact .inl ⟨_, _, rfl, rfl, g.1, k _ _ F H g.2 (Ex.refl F) r (.int _)⟩
  · obtain ⟨a, xs, rfl, s1, t1⟩ := bo_lst e bx
    cases bo_int by_
    refine .inr ⟨a, _, xs, rfl, rfl, by rw [hK]; exact s1, g.1.1, g.1.2, sz (by rw [t1.length]; exact g.2.1), fun p hp => ?_⟩
    exact k _ _ _ _ g.2.2 (r.efF _ hp) (r.newF _ hp) (.lst (.inl (.inl upd_same)) ((t1.rep _).mono (r.efF _ hp)))
  · exact g.elim
theorem sem_div : Sem2 X c (binaryOp .FloorDiv) gDiv := by
  refine ⟨_, op_fdiv, fun F H σ ρ xx x y vx vy P Q r bx by_ g k => ?_⟩
  unfold gDiv at g
  split at g
  · cases bo_int bx; cases bo_int by_
    exact ⟨_, _, rfl, rfl, g.1, k _ _ F H g.2 (Ex.refl F) r (.int _)⟩
  · exact g.elim
theorem sem_mod : Sem2 X c (binaryOp .Mod) gMod := by
  refine ⟨_, op_mod, fun F H σ ρ xx x y vx vy P Q r bx by_ g k => ?_⟩
  unfold gMod at g
  split at g
  · cases bo_int bx; cases bo_int by_
    exact ⟨_, _, rfl, rfl, g.1, k _ _ F H g.2 (Ex.refl F) r (.int _)⟩
  · exact g.elim
theorem sem_pow : Sem2 X c (binaryOp .Pow) gPow := by
  refine ⟨_, op_pow, fun F H σ ρ xx x y vx vy P Q r bx by_ g k => ?_⟩
  unfold gPow at g
  split at g
  · cases bo_int bx; cases bo_int by_
    exact ⟨_, _, rfl, rfl, g.1, k _ _ F H g.2 (Ex.refl F) r (.int _)⟩
  · exact g.elim
def gCmp (p : Int → Int → Bool) : G2 := fun x y P => match x, y with
  | .int i, .int j => P (.bool (p i j))
  | _, _ => False
theorem sem_cmp {op : CmpOp} {p : Int → Int → Bool} (h : OpR X (compareOp op) (rI0 fun i j => .bl (p i j))) : Sem2 X c (compareOp op) (gCmp p) := by
  refine ⟨_, h, fun F H σ ρ xx x y vx vy P Q r bx by_ g k => ?_⟩
  unfold gCmp at g
  split at g
  · cases bo_int bx; cases bo_int by_
    exact ⟨_, _, rfl, rfl, k _ _ F H g (Ex.refl F) r (.bl _)⟩
  · exact g.elim
abbrev gLt : G2 := gCmp fun i j => decide (i < j)
abbrev gLe : G2 := gCmp fun i j => decide (i ≤ j)
abbrev gGt : G2 := gCmp fun i j => decide (j < i)
abbrev gGe : G2 := gCmp fun i j => decide (j ≤ i)
theorem sem_lt : Sem2 X c (compareOp .Lt) gLt := sem_cmp op_lt
theorem sem_le : Sem2 X c (compareOp .LtE) gLe := sem_cmp op_le
theorem sem_gt : Sem2 X c (compareOp .Gt) gGt := sem_cmp op_gt
theorem sem_ge : Sem2 X c (compareOp .GtE) gGe := sem_cmp op_ge
def isN : D → Bool
  | .none => true
  | _ => false
def gIs : G2 := fun x y P => match y with
  | .none => P (.bool (isN x))
  | _ => False
def gIsNot : G2 := fun x y P => match y with
  | .none => P (.bool (!isN x))
  | _ => False
theorem isN_dec {F H : Hp} {v : V} {d : D} (h : Bo c F H v d) : decide (v = .non) = isN d := by
  rcases h with h | ⟨a, rfl, _⟩
  · cases h <;> rfl
  · cases d <;> first | rfl | (rename_i h; exact h.elim)
theorem sem_is : Sem2 X c (compareOp .Is) gIs := by
  refine ⟨_, op_isN, fun F H σ ρ xx x y vx vy P Q r bx by_ g k => ?_⟩
  unfold gIs at g
  split at g
  · cases bo_non by_
    refine ⟨rfl, ?_⟩
    rw [isN_dec bx]
    exact k _ _ F H g (Ex.refl F) r (.bl _)
  · exact g.elim
/-- == of data: texts of signs, no dicts, not too deep -/
def okD (d : D) : Prop := SeqAt.shaped d = true
theorem okD.nod {d : D} (h : okD d) : nod d = true := by
  have h1 : d.canLay0 = true := SeqAt.canLay_of_shaped h
  have all : ∀ d : D, d.canLay0 = true → DL.nod d = true := fun d => by
    refine PyData.rec (motive_1 := fun d => d.canLay0 = true → DL.nod d = true) (motive_2 := fun ds => PyData.canLayAll0 ds = true → DL.nodAll ds = true) (motive_3 := fun _ => True) (motive_4 := fun _ => True) ?_ ?_ ?_ ?_ ?_ ?_ ?_ ?_ ?_ ?_ ?_ ?_ d
    · exact fun _ => rfl
    · exact fun _ _ => rfl
    · exact fun _ _ => rfl
    · exact fun _ _ => rfl
    · exact fun xs ih h => by simp only [DL.nod]; exact ih (by simpa only [PyData.canLay0] using h)
    · exact fun xs ih h => by simp only [DL.nod]; exact ih (by simpa only [PyData.canLay0] using h)
    · exact fun _ _ h => by simp [PyData.canLay0] at h
    · exact fun _ => rfl
    · exact fun x xs i j h => by
        simp only [PyData.canLayAll0, Bool.and_eq_true] at h
        simp only [DL.nodAll, Bool.and_eq_true]
        exact ⟨i h.1, j h.2⟩
    all_goals (intros; trivial)
  exact all d h1
def gEq : G2 := fun x y P => okD x ∧ okD y ∧ P (.bool (PyData.eqv x y))
def gNe : G2 := fun x y P => okD x ∧ okD y ∧ P (.bool (!PyData.eqv x y))
theorem sem_eq (hK : X.K = c.K) (hu : X.A.units + 64 < cLine) : Sem2 X c (compareOp .Eq) gEq := by
  refine ⟨_, op_eqD hu, fun F H σ ρ xx x y vx vy P Q r bx by_ g k => ?_⟩
  have e := r.w.fh
  refine ⟨x, y, by rw [hK]; exact (bx.at e).dp g.1.nod, by rw [hK]; exact (by_.at e).dp g.2.1.nod, g.1, g.2.1, k _ _ F H g.2.2 (Ex.refl F) r (.bl _)⟩
theorem sem_ne (hK : X.K = c.K) (hu : X.A.units + 64 < cLine) : Sem2 X c (compareOp .NotEq) gNe := by
  refine ⟨_, op_neD hu, fun F H σ ρ xx x y vx vy P Q r bx by_ g k => ?_⟩
  have e := r.w.fh
  refine ⟨x, y, by rw [hK]; exact (bx.at e).dp g.1.nod, by rw [hK]; exact (by_.at e).dp g.2.1.nod, g.1, g.2.1, k _ _ F H g.2.2 (Ex.refl F) r (.bl _)⟩
def gIx : G2 := fun x y P => match x, y with
  | .list xs, .int i => ∃ d, atI xs i = some d ∧ P d
  | .tuple xs, .int i => ∃ d, atI xs i = some d ∧ P d
  | .str z, .int i => z.length ≤ 1000000 ∧ ∃ n, atI z.cps.toList i = some n ∧ P (.str ⟨#[n]⟩)
  | _, _ => False
theorem atI_at {K : PySem.W.Frag} {F : Hp} {xs : List V} {ds : List D} (t : AtAll K F xs ds) {i : Int} {d : D} (h : atI ds i = some d) : ∃ v, atI xs i = some v ∧ At K F v d := by
  unfold atI at h ⊢
  rw [t.length]
  cases e : ixN ds.length i with
  | none => (rw [e] at h; cases h)
  | some j =>
    rw [e] at h
    exact t.get h
theorem ix_use (hK : X.K = c.K) : ∀ (F H : Hp) (σ : L2.St) (ρ : Env) (xx : XX) (x y : D) (vx vy : V) (P : D → Prop) (Q : VK), Rel c F H σ ρ xx → Bo c F H vx x → Bo c F H vy y → gIx x y P →
    (∀ z v F' H', P z → Ex F F' → Rel c F' H' σ ρ xx → At c.K F' v z → Q v H') → rIx X.K vx vy H Q := fun F H σ ρ xx x y vx vy P Q r bx by_ g k => by
  have e := r.w.fh
  unfold gIx at g
  split at g
  · obtain ⟨a, xs, rfl, s1, t1⟩ := bo_lst e bx
    cases bo_int by_
    obtain ⟨d, h1, h2⟩ := g
    obtain ⟨u, h3, h4⟩ := atI_at t1 h1
    exact .inl ⟨a, xs, _, u, rfl, rfl, by rw [hK]; exact s1, h3, k _ _ F H h2 (Ex.refl F) r h4⟩
  · obtain ⟨a, xs, rfl, _, s1, t1⟩ := bo_tup e bx
    cases bo_int by_
    obtain ⟨d, h1, h2⟩ := g
    obtain ⟨u, h3, h4⟩ := atI_at t1 h1
    exact .inr (.inl ⟨a, xs, _, u, rfl, rfl, by rw [hK]; exact s1, h3, k _ _ F H h2 (Ex.refl F) r h4⟩)
  · cases bo_str bx; cases bo_int by_
    obtain ⟨hz, n, h1, h2⟩ := g
    exact .inr (.inr ⟨_, _, n, rfl, rfl, sz hz, h1, k _ _ F H h2 (Ex.refl F) r (.str _)⟩)
  · exact g.elim
theorem de_ix {a b : Expr} {pos : Pos} {fa fb : HM} (hK : X.K = c.K) (ha : PE X a (tH c fa)) (hb : PE X b (tH c fb)) (hs : PlainIx b) : PE X (.Subscript a b pos) (tD c (d2 gIx fa fb)) :=
  PE.to (pe_ix ix_seq ha hb hs) (d2_use (ix_use hK) rfl rfl)
abbrev OM := Env → (Option Int → Env → Prop) → Prop
def tOI (c : Cn) (f : OM) : TO := fun σ H Q => ∃ F ρ xx P, Rel c F H σ ρ xx ∧ f ρ P ∧ ∀ o ρ' F' H', P o ρ' → Ex F F' → Rel c F' H' σ ρ' xx → Q o H'
def oNo : OM := fun ρ P => P none ρ
def oI (f : DM) : OM := fun ρ P => f ρ fun d ρ' => match d with
  | .int i => P (some i) ρ'
  | _ => False
theorem PO.to {e : Option Expr} {t t' : TO} (h : PO X e t) (w : ∀ σ H Q, t' σ H Q → t σ H Q) : PO X e t' := ⟨fun pins s σ H Q I q => h.run pins s σ H Q I (w σ H Q q)⟩
theorem do_no : PO X none (tOI c oNo) := PO.to po_none fun σ H Q ⟨F, ρ, xx, P, r, q, k⟩ => k none ρ F H q (Ex.refl F) r
theorem do_i {e : Expr} {f : DM} (h : PE X e (tD c f)) : PO X (some e) (tOI c (oI f)) := PO.to (po_some h) fun σ H Q ⟨F, ρ, xx, P, r, q, k⟩ => ⟨F, ρ, xx, _, r, q, fun d ρ' v F' H' p e r' a => by
  cases d <;> first | exact p.elim | (cases a; exact ⟨_, rfl, k _ ρ' F' H' p e r'⟩)⟩
/-- xs[lo:hi] -/
def cutD (xs : List D) (lo hi : Option Int) : List D := (xs.drop (HT.sIx xs.length 0 lo)).take (HT.sIx xs.length xs.length hi - HT.sIx xs.length 0 lo)
theorem cut_at {K : PySem.W.Frag} {F : Hp} {xs : List V} {ds : List D} (t : AtAll K F xs ds) (lo hi : Option Int) : AtAll K F (cutV xs lo hi) (cutD ds lo hi) := by
  unfold cutV cutD
  rw [t.length]
  exact (t.drop _).take _
def dSl (fa : HM) (fl fu : OM) : DM := fun ρ P => fa ρ fun h ρ1 => fl ρ1 fun lo ρ2 => fu ρ2 fun hi ρ3 => see ρ3 h fun d => match d with
  | .list xs => P (.list (cutD xs lo hi)) ρ3
  | .tuple xs => P (.tuple (cutD xs lo hi)) ρ3
  | .str z => z.length ≤ 1000000 ∧ P (.str (cutS z lo hi)) ρ3
  | _ => False
end
end DL
namespace DL
open PySem L2
section
variable {X : Cx} {c : Cn} {e : Expr} {pos : Pos}
theorem de_sl {lo hi : Option Expr} {p2 : Pos} {fa : HM} {fl fu : OM} (hK : X.K = c.K) (he : PE X e (tH c fa)) (hl : PO X lo (tOI c fl)) (hu : PO X hi (tOI c fu)) : PE X (.Subscript e (.Slice lo hi none p2) pos) (tD c (dSl fa fl fu)) := by
  refine PE.to (pe_slice ((sl_list.or sl_tupA).or sl_str) he hl hu) ?_
  rintro σ H Q ⟨F, ρ, xx, P, rel, q, k⟩
  refine ⟨F, ρ, xx, _, rel, q, fun h ρ1 v F1 H1 q1 e1 r1 h1 => ⟨F1, ρ1, xx, _, r1, q1, fun o ρ2 F2 H2 q2 e2 r2 => ⟨F2, ρ2, xx, _, r2, q2, fun u ρ3 F3 H3 q3 e3 r3 => ?_⟩⟩⟩
  obtain ⟨d, bd, q3⟩ := see_bo r3 (h1.mono (e2.trans e3)) q3
  have ex := r3.w.fh
  split at q3
  · obtain ⟨a, xs, rfl, s1, t1⟩ := bo_lst ex bd
    refine .inl (.inl ⟨a, xs, rfl, by rw [hK]; exact s1, fun p hp => ?_⟩)
    exact k _ ρ3 _ _ _ q3 (((e1.trans e2).trans e3).trans (r3.efF _ hp)) (r3.newF _ hp) (.lst (.inl (.inl upd_same)) ((cut_at t1 o u).mono (r3.efF _ hp)))
  · obtain ⟨a, xs, rfl, f1, s1, t1⟩ := bo_tup ex bd
    refine .inl (.inr ⟨a, xs, rfl, by rw [hK]; exact s1, fun hw => ?_, fun _ p hp => ?_⟩)
    · refine k _ ρ3 _ F3 H3 q3 ((e1.trans e2).trans e3) r3 ?_
      have hc := cut_at t1 o u
      have hz : cutV xs o u = xs := by
        unfold cutV
        rw [hw.1, hw.2]
        simp
      rw [hz] at hc
      exact .tup f1 hc
    · exact k _ ρ3 _ _ _ q3 (((e1.trans e2).trans e3).trans (r3.efF _ hp)) (r3.newF _ hp) (.tup (.inl (.inl upd_same)) ((cut_at t1 o u).mono (r3.efF _ hp)))
  · cases bo_str bd
    exact .inr ⟨_, rfl, sz q3.1, k _ ρ3 _ F3 H3 q3.2 ((e1.trans e2).trans e3) r3 (.str _)⟩
  · exact q3.elim
theorem tru_of {F H : Hp} {v : V} {d : D} (r : Ex F H) (b : Bo c F H v d) (hd : ∀ s, d = .str s → s.length ≤ 1000000) (hn : ∀ kd, d ≠ .dict kd) : TruV c.K v H (truD d) := by
  cases d with
  | none => cases bo_non b; rfl
  | bool x => cases bo_bl b; rfl
  | int i => cases bo_int b; rfl
  | str s =>
    cases bo_str b
    refine ⟨sz (hd s rfl), ?_⟩
    show (s.length != 0) = ((s.length : Int) != 0)
    cases h : s.length with
    | zero => rfl
    | succ n =>
      have h1 : (n + 1 != 0) = true := by simp
      have h2 : (((n + 1 : Nat) : Int) != 0) = true := by simp only [bne_iff_ne, ne_eq]; omega
      rw [h1, h2]
  | list xs =>
    obtain ⟨a, ys, rfl, s1, t1⟩ := bo_lst r b
    refine .inl ⟨ys, s1, ?_⟩
    cases t1 <;> rfl
  | tuple xs =>
    obtain ⟨a, ys, rfl, _, s1, t1⟩ := bo_tup r b
    refine .inr (.inl ⟨ys, s1, ?_⟩)
    cases t1 <;> rfl
  | dict kd => exact absurd rfl (hn kd)
def bTruth (f : HM) : BM := fun ρ P => f ρ fun h ρ1 => see ρ1 h fun d => match d with
  | .str s => s.length ≤ 1000000 ∧ P (truD (.str s)) ρ1
  | .dict _ => False
  | d => P (truD d) ρ1
theorem dt_truth {f : HM} (hK : X.K = c.K) (ha : PE X e (tH c f)) (he : ∀ whole, isTrue e X.env whole = (do let v ← whole; standAt e.pos; holding [v] (truthy v)) := by intro _; rfl) : PT X e (tT c (bTruth f)) := by
  refine PT.to (pt_truth ha he) ?_
  rintro σ H Q ⟨F, ρ, xx, P, rel, q, k⟩
  refine ⟨F, ρ, xx, _, rel, q, fun h ρ1 v F1 H1 q1 e1 r1 h1 => ?_⟩
  obtain ⟨d, bd, q1⟩ := see_bo r1 h1 q1
  rw [hK]
  cases d with
  | str s => exact ⟨_, tru_of r1.w.fh bd (fun t ht => by cases ht; exact q1.1) (fun _ z => by cases z), k _ ρ1 F1 H1 q1.2 e1 r1⟩
  | dict kd => exact q1.elim
  | _ => exact ⟨_, tru_of r1.w.fh bd (fun t ht => by cases ht) (fun _ z => by cases z), k _ ρ1 F1 H1 q1 e1 r1⟩
abbrev HLM := Env → (List Hd → Env → Prop) → Prop
def tHL (c : Cn) (f : HLM) : TA := fun σ H Q => ∃ F ρ xx P, Rel c F H σ ρ xx ∧ f ρ P ∧ ∀ hs ρ' vs F' H', P hs ρ' → Ex F F' → Rel c F' H' σ ρ' xx → Paired (fun v h => HdAt c F' σ h v) vs hs → Q vs H'
def gNil : HLM := fun ρ P => P [] ρ
def gCons (f : HM) (g : HLM) : HLM := fun ρ P => f ρ fun h ρ1 => g ρ1 fun hs ρ2 => P (h :: hs) ρ2
theorem dg_nil : PA X [] (tHL c gNil) := PA.to pa_nil fun σ H Q ⟨F, ρ, xx, P, rel, q, k⟩ => k [] ρ [] F H q (Ex.refl F) rel .nil
theorem dg_cons {es : List Expr} {f : HM} {g : HLM} (ha : PE X e (tH c f)) (hr : PA X es (tHL c g)) (hs : starEach (e :: es) X.env = (false, eval e X.env) :: starEach es X.env := by rfl) : PA X (e :: es) (tHL c (gCons f g)) :=
  PA.to (pa_cons ha hr hs) fun σ H Q ⟨F, ρ, xx, P, rel, q, k⟩ => ⟨F, ρ, xx, _, rel, q, fun d ρ1 v F1 H1 q1 e1 r1 a1 => ⟨F1, ρ1, xx, _, r1, q1, fun ds ρ2 vs F2 H2 q2 e2 r2 a2 =>
    k (d :: ds) ρ2 (v :: vs) F2 H2 q2 (e1.trans e2) r2 (.cons (a1.mono e2) a2)⟩⟩
def seeAll (ρ : Env) : List Hd → (List D → Prop) → Prop
  | [], k => k []
  | h :: hs, k => see ρ h fun d => seeAll ρ hs fun ds => k (d :: ds)
theorem seeAll_bo {F H : Hp} {σ : L2.St} {ρ : Env} {xx : XX} (r : Rel c F H σ ρ xx) : ∀ {vs : List V} {hs : List Hd}, Paired (fun v h => HdAt c F σ h v) vs hs → ∀ {k : List D → Prop}, seeAll ρ hs k → ∃ ds, Paired (Bo c F H) vs ds ∧ k ds
  | _, _, .nil, k, h => ⟨[], .nil, h⟩
  | _, _, .cons h t, k, q => by
    obtain ⟨d, b, q⟩ := see_bo r h q
    obtain ⟨ds, bs, q⟩ := seeAll_bo r t q
    exact ⟨d :: ds, .cons b bs, q⟩
abbrev GC := List D → (D → Prop) → Prop
def SemC (X : Cx) (c : Cn) (f : Value) (g : GC) : Prop := ∃ r : List V → Hp → VK → Prop, CallR X f r ∧ ∀ (F H : Hp) (σ : L2.St) (ρ : Env) (xx : XX) (ds : List D) (vs : List V) (P : D → Prop) (Q : VK), Rel c F H σ ρ xx → Paired (Bo c F H) vs ds → g ds P →
  (∀ z v F' H', P z → Ex F F' → Rel c F' H' σ ρ xx → At c.K F' v z → Q v H') → r vs H Q
def dCB (g : GC) (f : HLM) : DM := fun ρ P => f ρ fun hs ρ1 => seeAll ρ1 hs fun ds => g ds fun z => P z ρ1
theorem dCB_use {f : Value} {g : GC} {fh : HLM} {r : List V → Hp → VK → Prop} (hr : ∀ (F H : Hp) (σ : L2.St) (ρ : Env) (xx : XX) (ds : List D) (vs : List V) (P : D → Prop) (Q : VK), Rel c F H σ ρ xx → Paired (Bo c F H) vs ds → g ds P →
    (∀ z v F' H', P z → Ex F F' → Rel c F' H' σ ρ xx → At c.K F' v z → Q v H') → r vs H Q) : ∀ σ H Q, tD c (dCB g fh) σ H Q → tCB r (tHL c fh) σ H Q := by
  rintro σ H Q ⟨F, ρ, xx, P, rel, q, k⟩
  refine ⟨F, ρ, xx, _, rel, q, fun hs ρ1 vs F1 H1 q1 e1 r1 h1 => ?_⟩
  obtain ⟨ds, bs, q1⟩ := seeAll_bo r1 h1 q1
  exact hr F1 H1 σ ρ1 xx ds vs _ Q r1 bs q1 fun z v F' H' pz ez rz az => k z ρ1 v F' H' pz (e1.trans ez) rz az
variable {x : Str} {p : Pos} {es : List Expr} {fh : HLM} {g : GC}
theorem de_cb {id : String} (hs : SemC X c (.builtin id) g) (hg : Gl X x) (hm : X.mg x = none) (hv : bootBuiltins x = some (.builtin id)) (ha : PA X (e :: es) (tHL c fh)) (hn : x ≠ "__name__" := by decide) (hdb : (x == ("__debug__" : Str)) = false := by decide)
    (he : starEach (e :: es) X.env = (false, eval e X.env) :: starEach es X.env := by rfl) (hpl : (backTo pos (starEach es X.env)).any (·.1) = false := by rfl) : PE X (.Call (.Name x p) (e :: es) [] pos) (tD c (dCB g fh)) := by
  obtain ⟨r, ho, hr⟩ := hs
  exact PE.to (pe_callB ho hg hm hv ha hn hdb he hpl) (dCB_use (f := .none) hr)
theorem de_ct {T : String} (hs : SemC X c (.type T) g) (hg : Gl X x) (hm : X.mg x = none) (hv : bootBuiltins x = some (.type T)) (ha : PA X (e :: es) (tHL c fh)) (hn : x ≠ "__name__" := by decide) (hdb : (x == ("__debug__" : Str)) = false := by decide)
    (he : starEach (e :: es) X.env = (false, eval e X.env) :: starEach es X.env := by rfl) (hpl : (backTo pos (starEach es X.env)).any (·.1) = false := by rfl) : PE X (.Call (.Name x p) (e :: es) [] pos) (tD c (dCB g fh)) := by
  obtain ⟨r, ho, hr⟩ := hs
  exact PE.to (pe_callTy ho hg hm hv ha hn hdb he hpl) (dCB_use (f := .none) hr)
theorem pr1 {R : V → D → Prop} {vs : List V} {d : D} (h : Paired R vs [d]) : ∃ v, vs = [v] ∧ R v d := by
  cases h with
  | cons a t => cases t; exact ⟨_, rfl, a⟩
theorem pr2 {R : V → D → Prop} {vs : List V} {d d' : D} (h : Paired R vs [d, d']) : ∃ v u, vs = [v, u] ∧ R v d ∧ R u d' := by
  cases h with
  | cons a t => cases t with
    | cons b t => cases t; exact ⟨_, _, rfl, a, b⟩
def gLen : GC := fun ds P => match ds with
  | [.list xs] => P (.int xs.length)
  | [.tuple xs] => P (.int xs.length)
  | [.str s] => s.length ≤ 1000000 ∧ P (.int s.length)
  | _ => False
theorem sem_len (hK : X.K = c.K) : SemC X c (.builtin "len") gLen := by
  refine ⟨_, call_len, fun F H σ ρ xx ds vs P Q r bs g k => ?_⟩
  unfold gLen at g
  split at g
  · obtain ⟨v, rfl, b⟩ := pr1 bs
    obtain ⟨a, ys, rfl, s1, t1⟩ := bo_lst r.w.fh b
    exact ⟨_, _, rfl, .inl ⟨ys, by rw [hK]; exact s1, rfl⟩, by rw [t1.length]; exact k _ _ F H g (Ex.refl F) r (.int _)⟩
  · obtain ⟨v, rfl, b⟩ := pr1 bs
    obtain ⟨a, ys, rfl, _, s1, t1⟩ := bo_tup r.w.fh b
    exact ⟨_, _, rfl, .inr ⟨ys, by rw [hK]; exact s1, rfl⟩, by rw [t1.length]; exact k _ _ F H g (Ex.refl F) r (.int _)⟩
  · obtain ⟨v, rfl, b⟩ := pr1 bs
    cases bo_str b
    exact ⟨_, _, rfl, ⟨sz g.1, rfl⟩, k _ _ F H g.2 (Ex.refl F) r (.int _)⟩
  · exact g.elim
def gInt : GC := fun ds P => match ds with
  | [.int i] => P (.int i)
  | [.bool b] => P (.int (if b then 1 else 0))
  | _ => False
theorem sem_int : SemC X c (.type "int") gInt := by
  refine ⟨_, call_int1, fun F H σ ρ xx ds vs P Q r bs g k => ?_⟩
  unfold gInt at g
  split at g
  · obtain ⟨v, rfl, b⟩ := pr1 bs
    cases bo_int b
    exact .inl ⟨_, rfl, k _ _ F H g (Ex.refl F) r (.int _)⟩
  · obtain ⟨v, rfl, b⟩ := pr1 bs
    cases bo_bl b
    exact .inr ⟨_, rfl, k _ _ F H g (Ex.refl F) r (.int _)⟩
  · exact g.elim
/-- a list of numbers, of truths -/
def ofInts : List D → Option (List Int)
  | [] => some []
  | .int i :: ds => (ofInts ds).map (i :: ·)
  | _ :: _ => none
theorem ofInts_eq : ∀ {ds : List D} {ns : List Int}, ofInts ds = some ns → ds = ns.map PyData.int
  | [], ns, h => by cases h; rfl
  | .int i :: ds, ns, h => by
    unfold ofInts at h
    cases e : ofInts ds with
    | none => (rw [e] at h; cases h)
    | some ms =>
      rw [e] at h
      cases h
      rw [ofInts_eq e]
      rfl
  | .none :: _, _, h => nomatch h
  | .bool _ :: _, _, h => nomatch h
  | .str _ :: _, _, h => nomatch h
  | .list _ :: _, _, h => nomatch h
  | .tuple _ :: _, _, h => nomatch h
  | .dict _ :: _, _, h => nomatch h
def ofBools : List D → Option (List Bool)
  | [] => some []
  | .bool i :: ds => (ofBools ds).map (i :: ·)
  | _ :: _ => none
theorem ofBools_eq : ∀ {ds : List D} {ns : List Bool}, ofBools ds = some ns → ds = ns.map PyData.bool
  | [], ns, h => by cases h; rfl
  | .bool i :: ds, ns, h => by
    unfold ofBools at h
    cases e : ofBools ds with
    | none => (rw [e] at h; cases h)
    | some ms =>
      rw [e] at h
      cases h
      rw [ofBools_eq e]
      rfl
  | .none :: _, _, h => nomatch h
  | .int _ :: _, _, h => nomatch h
  | .str _ :: _, _, h => nomatch h
  | .list _ :: _, _, h => nomatch h
  | .tuple _ :: _, _, h => nomatch h
  | .dict _ :: _, _, h => nomatch h
theorem ofBools_map : ∀ (ns : List Bool), ofBools (ns.map PyData.bool) = some ns
  | [] => rfl
  | n :: ns => by
    show (ofBools (ns.map PyData.bool)).map (n :: ·) = some (n :: ns)
    rw [ofBools_map ns]
    rfl
/-- a built-in over one list of numbers -/
def gIL (k : List Int → (D → Prop) → Prop) : GC := fun ds P => match ds with
  | [.list xs] => ∃ ns, ofInts xs = some ns ∧ k ns P
  | _ => False
theorem gil_use {k0 : List Int → (D → Prop) → Prop} {F H : Hp} {σ : L2.St} {ρ : Env} {xx : XX} {ds : List D} {vs : List V} {P : D → Prop} (r : Rel c F H σ ρ xx) (bs : Paired (Bo c F H) vs ds) (g : gIL k0 ds P) : ∃ a ns, vs = [V.ref a] ∧ SqL c.K H a (ns.map V.int) ∧ k0 ns P := by
  unfold gIL at g
  split at g
  · obtain ⟨v, rfl, b⟩ := pr1 bs
    obtain ⟨ns, hn, g⟩ := g
    obtain ⟨a, ys, rfl, s1, t1⟩ := bo_lst r.w.fh b
    rw [ofInts_eq hn] at t1
    rw [t1.ints] at s1
    exact ⟨a, ns, rfl, s1, g⟩
  · exact g.elim
def gMax : GC := fun ds P => match ds with
  | [.int i, .int j] => P (.int (max i j))
  | ds => gIL (fun ns P => ns ≠ [] ∧ ∀ m, m ∈ ns → (∀ y, y ∈ ns → y ≤ m) → P (.int m)) ds P
def gMin : GC := fun ds P => match ds with
  | [.int i, .int j] => P (.int (min i j))
  | ds => gIL (fun ns P => ns ≠ [] ∧ ∀ m, m ∈ ns → (∀ y, y ∈ ns → m ≤ y) → P (.int m)) ds P
theorem sem_max (hK : X.K = c.K) (hc : X.calm = true) : SemC X c (.builtin "max") gMax :=
  ⟨_, CallR.or (call_max2 hc) (cr_max hc), fun F H σ ρ xx ds vs P Q r bs g k => by
    unfold gMax at g
    split at g
    · obtain ⟨v, u, rfl, b1, b2⟩ := pr2 bs
      cases bo_int b1; cases bo_int b2
      rename_i i j
      refine .inl ⟨i, j, rfl, ?_⟩
      have e : (if j > i then j else i) = max i j := by split <;> omega
      rw [e]
      exact k _ _ F H g (Ex.refl F) r (.int _)
    · obtain ⟨a, ns, rfl, s1, hne, g⟩ := gil_use r bs g
      exact .inr ⟨a, ns, rfl, by rw [hK]; exact s1, List.length_pos_iff.mpr hne, fun m h1 h2 => k _ _ F H (g m h1 h2) (Ex.refl F) r (.int _)⟩⟩
theorem sem_min (hK : X.K = c.K) (hc : X.calm = true) : SemC X c (.builtin "min") gMin :=
  ⟨_, CallR.or (call_min2 hc) (cr_min hc), fun F H σ ρ xx ds vs P Q r bs g k => by
    unfold gMin at g
    split at g
    · obtain ⟨v, u, rfl, b1, b2⟩ := pr2 bs
      cases bo_int b1; cases bo_int b2
      rename_i i j
      refine .inl ⟨i, j, rfl, ?_⟩
      have e : (if j < i then j else i) = min i j := by split <;> omega
      rw [e]
      exact k _ _ F H g (Ex.refl F) r (.int _)
    · obtain ⟨a, ns, rfl, s1, hne, g⟩ := gil_use r bs g
      exact .inr ⟨a, ns, rfl, by rw [hK]; exact s1, List.length_pos_iff.mpr hne, fun m h1 h2 => k _ _ F H (g m h1 h2) (Ex.refl F) r (.int _)⟩⟩
def gAll : GC := fun ds P => match ds with
  | [.list xs] => ∃ ns, ofBools xs = some ns ∧ P (.bool (ns.all id))
  | _ => False
theorem sem_all (hK : X.K = c.K) (hc : X.calm = true) : SemC X c (.builtin "all") gAll :=
  ⟨_, cr_all hc, fun F H σ ρ xx ds vs P Q r bs g k => by
    unfold gAll at g
    split at g
    · obtain ⟨v, rfl, b⟩ := pr1 bs
      obtain ⟨ns, hn, g⟩ := g
      obtain ⟨a, ys, rfl, s1, t1⟩ := bo_lst r.w.fh b
      rw [ofBools_eq hn] at t1
      rw [t1.bools] at s1
      exact ⟨a, ns, rfl, by rw [hK]; exact s1, k _ _ F H g (Ex.refl F) r (.bl _)⟩
    · exact g.elim⟩
def gTuple : GC := fun ds P => match ds with
  | [.list xs] => P (.tuple xs)
  | [.tuple xs] => P (.tuple xs)
  | _ => False
theorem sem_tuple (hK : X.K = c.K) : SemC X c (.type "tuple") gTuple := by
  refine ⟨_, call_tuple_of, fun F H σ ρ xx ds vs P Q r bs g k => ?_⟩
  unfold gTuple at g
  split at g
  · obtain ⟨v, rfl, b⟩ := pr1 bs
    obtain ⟨a, ys, rfl, s1, t1⟩ := bo_lst r.w.fh b
    exact ⟨a, ys, rfl, .inl ⟨by rw [hK]; exact s1, fun q hq => k _ _ _ _ g (r.efF _ hq) (r.newF _ hq) (.tup (.inl (.inl upd_same)) (t1.mono (r.efF _ hq)))⟩⟩
  · obtain ⟨v, rfl, b⟩ := pr1 bs
    obtain ⟨a, ys, rfl, f1, s1, t1⟩ := bo_tup r.w.fh b
    exact ⟨a, ys, rfl, .inr ⟨by rw [hK]; exact s1, k _ _ F H g (Ex.refl F) r (.tup f1 t1)⟩⟩
  · exact g.elim
def gOrd : GC := fun ds P => match ds with
  | [.str s] => s.length = 1 ∧ P (.int (s.cps.getD 0 0 : Nat))
  | _ => False
theorem sem_ord : SemC X c (.builtin "ord") gOrd := by
  refine ⟨_, call_ord, fun F H σ ρ xx ds vs P Q r bs g k => ?_⟩
  unfold gOrd at g
  split at g
  · obtain ⟨v, rfl, b⟩ := pr1 bs
    cases bo_str b
    exact ⟨_, rfl, g.1, k _ _ F H g.2 (Ex.refl F) r (.int _)⟩
  · exact g.elim
end
end DL
namespace DL
open PySem L2
structure DE where
  nx : Env → Prop
  rt : D → Env → Prop
  bk : Env → Prop
  ct : Env → Prop
abbrev SM := DE → Env → Prop
def tS (c : Cn) (g : SM) : TS := fun Z σ H => ∃ F ρ xx E, Rel c F H σ ρ xx ∧ g E ρ ∧ (∀ ρ' σ' F' H', E.nx ρ' → Ex F F' → Rel c F' H' σ' ρ' xx → Z.nx σ' H') ∧ (∀ d v ρ' σ' F' H', E.rt d ρ' → Rel c F' H' σ' ρ' xx → At c.K F' v d → Z.rt v H') ∧
  (∀ ρ' σ' F' H', E.bk ρ' → Ex F F' → Rel c F' H' σ' ρ' xx → Z.bk σ' H') ∧ (∀ ρ' σ' F' H', E.ct ρ' → Ex F F' → Rel c F' H' σ' ρ' xx → Z.ct σ' H')
theorem PS.to {X : Cx} {st : Stmt} {t t' : TS} (h : PS X st t) (w : ∀ Z σ H, t' Z σ H → t Z σ H) : PS X st t' := ⟨fun pins s σ H Z I q => h.run pins s σ H Z I (w Z σ H q)⟩
theorem PSs.to {X : Cx} {st : List Stmt} {t t' : TS} (h : PSs X st t) (w : ∀ Z σ H, t' Z σ H → t Z σ H) : PSs X st t' := ⟨fun pins s σ H Z I q => h.run pins s σ H Z I (w Z σ H q)⟩
section
variable {X : Cx} {c : Cn} {st : Stmt} {rest : List Stmt} {e : Expr} {pos : Pos}
def sSeq (g h : SM) : SM := fun E ρ => g { E with nx := h E } ρ
def sNo : SM := fun E ρ => E.nx ρ
theorem ds_cons {g h : SM} (h1 : PS X st (tS c g)) (h2 : PSs X rest (tS c h)) : PSs X (st :: rest) (tS c (sSeq g h)) :=
  PSs.to (pss_cons h1 h2) fun Z σ H ⟨F, ρ, xx, E, rel, q, n, r, b, t⟩ => ⟨F, ρ, xx, _, rel, q, fun ρ' σ' F' H' p e rel' => ⟨F', ρ', xx, E, rel', p, fun ρ2 σ2 F2 H2 p2 e2 => n ρ2 σ2 F2 H2 p2 (e.trans e2), r,
    fun ρ2 σ2 F2 H2 p2 e2 => b ρ2 σ2 F2 H2 p2 (e.trans e2), fun ρ2 σ2 F2 H2 p2 e2 => t ρ2 σ2 F2 H2 p2 (e.trans e2)⟩, r, b, t⟩
theorem ds_one {g : SM} (h1 : PS X st (tS c g)) : PSs X [st] (tS c g) := pss_one h1
theorem ds_nil : PSs X [] (tS c sNo) := PSs.to pss_nil fun Z σ H ⟨F, ρ, xx, E, rel, q, n, r, b, t⟩ => n ρ σ F H q (Ex.refl F) rel
def sNever : SM := fun _ _ => False
theorem ds_never : PSs X rest (tS c sNever) := PSs.to pss_never fun Z σ H ⟨F, ρ, xx, E, rel, q, n, r, b, t⟩ => q.elim
def sRet (f : DM) : SM := fun E ρ => f ρ fun d ρ1 => E.rt d ρ1
theorem dp_ret {f : DM} (h : PE X e (tD c f)) : PS X (.Return (some e) pos) (tS c (sRet f)) :=
  PS.to (ps_ret h) fun Z σ H ⟨F, ρ, xx, E, rel, q, n, r, b, t⟩ => ⟨F, ρ, xx, _, rel, q, fun d ρ' v F' H' p e r' a => r d v ρ' σ F' H' p r' a⟩
def sRetN : SM := fun E ρ => E.rt .none ρ
def sIf (t : BM) (g h : SM) : SM := fun E ρ => t ρ fun b ρ1 => if b = true then g E ρ1 else h E ρ1
theorem dp_if {t : BM} {a b : List Stmt} {g h : SM} (hc : PT X e (tT c t)) (ha : PSs X a (tS c g)) (hb : PSs X b (tS c h)) : PS X (.If e a b pos) (tS c (sIf t g h)) :=
  PS.to (ps_if hc ha hb) fun Z σ H ⟨F, ρ, xx, E, rel, q, n, r, b, t⟩ => ⟨F, ρ, xx, _, rel, q, fun d ρ1 F1 H1 q1 e1 r1 => by
    have go : ∀ {g : SM}, g E ρ1 → tS c g Z σ H1 := fun q => ⟨F1, ρ1, xx, E, r1, q, fun ρ2 σ2 F2 H2 p2 e2 => n ρ2 σ2 F2 H2 p2 (e1.trans e2), r,
      fun ρ2 σ2 F2 H2 p2 e2 => b ρ2 σ2 F2 H2 p2 (e1.trans e2), fun ρ2 σ2 F2 H2 p2 e2 => t ρ2 σ2 F2 H2 p2 (e1.trans e2)⟩
    cases d with
    | true => exact go q1
    | false => exact go q1⟩
def sExpr (f : DM) : SM := fun E ρ => f ρ fun _ ρ1 => E.nx ρ1
theorem dp_expr {f : DM} (h : PE X e (tD c f)) (hs : swapsWith e none pos.line X.env = pure false := by rfl) : PS X (.Expr e pos) (tS c (sExpr f)) :=
  PS.to (ps_expr h hs) fun Z σ H ⟨F, ρ, xx, E, rel, q, n, r, b, t⟩ => ⟨F, ρ, xx, _, rel, q, fun d ρ' v F' H' p e r' a => n ρ' σ F' H' p e r'⟩
abbrev TM := D → Env → (Env → Prop) → Prop
def Only (js : List Nat) (σ σ' : L2.St) : Prop := ∀ vs : List Nat, (∀ j ∈ js, j ∈ vs) → wipe σ' vs = wipe σ vs
def tG (c : Cn) (js : List Nat) (t : TM) : TG := fun v σ H Q => ∃ F ρ xx d P, Rel c F H σ ρ xx ∧ At c.K F v d ∧ t d ρ P ∧ ∀ ρ' σ' F' H', P ρ' → Only js σ σ' → Ex F F' → Rel c F' H' σ' ρ' xx → Q σ' H'
abbrev TMs := List D → Env → (Env → Prop) → Prop
def tGs (c : Cn) (js : List Nat) (t : TMs) : TGs := fun vs σ H Q => ∃ F ρ xx ds P, Rel c F H σ ρ xx ∧ AtAll c.K F vs ds ∧ t ds ρ P ∧ ∀ ρ' σ' F' H', P ρ' → Only js σ σ' → Ex F F' → Rel c F' H' σ' ρ' xx → Q σ' H'
theorem PG.to {tg : Expr} {t t' : TG} (h : PG X tg t) (w : ∀ v σ H Q, t' v σ H Q → t v σ H Q) : PG X tg t' := ⟨fun pins s σ H v u Q I r q => h.run pins s σ H v u Q I r (w v σ H Q q)⟩
theorem PGs.to {ts : List Expr} {t t' : TGs} (h : PGs X ts t) (w : ∀ v σ H Q, t' v σ H Q → t v σ H Q) : PGs X ts t' := ⟨fun pins s σ H v u Q I r q => h.run pins s σ H v u Q I r (w v σ H Q q)⟩
theorem only_set (i : Nat) (σ : L2.St) (v : V) : Only [i] σ (σ.set i (some v)) := fun vs h => by
  have hi : i ∈ vs := h i (List.mem_singleton.mpr rfl)
  clear h
  induction vs with
  | nil => cases hi
  | cons w ws ih =>
    show (wipe (σ.set i (some v)) ws).set w none = (wipe σ ws).set w none
    by_cases hw : i ∈ ws
    · rw [ih hw]
    · have e : w = i := by
        rcases List.mem_cons.mp hi with h | h
        · exact h.symm
        · exact absurd h hw
      subst e
      have z : ∀ ws : List Nat, wipe (σ.set w (some v)) ws = (wipe σ ws).set w (some v) ∨ w ∈ ws := fun ws => by
        induction ws with
        | nil => exact .inl rfl
        | cons y ys ih2 =>
          by_cases h1 : w = y
          · exact .inr (by rw [h1]; exact List.mem_cons_self ..)
          · rcases ih2 with h2 | h2
            · left
              show (wipe (σ.set w (some v)) ys).set y none = ((wipe σ ys).set y none).set w (some v)
              rw [h2, List.set_comm _ _ h1]
            · exact .inr (List.mem_cons_of_mem _ h2)
      rcases z ws with h2 | h2
      · rw [h2, List.set_set]
      · exact absurd h2 hw
theorem Only.trans {js ks : List Nat} {σ σ' σ'' : L2.St} (a : Only js σ σ') (b : Only ks σ' σ'') : Only (js ++ ks) σ σ'' := fun vs h =>
  (b vs fun j hj => h j (List.mem_append_right _ hj)).trans (a vs fun j hj => h j (List.mem_append_left _ hj))
def gN (i : Nat) : TM := fun d ρ P => P (ρ.set i (.im d))
theorem dg_name {i : Nat} {x : Str} (hN : X.N.Nodup) (hi : X.N[i]? = some x) (hx : Loc X.env.scope x) (hf : X.fn x = true ∨ X.env.scope.names.lookup x = some .local := by first | exact .inl rfl | exact .inr rfl | assumption) : PG X (.Name x pos) (tG c [i] (gN i)) :=
  PG.to (pg_name hN hi hx hf) fun v σ H Q ⟨F, ρ, xx, d, P, rel, a, q, k⟩ => k _ _ F H q (only_set i σ v) (Ex.refl F) (rel.putI i a)
def gNoT : TMs := fun ds ρ P => ds = [] ∧ P ρ
def gConsT (t : TM) (u : TMs) : TMs := fun ds ρ P => match ds with
  | d :: ds => t d ρ fun ρ1 => u ds ρ1 P
  | [] => False
theorem dgs_nil : PGs X [] (tGs c [] gNoT) := PGs.to pgs_nil fun v σ H Q ⟨F, ρ, xx, ds, P, rel, a, ⟨e, q⟩, k⟩ => by
  subst e
  cases a
  exact ⟨rfl, k _ _ F H q (fun _ _ => rfl) (Ex.refl F) rel⟩
theorem dgs_cons {tg : Expr} {ts : List Expr} {js ks : List Nat} {t : TM} {u : TMs} (h1 : PG X tg (tG c js t)) (h2 : PGs X ts (tGs c ks u))
    (hs : (assignEach (tg :: ts) X.env).map (·.2) = assign tg X.env :: (assignEach ts X.env).map (·.2) := by rfl) : PGs X (tg :: ts) (tGs c (js ++ ks) (gConsT t u)) :=
  PGs.to (pgs_cons h1 h2 hs) fun v σ H Q ⟨F, ρ, xx, ds, P, rel, a, q, k⟩ => by
    cases a with
    | nil => exact False.elim q
    | cons a1 a2 => exact ⟨_, _, rfl, F, ρ, xx, _, _, rel, a1, q, fun ρ1 σ1 F1 H1 q1 o1 e1 r1 => ⟨F1, ρ1, xx, _, P, r1, a2.mono e1, q1, fun ρ2 σ2 F2 H2 q2 o2 e2 r2 => k ρ2 σ2 F2 H2 q2 (o1.trans o2) (e1.trans e2) r2⟩⟩
def gTupT (n : Nat) (t : TMs) : TM := fun d ρ P => match d with
  | .tuple ds => ds.length = n ∧ t ds ρ P
  | _ => False
theorem dg_tup {es : List Expr} {k : Nat} {js : List Nat} {t : TMs} {n : Nat} (hK : X.K = c.K) (hc : X.calm = true) (h : PGs X es (tGs c js t))
    (hn : (assignEach es X.env).length = n := by rfl) (hst : (assignEach es X.env).findIdx? (·.1) = none := by rfl) : PG X (.Tuple es k pos) (tG c js (gTupT n t)) :=
  PG.to (pg_tup hc h hn hst) fun v σ H Q ⟨F, ρ, xx, d, P, rel, a, q, k⟩ => by
    cases a with
    | tup s1 a1 => exact ⟨_, _, rfl, by rw [hK]; exact rel.w.fh.st s1, by rw [a1.length]; exact q.1, F, ρ, xx, _, P, rel, a1, q.2, k⟩
    | _ => exact False.elim q
def sAsg (f : DM) (t : TM) : SM := fun E ρ => f ρ fun d ρ1 => t d ρ1 E.nx
def sSet (i : Nat) (f : DM) : SM := fun E ρ => f ρ fun d ρ1 => E.nx (ρ1.set i (.im d))
def sSetN (i : Nat) (f : DM) : SM := fun E ρ => f ρ fun d ρ1 => E.nx (ρ1.set i (.ow d))
theorem set_use {i : Nat} {f : DM} {te : TE} (et : te = tD c f) : ∀ Z σ H, tS c (sSet i f) Z σ H → tAsg te (gName i) Z σ H := by
  subst et
  exact fun Z σ H ⟨F, ρ, xx, E, rel, q, n, r, b, t⟩ => ⟨F, ρ, xx, _, rel, q, fun d ρ' v F' H' p e r' a => n _ _ F' H' p e (r'.putI i a)⟩
theorem setN_use {i : Nat} {f : DM} {te : TE} (et : te = tN c f) : ∀ Z σ H, tS c (sSetN i f) Z σ H → tAsg te (gName i) Z σ H := by
  subst et
  exact fun Z σ H ⟨F, ρ, xx, E, rel, q, n, r, b, t⟩ => ⟨F, ρ, xx, _, rel, q, fun d ρ' v F' H' p e r' a => n _ _ F' H' p e (r'.putO i a)⟩
variable {x : Str} {i : Nat} {pos' : Pos}
theorem dp_set {f : DM} (hN : X.N.Nodup) (hi : X.N[i]? = some x) (hx : Loc X.env.scope x) (he : PE X e (tD c f)) (hs : swapsWith e (some (.Name x pos')) pos.line X.env = pure false := by rfl)
    (hf : X.fn x = true ∨ X.env.scope.names.lookup x = some .local := by first | exact .inl rfl | exact .inr rfl | assumption) : PS X (.Assign [.Name x pos'] e pos) (tS c (sSet i f)) := PS.to (ps_set hN hi hx he hs hf) (set_use rfl)
theorem dp_setN {f : DM} (hN : X.N.Nodup) (hi : X.N[i]? = some x) (hx : Loc X.env.scope x) (he : PE X e (tN c f)) (hs : swapsWith e (some (.Name x pos')) pos.line X.env = pure false := by rfl)
    (hf : X.fn x = true ∨ X.env.scope.names.lookup x = some .local := by first | exact .inl rfl | exact .inr rfl | assumption) : PS X (.Assign [.Name x pos'] e pos) (tS c (sSetN i f)) := PS.to (ps_set hN hi hx he hs hf) (setN_use rfl)
/-- a, b = x, y -/
def sPar (i j : Nat) (f : LM) : SM := fun E ρ => f ρ fun ds ρ1 => match ds with
  | [a, b] => E.nx ((ρ1.set i (.im a)).set j (.im b))
  | _ => False
theorem dp_par {j : Nat} {y : Str} {a b : Expr} {f : LM} {px py pt : Pos} {kt k2 : Nat} {pt2 : Pos} (hc : X.calm = true) (hN : X.N.Nodup) (hi : X.N[i]? = some x) (hj : X.N[j]? = some y) (hij : i ≠ j)
    (hx : X.env.scope.names.lookup x = some .local) (hy : X.env.scope.names.lookup y = some .local) (ha : PA X [a, b] (tL c f))
    (hw : (swappedStores [.Tuple [.Name x px, .Name y py] kt pt] (.Tuple [a, b] k2 pt2) X.env = pure (some [x, y])))
    (hs : swapsWithSole [.Tuple [.Name x px, .Name y py] kt pt] (.Tuple [a, b] k2 pt2) pos.line X.env = pure false
      := by rfl) :
    PS X (.Assign [.Tuple [.Name x px, .Name y py] kt pt] (.Tuple [a, b] k2 pt2) pos) (tS c (sPar i j f)) :=
  PS.to (ps_par hc hN hi hj hij hx hy ha hw hs) fun Z σ H ⟨F, ρ, xx, E, rel, q, n, r, bb, t⟩ => ⟨F, ρ, xx, _, rel, q, fun ds ρ' vs F' H' p e r' a => by
    split at p
    · cases a with
      | cons a1 a2 => cases a2 with
        | cons a2 a3 =>
          cases a3
          exact ⟨_, _, rfl, n _ _ F' H' p e ((r'.putI i a1).putI j a2)⟩
    · exact p.elim⟩
/-- x += e -/
def sAug (i : Nat) (g : G2) (f : HM) : SM := fun E ρ => (match ρ[i]? with
  | some (.im _) => True
  | _ => False) ∧ f ρ fun h ρ1 => match ρ1[i]? with
  | some (.im d) => see ρ1 h fun dy => g d dy fun z => E.nx (ρ1.set i (.im z))
  | _ => False
def ipG (r : R2) : TIp := fun x y H Q => r x y H Q
theorem dp_aug {op : Operator} {g : G2} {f : HM} (hN : X.N.Nodup) (hi : X.N[i]? = some x) (hx : Loc X.env.scope x) (he : PE X e (tH c f)) (hs : Sem2 X c (inplaceOp op) g)
    (hf : X.fn x = true ∨ X.env.scope.names.lookup x = some .local := by first | exact .inl rfl | exact .inr rfl | assumption) : PS X (.AugAssign (.Name x pos') op e pos) (tS c (sAug i g f)) := by
  obtain ⟨r, ho, hr⟩ := hs
  refine PS.to (ps_aug (ti := ipG r) hN hi hx he ho hf) ?_
  rintro Z σ H ⟨F, ρ, xx, E, rel, ⟨q0, q⟩, n, rr, b, t⟩
  split at q0
  · rename_i d e0
    obtain ⟨v, g1, g2⟩ := rel.s.im i d e0
    refine ⟨v, g1, F, ρ, xx, _, rel, q, fun h ρ1 u F1 H1 q1 e1 r1 h1 => ?_⟩
    split at q1
    · rename_i d1 e2
      obtain ⟨v', g1', g2'⟩ := r1.s.im i d1 e2
      rw [g1] at g1'
      cases g1'
      obtain ⟨dy, by_, q1⟩ := see_bo r1 h1 q1
      exact hr F1 H1 σ ρ1 xx d1 dy v u _ _ r1 (.inl g2') by_ q1 fun z w F2 H2 pz ez rz az => n _ _ F2 H2 pz (e1.trans ez) (rz.putI i az)
    · exact q1.elim
  · exact q0.elim
abbrev IM := Env → (List D → Env → Prop) → Prop
def ItOk (c : Cn) (J : It) (ds : List D) (F : Hp) : Prop := ∀ (i : Nat) (F' H : Hp) (σ : L2.St) (ρ : Env) (xx : XX), Ex F F' → Rel c F' H σ ρ xx →
  (∀ d, ds[i]? = some d → J.go i H ∧ ∀ x H', J.yld i H x H' → ∃ F2, Ex F' F2 ∧ Rel c F2 H' σ ρ xx ∧ At c.K F2 x d) ∧ (ds.length = i → J.stop i H)
def tI (c : Cn) (f : IM) : TI := fun σ H R => ∃ F ρ xx P, Rel c F H σ ρ xx ∧ f ρ P ∧ ∀ ds ρ' J F' H', P ds ρ' → Ex F F' → Rel c F' H' σ ρ' xx → ItOk c J ds F' → R J H'
theorem PI.to {tg iter : Expr} {t t' : TI} (h : PI X tg iter t) (w : ∀ σ H Q, t' σ H Q → t σ H Q) : PI X tg iter t' := ⟨fun pins s σ H Q I q => h.run pins s σ H Q I (w σ H Q q)⟩
def forL (t : TM) (body : SM) (E : DE) : List D → Env → Prop
  | [], ρ => E.nx ρ
  | d :: ds, ρ => t d ρ fun ρ1 => body ⟨forL t body E ds, E.rt, E.nx, forL t body E ds⟩ ρ1
def sFor (f : IM) (t : TM) (body : SM) : SM := fun E ρ => f ρ fun ds ρ1 => forL t body E ds ρ1
theorem dp_for {tg iter : Expr} {body : List Stmt} {f : IM} {js : List Nat} {t : TM} {g : SM} (hp : PassesOwn (model X.prog X.w) X.A X.env X.xe) (hc : X.calm = true) (hi : PI X tg iter (tI c f)) (hg : PG X tg (tG c js t)) (hb : PSs X body (tS c g))
    (hs : ∀ x, foldedSetIterable iter X.env x = pure x := by intro _; rfl) : PS X (.For tg iter body [] pos) (tS c (sFor f t g)) := by
  refine PS.to (ps_for hp hc hi hg hb hs) ?_
  rintro Z σ H ⟨F, ρ, xx, E, rel, q, n, r, b, ct⟩
  refine ⟨F, ρ, xx, _, rel, q, fun ds ρ1 J F1 H1 q1 e1 r1 ok => ?_⟩
  refine ⟨fun i m σ' H' => ∃ F' ρ', Ex F1 F' ∧ Rel c F' H' σ' ρ' xx ∧ m = ds.length - i ∧ i ≤ ds.length ∧ forL t g E (ds.drop i) ρ', ⟨ds.length, F1, ρ1, Ex.refl F1, r1, by omega, Nat.zero_le _, by rw [List.drop_zero]; exact q1⟩, ?_⟩
  rintro i m σ' H' ⟨F', ρ', e2, r2, rfl, hi, q2⟩
  obtain ⟨o1, o2⟩ := ok i F' H' σ' ρ' xx e2 r2
  by_cases hlt : i < ds.length
  · have hd : ds[i]? = some ds[i] := List.getElem?_eq_getElem hlt
    obtain ⟨go, yl⟩ := o1 _ hd
    rw [List.drop_eq_getElem_cons hlt] at q2
    have q2 : t ds[i] ρ' fun ρ1 => g ⟨forL t g E (ds.drop (i + 1)), E.rt, E.nx, forL t g E (ds.drop (i + 1))⟩ ρ1 := q2
    refine .inr ⟨go, fun σ2 H2 => ∃ F2 ρ2, Ex F1 F2 ∧ Rel c F2 H2 σ2 ρ2 xx ∧ forL t g E (ds.drop (i + 1)) ρ2, fun σ2 H2 ⟨F2, ρ2, a1, a2, a3⟩ => ⟨ds.length - (i + 1), by omega, F2, ρ2, a1, a2, rfl, by omega, a3⟩, fun v H2 y => ?_⟩
    obtain ⟨F2, e3, r3, a3⟩ := yl v H2 y
    refine ⟨F2, ρ', xx, _, _, r3, a3, q2, fun ρ4 σ4 F4 H4 q4 _ e4 r4 => ?_⟩
    exact ⟨F4, ρ4, xx, _, r4, q4, fun ρ5 σ5 F5 H5 q5 e5 r5 => ⟨F5, ρ5, ((e2.trans e3).trans e4).trans e5, r5, q5⟩, r, fun ρ5 σ5 F5 H5 q5 e5 r5 => n ρ5 σ5 F5 H5 q5 ((((e1.trans e2).trans e3).trans e4).trans e5) r5, fun ρ5 σ5 F5 H5 q5 e5 r5 => ⟨F5, ρ5, ((e2.trans e3).trans e4).trans e5, r5, q5⟩⟩
  · have e : i = ds.length := by omega
    subst e
    rw [List.drop_length] at q2
    exact .inl ⟨o2 rfl, n ρ' σ' F' H' q2 (e1.trans e2) r2⟩
theorem itOk_list {a : Addr} {F : Hp} {ds : List D} {ys : List V} {K : PySem.W.Frag} (hK : K = c.K) (s : SqL c.K F a ys) (t : AtAll c.K F ys ds) : ItOk c (Itl K a) ds F := by
  subst hK
  intro i F' H σ ρ xx e r
  have sq := r.w.fh.sl (e.sl s)
  refine ⟨fun d hd => ?_, fun hl => ⟨ys, sq, by rw [t.length]; exact Nat.le_of_eq hl⟩⟩
  obtain ⟨v, hv, av⟩ := t.get hd
  refine ⟨⟨ys, v, sq, hv⟩, fun x H' ⟨eh, y⟩ => ?_⟩
  subst eh
  have := y ys sq
  rw [hv] at this
  cases this
  exact ⟨F', Ex.refl _, r, av.mono e⟩
theorem itOk_tup {a : Addr} {F : Hp} {ds : List D} {ys : List V} {K : PySem.W.Frag} (hK : K = c.K) (s : SqT c.K F a ys) (t : AtAll c.K F ys ds) : ItOk c (Itt K a) ds F := by
  subst hK
  intro i F' H σ ρ xx e r
  have sq := r.w.fh.st (e.st s)
  refine ⟨fun d hd => ?_, fun hl => ⟨ys, sq, by rw [t.length]; exact Nat.le_of_eq hl⟩⟩
  obtain ⟨v, hv, av⟩ := t.get hd
  refine ⟨⟨ys, v, sq, hv⟩, fun x H' ⟨eh, y⟩ => ?_⟩
  subst eh
  have := y ys sq
  rw [hv] at this
  cases this
  exact ⟨F', Ex.refl _, r, av.mono e⟩
/-- an iterator over a list, a tuple, a text: by what the value is -/
def iAny (K : PySem.W.Frag) (tl : TE) : TI := fun σ H R => tl σ H fun x H1 => (∃ a, x = .ref a ∧ (((∃ xs, SqL K H1 a xs) ∧ R (Itl K a) H1) ∨ ((∃ xs, SqT K H1 a xs) ∧ R (Itt K a) H1))) ∨ ∃ z, x = .str z ∧ R (Its z) H1
theorem pi_any {tg l : Expr} {tl : TE} (hl : PE X l tl) : PI X tg l (iAny X.K tl) := by
  (refine ⟨fun pins s σ H R I h => ?_⟩)
  refine thn (hl.run pins s σ H _ I h) fun v s1 ⟨x, H1, I1, r1, q⟩ => ?_
  have fin : ∀ b, b ∈ [s1.heap.objs.size] → FpOk X pins H1 b := fun b hb => by
    obtain rfl := List.mem_singleton.mp hb
    (exact I1.fpOk (Nat.le_refl _) (I1.hok.fresh (Nat.le_refl _)))
  rcases q with ⟨a, ex, q⟩ | ⟨z, ex, q⟩
  · subst ex
    cases r1
    rcases q with ⟨⟨xs, hs⟩, q⟩ | ⟨⟨xs, hs⟩, q⟩
    · obtain ⟨its, rv, pl, hz⟩ := I1.list hs
      exact wpAny_pyIter_list pl.isList ⟨_, [s1.heap.objs.size], _, _, H1, rfl, I1.kept (t' := s1.toks) fun b o q => Heap.get?_push_of_some _ q, turn_list a _,
        ⟨_, Heap.get?_push_size _ rfl, rfl, rfl⟩, fin, q⟩
    · obtain ⟨its, rv, pl, hz⟩ := I1.tuple hs
      exact wpAny_pyIter_tuple (show s1.heap.IsTuple a its.toArray from pl) ⟨_, [s1.heap.objs.size], _, _, H1, rfl, I1.kept (t' := s1.toks) fun b o q => Heap.get?_push_of_some _ q, turn_tuple a _,
        ⟨_, Heap.get?_push_size _ rfl, rfl, rfl⟩, fin, q⟩
  · subst ex
    obtain ⟨t, rfl⟩ := r1
    cases ha : z.cps.all (· < 128)
    · exact wpAny_pyIter_wide ha (pi_one (tk := s1.toks) I1 _ (turn_str _ z t "str_iterator" (.inr rfl)) ⟨_, Heap.get?_push_size _ rfl, rfl, rfl⟩ q)
    · exact wpAny_pyIter_ascii ha (pi_one (tk := s1.toks) I1 _ (turn_str _ z t "str_ascii_iterator" (.inl rfl)) ⟨_, Heap.get?_push_size _ rfl, rfl, rfl⟩ q)
def signs (z : Str) : List D := z.cps.toList.map fun n => .str ⟨#[n]⟩
theorem itOk_str {z : Str} {F : Hp} : ItOk c (Its z) (signs z) F := by
  intro i F' H σ ρ xx e r
  refine ⟨fun d hd => ?_, fun hl => ?_⟩
  · unfold signs at hd
    rw [List.getElem?_map] at hd
    cases hn : z.cps.toList[i]? with
    | none => rw [hn] at hd; cases hd
    | some n =>
      rw [hn] at hd
      cases hd
      have hi : z.cps[i]? = some n := by simpa using hn
      refine ⟨?_, fun x H' ⟨eh, m, y, ev⟩ => ?_⟩
      · have := (Array.getElem?_eq_some_iff.mp hi).1
        exact this
      · subst eh ev
        rw [hi] at y
        cases y
        exact ⟨F', Ex.refl _, r, .str _⟩
  · unfold signs at hl
    rw [List.length_map, Array.length_toList] at hl
    exact Nat.le_of_eq hl
def iSeq (f : DM) : IM := fun ρ P => f ρ fun d ρ1 => match d with
  | .list ds => P ds ρ1
  | .tuple ds => P ds ρ1
  | .str z => P (signs z) ρ1
  | _ => False
theorem di_seq {tg l : Expr} {f : DM} (hK : X.K = c.K) (hl : PE X l (tD c f)) : PI X tg l (tI c (iSeq f)) := by
  refine PI.to (pi_any hl) ?_
  rintro σ H R ⟨F, ρ, xx, P, rel, q, k⟩
  refine ⟨F, ρ, xx, _, rel, q, fun d ρ1 v F1 H1 q1 e1 r1 a1 => ?_⟩
  split at q1
  · cases a1 with
    | lst s1 t1 => exact .inl ⟨_, rfl, .inl ⟨⟨_, by rw [hK]; exact r1.w.fh.sl s1⟩, k _ ρ1 _ F1 H1 q1 e1 r1 (itOk_list hK s1 t1)⟩⟩
  · cases a1 with
    | tup s1 t1 => exact .inl ⟨_, rfl, .inr ⟨⟨_, by rw [hK]; exact r1.w.fh.st s1⟩, k _ ρ1 _ F1 H1 q1 e1 r1 (itOk_tup hK s1 t1)⟩⟩
  · cases a1
    exact .inr ⟨_, rfl, k _ ρ1 _ F1 H1 q1 e1 r1 itOk_str⟩
  · exact q1.elim
/-- range(n), range(a, b) -/
def rgD (lo hi : Int) : List D := (List.range (hi - lo).toNat).map fun i => .int (lo + (i : Nat))
theorem itOk_range {lo : Int} {n : Nat} {F : Hp} : ItOk c (Itr lo n) ((List.range n).map fun i => .int (lo + (i : Nat))) F := by
  intro i F' H σ ρ xx e r
  refine ⟨fun d hd => ?_, fun hl => show n ≤ i by simp at hl; omega⟩
  rw [List.getElem?_map] at hd
  cases hn : (List.range n)[i]? with
  | none => rw [hn] at hd; cases hd
  | some j =>
    rw [hn] at hd
    cases hd
    obtain ⟨hi, ej⟩ := List.getElem?_eq_some_iff.mp hn
    rw [List.getElem_range] at ej
    subst ej
    refine ⟨show i < n by simpa using hi, fun x H' ⟨eh, y⟩ => ?_⟩
    subst eh y
    exact ⟨F', Ex.refl _, r, .int _⟩
def iRange1 (f : LM) : IM := fun ρ P => f ρ fun ds ρ1 => match ds with
  | [.int n] => (-(2 ^ 62) ≤ n ∧ n < 2 ^ 62) ∧ P (rgD 0 n) ρ1
  | _ => False
theorem di_range1 {tg a : Expr} {f : LM} {p : Pos} (hg : Gl X "range") (hm : X.mg "range" = none) (ha : PA X [a] (tL c f)) (hs : starEach [a] X.env = [(false, eval a X.env)] := by rfl) : PI X tg (.Call (.Name "range" p) [a] [] pos) (tI c (iRange1 f)) := by
  refine PI.to (pi_range1 hg hm ha hs) ?_
  rintro σ H R ⟨F, ρ, xx, P, rel, q, k⟩
  refine ⟨F, ρ, xx, _, rel, q, fun ds ρ1 vs F1 H1 q1 e1 r1 a1 => ?_⟩
  split at q1
  · rename_i n
    cases a1 with
    | cons a b =>
      cases b
      cases a
      have hr : rgD 0 n = (List.range n.toNat).map fun i => PyData.int (0 + (i : Nat)) := by
        unfold rgD
        rw [Int.sub_zero]
      rw [hr] at q1
      exact ⟨n, rfl, q1.1.1, q1.1.2, k _ ρ1 _ F1 H1 q1.2 e1 r1 itOk_range⟩
  · exact q1.elim
/-- while -/
def sWhile (t : BM) (body : SM) : SM := fun E ρ => ∃ W : Nat → Env → Prop, (∃ m, W m ρ) ∧ ∀ m ρ, W m ρ → t ρ fun b ρ1 => if b = true then body ⟨fun ρ' => ∃ m', m' < m ∧ W m' ρ', E.rt, E.nx, fun ρ' => ∃ m', m' < m ∧ W m' ρ'⟩ ρ1 else E.nx ρ1
theorem dp_while {t : BM} {body : List Stmt} {g : SM} (hp : PassesOwn (model X.prog X.w) X.A X.env X.xe) (hc : PT X e (tT c t)) (hb : PSs X body (tS c g)) : PS X (.While e body [] pos) (tS c (sWhile t g)) := by
  refine PS.to (ps_while hp hc hb) ?_
  rintro Z σ H ⟨F, ρ, xx, E, rel, ⟨W, ⟨m0, w0⟩, turn⟩, n, r, b, ct⟩
  refine ⟨fun m σ' H' => ∃ F' ρ', Ex F F' ∧ Rel c F' H' σ' ρ' xx ∧ W m ρ', ⟨m0, F, ρ, Ex.refl F, rel, w0⟩, ?_⟩
  rintro m σ' H' ⟨F', ρ', e1, r1, w1⟩
  refine ⟨F', ρ', xx, _, r1, turn m ρ' w1, fun bb ρ2 F2 H2 q2 e2 r2 => ?_⟩
  cases bb with
  | true =>
    refine ⟨fun σ3 H3 => ∃ F3 ρ3, Ex F F3 ∧ Rel c F3 H3 σ3 ρ3 xx ∧ ∃ m', m' < m ∧ W m' ρ3, fun σ3 H3 ⟨F3, ρ3, a1, a2, m', a3, a4⟩ => ⟨m', a3, F3, ρ3, a1, a2, a4⟩, ?_⟩
    exact ⟨F2, ρ2, xx, _, r2, q2, fun ρ3 σ3 F3 H3 q3 e3 r3 => ⟨F3, ρ3, (e1.trans e2).trans e3, r3, q3⟩, r, fun ρ3 σ3 F3 H3 q3 e3 r3 => n ρ3 σ3 F3 H3 q3 ((e1.trans e2).trans e3) r3, fun ρ3 σ3 F3 H3 q3 e3 r3 => ⟨F3, ρ3, (e1.trans e2).trans e3, r3, q3⟩⟩
  | false => exact n ρ2 σ' F2 H2 q2 (e1.trans e2) r2
end
end DL
namespace DL
open PySem L2
section
open PyProof.Rows
variable {prog : Program} {w : PySem.World} {A : Around} {E : Value → Shared → Prop} {s : Shared}
/-- enumerate(v), where iter(v) begins with the object o -/
theorem enum_one {v : Value} {o : Obj} {Z : Heap → Prop} {Q : Value → Shared → Prop} (B : Begins v o Z) (f : Z s.heap)
    (h : ∀ h2 : Heap, h2.get? s.heap.objs.size = some o → IsEnum h2 (s.heap.objs.size + 1) s.heap.objs.size 0 .none → (∀ b z, s.heap.get? b = some z → h2.get? b = some z) → Q (.ref (s.heap.objs.size + 1)) { s with heap := h2 }) :
    wpAny (model prog w) A (call (.type "enumerate") [v]) Q E s := by
  have new : Meets (Builtin.«enumerate.__new__» ⟨[.type "enumerate", v], []⟩) (fun _ R s1 => Z s1.heap ∧ R (.ok (.ret (.ref (s1.heap.push o).objs.size))) { s1 with heap := (s1.heap.push o).push { cls := .type "enumerate", data := .fields #[.none, .bool false, .ref s1.heap.objs.size, rawInt 0, .none, .none] } }) := by
    refine .of_wp fun prog w A R s1 z => ?_
    have begins : ∀ {A' : Around} {E : Value → Shared → Prop} {Q : Value → Shared → Prop}, Q (.ref s1.heap.objs.size) { s1 with heap := s1.heap.push o } → wpAny (model prog w) A' (pyIter v) Q E s1 := fun q => B.iter prog w _ _ s1 _ z.1 q
    have isa := sub_enumerate
    have fin := z.2
    clear z
    cases s1
    wp_walk using begins
    apply wpAny_stack_any
    intro st
    apply wpAny_pure
    split
    case _ c _ _ _ _ _ =>
      rcases c == Value.type "enumerate" with _ | _ <;> (wp_walk using begins) <;> exact ⟨_, rfl, fin⟩
    case _ =>
      wp_walk using begins
      exact ⟨_, rfl, fin⟩
  have at1 : (s.heap.push o).objs.size = s.heap.objs.size + 1 := Heap.size_push ..
  refine callType_new F.called_enumerate (by decide) (F.typeCall_enumerate_1 v) (F.newCall_enumerate_1 v) (F.args_object_init_2 · v) F.entry_enumerate_new new ?_
  rw [at1]
  have made := Heap.get?_push_size (s.heap.push o) (o := { cls := .type "enumerate", data := .fields #[.none, .bool false, .ref s.heap.objs.size, rawInt 0, .none, .none] }) rfl
  rw [at1] at made
  exact ⟨f, ⟨_, made, rfl⟩, h _ (Heap.get?_push_of_some _ (Heap.get?_push_size _ B.free)) made fun b z q => Heap.get?_push_of_some _ (Heap.get?_push_of_some _ q)⟩
/-- where an enumerate over the tuple a stands: e the enumerate, it the tuple's iterator -/
structure EnT (a e it : Addr) (i : Nat) (h : Heap) : Prop where
  en : ∃ old, IsEnum h e it ((i : Nat) : Int) old
  ti : h.IsTupleIter it a i
  e_it : e ≠ it
  a_it : a ≠ it
  a_e : a ≠ e
theorem EnT.move {a e it : Addr} {i : Nat} {h h' : Heap} (x : EnT a e it i h) (ke : ∀ o, h.get? e = some o → h'.get? e = some o) (ki : ∀ o, h.get? it = some o → h'.get? it = some o) : EnT a e it i h' :=
  ⟨x.en.imp fun _ q => ke _ q, x.ti.at ki, x.e_it, x.a_it, x.a_e⟩
/-- its next item, over the heap alone -/
theorem EnT.step {a e it : Addr} {i : Nat} {its : List Value} {u : Value} {R : Shared → Prop} {elts : List Expr} {kk : Nat} {tpos : Pos} (x : EnT a e it i s.heap) (calm : A.in1.handled = none) (p : s.heap.IsTuple a its.toArray) (hu : its[i]? = some u)
    (h : ∀ (h2 : Heap) (tk : Nat), EnT a e it (i + 1) h2 → h2.get? s.heap.objs.size = some { cls := .type "tuple", data := .seq #[.int i tk, u] } → (∀ b o, b ≠ e → b ≠ it → s.heap.get? b = some o → h2.get? b = some o) → R { s with heap := h2, toks := tk + 1 }) :
    wpAny (model prog w) A (pyNext (.ref e)) (fun r s1 => r = some (.ref s.heap.objs.size) ∧ wpAny (model prog w) A (letOwnedTupleGo (.Tuple elts kk tpos) (.ref e) (.ref s.heap.objs.size)) (fun _ s2 => R s2) E s1) E s := by
  obtain ⟨⟨old, en⟩, ti, n1, n2, n3⟩ := x
  have new : s.heap.objs.size ≠ e := Nat.ne_of_gt (Heap.lt_size en)
  have few : i < its.toArray.size := (List.getElem?_eq_some_iff.mp hu).1
  refine wpAny_pyNext_enum_itemD (Draws.tuple (prog := prog) (w := w) calm it a n2 its.toArray) en ⟨ti, p⟩ few n1 (List.not_mem_cons_of_ne_of_not_mem n1 (List.not_mem_cons_of_ne_of_not_mem (Ne.symm n3) List.not_mem_nil)) ?_
  rintro y h1 tk hy own st1 tup - kept
  have : y = u := Option.some.inj (Eq.trans (by simpa using hy.symm) hu)
  subst this
  refine ⟨rfl, wpAny_letOwnedTupleGo_enum (s := { s with heap := h1, toks := tk + 1 }) own fun h2 en2 sb => h h2 tk ⟨⟨_, by rw [Int.natCast_succ]; exact en2⟩, st1.1.at fun o q => (sb.2 it (Ne.symm n1)).trans q, n1, n2, n3⟩ ((sb.2 _ new).trans tup) ?_⟩
  exact fun b o be bi q => (sb.2 b be).trans (kept b o be bi q)
end
/-- each item of a sequence with its number, in a new pair -/
def numbered (S : Hp → List V → Prop) : It where
  go i H := ∃ xs x, S H xs ∧ xs[i]? = some x
  yld i H v H' := ∃ T x, v = .ref T ∧ H T = none ∧ H' = upd H T (.tup [.int (i : Nat), x]) ∧ ∀ xs, S H xs → xs[i]? = some x
  stop i H := ∃ xs, S H xs ∧ xs.length = i
abbrev IteT (K : PySem.W.Frag) (a : Addr) : It := numbered fun H xs => SqT K H a xs
open PyProof.Rows in
theorem turn_enumT {P : Program} {w : PySem.World} {K : PySem.W.Frag} {elts : List Expr} {kk : Nat} {tpos : Pos} (a e it : Addr) : Turn P w K (.Tuple elts kk tpos) (IteT K a) [e, it] e (EnT a e it) := by
  have two : ∀ {p : Addr → Prop}, p e → p it → ∀ b ∈ [e, it], p b := fun pe pi => List.forall_mem_cons.mpr ⟨pe, List.forall_mem_cons.mpr ⟨pi, fun _ z => nomatch z⟩⟩
  constructor
  · exact List.mem_cons_self
  · rintro i h ⟨⟨old, en⟩, ⟨o, ho, -, hd⟩, -⟩
    exact two ⟨_, en, fun v q => nomatch q⟩ ⟨o, ho, fun v q => by rw [hd] at q; exact nomatch q⟩
  · exact fun i h h' x k => x.move (k e List.mem_cons_self) (k it (List.mem_cons_of_mem _ List.mem_cons_self))
  · rintro X rfl rfl rfl calm i pins s σ H E I away x ⟨xs, y, sq, hy⟩
    obtain ⟨its, rv, p, -⟩ := I.tuple sq
    obtain ⟨u, hu, ru⟩ := rv.get hy
    have le : e < s.heap.objs.size := x.en.elim fun _ q => Heap.lt_size q
    have li : it < s.heap.objs.size := x.ti.elim fun _ q => Heap.lt_size q.1
    refine wpAny_mono (x.step (R := fun s2 => ∃ y' H', Inv X pins σ H' s2 ∧ RelV y' (.ref s.heap.objs.size) ∧ (IteT X.K a).yld i H y' H' ∧ EnT a e it (i + 1) s2.heap ∧ ∀ b ∈ [e, it], H' b = none) (I.ok.hd calm) p hu ?_) (fun r s1 q => ⟨_, q⟩) fun _ _ q => q
    intro h2 tk x2 tup kept
    refine ⟨.ref s.heap.objs.size, upd H s.heap.objs.size (.tup [.int (i : Nat), y]), ?_, rfl, ⟨_, y, rfl, I.hok.fresh (Nat.le_refl _), rfl, fun ys q => by rw [I.tuple_inj q sq]; exact hy⟩, x2, two ?_ ?_⟩
    · refine I.turnedNew (ch := [e, it]) (t' := tk + 1) (fun b ob nb q => kept b ob (fun z => nb (z ▸ List.mem_cons_self)) (fun z => nb (z ▸ List.mem_cons_of_mem _ List.mem_cons_self)) q) away (Nat.le_refl _) ?_
      exact ⟨by show 2 ≤ sizeLine; decide, _, .cons ⟨tk, rfl⟩ (.cons ru .nil), _, tup, rfl, _, rfl⟩
    · exact (upd_ne (Nat.ne_of_lt le)).trans (away e List.mem_cons_self).1
    · exact (upd_ne (Nat.ne_of_lt li)).trans (away it (List.mem_cons_of_mem _ List.mem_cons_self)).1
  · rintro X rfl rfl rfl calm i pins s σ H E I away x ⟨xs, sq, hi⟩
    obtain ⟨its, rv, p, -⟩ := I.tuple sq
    obtain ⟨old, en⟩ := x.en
    have at_end : s.heap.IsTupleIter it a its.toArray.size := by
      have : its.toArray.size = i := by rw [List.size_toArray, ← rv.length, hi]
      rw [this]
      exact x.ti
    obtain ⟨-, f1, f2, f3, f4, f5⟩ := away it (List.mem_cons_of_mem _ List.mem_cons_self)
    have quiet : X.A.in1.handled = none := I.ok.hd calm
    exact wpAny_pyNext_enum_endD (Draws.tuple (prog := X.prog) (w := X.w) quiet it a x.a_it its.toArray) en ⟨at_end, p⟩ fun h2 kept =>
      ⟨rfl, I.turned (t' := s.toks) (fun b o nb q => kept b o nb q) (away it (List.mem_cons_of_mem _ List.mem_cons_self)).1 f1 f3 f4 f5⟩
  · exact fun A i s Q E x q => x.en.elim fun _ en => wpAny_pyIter_enum en q
section
variable {X : Cx} {c : Cn}
/-- enumerate(x), of a list or a tuple -/
def iEnumA (K : PySem.W.Frag) (ta : TA) : TI := fun σ H R => ta σ H fun vs H1 => ∃ a xs, vs = [.ref a] ∧ ((SqL K H1 a xs ∧ R (Ite K a) H1) ∨ (SqT K H1 a xs ∧ R (IteT K a) H1))
open PyProof.Rows in
theorem pi_enumA {e : Expr} {ta : TA} {p pos tpos : Pos} {elts : List Expr} {kk : Nat} (hg : Gl X "enumerate") (hm : X.mg "enumerate" = none) (ha : PA X [e] ta) (hs : starEach [e] X.env = [(false, eval e X.env)] := by rfl) :
    PI X (.Tuple elts kk tpos) (.Call (.Name "enumerate" p) [e] [] pos) (iEnumA X.K ta) := by
  constructor
  intro pins s σ H R I h
  refine Call_ (ld_blt I hg hm boot_enumerate (PyProof.Rows.callWith_type1 (thn (ha.run pos pins s σ H _ I h) ?_) hs rfl))
  rintro us s1 ⟨vs, H1, I1, r1, a, xs, rfl, q⟩
  obtain _ | ⟨r, _ | _⟩ := r1
  cases r
  have new : ∀ b, s1.heap.objs.size ≤ b → FpOk X pins H1 b := fun b le => I1.fpOk le (I1.hok.fresh le)
  have news : ∀ b ∈ [s1.heap.objs.size + 1, s1.heap.objs.size], FpOk X pins H1 b := fun b hb => new b (by
    (simp only [List.mem_cons, List.not_mem_nil, or_false] at hb)
    omega)
  refine q.elim (fun ⟨sq, q⟩ => ?_) fun ⟨sq, q⟩ => ?_
  · obtain ⟨its, -, p1, -⟩ := I1.list sq
    refine enum_one (begins_list a its.toArray) p1.isList fun h2 hi he kept => wpAny_pyIter_enum he ?_
    exact ⟨_, _, _, _, H1, rfl, I1.kept (t' := s1.toks) kept, turn_enum a _ s1.heap.objs.size, ⟨⟨_, he⟩, ⟨_, hi, rfl, rfl⟩, Nat.succ_ne_self _⟩, news, q⟩
  · obtain ⟨its, -, p1, -⟩ := I1.tuple sq
    have lt : a < s1.heap.objs.size := p1.elim fun _ z => Heap.lt_size z.1
    refine enum_one (begins_tuple a its.toArray) p1 fun h2 hi he kept => wpAny_pyIter_enum he ?_
    exact ⟨_, _, _, _, H1, rfl, I1.kept (t' := s1.toks) kept, turn_enumT a _ s1.heap.objs.size, ⟨⟨_, he⟩, ⟨_, hi, rfl, rfl⟩, Nat.succ_ne_self _, Nat.ne_of_lt lt, Nat.ne_of_lt (Nat.lt_succ_of_lt lt)⟩, news, q⟩
def enD (ds : List D) : List D := ds.mapIdx fun i d => .tuple [.int (i : Nat), d]
theorem enD_get {ds : List D} {i : Nat} {d : D} (h : (enD ds)[i]? = some d) : ∃ e, ds[i]? = some e ∧ d = .tuple [.int (i : Nat), e] := by
  unfold enD at h
  rw [List.getElem?_mapIdx] at h
  cases e : ds[i]? with
  | none => (rw [e] at h; cases h)
  | some x => rw [e] at h; cases h; exact ⟨x, rfl, rfl⟩
theorem enD_length (ds : List D) : (enD ds).length = ds.length := by unfold enD; simp
theorem pair_new {F H : Hp} {σ : L2.St} {ρ : Env} {xx : XX} (r : Rel c F H σ ρ xx) {T : Addr} {x y : V} {d e : D} (hT : H T = none) (hx : At c.K F x d) (hy : At c.K F y e) :
    ∃ F2, Ex F F2 ∧ Rel c F2 (upd H T (.tup [x, y])) σ ρ xx ∧ At c.K F2 (.ref T) (.tuple [d, e]) :=
  ⟨_, r.efF _ hT, r.newF _ hT, .tup (.inl (.inl upd_same)) (.cons (hx.mono (r.efF _ hT)) (.cons (hy.mono (r.efF _ hT)) .nil))⟩
theorem itOk_enum {K : PySem.W.Frag} (hK : K = c.K) {a : Addr} {F : Hp} {ds : List D} {ys : List V} (s : SqL c.K F a ys) (t : AtAll c.K F ys ds) : ItOk c (Ite K a) (enD ds) F := by
  subst hK
  intro i F' H σ ρ xx e r
  have sq := r.w.fh.sl (e.sl s)
  refine ⟨fun d hd => ?_, fun hl => ⟨ys, sq, by rw [t.length, ← enD_length]; exact Nat.le_of_eq hl⟩⟩
  obtain ⟨d0, h0, ed⟩ := enD_get hd
  subst ed
  obtain ⟨v, hv, av⟩ := t.get h0
  refine ⟨⟨ys, v, sq, hv⟩, fun x H' ⟨T, y, ex, hT, eh, hy⟩ => ?_⟩
  subst ex eh
  have := hy ys sq
  rw [hv] at this
  cases this
  exact pair_new r hT (.int _) (av.mono e)
theorem itOk_enumT {K : PySem.W.Frag} (hK : K = c.K) {a : Addr} {F : Hp} {ds : List D} {ys : List V} (s : SqT c.K F a ys) (t : AtAll c.K F ys ds) : ItOk c (IteT K a) (enD ds) F := by
  subst hK
  intro i F' H σ ρ xx e r
  have sq := r.w.fh.st (e.st s)
  refine ⟨fun d hd => ?_, fun hl => ⟨ys, sq, by rw [t.length, ← enD_length]; exact hl⟩⟩
  obtain ⟨d0, h0, ed⟩ := enD_get hd
  subst ed
  obtain ⟨v, hv, av⟩ := t.get h0
  refine ⟨⟨ys, v, sq, hv⟩, fun x H' ⟨T, y, ex, hT, eh, hy⟩ => ?_⟩
  subst ex eh
  have := hy ys sq
  rw [hv] at this
  cases this
  exact pair_new r hT (.int _) (av.mono e)
def iEn (f : LM) : IM := fun ρ P => f ρ fun ds ρ1 => match ds with
  | [.list xs] => P (enD xs) ρ1
  | [.tuple xs] => P (enD xs) ρ1
  | _ => False
theorem di_enum {e : Expr} {f : LM} {p pos tpos : Pos} {elts : List Expr} {kk : Nat} (hK : X.K = c.K) (hg : Gl X "enumerate") (hm : X.mg "enumerate" = none) (ha : PA X [e] (tL c f)) (hs : starEach [e] X.env = [(false, eval e X.env)] := by rfl) :
    PI X (.Tuple elts kk tpos) (.Call (.Name "enumerate" p) [e] [] pos) (tI c (iEn f)) := by
  refine PI.to (pi_enumA hg hm ha hs) ?_
  rintro σ H R ⟨F, ρ, xx, P, rel, q, k⟩
  refine ⟨F, ρ, xx, _, rel, q, fun ds ρ1 vs F1 H1 q1 e1 r1 a1 => ?_⟩
  split at q1
  · cases a1 with
    | cons a t =>
      cases t
      cases a with
      | lst s1 t1 => exact ⟨_, _, rfl, .inl ⟨by rw [hK]; exact r1.w.fh.sl s1, k _ ρ1 _ F1 H1 q1 e1 r1 (itOk_enum hK s1 t1)⟩⟩
  · cases a1 with
    | cons a t =>
      cases t
      cases a with
      | tup s1 t1 => exact ⟨_, _, rfl, .inr ⟨by rw [hK]; exact r1.w.fh.st s1, k _ ρ1 _ F1 H1 q1 e1 r1 (itOk_enumT hK s1 t1)⟩⟩
  · exact q1.elim
/-- zip of two lists, of two tuples -/
def zipD (xs ys : List D) : List D := List.zipWith (fun x y => .tuple [x, y]) xs ys
theorem itOk_zip {K : PySem.W.Frag} (hK : K = c.K) {a b : Addr} {F : Hp} {ds es : List D} {xs ys : List V} (s : SqL c.K F a xs) (t : AtAll c.K F xs ds) (s2 : SqL c.K F b ys) (t2 : AtAll c.K F ys es) : ItOk c (Itz K a b) (zipD ds es) F := by
  subst hK
  intro i F' H σ ρ xx e r
  have sq := r.w.fh.sl (e.sl s)
  have sq2 := r.w.fh.sl (e.sl s2)
  have l1 := t.length
  have l2 := t2.length
  refine ⟨fun d hd => ?_, fun hl => ⟨xs, ys, sq, sq2, by unfold zipD at hl; rw [List.length_zipWith] at hl; omega⟩⟩
  unfold zipD at hd
  rw [List.getElem?_zipWith] at hd
  cases h1 : ds[i]? with
  | none => rw [h1] at hd; cases hd
  | some d1 => cases h2 : es[i]? with
    | none => rw [h1, h2] at hd; cases hd
    | some d2 =>
      rw [h1, h2] at hd
      cases hd
      obtain ⟨v, hv, av⟩ := t.get h1
      obtain ⟨u, hu, au⟩ := t2.get h2
      refine ⟨⟨xs, ys, v, u, sq, sq2, hv, hu⟩, fun x H' ⟨T, y, z, ex, hT, eh, hy, hz⟩ => ?_⟩
      subst ex eh
      have q1 := hy xs sq
      have q2 := hz ys sq2
      rw [hv] at q1
      rw [hu] at q2
      cases q1
      cases q2
      exact pair_new r hT (av.mono e) (au.mono e)
theorem itOk_zipT {K : PySem.W.Frag} (hK : K = c.K) {a b : Addr} {F : Hp} {ds es : List D} {xs ys : List V} (s : SqT c.K F a xs) (t : AtAll c.K F xs ds) (s2 : SqT c.K F b ys) (t2 : AtAll c.K F ys es) : ItOk c (RZ.ItzT K a b) (zipD ds es) F := by
  subst hK
  intro i F' H σ ρ xx e r
  have sq := r.w.fh.st (e.st s)
  have sq2 := r.w.fh.st (e.st s2)
  have l1 := t.length
  have l2 := t2.length
  refine ⟨fun d hd => ?_, fun hl => ⟨xs, ys, sq, sq2, by unfold zipD at hl; rw [List.length_zipWith] at hl; omega⟩⟩
  unfold zipD at hd
  rw [List.getElem?_zipWith] at hd
  cases h1 : ds[i]? with
  | none => rw [h1] at hd; cases hd
  | some d1 => cases h2 : es[i]? with
    | none => rw [h1, h2] at hd; cases hd
    | some d2 =>
      rw [h1, h2] at hd
      cases hd
      obtain ⟨v, hv, av⟩ := t.get h1
      obtain ⟨u, hu, au⟩ := t2.get h2
      refine ⟨⟨xs, ys, v, u, sq, sq2, hv, hu⟩, fun x H' ⟨T, y, z, ex, hT, eh, hy, hz⟩ => ?_⟩
      subst ex eh
      have q1 := hy xs sq
      have q2 := hz ys sq2
      rw [hv] at q1
      rw [hu] at q2
      cases q1
      cases q2
      exact pair_new r hT (av.mono e) (au.mono e)
def iZp (f : LM) : IM := fun ρ P => f ρ fun ds ρ1 => match ds with
  | [.list xs, .list ys] => P (zipD xs ys) ρ1
  | [.tuple xs, .tuple ys] => P (zipD xs ys) ρ1
  | _ => False
theorem di_zip {e e2 : Expr} {f : LM} {p pos tpos : Pos} {elts : List Expr} {kk : Nat} (hK : X.K = c.K) (hg : Gl X "zip") (hm : X.mg "zip" = none) (ha : PA X [e, e2] (tL c f)) (hs : starEach [e, e2] X.env = (false, eval e X.env) :: starEach [e2] X.env := by rfl) (hpl : (backTo pos (starEach [e2] X.env)).any (·.1) = false := by rfl) :
    PI X (.Tuple elts kk tpos) (.Call (.Name "zip" p) [e, e2] [] pos) (tI c (iZp f)) := by
  refine PI.to (RZ.pi_zipA hg hm ha hs hpl) ?_
  rintro σ H R ⟨F, ρ, xx, P, rel, q, k⟩
  refine ⟨F, ρ, xx, _, rel, q, fun ds ρ1 vs F1 H1 q1 e1 r1 a1 => ?_⟩
  split at q1
  · cases a1 with
    | cons a t => cases t with
      | cons b t =>
        cases t
        cases a with
        | lst s1 t1 => cases b with
          | lst s2 t2 => exact ⟨_, _, _, _, rfl, .inl ⟨by rw [hK]; exact r1.w.fh.sl s1, by rw [hK]; exact r1.w.fh.sl s2, k _ ρ1 _ F1 H1 q1 e1 r1 (itOk_zip hK s1 t1 s2 t2)⟩⟩
  · cases a1 with
    | cons a t => cases t with
      | cons b t =>
        cases t
        cases a with
        | tup s1 t1 => cases b with
          | tup s2 t2 => exact ⟨_, _, _, _, rfl, .inr ⟨by rw [hK]; exact r1.w.fh.st s1, by rw [hK]; exact r1.w.fh.st s2, k _ ρ1 _ F1 H1 q1 e1 r1 (itOk_zipT hK s1 t1 s2 t2)⟩⟩
  · exact q1.elim
end
end DL
namespace DL
open PySem L2
section
variable {c : Cn}
def wipeE (ρ : Env) : List Nat → Env
  | [] => ρ
  | v :: vs => (wipeE ρ vs).set v .no
def backE (ρ0 : Env) (ρ : Env) : List Nat → Env
  | [] => ρ
  | v :: vs => backE ρ0 (ρ.set v (ρ0.getD v .no)) vs
def plainS : Sl → Bool
  | .no => true
  | .im _ => true
  | _ => false
def okV (ρ : Env) (vs : List Nat) : Prop := vs.Nodup ∧ ∀ j ∈ vs, plainS (ρ.getD j .no) = true
theorem Slots.forget {F H : Hp} {σ : L2.St} {ρ : Env} {xx : XX} (s : Slots c F H σ ρ xx) (i : Nat) : Slots c F H (σ.set i none) (ρ.set i .no) xx := by
  have sg : ∀ {j : Nat}, i ≠ j → (σ.set i none)[j]? = σ[j]? := fun h => by rw [List.getElem?_set, if_neg h]
  refine ⟨by simpa using s.len, fun j d q => ?_, fun j d q => ?_, fun j k d e b q1 q2 s1 s2 => ?_, fun j n q => ?_, ou_set (by intro m z; cases z) s.ou, fun p hp => ⟨(s.ex p hp).1, fun j d q => ?_⟩, s.xd⟩
  · rcases set_lt q with ⟨_, _, e⟩ | ⟨z, q⟩
    · cases e
    · rw [sg z]
      exact s.im j d q
  · rcases set_lt q with ⟨_, _, e⟩ | ⟨z, q⟩
    · cases e
    · rw [sg z]
      exact s.ow j d q
  · rcases set_lt q1 with ⟨_, _, e⟩ | ⟨z, q1⟩
    · cases e
    · rcases set_lt q2 with ⟨_, _, e⟩ | ⟨z2, q2⟩
      · cases e
      · rw [sg z] at s1
        rw [sg z2] at s2
        exact s.dj j k d _ b q1 q2 s1 s2
  · rcases set_lt q with ⟨_, _, e⟩ | ⟨z, q⟩
    · cases e
    · rw [sg z]
      exact s.or j n q
  · rcases set_lt q with ⟨_, _, e⟩ | ⟨z, q⟩
    · cases e
    · rw [sg z]
      exact (s.ex p hp).2 j d q
theorem Rel.wipe {F H : Hp} {σ : L2.St} {ρ : Env} {xx : XX} (r : Rel c F H σ ρ xx) : ∀ vs : List Nat, Rel c F H (wipe σ vs) (wipeE ρ vs) xx
  | [] => r
  | v :: vs => ⟨r.w, (Rel.wipe r vs).s.forget v⟩
/-- a plain slot comes back -/
theorem Slots.recall {F H : Hp} {σ : L2.St} {ρ : Env} {xx : XX} {i : Nat} {x : Sl} (s : Slots c F H (σ.set i none) ρ xx) (hp : plainS x = true) (hx : ∀ d, x = .im d → ∃ v, σ[i]? = some (some v) ∧ At c.K F v d) : Slots c F H σ (ρ.set i x) xx := by
  have sg : ∀ {j : Nat}, i ≠ j → (σ.set i none)[j]? = σ[j]? := fun h => by rw [List.getElem?_set, if_neg h]
  refine ⟨by simpa using s.len, fun j d q => ?_, fun j d q => ?_, fun j k d e b q1 q2 s1 s2 => ?_, fun j n q => ?_, ou_set (by intro m z; subst z; cases hp) s.ou, fun p hpx => ⟨(s.ex p hpx).1, fun j d q => ?_⟩, s.xd⟩
  · rcases set_lt q with ⟨z, _, e⟩ | ⟨z, q⟩
    · rw [← z]
      exact hx d e
    · rw [← sg z]
      exact s.im j d q
  · rcases set_lt q with ⟨_, _, e⟩ | ⟨z, q⟩
    · subst e
      cases hp
    · rw [← sg z]
      exact s.ow j d q
  · rcases set_lt q1 with ⟨_, _, e⟩ | ⟨z, q1⟩
    · subst e
      cases hp
    · rcases set_lt q2 with ⟨_, _, e⟩ | ⟨z2, q2⟩
      · subst e
        cases hp
      · rw [← sg z] at s1
        rw [← sg z2] at s2
        exact s.dj j k d _ b q1 q2 s1 s2
  · rcases set_lt q with ⟨_, _, e⟩ | ⟨z, q⟩
    · subst e
      cases hp
    · rw [← sg z]
      exact s.or j n q
  · rcases set_lt q with ⟨_, _, e⟩ | ⟨z, q⟩
    · subst e
      cases hp
    · rw [← sg z]
      exact (s.ex p hpx).2 j d q
theorem wipe_get {σ : L2.St} {i : Nat} : ∀ {vs : List Nat}, i ∉ vs → (wipe σ vs)[i]? = σ[i]?
  | [], _ => rfl
  | v :: vs, h => by
    show ((wipe σ vs).set v none)[i]? = σ[i]?
    rw [List.getElem?_set, if_neg (fun z => h (by rw [z]; exact List.mem_cons_self ..)), wipe_get (fun z => h (List.mem_cons_of_mem _ z))]
theorem Rel.back {F H F' H' : Hp} {σ : L2.St} {ρ0 : Env} {xx yy : XX} (r0 : Rel c F H σ ρ0 yy) (e : Ex F F') : ∀ (vs : List Nat) (ρ : Env), okV ρ0 vs → Rel c F' H' (L2.wipe σ vs) ρ xx → Rel c F' H' σ (backE ρ0 ρ vs) xx
  | [], ρ, _, r => r
  | v :: vs, ρ, ok, r => by
    obtain ⟨nd, pl⟩ := ok
    rw [List.nodup_cons] at nd
    have hv := pl v (List.mem_cons_self ..)
    refine Rel.back r0 e vs _ ⟨nd.2, fun j hj => pl j (List.mem_cons_of_mem _ hj)⟩ ⟨r.w, Slots.recall (σ := L2.wipe σ vs) r.s hv fun d ed => ?_⟩
    have g : ρ0[v]? = some (.im d) := by
      rw [List.getD_eq_getElem?_getD] at ed
      cases q : ρ0[v]? with
      | none => rw [q] at ed; cases ed
      | some x => rw [q] at ed; exact congrArg some ed
    obtain ⟨u, h1, h2⟩ := r0.s.im v d g
    exact ⟨u, by rw [wipe_get nd.1]; exact h1, h2.mono e⟩
def lcL (t : TM) (b : BM) (f : DM) (vs : List Nat) (K : List D → Env → Prop) : List D → List D → Env → Prop
  | [], acc, ρ => K acc ρ
  | d :: ds, acc, ρ => t d ρ fun ρ1 => b ρ1 fun k ρ2 => if k = true then f ρ2 fun y ρ3 => lcL t b f vs K ds (acc ++ [y]) (wipeE ρ3 vs) else lcL t b f vs K ds acc (wipeE ρ2 vs)
def dLc (i : IM) (t : TM) (b : BM) (f : DM) (vs : List Nat) : DM := fun ρ P => i ρ fun ds ρ1 => ds.length ≤ 1000000 ∧ okV ρ1 vs ∧ lcL t b f vs (fun acc ρ' => P (.list acc) (backE ρ1 ρ' vs)) ds [] (wipeE ρ1 vs)
theorem lc_use {i : IM} {t : TM} {b : BM} {f : DM} {vs js : List Nat} (hj : ∀ j ∈ js, j ∈ vs) {wi : TI} {g : TG} {tt : TT} {te : TE} (e1 : wi = tI c i) (e2 : g = tG c js t) (e3 : tt = tT c b) (e4 : te = tD c f) :
    ∀ σ H Q, tN c (dLc i t b f vs) σ H Q → tLc wi g tt te vs σ H Q := by
  subst e1 e2 e3 e4
  rintro σ H Q ⟨F, ρ, xx, P, rel, q, k⟩
  refine ⟨F, ρ, xx, _, rel, q, fun ds ρ1 J F1 H1 ⟨hlen, hok, q1⟩ e1 r1 ok A hA => ?_⟩
  obtain ⟨rA, frA⟩ := Fresh.new (o := .lst []) (d := .d (.list [])) r1 hA ⟨[], upd_same, .nil⟩
  refine ⟨fun n m H' => ∃ F' ρ' acc, Ex F1 F' ∧ Rel c F' H' (wipe σ vs) ρ' ((A, .d (.list acc)) :: xx) ∧ m = ds.length - n ∧ n ≤ ds.length ∧ acc.length ≤ n ∧ lcL t b f vs (fun acc ρ' => P (.list acc) (backE ρ1 ρ' vs)) (ds.drop n) acc ρ',
    ⟨ds.length, F1, _, [], Ex.refl F1, (rA.pushX frA).wipe vs, by omega, Nat.zero_le _, Nat.zero_le _, by rw [List.drop_zero]; exact q1⟩, ?_⟩
  rintro n m H' ⟨F', ρ', acc, e2, r2, rfl, hn, ha, q2⟩
  obtain ⟨o1, o2⟩ := ok n F' H' (wipe σ vs) ρ' _ e2 r2
  by_cases hlt : n < ds.length
  · have hd : ds[n]? = some ds[n] := List.getElem?_eq_getElem hlt
    obtain ⟨go, yl⟩ := o1 _ hd
    rw [List.drop_eq_getElem_cons hlt] at q2
    have q2 : t ds[n] ρ' fun ρ2 => b ρ2 fun k ρ3 => if k = true then f ρ3 fun y ρ4 => lcL t b f vs (fun acc ρ' => P (.list acc) (backE ρ1 ρ' vs)) (ds.drop (n + 1)) (acc ++ [y]) (wipeE ρ4 vs) else lcL t b f vs (fun acc ρ' => P (.list acc) (backE ρ1 ρ' vs)) (ds.drop (n + 1)) acc (wipeE ρ3 vs) := q2
    refine .inr ⟨go, fun H2 => ∃ F2 ρ2 acc2, Ex F1 F2 ∧ Rel c F2 H2 (wipe σ vs) ρ2 ((A, .d (.list acc2)) :: xx) ∧ acc2.length ≤ n + 1 ∧ lcL t b f vs (fun acc ρ' => P (.list acc) (backE ρ1 ρ' vs)) (ds.drop (n + 1)) acc2 ρ2,
      fun H2 ⟨F2, ρ2, acc2, a1, a2, a3, a4⟩ => ⟨ds.length - (n + 1), by omega, F2, ρ2, acc2, a1, a2, rfl, by omega, a3, a4⟩, fun v H2 y => ?_⟩
    obtain ⟨F2, e3, r3, a3⟩ := yl v H2 y
    refine ⟨F2, ρ', _, _, _, r3, a3, q2, fun ρ4 σ4 F4 H4 q4 on e4 r4 => ⟨?_, F4, ρ4, _, _, r4, q4, fun bb ρ5 F5 H5 q5 e5 r5 => ?_⟩⟩
    · have h := on vs hj
      rw [h]
      -- wiping twice
      have w2 : ∀ (us : List Nat) (σ : L2.St) (i : Nat), i ∈ us → (wipe σ us).set i none = wipe σ us := fun us => by
        induction us with
        | nil => intro σ i hi; cases hi
        | cons u us ih =>
          intro σ i hi
          show ((wipe σ us).set u none).set i none = (wipe σ us).set u none
          by_cases e : u = i
          · subst e
            rw [List.set_set]
          · rw [List.set_comm _ _ e, ih σ i ((List.mem_cons.mp hi).resolve_left fun z => e z.symm)]
      have w3 : ∀ (us ws : List Nat) (σ : L2.St), (∀ i ∈ us, i ∈ ws) → wipe (wipe σ ws) us = wipe σ ws := fun us => by
        induction us with
        | nil => intro ws σ _; rfl
        | cons u us ih =>
          intro ws σ hs
          show (wipe (wipe σ ws) us).set u none = wipe σ ws
          rw [ih ws σ fun i hi => hs i (List.mem_cons_of_mem _ hi)]
          exact w2 ws σ u (hs u (List.mem_cons_self ..))
      exact w3 vs vs σ fun _ h => h
    · have hw : wipe σ4 vs = wipe σ vs := by
        have h := on vs hj
        rw [h]
        have w2 : ∀ (us : List Nat) (σ : L2.St) (i : Nat), i ∈ us → (wipe σ us).set i none = wipe σ us := fun us => by
          induction us with
          | nil => intro σ i hi; cases hi
          | cons u us ih =>
            intro σ i hi
            show ((wipe σ us).set u none).set i none = (wipe σ us).set u none
            by_cases e : u = i
            · subst e
              rw [List.set_set]
            · rw [List.set_comm _ _ e, ih σ i ((List.mem_cons.mp hi).resolve_left fun z => e z.symm)]
        have w3 : ∀ (us ws : List Nat) (σ : L2.St), (∀ i ∈ us, i ∈ ws) → wipe (wipe σ ws) us = wipe σ ws := fun us => by
          induction us with
          | nil => intro ws σ _; rfl
          | cons u us ih =>
            intro ws σ hs
            show (wipe (wipe σ ws) us).set u none = wipe σ ws
            rw [ih ws σ fun i hi => hs i (List.mem_cons_of_mem _ hi)]
            exact w2 ws σ u (hs u (List.mem_cons_self ..))
        exact w3 vs vs σ fun _ h => h
      cases bb with
      | false =>
        rw [if_neg Bool.false_ne_true] at q5
        show ∃ F' ρ' acc2, _
        refine ⟨F5, wipeE ρ5 vs, acc, ((e2.trans e3).trans e4).trans e5, ?_, by omega, q5⟩
        have := r5.wipe vs
        rw [hw] at this
        exact this
      | true =>
        rw [if_pos rfl] at q5
        show tD c f σ4 H5 _
        refine ⟨F5, ρ5, _, _, r5, q5, fun y ρ6 u F6 H6 q6 e6 r6 a6 => ?_⟩
        obtain ⟨vv, g1, g2⟩ := (r6.s.ex (A, .d (.list acc)) (List.mem_cons_self ..)).1.o
        have r7 := r6.mutX (o := .lst (vv ++ [u])) (d' := .d (.list (acc ++ [y]))) ⟨_, upd_same, g2.append (.cons a6 .nil)⟩
        refine ⟨vv, g1, szl (by rw [g2.length]; omega), F6, wipeE ρ6 vs, acc ++ [y], (((e2.trans e3).trans e4).trans e5).trans e6, ?_, by rw [List.length_append]; simp only [List.length_singleton]; omega, q6⟩
        have := r7.wipe vs
        rw [hw] at this
        exact this
  · have en : n = ds.length := by omega
    subst en
    rw [List.drop_length] at q2
    have q2 : P (.list acc) (backE ρ1 ρ' vs) := q2
    obtain ⟨r5, fr⟩ := (Rel.back r1 e2 vs ρ' hok r2).popX
    exact .inl ⟨o2 rfl, k _ _ A F' H' q2 (e1.trans e2) r5 fr⟩
def bYes : BM := fun ρ P => P true ρ
theorem dts_nil {X : Cx} : PTs X [] (tT c bYes) := ⟨fun pins s σ H Q I ⟨F, ρ, xx, P, rel, q, k⟩ => pts_nil.run pins s σ H Q I (k true ρ F H q (Ex.refl F) rel)⟩
theorem n_of_d {f : DM} : ∀ σ H Q, tD c f σ H Q → tN c f σ H Q := fun σ H Q ⟨F, ρ, xx, P, r, q, k⟩ => ⟨F, ρ, xx, P, r, q, fun d ρ' a F' H' p e r' fr => by
  obtain ⟨F2, e2, at_, r2⟩ := fr.freeze r'
  exact k d ρ' (.ref a) F2 H' p (e.trans e2) r2 at_⟩
variable {X : Cx} {elt tg iter : Expr} {ifs : List Expr} {scope : Scope} {own : List (Str × Nat)} {pos : Pos} {i : IM} {t : TM} {js : List Nat} {b : BM} {f : DM}
theorem dn_lc (hc : X.calm = true) (hN : X.N.Nodup) (hi : PI X tg iter (tI c i)) (ok : BlkOk X.N X.env.scope scope own) (hj : ∀ j ∈ js, j ∈ own.map (·.2))
    (hg : ∀ (s : Shared) (H : Hp) (C : Addr) (cl : List (Str × Addr)) (fp : List Addr), PG (X.blk s H scope (compEnvC scope cl C X.env) fp) tg (tG c js t)) (ht : ∀ (s : Shared) (H : Hp) (C : Addr) (cl : List (Str × Addr)) (fp : List Addr), PTs (X.blk s H scope (compEnvC scope cl C X.env) fp) ifs (tT c b))
    (he : ∀ (s : Shared) (H : Hp) (C : Addr) (cl : List (Str × Addr)) (fp : List Addr), PE (X.blk s H scope (compEnvC scope cl C X.env) fp) elt (tD c f)) (hs : ∀ x, foldedSetIterable iter X.env x = pure x := by intro _; rfl) :
    PE X (.ListComp elt [⟨tg, iter, ifs, 0⟩] scope pos) (tN c (dLc i t b f (own.map (·.2)))) := PE.to (pe_lc hc hN hi ok hg ht he hs) (lc_use hj rfl rfl rfl rfl)
theorem dp_setLc {n : Nat} {y : Str} {py spos : Pos} (hc : X.calm = true) (hN : X.N.Nodup) (hy : X.N[n]? = some y) (hyl : X.env.scope.names.lookup y = some .local)
    (hsw : swapsWith (.ListComp elt [⟨tg, iter, ifs, 0⟩] scope pos) (some (.Name y py)) spos.line X.env = pure true) (hi : PI X tg iter (tI c i)) (ok : BlkOk X.N X.env.scope scope own) (hj : ∀ j ∈ js, j ∈ own.map (·.2))
    (hg : ∀ (s : Shared) (H : Hp) (C : Addr) (cl : List (Str × Addr)) (fp : List Addr), PG (X.blk s H scope (compEnvC scope cl C X.env) fp) tg (tG c js t)) (ht : ∀ (s : Shared) (H : Hp) (C : Addr) (cl : List (Str × Addr)) (fp : List Addr), PTs (X.blk s H scope (compEnvC scope cl C X.env) fp) ifs (tT c b))
    (he : ∀ (s : Shared) (H : Hp) (C : Addr) (cl : List (Str × Addr)) (fp : List Addr), PE (X.blk s H scope (compEnvC scope cl C X.env) fp) elt (tD c f)) (hs : ∀ x, foldedSetIterable iter X.env x = pure x := by intro _; rfl) :
    PS X (.Assign [.Name y py] (.ListComp elt [⟨tg, iter, ifs, 0⟩] scope pos) spos) (tS c (sSet n (dLc i t b f (own.map (·.2))))) :=
  PS.to (ps_setLc hc hN hy hyl hsw hi ok hg ht he hs) fun Z σ H h => by
    have q : tAsg (tD c (dLc i t b f (own.map (·.2)))) (gName n) Z σ H := set_use rfl Z σ H h
    exact lc_use hj rfl rfl rfl rfl σ H _ (n_of_d σ H _ q)
end
end DL
namespace DL
open PySem L2
structure FnG (pr : Program) (wd : PySem.World) (K : PySem.W.Frag) (gl : Str → Option Value) (bas : Heap) (k : Nat) (f : Addr) (fd : FuncData) (ps : List Str) (sp : Sp) : Prop where
  many : ∀ vs H Q E, sp vs H Q E → vs.length = ps.length
  go : ∀ (A : Around) (out : List PySem.Env) (sh : Shared) (H : Hp) (ar : Args) (us : List Value) (vs : List V) (Q : VK) (E : XK), A.guards = some [] → Room k A →
    Env0 pr wd K gl bas A out sh H → BindsTo sh fd ar (ps.zip us) → Vals vs us → sp vs H Q E → codeAny (model pr wd) A (.call (.ref f) ar) (CR CX0 out pr wd H sh Q E) sh
theorem FnG.more {pr : Program} {wd : PySem.World} {K : PySem.W.Frag} {gl : Str → Option Value} {bas : Heap} {j k : Nat} {f : Addr} {fd : FuncData} {ps : List Str} {sp : Sp} (F : FnG pr wd K gl bas j f fd ps sp) (h : j ≤ k) : FnG pr wd K gl bas k f fd ps sp :=
  ⟨F.many, fun A out sh H ar us vs Q E g r => F.go A out sh H ar us vs Q E g (r.mono h)⟩
theorem FnG.of {pr : Program} {wd : PySem.World} {K : PySem.W.Frag} {gl : Str → Option Value} {bas : Heap} {k : Nat} {f : Addr} {x qual : Str} {st : Stmt} {fd : FuncData} {N ps : List Str} {sp : Sp} (F : L2.Fun K x qual st f fd) (S : FnScope N ps (defScope st))
    (len : (∀ vs H Q E, sp vs H Q E → vs.length = ps.length))
    (body : ∀ (cdv : Value) (A : Around) (out : List PySem.Env) (sh : Shared) (H : Hp) (vs : List V) (Q : VK) (E : XK), A.guards = some [] → Room k (A.deeper (PyProof.Rows.envOfC qual (defScope st) sh.heap.objs.size f cdv)) → sp vs H Q E →
      ∃ t, PSs (cxOf CX0 pr wd K gl bas N qual (defScope st) f cdv A out sh H E).nox (defBody st) t ∧ t { nx := fun _ H' => Q .non H', rt := Q } (start N vs) H) : FnG pr wd K gl bas (k + 1) f fd ps sp := by
  obtain ⟨oc, od, kV, doc, pm, an, cdv, ct, osl, efd, lk, hc⟩ := F.ex
  refine ⟨len, fun A out sh H ar us vs Q E hg room env bnd vals says => ?_⟩
  have heapK : K.In sh.heap := PySem.W.Frag.In.keeps env.mod.kin fun b o e => (env.bs b o e).1
  have noLim : sh.heap.NoLimit := Heap.NoLimit.keeps env.mod.nolimit fun b o e => (env.bs b o e).1
  have kinds : ∀ y ∈ ps.zip us, (defScope st).names.lookup y.1 = some .local ∨ ((defScope st).names.lookup y.1 = some .cell ∧ ((cellsFrom (sh.heap.objs.size + 1) (defScope st).names []).lookup y.1).isSome = true) := by
    rintro ⟨n, v⟩ hy
    exact (S.par n (List.of_mem_zip hy).1).imp id fun q => ⟨q, PySem.W.cellsFrom_some _ _ _ (.inl q)⟩
  rw [efd] at lk bnd
  refine codeAny_call_function room.depth (heapK _ _ lk) rfl S.co S.gen rfl (PySem.W.codeRec_of heapK hc) (bnd _ _ _ _ (wpAny_newFunctionEnv_cells S.kind kinds ?_))
  intro env1 he s1 xc
  subst he
  refine ⟨noLim.keeps xc.toInCall.keep, codeAny_func ?_⟩
  obtain ⟨t, ht, hq⟩ := body cdv A out sh H vs Q E hg (room.deeper _) says
  have inv : Inv (cxOf CX0 pr wd K gl bas N qual (defScope st) f cdv A out sh H E) [] (start N vs) H s1 := inv_start S room.hd env (len _ _ _ _ says) vals xc
  refine wpAny_mono (ht.nox.run [] s1 (start N vs) H _ inv hq) ?_ fun _ _ z => z
  intro fl s2 hs
  cases fl with
  | ret u =>
    (obtain ⟨v, σ', H', J, rv, q⟩ := hs)
    exact ⟨v, H', J.os, J.bare, J.base, J.hok, rv, q⟩
  | next =>
    obtain ⟨σ', H', J, q⟩ := hs
    exact ⟨V.non, H', J.os, J.bare, J.base, J.hok, rfl, q⟩
  | brk => exact (hs.choose_spec.choose_spec.2 : False).elim
  | cont => exact (hs.choose_spec.choose_spec.2 : False).elim
section
variable {X : Cx} {k : Nat} {f : Addr} {fd : FuncData} {ps : List Str} {sp : Sp} {x : Str} {p pos : Pos} {e : Expr} {es : List Expr} {t : TA}
theorem pe_callG (F : FnG X.prog X.w X.K X.mg X.base k f fd ps sp) (hg : X.A.guards = some []) (hr : Room k X.A) (gx : Gl X x) (hm : X.mg x = some (.ref f)) (hk : PySem.W.keepIn X.K (.ref f) = true) (hb : Binds X.K fd ps [])
    (ha : PA X (e :: es) t) (hdb : (x == ("__debug__" : Str)) = false := by decide)
    (he : starEach (e :: es) X.env = (false, eval e X.env) :: starEach es X.env := by rfl)
    (hpl : (backTo pos (starEach es X.env)).any (·.1) = false := by rfl) :
    PE X (.Call (.Name x p) (e :: es) [] pos) (tCall sp [] (fun _ _ _ => False) t) := by
  constructor
  intro pins s σ H Q I h
  refine wpAny_Call_Name_kw (ld_glob I gx hm (PySem.W.callWith_K (h₀ := X.base) I.ok.mod.kin hk (thn (ha.run pos pins s σ H _ I h) ?_) he hpl) hdb)
  rintro us s1 ⟨vs, H1, I1, r, q⟩
  refine ⟨I1.kIn, ?_⟩
  rw [List.append_nil] at q
  have hl : us.length = ps.length := by rw [← r.length]; exact F.many _ _ _ _ q
  have bd := hb s1 us I1.kIn (by rw [List.append_nil]; exact hl)
  rw [List.append_nil] at bd
  refine wpAny_call (codeAny_mono (F.go X.A X.stack s1 H1 ⟨us, []⟩ us vs Q _ hg hr I1.env0 bd r q) ?_)
  intro res s' hq
  match res, hq with
  | .error _, z => exact (z : False).elim
  | .ok (.ret u), z => exact I1.after z
end
/-- what a def says of its arguments and of the count of the source: S as m P: from these some d comes back, the count being m' then, with P d m' -/
abbrev SpD := List Ar → Nat → (D → Nat → Prop) → Prop
/-- the source is passed as the first argument, if at all -/
def oraAt (as : List Ar) : Prop := ∀ i, as[i]? = some Ar.ora → i = 0
def spD (K : PySem.W.Frag) (R : Orc) (n : Nat) (S : SpD) : Sp := fun vs H Q _ => ∃ (q : Option Addr) (F : Hp) (as : List Ar) (m : Nat) (P : D → Nat → Prop), World R q F H F H ∧ Paired (ArAt ⟨K, R, q, F, H⟩ F) vs as ∧ as.length = n ∧ oraAt as ∧ (q = none ∨ as[0]? = some .ora) ∧ (∀ p, q = some p → R.cnt p H ≤ m) ∧ S as m P ∧
  ∀ d m' v F' H', P d m' → World R q F H F' H' → (∀ p, q = some p → R.cnt p H' ≤ m') → At K F' v d → Q v H'
theorem paired_len {α β : Type} {R : α → β → Prop} : ∀ {xs : List α} {ys : List β}, Paired R xs ys → xs.length = ys.length
  | _, _, .nil => rfl
  | _, _, .cons _ t => congrArg Nat.succ (paired_len t)
theorem paired_get {α β : Type} {R : α → β → Prop} : ∀ {xs : List α} {ys : List β} {i : Nat} {y : β}, Paired R xs ys → ys[i]? = some y → ∃ x, xs[i]? = some x ∧ R x y
  | _, _, 0, _, .cons h _, e => by cases e; exact ⟨_, rfl, h⟩
  | _, _, i + 1, _, .cons _ t, e => paired_get (i := i) t e
/-- a call that draws nothing -/
def isD : Ar → Bool
  | .d _ => true
  | .ora => false
def dCall (n : Nat) (S : SpD) (f : AM) : DM := fun ρ P => f ρ fun as ρ1 => as.length = n ∧ as.all isD = true ∧ S as 0 fun d _ => P d ρ1
/-- a call that draws, the source standing in slot i -/
def dCallO (i n : Nat) (S : SpD) (f : AM) : DM := fun ρ P => f ρ fun as ρ1 => as.length = n ∧ as.head?.map isD = some false ∧ as.tail.all isD = true ∧ match ρ1[i]? with
  | some (.ora m) => S as m fun d m' => P d (ρ1.set i (.ora m'))
  | _ => False
theorem all_isD {as : List Ar} (h : as.all isD = true) (i : Nat) : as[i]? ≠ some .ora := fun e => by
  have := List.all_eq_true.mp h _ (List.mem_of_getElem? e)
  cases this
section
variable {X : Cx} {c : Cn} {k : Nat} {f : Addr} {fd : FuncData} {ps : List Str} {S : SpD} {x : Str} {p pos : Pos} {e : Expr} {es : List Expr} {fa : AM} {n : Nat}
theorem de_call (hK : X.K = c.K) (F : FnG X.prog X.w X.K X.mg X.base k f fd ps (spD X.K c.R n S)) (hg : X.A.guards = some []) (hr : Room k X.A) (gx : Gl X x) (hm : X.mg x = some (.ref f)) (hk : PySem.W.keepIn X.K (.ref f) = true) (hb : Binds X.K fd ps [])
    (ha : PA X (e :: es) (tAr c fa)) (hdb : (x == ("__debug__" : Str)) = false := by decide) (he : starEach (e :: es) X.env = (false, eval e X.env) :: starEach es X.env := by rfl) (hpl : (backTo pos (starEach es X.env)).any (·.1) = false := by rfl) :
    PE X (.Call (.Name x p) (e :: es) [] pos) (tD c (dCall n S fa)) := by
  refine PE.to (pe_callG F hg hr gx hm hk hb ha hdb he hpl) ?_
  rintro σ H Q ⟨F0, ρ, xx, P, rel, q, k0⟩
  refine ⟨F0, ρ, xx, _, rel, q, ?_⟩
  rintro as ρ1 vs F1 H1 ⟨hl, hd, hs⟩ e1 r1 pr
  rw [List.append_nil]
  have w0 : World c.R none F1 H1 F1 H1 := World.start r1.w.fh (fun _ _ z => z) fun _ z => nomatch z
  have pr' : Paired (ArAt ⟨X.K, c.R, none, F1, H1⟩ F1) vs as := by
    clear hs hl
    induction pr with
    | nil => exact .nil
    | @cons v a vs' as' h1 h2 ih =>
      (simp only [List.all_cons, Bool.and_eq_true] at hd)
      cases a with
      | d y =>
        refine .cons ?_ (ih hd.2)
        show At X.K F1 v y
        rw [hK]
        exact h1
      | ora => cases hd.1
  refine ⟨none, F1, as, 0, _, w0, pr', hl, fun i z => absurd z (all_isD hd i), .inl rfl, (fun _ z => nomatch z), hs, ?_⟩
  intro d m' v F2 H2 pd wd _ at_
  rw [hK] at at_
  exact k0 d ρ1 v F2 H2 pd (e1.trans wd.ff) (r1.stepN wd) at_
theorem de_callO {i : Nat} (hK : X.K = c.K) (F : FnG X.prog X.w X.K X.mg X.base k f fd ps (spD X.K c.R n S)) (hg : X.A.guards = some []) (hr : Room k X.A) (gx : Gl X x) (hm : X.mg x = some (.ref f)) (hk : PySem.W.keepIn X.K (.ref f) = true) (hb : Binds X.K fd ps [])
    (ha : PA X (e :: es) (tAr c fa)) (hdb : (x == ("__debug__" : Str)) = false := by decide) (he : starEach (e :: es) X.env = (false, eval e X.env) :: starEach es X.env := by rfl) (hpl : (backTo pos (starEach es X.env)).any (·.1) = false := by rfl) :
    PE X (.Call (.Name x p) (e :: es) [] pos) (tD c (dCallO i n S fa)) := by
  refine PE.to (pe_callG F hg hr gx hm hk hb ha hdb he hpl) ?_
  rintro σ H Q ⟨F0, ρ, xx, P, rel, q, k0⟩
  refine ⟨F0, ρ, xx, _, rel, q, ?_⟩
  rintro as ρ1 vs F1 H1 ⟨hl, hh, hd, hs⟩ e1 r1 pr
  rw [List.append_nil]
  split at hs
  · rename_i m em
    obtain ⟨u, h1, h2, h3⟩ := r1.s.or i m em
    have h0 : as[0]? = some Ar.ora := by
      cases as with
      | nil => cases hh
      | cons a t =>
        cases a with
        | d y => cases hh
        | ora => rfl
    refine ⟨c.p, F1, as, m, _, r1.w.here, ?_, hl, fun j z => ?_, .inr h0, fun y z => ?_, hs, ?_⟩
    · rw [hK]
      exact pr
    · cases j with
      | zero => rfl
      | succ j =>
        cases as with
        | nil => cases z
        | cons a t => exact absurd z (all_isD hd j)
    · rw [h1] at z
      cases z
      exact h3
    · intro d m' v F2 H2 pd wd hc at_
      rw [hK] at at_
      exact k0 d _ v F2 H2 pd (e1.trans wd.ff) (r1.drew wd em hc) at_
  · exact hs.elim
end
def arSl (m : Nat) : Ar → Sl
  | .d x => .im x
  | .ora => .ora m
def startE (N : Nat) (as : List Ar) (m : Nat) : Env := as.map (arSl m) ++ List.replicate (N - as.length) .no
theorem rel_start {K : PySem.W.Frag} {R : Orc} {q : Option Addr} {F H : Hp} {vs : List V} {as : List Ar} {N : List Str} {m : Nat} (w : World R q F H F H) (h : Paired (ArAt ⟨K, R, q, F, H⟩ F) vs as) (ho : oraAt as) (hm : ∀ p, q = some p → R.cnt p H ≤ m) : Rel ⟨K, R, q, F, H⟩ F H (start N vs) (startE N.length as m) [] := by
  have hl := paired_len h
  have get : ∀ (i : Nat) (s : Sl), (startE N.length as m)[i]? = some s → s = .no ∨ ∃ a v, as[i]? = some a ∧ vs[i]? = some v ∧ s = arSl m a ∧ (start N vs)[i]? = some (some v) := by
    intro i s e
    unfold startE at e
    unfold L2.start
    by_cases hi : i < as.length
    · rw [List.getElem?_append_left (by simpa using hi), List.getElem?_map] at e
      rw [List.getElem?_append_left (by simpa [hl] using hi), List.getElem?_map]
      have e1 : as[i]? = some as[i] := List.getElem?_eq_getElem hi
      have e2 : vs[i]? = some (vs[i]'(by rw [hl]; exact hi)) := List.getElem?_eq_getElem _
      rw [e1] at e
      cases e
      exact .inr ⟨_, _, e1, e2, rfl, by rw [e2]; rfl⟩
    · rw [List.getElem?_append_right (by simpa using hi), List.getElem?_replicate] at e
      split at e
      · cases e
        exact .inl rfl
      · cases e
  have atOf : ∀ {i : Nat} {a : Ar} {v : V}, as[i]? = some a → vs[i]? = some v → ArAt ⟨K, R, q, F, H⟩ F v a := by
    intro i a v h1 h2
    obtain ⟨v', g1, g2⟩ := paired_get h h1
    rw [h2] at g1
    cases g1
    exact g2
  refine ⟨w, ?_, ?_, ?_, ?_, ?_, ?_, (fun p hp => nomatch hp), List.nodup_nil⟩
  · unfold startE L2.start
    simp [hl]
  · intro i d e
    rcases get i _ e with z | ⟨a, v, g1, g2, g3, g4⟩
    · cases z
    · cases a with
      | d x => cases g3; exact ⟨v, g4, atOf g1 g2⟩
      | ora => cases g3
  · intro i d e
    rcases get i _ e with z | ⟨a, v, g1, g2, g3, g4⟩
    · cases z
    · cases a <;> cases g3
  · intro i j d e b z
    rcases get i _ z with z | ⟨a, v, g1, g2, g3, g4⟩
    · cases z
    · cases a <;> cases g3
  · intro i n e
    rcases get i _ e with z | ⟨a, v, g1, g2, g3, g4⟩
    · cases z
    · cases a with
      | d x => cases g3
      | ora =>
        obtain ⟨q', e1, e2⟩ := atOf g1 g2
        cases g3
        cases e2
        exact ⟨q', e1, g4, hm q' e1⟩
  · have one : ∀ {i n : Nat}, (startE N.length as m)[i]? = some (.ora n) → i = 0 := by
      intro i n e
      rcases get i _ e with z | ⟨a, v, g1, g2, g3, g4⟩
      · cases z
      · cases a with
        | d x => cases g3
        | ora => exact ho i g1
    intro i j a b e1 e2
    exact (one e1).trans (one e2).symm
/-- what a body says, as a promise -/
def raw (g : SM) (N : Nat) : SpD := fun as m P =>
  g ⟨fun (ρ : DL.Env) => match ρ[0]? with
    | some (Sl.ora m') => P .none m'
    | _ => as.head?.map isD ≠ some false ∧ P .none 0,
  fun (d : D) (ρ : DL.Env) => match ρ[0]? with
    | some (Sl.ora m') => P d m'
    | _ => as.head?.map isD ≠ some false ∧ P d 0, fun _ => False, fun _ => False⟩ (startE N as m)
/-- a def by its body in data -/
theorem FnG.data {pr : Program} {wd : PySem.World} {K : PySem.W.Frag} {gl : Str → Option Value} {bas : Heap} {k n : Nat} {f : Addr} {x qual : Str} {st : Stmt} {fd : FuncData} {N ps : List Str} {R : Orc} {g : SM} (F : L2.Fun K x qual st f fd) (Sc : FnScope N ps (defScope st)) (hn : n = ps.length)
    (body : ∀ (cdv : Value) (A : Around) (out : List PySem.Env) (sh : Shared) (H : Hp) (E : XK) (q : Option Addr) (F : Hp), A.guards = some [] → Room k (A.deeper (PyProof.Rows.envOfC qual (defScope st) sh.heap.objs.size f cdv)) →
      PSs (cxOf CX0 pr wd K gl bas N qual (defScope st) f cdv A out sh H E).nox (defBody st) (tS ⟨K, R, q, F, H⟩ g)) : FnG pr wd K gl bas (k + 1) f fd ps (spD K R n (raw g N.length)) := by
  refine FnG.of F Sc (fun vs H Q E ⟨q, F0, as, m, P, w, pa, hl, _⟩ => by rw [paired_len pa, hl, hn]) fun cdv A out sh H vs Q E hg hr ⟨q, F0, as, m, P, w, pa, hl, ho, hq, hm, says, k0⟩ => ?_
  have fin : ∀ (d : D) (v : V) (ρ' : DL.Env) (σ' : L2.St) (F' H' : Hp), (match ρ'[0]? with
      | some (Sl.ora m') => P d m'
      | _ => as.head?.map isD ≠ some false ∧ P d 0) → Rel ⟨K, R, q, F0, H⟩ F' H' σ' ρ' [] → At K F' v d → Q v H' := by
    intro d v ρ' σ' F' H' p r a
    split at p
    · rename_i m' e
      obtain ⟨y, h1, _, h3⟩ := r.s.or 0 m' e
      exact k0 d m' v F' H' p r.w (fun z hz => by
        have hz' : q = some z := hz
        have h1' : q = some y := h1
        rw [hz'] at h1'
        cases h1'
        exact h3) a
    · obtain ⟨p1, p2⟩ := p
      have qn : q = none := hq.resolve_right fun z => p1 (by
        cases as with
        | nil => cases z
        | cons b t => cases z; rfl)
      exact k0 d 0 v F' H' p2 r.w (fun z hz => by rw [qn] at hz; cases hz) a
  refine ⟨_, body cdv A out sh H E q F0 hg hr, F0, _, [], _, rel_start w pa ho hm, says, ?_, ?_, ?_, ?_⟩
  · exact fun ρ' σ' F' H' p e r => fin .none .non ρ' σ' F' H' p r .non
  · exact fun d v ρ' σ' F' H' p r a => fin d v ρ' σ' F' H' p r a
  · exact fun ρ' σ' F' H' p => p.elim
  · exact fun ρ' σ' F' H' p => p.elim
theorem pss_some {X : Cx} {st : List Stmt} {ι : Type} {t : ι → TS} (h : ∀ i, PSs X st (t i)) : PSs X st (fun Z σ H => ∃ i, t i Z σ H) := ⟨fun pins s σ H Z I ⟨i, q⟩ => (h i).run pins s σ H Z I q⟩
end DL
namespace DL
open PySem L2
/-- a def under its name -/
def Cd (pr : Program) (wd : PySem.World) (K : PySem.W.Frag) (gl : Str → Option Value) (bas : Heap) (R : Orc) (k : Nat) (x : Str) (n : Nat) (S : SpD) : Prop :=
  ∃ (f : Addr) (fd : FuncData) (ps : List Str), FnG pr wd K gl bas k f fd ps (spD K R n S) ∧ gl x = some (.ref f) ∧ PySem.W.keepIn K (.ref f) = true ∧ Binds K fd ps []
theorem Cd.more {pr : Program} {wd : PySem.World} {K : PySem.W.Frag} {gl : Str → Option Value} {bas : Heap} {R : Orc} {j k : Nat} {x : Str} {n : Nat} {S : SpD} (C : Cd pr wd K gl bas R j x n S) (h : j ≤ k) : Cd pr wd K gl bas R k x n S := by
  obtain ⟨f, fd, ps, F, a, b, d⟩ := C
  exact ⟨f, fd, ps, F.more h, a, b, d⟩
theorem de_cd {X : Cx} {c : Cn} {k n : Nat} {S : SpD} {x : Str} {p pos : Pos} {e : Expr} {es : List Expr} {fa : AM} (C : Cd X.prog X.w X.K X.mg X.base c.R k x n S) (hK : X.K = c.K) (hg : X.A.guards = some []) (hr : Room k X.A) (gx : Gl X x)
    (ha : PA X (e :: es) (tAr c fa)) (hdb : (x == ("__debug__" : Str)) = false := by decide) (he : starEach (e :: es) X.env = (false, eval e X.env) :: starEach es X.env := by rfl) (hpl : (backTo pos (starEach es X.env)).any (·.1) = false := by rfl) :
    PE X (.Call (.Name x p) (e :: es) [] pos) (tD c (dCall n S fa)) := by
  obtain ⟨f, fd, ps, F, a, b, d⟩ := C
  exact de_call hK F hg hr gx a b d ha hdb he hpl
theorem hu64 {A : Around} {k : Nat} (hr : Room k A) : A.units + 64 < cLine := by have := hr.un; omega
theorem hu65 {A : Around} {k : Nat} (hr : Room k A) : A.units + 65 < cLine := by have := hr.un; omega
theorem de_cdO {X : Cx} {c : Cn} {k n i : Nat} {S : SpD} {x : Str} {p pos : Pos} {e : Expr} {es : List Expr} {fa : AM} (C : Cd X.prog X.w X.K X.mg X.base c.R k x n S) (hK : X.K = c.K) (hg : X.A.guards = some []) (hr : Room k X.A) (gx : Gl X x)
    (ha : PA X (e :: es) (tAr c fa)) (hdb : (x == ("__debug__" : Str)) = false := by decide) (he : starEach (e :: es) X.env = (false, eval e X.env) :: starEach es X.env := by rfl) (hpl : (backTo pos (starEach es X.env)).any (·.1) = false := by rfl) :
    PE X (.Call (.Name x p) (e :: es) [] pos) (tD c (dCallO i n S fa)) := by
  obtain ⟨f, fd, ps, F, a, b, d⟩ := C
  exact de_callO hK F hg hr gx a b d ha hdb he hpl
end DL
namespace DL
open PySem L2
section
variable {X : Cx} {c : Cn} {e a b : Expr} {pos : Pos}
def tyN : D → String
  | .none => "NoneType"
  | .bool _ => "bool"
  | .int _ => "int"
  | .str _ => "str"
  | .list _ => "list"
  | .tuple _ => "tuple"
  | .dict _ => "dict"
theorem tyx_of {F H : Hp} {v : V} {d : D} (e : Ex F H) (b : Bo c F H v d) : TyX c.K H v (.type (tyN d)) := by
  have a := b.at e
  have sq : ∀ {p : Addr} {o : HO} {T : String}, Rd H p o → (H p = some o → TyX c.K H (.ref p) (.type T)) → (∀ q, H p = some (.frz q o) → TyX c.K H (.ref p) (.type T)) → TyX c.K H (.ref p) (.type T) :=
    fun h k1 k2 => h.elim k1 fun ⟨q, z⟩ => k2 q z
  clear b
  cases a with
  | non => exact .base .non
  | bl b => exact .base (.bl b)
  | int i => exact .base (.int i)
  | str x => exact .base (.str x)
  | lst s t =>
    rcases s with h | ⟨o, its, n, h1, h2, _⟩
    · exact sq h (fun z => .base (.lst z)) fun q z => .base (.frz z)
    · exact .kList h1 h2
  | tup s t =>
    rcases s with h | ⟨o, its, n, h1, h2, _⟩
    · exact sq h (fun z => .base (.tup z)) fun q z => .fTuple z
    · exact .kTuple h1 h2
  | dk r n l t => exact sq r (fun z => .base (.dK z)) fun q z => .fDict z
  | dt r l t => exact .base (.dT r)
def dIsi (T : String) (f : HM) : DM := fun ρ P => f ρ fun h ρ1 => see ρ1 h fun d => ∃ k, kitB (tyN d) T = some k ∧ P (.bool k) ρ1
theorem de_isi {T : String} {y : Str} {p p2 : Pos} {f : HM} (hK : X.K = c.K) (hg : Gl X "isinstance") (hm : X.mg "isinstance" = none) (hy : Gl X y) (hmy : X.mg y = none) (hv : bootBuiltins y = some (.type T)) (ha : PE X e (tH c f))
    (hb : bootBuiltins "isinstance" = some (.builtin "isinstance") := by decide +kernel) (hn : y ≠ "__name__" := by decide) (hd : (y == ("__debug__" : Str)) = false := by decide)
    (s1 : starEach [e, .Name y p2] X.env = (false, eval e X.env) :: starEach [.Name y p2] X.env := by rfl) (s2 : starEach [.Name y p2] X.env = (false, eval (.Name y p2) X.env) :: starEach [] X.env := by rfl) (hpl : (backTo pos (starEach [.Name y p2] X.env)).any (·.1) = false := by rfl) :
    PE X (.Call (.Name "isinstance" p) [e, .Name y p2] [] pos) (tD c (dIsi T f)) := by
  refine PE.to (pe_callB call_isi hg hm hb (pa_cons ha (pa_cons (pe_bltn (v := .ty T) hy hmy hv rfl hn hd) pa_nil s2) s1) (by decide) (by decide) s1 hpl) ?_
  rintro σ H Q ⟨F, ρ, xx, P, rel, q, k⟩
  refine ⟨F, ρ, xx, _, rel, q, fun h ρ1 v F1 H1 q1 e1 r1 h1 => ?_⟩
  obtain ⟨d, bo, b, hk, q2⟩ := see_bo r1 h1 q1
  have ty := tyx_of r1.w.fh bo
  rw [← hK] at ty
  exact ⟨v, .ty T, _, _, b, rfl, .ty T, ty, kit_ty hk, k _ ρ1 _ F1 H1 q2 e1 r1 (.bl b)⟩
def gIn : G2 := fun x y P => match y with
  | .list ds => okD x ∧ okD y ∧ P (.bool (ds.any fun z => PyData.eqv z x))
  | _ => False
theorem sem_in (hK : X.K = c.K) (hu : X.A.units + 65 < cLine) : Sem2 X c (compareOp .In) gIn := by
  refine ⟨_, op_inD hu, fun F H σ ρ xx x y vx vy P Q r bx by_ g k => ?_⟩
  unfold gIn at g
  split at g
  · rename_i ds
    obtain ⟨ox, oy, q⟩ := g
    have a1 := (bx.at r.w.fh).dp ox.nod
    have a2 := (by_.at r.w.fh).dp oy.nod
    rw [← hK] at a1 a2
    exact ⟨x, ds, a1, a2, ox, oy, k _ _ F H q (Ex.refl F) r (.bl _)⟩
  · exact g.elim
def dNeg (f : DM) : DM := fun ρ P => f ρ fun d ρ1 => match d with
  | .int i => P (.int (-i)) ρ1
  | _ => False
theorem de_neg {f : DM} (ha : PE X a (tD c f)) : PE X (.UnaryOp .USub a pos) (tD c (dNeg f)) := PE.to (pe_un un_neg ha) fun σ H Q ⟨F, ρ, xx, P, rel, q, k⟩ => ⟨F, ρ, xx, _, rel, q, fun d ρ1 v F1 H1 q1 e1 r1 a1 => by
  split at q1
  · cases a1
    exact ⟨_, rfl, k _ ρ1 _ F1 H1 q1 e1 r1 (.int _)⟩
  · exact q1.elim⟩
def gIadd : G2 := fun x y P => match x, y with
  | .int i, .int j => P (.int (i + j))
  | _, _ => False
theorem sem_iadd : Sem2 X c (inplaceOp .Add) gIadd := by
  refine ⟨_, iop_add, fun F H σ ρ xx x y vx vy P Q r bx by_ g k => ?_⟩
  unfold gIadd at g
  split at g
  · cases bo_int bx
    cases bo_int by_
    exact ⟨_, _, rfl, rfl, k _ _ F H g (Ex.refl F) r (.int _)⟩
  · exact g.elim
end
end DL
namespace DL
open PySem L2
section
variable {X : Cx} {c : Cn} {e a b : Expr} {pos : Pos}
def ownL (ρ : Env) (i : Nat) (k : List D → Prop) : Prop := match ρ[i]? with
  | some (.ow (.list ds)) => k ds
  | _ => False
theorem ownL_get {F H : Hp} {σ : L2.St} {ρ : Env} {xx : XX} (r : Rel c F H σ ρ xx) {i : Nat} {k : List D → Prop} (h : ownL ρ i k) : ∃ ds p vs, ρ[i]? = some (.ow (.list ds)) ∧ σ[i]? = some (some (.ref p)) ∧ H p = some (.lst vs) ∧ AtAll c.K F vs ds ∧ k ds := by
  unfold ownL at h
  split at h
  · rename_i ds e
    obtain ⟨p, g1, g2⟩ := r.s.ow i _ e
    obtain ⟨vs, h1, h2⟩ := g2.o
    exact ⟨ds, p, vs, e, g1, h1, h2, h⟩
  · exact h.elim
def sApp (i : Nat) (f : DM) : SM := fun E ρ => ownL ρ i (fun _ => True) ∧ f ρ fun d ρ1 => ownL ρ1 i fun ds => ds.length < 1000000 ∧ E.nx (ρ1.set i (.ow (.list (ds ++ [d]))))
theorem app_use {i : Nat} {f : DM} {te : TE} (et : te = tD c f) (hK : X.K = c.K) : ∀ Z σ H, tS c (sApp i f) Z σ H → tDrop (tBM X.K "list" rAppend (tVar i) (tCons te tNil)) Z σ H := by
  subst et
  rintro Z σ H ⟨F, ρ, xx, E, rel, ⟨q0, q⟩, n, rr, b, t⟩
  obtain ⟨ds0, p0, vs0, g1, g2, g3, g4, _⟩ := ownL_get rel q0
  refine ⟨.ref p0, g2, .inl ⟨rfl, vs0, SqL.of g3⟩, F, ρ, xx, _, rel, q, fun d ρ1 v F1 H1 q1 e1 r1 a1 => ?_⟩
  obtain ⟨ds, p, vs, h1, h2, h3, h4, hl, hn⟩ := ownL_get r1 q1
  have ep : p0 = p := by
    rw [g2] at h2
    cases h2
    rfl
  subst ep
  refine ⟨p0, vs, v, rfl, rfl, h3, szl (by rw [h4.length]; omega), ?_⟩
  exact n _ σ F1 _ hn e1 (r1.mut h1 h2 ⟨_, upd_same, h4.append (.cons a1 .nil)⟩)
theorem dp_app {x : Str} {i : Nat} {px apos cpos : Pos} {f : DM} (hK : X.K = c.K) (ho : PE X (.Name x px) (tVar i)) (ha : PE X e (tD c f))
    (hbase : attributeBase (.Name x px) "append" X.env (eval (.Name x px) X.env) = eval (.Name x px) X.env := by rfl)
    (hfew : ((backTo cpos (starEach [e] X.env)).all (fun x => !x.1)
        && (backToKw cpos (keywordEach [] X.env)).all (fun x => x.1.isSome)
      && decide (([e] : List Expr).length + ([] : List Keyword).length
          + (if ([] : List Keyword).isEmpty then 0 else 1) < 30)) = true := by rfl)
    (hline : (apos.endLine == cpos.line) = true := by rfl) (hs : starEach [e] X.env = (false, eval e X.env) :: starEach [] X.env := by rfl) (hplain : (backTo cpos (starEach [] X.env)).any (·.1) = false := by rfl)
    (hsw : swapsWith (.Call (.Attribute (.Name x px) "append" apos) [e] [] cpos) none pos.line X.env = pure false := by rfl) : PS X (.Expr (.Call (.Attribute (.Name x px) "append" apos) [e] [] cpos) pos) (tS c (sApp i f)) :=
  PS.to (ps_expr (pe_bm PySem.F.plainAttrs_list PySem.F.slot_list_append PySem.F.type_list_append mt_append ho (pa_cons ha pa_nil hs) hbase hfew hline hs hplain) hsw) (app_use rfl hK)
end
end DL
namespace DL
open PySem L2
section
variable {X : Cx} {c : Cn} {e a b : Expr} {pos : Pos}
def ofStrs : List D → Option (List Str)
  | [] => some []
  | .str x :: r => (ofStrs r).map (x :: ·)
  | _ => none
theorem ofStrs_eq : ∀ {ds : List D} {ns : List Str}, ofStrs ds = some ns → ds = ns.map PyData.str
  | [], ns, h => by cases h; rfl
  | .str x :: r, ns, h => by
    unfold ofStrs at h
    cases e : ofStrs r with
    | none => (rw [e] at h; cases h)
    | some m =>
      rw [e] at h
      cases h
      rw [ofStrs_eq e]
      rfl
  | .none :: _, _, h => by cases h
  | .bool _ :: _, _, h => by cases h
  | .int _ :: _, _, h => by cases h
  | .list _ :: _, _, h => by cases h
  | .tuple _ :: _, _, h => by cases h
  | .dict _ :: _, _, h => by cases h
theorem ofStrs_map : ∀ (ns : List Str), ofStrs (ns.map PyData.str) = some ns
  | [] => rfl
  | n :: r => by
    show (ofStrs (r.map PyData.str)).map (n :: ·) = _
    rw [ofStrs_map r]
    rfl
end
end DL
namespace DL
open PySem L2
section
variable {X : Cx} {c : Cn} {e a b e3 : Expr} {pos : Pos}
theorem dts_one {b : BM} (h : PT X e (tT c b)) : PTs X [e] (tT c b) := pts_one h
end
end DL
namespace DL
open PySem L2
section
variable {X : Cx} {c : Cn}
def gNeS : G2 := fun x y P => match x, y with
  | .str a, .str b => P (.bool (!decide (a = b)))
  | _, _ => False
theorem dec_strs {a b : Str} : decide (V.str a = V.str b) = decide (a = b) := by
  by_cases h : a = b
  · subst h
    simp
  · simp [h]
theorem sem_neS : Sem2 X c (compareOp .NotEq) gNeS := by
  refine ⟨_, op_ne, fun F H σ ρ xx x y vx vy P Q r bx by_ g k => ?_⟩
  unfold gNeS at g
  split at g
  · cases bo_str bx
    cases bo_str by_
    refine ⟨rfl, ?_⟩
    rw [dec_strs]
    exact k _ _ F H g (Ex.refl F) r (.bl _)
  · exact g.elim
end
end DL
namespace DL
open PySem L2 PySem.Spec PyProof.Rows
section
variable {pr : Program} {wd : PySem.World} {A : Around} {cp tg nx src el : Expr} {fs : List Expr} {gens : List Comprehension} {sc0 : Scope} {ps0 : Pos} {l : Nat} {acc : Value} {ce : PySem.Env} {R : Result → Shared → Prop}
abbrev tests (ce : PySem.Env) (fs : List Expr) : Sem Bool := forIn fs true fun q r => if r = true then do let k ← isTrue q ce (eval q ce); pure (ForInStep.yield k) else pure (ForInStep.yield r)
/-- one turn: what is asked where an item comes, and where none -/
def TurnOk (pr : Program) (wd : PySem.World) (A : Around) (ce : PySem.Env) (tg : Expr) (fs : List Expr) (N : Value → Shared → Prop) (stop done : Shared → Prop) (inner : Shared → Prop) (it : Value) (s : Shared) : Prop :=
  wpAny (model pr wd) A (pyNext it) (fun r s1 => match r with
    | none => stop s1
    | some v => wpAny (model pr wd) A (letOwnedTupleGo tg it v) (fun _ s2 => wpAny (model pr wd) A (assign tg ce v) (fun _ s3 =>
        wpAny (model pr wd) A (tests ce fs) (fun k s4 => if k = true then inner s4 else done s4) N s3) N s2) N s1) N s
end
end DL
namespace DL
open PySem L2 PySem.Spec PyProof.Rows
abbrev noE : Value → Shared → Prop := fun _ _ => False
/-- what stands behind a clause's tests -/
abbrev LvU := L2.St → Hp → (Hp → Prop) → Prop
/-- it keeps the block's context, and reaches Nx -/
def InOk (B : Cx) (inner : (Shared → Prop) → Shared → Prop) (t : LvU) (own : List Nat) : Prop := ∀ (pins : List (Addr × Obj)) (s : Shared) (σ : L2.St) (H : Hp) (Nx : Hp → Prop) (done : Shared → Prop), Inv B pins σ H s → t σ H Nx →
  (∀ (σ' : L2.St) (H' : Hp) (s' : Shared), Inv B pins σ' H' s' → (L2.wipe σ own).length = σ'.length → (∀ (j : Nat) v, (L2.wipe σ own)[j]? = some (some v) → σ'[j]? = some (some v)) → Nx H' → done s') → inner done s
/-- a clause's turns -/
abbrev Turns (J : It) (g : TG) (tt : TT) (vs : List Nat) (σ : L2.St) (U : LvU) (Fin : Hp → Prop) (W : Nat → Nat → Hp → Prop) : Prop := ∀ i m H, W i m H →
  (J.stop i H ∧ Fin H) ∨ (J.go i H ∧ ∃ Nx : Hp → Prop, (∀ G, Nx G → ∃ m', m' < m ∧ W (i + 1) m' G) ∧ ∀ x G, J.yld i H x G → g x (L2.wipe σ vs) G fun σ2 H2 => L2.wipe σ2 vs = L2.wipe σ vs ∧ tt σ2 H2 fun b H3 => if b = true then U σ2 H3 Nx else Nx H3)
/-- slots that know what the block's own slots knew -/
structure Knows (σ σ' : L2.St) (vs : List Nat) : Prop where
  l : (L2.wipe σ vs).length = σ'.length
  k : ∀ (j : Nat) v, (L2.wipe σ vs)[j]? = some (some v) → σ'[j]? = some (some v)
theorem wipe_off {σ : L2.St} {i : Nat} : ∀ {vs : List Nat}, i ∉ vs → (L2.wipe σ vs)[i]? = σ[i]?
  | [], _ => rfl
  | v :: vs, h => (List.getElem?_set_ne fun e => h (by rw [e]; exact List.mem_cons_self)).trans (wipe_off fun m => h (List.mem_cons_of_mem _ m))
theorem Knows.of_eq {σ σ' : L2.St} {vs : List Nat} (e : L2.wipe σ' vs = L2.wipe σ vs) : Knows σ σ' vs := ⟨by rw [← e, wipe_length], fun j v q => (L2.wipe_some (show (L2.wipe σ' vs)[j]? = _ from e ▸ q)).1⟩
theorem Knows.within {σ σ1 σ2 : L2.St} {vs own : List Nat} (a : L2.wipe σ1 vs = L2.wipe σ vs) (hv : ∀ i ∈ own, i ∈ vs) (hl : (L2.wipe σ1 own).length = σ2.length) (hk : ∀ (j : Nat) v, (L2.wipe σ1 own)[j]? = some (some v) → σ2[j]? = some (some v)) : Knows σ σ2 vs where
  l := by rw [← a, wipe_length, ← hl, wipe_length]
  k j v q := by
    have z := L2.wipe_some (show (L2.wipe σ1 vs)[j]? = _ from a ▸ q)
    exact hk j v ((wipe_off fun m => z.2 (hv j m)).trans z.1)
section
variable {Y : Cx} {pins : List (Addr × Obj)} {tg : Expr} {fs : List Expr} {g : TG} {tt : TT} {vs own : List Nat} {σ : L2.St} {it : Addr} {fp : List Addr} {tn : Nat → Heap → Prop} {J : It} {W : Nat → Nat → Hp → Prop} {Fin : Hp → Prop} {U : LvU} {act : (Shared → Prop) → Shared → Prop}
theorem wpF {α : Type} {t : Sem α} {Q Q' : α → Shared → Prop} {M : Model} {A : Around} {E : Value → Shared → Prop} {s : Shared} (h : wpAny M A t Q noE s) (q : ∀ a s, Q a s → Q' a s) : wpAny M A t Q' E s := wpAny_mono h q fun _ _ z => z.elim
/-- with no way out by an error -/
theorem wpX {α : Type} {t : Sem α} {Q Q' : α → Shared → Prop} {E : Value → Shared → Prop} {s : Shared} (hx : Y.xe = noE) (h : wpAny (model Y.prog Y.w) Y.A t Q Y.xe s) (q : ∀ a s, Q a s → Q' a s) : wpAny (model Y.prog Y.w) Y.A t Q' E s := wpF (by rw [hx] at h; exact h) q
/-- how things stand ahead of a turn -/
def Ahead (Y : Cx) (pins : List (Addr × Obj)) (σw : L2.St) (fp : List Addr) (tn : Nat → Heap → Prop) (W : Nat → Nat → Hp → Prop) (m : Nat) (s : Shared) : Prop := ∃ i G, Inv Y pins σw G s ∧ tn i s.heap ∧ (∀ b ∈ fp, G b = none) ∧ W i m G
/-- what the iterator stands on was held through a turn, and goes free -/
theorem Ahead.next {σ' : L2.St} {G : Hp} {s7 s : Shared} {i m : Nat} (T : Turn Y.prog Y.w Y.K tg J fp it tn) (I : Inv Y (pins ++ pinsAt fp s7.heap) σ' G s) (kn : Knows σ σ' vs) (st : tn i s7.heap) (w : W i m G) : Ahead Y pins (L2.wipe σ vs) fp tn W m s := by
  have held : ∀ b ∈ fp, ∀ o, s7.heap.get? b = some o → _ := fun b mb o e => I.pin (b, o) (List.mem_append_right _ (List.mem_append_right _ (mem_pinsAt mb e)))
  exact ⟨i, G, I.unpinned.weak kn.l kn.k, T.keep i _ _ st fun b mb o e => (held b mb o e).1, fun b mb => (T.obj i _ st b mb).elim fun o q => (held b mb o q.1).2.1, w⟩
/-- one turn -/
theorem turn_ok {N : Value → Shared → Prop} {stop : Shared → Prop} {n : Nat} {s : Shared} (hx : Y.xe = noE) (hc : Y.calm = true) (T : Turn Y.prog Y.w Y.K tg J fp it tn) (pg : PG Y tg g) (pt : PTs Y fs tt) (hv : ∀ i ∈ own, i ∈ vs)
    (still : ∀ (σ' : L2.St) (G : Hp) (s' : Shared), Inv Y pins σ' G s' → (∀ b ∈ fp, G b = none) → ∀ b ∈ fp, FpOk Y pins G b) (turns : Turns J g tt vs σ U Fin W) (hU : InOk Y act U own)
    (over : ∀ (G : Hp) (s' : Shared), Inv Y pins (L2.wipe σ vs) G s' → Fin G → stop s') (h : Ahead Y pins (L2.wipe σ vs) fp tn W n s) :
    TurnOk Y.prog Y.w Y.A Y.env tg fs N stop (fun s' => ∃ m, m < n ∧ Ahead Y pins (L2.wipe σ vs) fp tn W m s') (act fun s' => ∃ m, m < n ∧ Ahead Y pins (L2.wipe σ vs) fp tn W m s') (.ref it) s := by
  obtain ⟨i, G, I, st, no, w⟩ := h
  have free := still _ G s I no
  rcases turns i n G w with ⟨a, b⟩ | ⟨a, Nx, less, step⟩
  · exact wpF (T.done Y rfl rfl rfl hc i pins s _ G noE I free st a) fun r s' q => q.1 ▸ over G s' q.2 b
  · refine wpF (T.item Y rfl rfl rfl hc i pins s _ G noE I free st a) ?_
    rintro _ s1 ⟨u, rfl, q⟩
    refine wpF q ?_
    rintro _ s2 ⟨x, G2, I2, ru, y, st2, no2⟩
    have go : ∀ (σ' : L2.St) (G' : Hp) (s' : Shared), Inv Y (pins ++ pinsAt fp s2.heap) σ' G' s' → Knows σ σ' vs → Nx G' → ∃ m, m < n ∧ Ahead Y pins (L2.wipe σ vs) fp tn W m s' := fun σ' G' s' I' kn nx =>
      (less G' nx).elim fun m q => ⟨m, q.1, .next T I' kn st2 q.2⟩
    refine wpX hx (pg.run _ s2 _ G2 x u _ (I2.pinned (still _ G2 s2 I2 no2) (T.obj _ _ st2)) ru (step x G2 y)) ?_
    rintro _ s3 ⟨σ3, G3, I3, e3, q3⟩
    refine wpX hx (pt.run _ s3 σ3 G3 _ I3 q3) ?_
    rintro b s4 ⟨G4, I4, q4⟩
    match b, q4 with
    | false, q4 => exact go σ3 G4 s4 I4 (.of_eq e3) q4
    | true, q4 => exact hU _ s4 σ3 G4 Nx _ I4 q4 fun σ' G' s' I' l k nx => go σ' G' s' I' (.within e3 hv l k) nx
end
/-- a block stands open over a new container: what is known within, and what the end gives back -/
structure Opened (X : Cx) (pins : List (Addr × Obj)) (σ : L2.St) (own : List Nat) (Y : Cx) (fp : List Addr) (tn : Nat → Heap → Prop) (C : Addr) (G : Hp) (s : Shared) : Prop where
  inv : Inv Y [] (L2.wipe σ own) G s
  st : tn 0 s.heap
  no : ∀ b ∈ fp, G b = none
  still : ∀ (σ' : L2.St) (G' : Hp) (s' : Shared), Inv Y [] σ' G' s' → (∀ b ∈ fp, G' b = none) → ∀ b ∈ fp, FpOk Y [] G' b
  back : ∀ (σ' : L2.St) (G' : Hp) (s' : Shared), Inv Y [] σ' G' s' → Inv X pins σ G' s' ∧ (∃ m, s'.heap.Ns C m) ∧ FpOk X pins G' C
abbrev heapIn (h : Heap) (scope : Scope) : Heap := pushCells (h.push { cls := .type "dict", data := .dict #[] }) scope.names
abbrev envIn (X : Cx) (h : Heap) (scope : Scope) : PySem.Env := compEnvC scope (cellsFrom (h.objs.size + 1) scope.names (cloFrom X.env.cells scope.names [])) h.objs.size X.env
theorem Opened.of {X : Cx} {pins : List (Addr × Obj)} {σ : L2.St} {H : Hp} {s s3 : Shared} {tg : Expr} {J : It} {fp : List Addr} {it : Addr} {tn : Nat → Heap → Prop} {scope : Scope} {own : List (Str × Nat)} {o : HO} {ob : Obj} (hN : X.N.Nodup) (ok : BlkOk X.N X.env.scope scope own)
    (T : Turn X.prog X.w X.K tg J fp it tn) (st : tn 0 s.heap) (free : ∀ b ∈ fp, FpOk X pins H b) (e3 : s3.heap = s.heap.push ob) (I : Inv X pins σ (upd H s.heap.objs.size o) s3) :
    Opened X pins σ (own.map (·.2)) (X.blk s3 (upd H s.heap.objs.size o) scope (envIn X s3.heap scope) fp) fp tn s3.heap.objs.size (upd H s.heap.objs.size o) { s3 with heap := heapIn s3.heap scope } := by
  have lt : ∀ b ∈ fp, b < s.heap.objs.size := fun b mb => (T.obj 0 _ st b mb).elim fun _ q => Heap.lt_size q.1
  have free3 : ∀ b ∈ fp, FpOk X pins (upd H s.heap.objs.size o) b := fun b mb => ⟨(upd_ne (Nat.ne_of_lt (lt b mb))).trans (free b mb).1, (free b mb).2⟩
  have pushed : ∀ b z, s.heap.get? b = some z → s3.heap.get? b = some z := fun b z q => by rw [e3]; exact Heap.get?_push_of_some _ q
  exact {
    inv := block_start I ok hN fun b mb => ⟨free3 b mb, by rw [e3, Heap.size_push]; exact Nat.lt_succ_of_lt (lt b mb)⟩
    st := T.keep 0 _ _ st fun b _ z q => pushCells_keeps _ _ _ _ (Heap.get?_push_of_some _ (pushed b z q))
    no := fun b mb => (free3 b mb).1
    still := fun σ' G' s' J' n b mb =>
      have away := J'.ok.exf b mb
      ⟨n b mb, away.1, J'.ok.exfs b mb, .inl mb, away.2, fun p hp => (List.not_mem_nil hp).elim⟩
    back := fun σ' G' s' J' => by
      refine ⟨I.call' J'.os J'.base J'.hok J'.bare fun b mb => ?_, J'.loc.elim fun m q => ⟨m, q.1⟩, I.fpOk (Nat.le_refl _) J'.free⟩
      obtain ⟨-, f1, f2, f3, f4, f5⟩ := free3 b mb
      exact ⟨f3, f1, f4, f5⟩ }
end DL
namespace DL
open PySem L2 PySem.Spec PyProof.Rows
end DL
namespace DL
open PySem L2 PySem.Spec PyProof.Rows
end DL
namespace DL
open PySem L2 PySem.Spec PyProof.Rows
end DL
namespace DL
open PySem L2 PySem.Spec PyProof.Rows
end DL
namespace DL
open PySem L2
theorem hd_d {x : D} {as : List Ar} : ((Ar.d x :: as).head?).map isD ≠ some false := by simp [isD]
theorem k_int : kitB "int" "int" = some true := by decide +kernel
theorem k_ib : kitB "int" "bool" = some false := by decide +kernel
theorem k_tt : kitB "tuple" "tuple" = some true := by decide +kernel
theorem k_ss : kitB "str" "str" = some true := by decide +kernel
/-- a comprehension whose items are told by a function -/
theorem lcL_map {t : TM} {f : DM} {vs : List Nat} {K : List D → DL.Env → Prop} {ρ : DL.Env} (g : D → D) : ∀ (ds acc : List D), (∀ d ∈ ds, ∀ Q : D → DL.Env → Prop, (∀ ρ3, wipeE ρ3 vs = ρ → Q (g d) ρ3) → t d ρ fun ρ1 => f ρ1 Q) → K (acc ++ ds.map g) ρ → lcL t bYes f vs K ds acc ρ
  | [], acc, _, hk => by
    show K acc ρ
    simpa using hk
  | d :: ds, acc, h, hk => by
    refine h d (List.mem_cons_self ..) _ fun ρ3 e => ?_
    show lcL t bYes f vs K ds (acc ++ [g d]) (wipeE ρ3 vs)
    rw [e]
    exact lcL_map g ds (acc ++ [g d]) (fun d' hd => h d' (List.mem_cons_of_mem _ hd)) (by simpa using hk)
theorem signs_eq (z : Str) : signs z = z.cps.toList.map fun n => PyData.str ⟨#[n]⟩ := rfl
theorem ofBools_true : ∀ n : Nat, ofBools (List.replicate n (.bool true)) = some (List.replicate n true)
  | 0 => rfl
  | n + 1 => by
    have h := ofBools_true n
    rw [List.replicate_succ, List.replicate_succ]
    show (ofBools (List.replicate n (.bool true))).map (true :: ·) = _
    rw [h]
    rfl
end DL
namespace DL
open PySem L2
mutual
theorem eqv_refl : ∀ d : D, nod d = true → PyData.eqv d d = true
  | .none, _ => (by simp [PyData.eqv])
  | .bool _, _ => (by simp [PyData.eqv])
  | .int _, _ => (by simp [PyData.eqv])
  | .str _, _ => (by simp [PyData.eqv])
  | .list xs, h => by
    simp only [PyData.eqv]
    exact eqv_reflAll xs (by simpa [nod] using h)
  | .tuple xs, h => by
    simp only [PyData.eqv]
    exact eqv_reflAll xs (by simpa [nod] using h)
  | .dict _, h => by simp [nod] at h
theorem eqv_reflAll : ∀ ds : List D, nodAll ds = true → PyData.eqvAll ds ds = true
  | [], _ => rfl
  | x :: xs, h => by
    simp only [nodAll, Bool.and_eq_true] at h
    simp only [PyData.eqvAll, Bool.and_eq_true]
    exact ⟨eqv_refl x h.1, eqv_reflAll xs h.2⟩
end
end DL
namespace DL
open PySem L2
def kC : Key := .inr "cells"
def kL : Key := .inr "left"
def kS : Key := .inr "spot"
structure SrcAt (H : Hp) (q c l : Addr) (cs ls : List Int) (k : Nat) : Prop where
  dq : H q = some (.dK [(kC, .ref c), (kL, .ref l), (kS, .int k)])
  dc : H c = some (.lst (cs.map V.int))
  dl : H l = some (.lst (ls.map V.int))
  ne : c ≠ l
  nc : cs.length ≤ 100
  nl : ls.length ≤ 100
def spotOf : Option HO → Nat
  | some (.dK [_, _, (_, .int k)]) => k.toNat
  | _ => 0
theorem SrcAt.foot {H : Hp} {q c l : Addr} {cs ls : List Int} {k : Nat} (s : SrcAt H q c l cs ls k) {a : Addr} (h : Foot (some q) H a) : a = q ∨ a = c ∨ a = l := by
  rcases h with h | ⟨kvs, y, h1, h2⟩
  · exact .inl h
  · rw [s.dq] at h1
    cases h1
    simp only [List.mem_cons, Prod.mk.injEq, List.not_mem_nil, or_false] at h2
    rcases h2 with ⟨_, h⟩ | ⟨_, h⟩ | ⟨_, h⟩
    · cases h; exact .inr (.inl rfl)
    · cases h; exact .inr (.inr rfl)
    · cases h
theorem SrcAt.fq {H : Hp} {q : Addr} : Foot (some q) H q := .inl rfl
theorem SrcAt.fc {H : Hp} {q c l : Addr} {cs ls : List Int} {k : Nat} (s : SrcAt H q c l cs ls k) : Foot (some q) H c := .inr ⟨_, kC, s.dq, List.mem_cons_self ..⟩
theorem SrcAt.fl {H : Hp} {q c l : Addr} {cs ls : List Int} {k : Nat} (s : SrcAt H q c l cs ls k) : Foot (some q) H l := .inr ⟨_, kL, s.dq, List.mem_cons_of_mem _ (List.mem_cons_self ..)⟩
def srcOrc : Orc where
  I q H := ∃ c l cs ls k, SrcAt H q c l cs ls k
  cnt q H := spotOf (H q)
  al q H a h f := by
    obtain ⟨c, l, cs, ls, k, s⟩ := h
    rcases s.foot f with rfl | rfl | rfl
    · rw [s.dq]; exact Option.some_ne_none _
    · rw [s.dc]; exact Option.some_ne_none _
    · rw [s.dl]; exact Option.some_ne_none _
  st q H H' h e := by
    obtain ⟨c, l, cs, ls, k, s⟩ := h
    exact ⟨c, l, cs, ls, k, ⟨(e q SrcAt.fq).trans s.dq, (e c s.fc).trans s.dc, (e l s.fl).trans s.dl, s.ne, s.nc, s.nl⟩⟩
  sc q H H' h e := by rw [e q SrcAt.fq]
/-- H' is H but for the source, which may have new parts -/
structure Tou (q : Addr) (H H' : Hp) : Prop where
  kp : ∀ a, H a ≠ none → ¬ Foot (some q) H a → H' a = H a
  dom : ∀ a, H a ≠ none → H' a ≠ none
  ft : ∀ a, Foot (some q) H' a → Foot (some q) H a ∨ H a = none
theorem Tou.trans {q : Addr} {H H' H'' : Hp} (a : Tou q H H') (b : Tou q H' H'') : Tou q H H'' := by
  refine ⟨fun x h f => ?_, fun x h => b.dom x (a.dom x h), fun x h => ?_⟩
  · rw [b.kp x (a.dom x h) fun z => (a.ft x z).elim f h, a.kp x h f]
  · rcases b.ft x h with h | h
    · exact a.ft x h
    · refine .inr ?_
      cases z : H x with
      | none => rfl
      | some o => exact absurd h (a.dom x (by rw [z]; exact Option.some_ne_none o))
theorem Tou.world {q : Addr} {F H H' : Hp} (t : Tou q H H') (w : World srcOrc (some q) F H F H) (i : srcOrc.I q H') : World srcOrc (some q) F H F H' := by
  have al : ∀ a, F a ≠ none → H a ≠ none := fun a h z => by
    cases e : F a with
    | none => exact h e
    | some o =>
      have := w.fh a o e
      rw [z] at this
      cases this
  refine ⟨Ex.refl F, fun a o e => ?_, fun a o e f => ⟨?_, fun z => ?_⟩, t.dom, fun _ _ e => e, fun a h z => ?_, fun y e => ?_⟩
  · have h0 : F a ≠ none := by rw [e]; exact Option.some_ne_none o
    rw [t.kp a (al a h0) (w.ft a h0)]
    exact w.fh a o e
  · rw [t.kp a (by rw [e]; exact Option.some_ne_none o) f]
    exact e
  · rcases t.ft a z with z | z
    · exact f z
    · rw [e] at z
      cases z
  · rcases t.ft a z with z | z
    · exact w.ft a h z
    · exact al a h z
  · cases e
    exact i
theorem SrcAt.setS {H : Hp} {q c l : Addr} {cs ls : List Int} {k : Nat} (s : SrcAt H q c l cs ls k) (k' : Nat) : SrcAt (upd H q (.dK [(kC, .ref c), (kL, .ref l), (kS, .int k')])) q c l cs ls k' := by
  have qc : c ≠ q := fun e => by have := s.dc; rw [e, s.dq] at this; cases this
  have ql : l ≠ q := fun e => by have := s.dl; rw [e, s.dq] at this; cases this
  exact ⟨upd_same, (upd_ne qc).trans s.dc, (upd_ne ql).trans s.dl, s.ne, s.nc, s.nl⟩
theorem SrcAt.setV {H : Hp} {q c l : Addr} {cs ls : List Int} {k : Nat} (s : SrcAt H q c l cs ls k) (ls' : List Int) (z : ls'.length ≤ 100) : SrcAt (upd H l (.lst (ls'.map V.int))) q c l cs ls' k := by
  have ql : q ≠ l := fun e => by have := s.dl; rw [← e, s.dq] at this; cases this
  exact ⟨(upd_ne ql).trans s.dq, (upd_ne s.ne).trans s.dc, upd_same, s.ne, s.nc, z⟩
/-- a store into the dict, or into its list -/
theorem Tou.putQ {H : Hp} {q c l l' : Addr} {cs ls : List Int} {k : Nat} {v : V} (s : SrcAt H q c l cs ls k) (hl : l' = l ∨ H l' = none) (nv : ∀ a, v ≠ .ref a) : Tou q H (upd H q (.dK [(kC, .ref c), (kL, .ref l'), (kS, v)])) := by
  refine ⟨fun a h f => upd_ne fun z => f (by rw [z]; exact SrcAt.fq), fun a h => ?_, fun a h => ?_⟩
  · by_cases z : a = q
    · rw [z, upd_same]; exact Option.some_ne_none _
    · rw [upd_ne z]; exact h
  · rcases h with h | ⟨kvs, y, h1, h2⟩
    · exact .inl (.inl h)
    · rw [upd_same] at h1
      cases h1
      simp only [List.mem_cons, Prod.mk.injEq, List.not_mem_nil, or_false] at h2
      rcases h2 with ⟨_, h⟩ | ⟨_, h⟩ | ⟨_, h⟩
      · cases h; exact .inl s.fc
      · cases h
        rcases hl with hl | hl
        · rw [hl]; exact .inl s.fl
        · exact .inr hl
      · exact absurd h.symm (nv a)
theorem Tou.putL {H : Hp} {q c l : Addr} {cs ls : List Int} {k : Nat} {o : HO} (s : SrcAt H q c l cs ls k) : Tou q H (upd H l o) := by
  have ql : q ≠ l := fun e => by have := s.dl; rw [← e, s.dq] at this; cases this
  refine ⟨fun a h f => upd_ne fun z => f (by rw [z]; exact s.fl), fun a h => ?_, fun a h => .inl ?_⟩
  · by_cases z : a = l
    · rw [z, upd_same]; exact Option.some_ne_none _
    · rw [upd_ne z]; exact h
  · exact (Foot.eqv (p := some q) (fun y e => by cases e; exact upd_ne ql) a).mp h
theorem SrcAt.spot {H : Hp} {q c l : Addr} {cs ls : List Int} {k : Nat} (s : SrcAt H q c l cs ls k) : srcOrc.cnt q H = k := by
  show spotOf (H q) = k
  rw [s.dq]
  rfl
theorem okD_ints (ns : List Int) : okD (.list (ns.map PyData.int)) := by
  have h1 : ∀ ms : List Int, PyData.canLayAll0 (ms.map PyData.int) = true := fun ms => by
    induction ms with
    | nil => rfl
    | cons m r ih => exact Bool.and_eq_true_iff.mpr ⟨rfl, ih⟩
  have h2 : ∀ ms : List Int, PyData.depthAll (ms.map PyData.int) ≤ 1 := fun ms => by
    induction ms with
    | nil => simp [PyData.depthAll]
    | cons m r ih => simp only [List.map_cons, PyData.depthAll, PyData.depth]; omega
  show SeqAt.shaped _ = true
  unfold SeqAt.shaped
  rw [Bool.and_eq_true_iff]
  refine ⟨h1 ns, decide_eq_true ?_⟩
  simp only [PyData.depth]
  have := h2 ns
  omega
theorem dp_ints {K : PySem.W.Frag} {H : Hp} {a : Addr} {ns : List Int} (h : H a = some (.lst (ns.map V.int))) : Dp K H (.ref a) (.list (ns.map PyData.int)) :=
  (At.lst (.inl (.inl h)) (AtAll.ofInts ns)).dp (okD_ints ns).nod
end DL
namespace DL
open PySem L2
section
variable {H : Hp} {q c l : Addr} {cs ls : List Int} {k : Nat} {σ : L2.St} {Q : VK}
theorem rdC (s : SrcAt H q c l cs ls k) (h0 : σ[0]? = some (some (.ref q))) (h : Q (.ref c) H) : tDGet (tVar 0) (tC (.str "cells")) σ H Q := ⟨_, h0, q, _, rfl, DGet.k (k := kC) s.dq, h⟩
theorem rdL (s : SrcAt H q c l cs ls k) (h0 : σ[0]? = some (some (.ref q))) (h : Q (.ref l) H) : tDGet (tVar 0) (tC (.str "left")) σ H Q := ⟨_, h0, q, _, rfl, DGet.k (k := kL) s.dq, h⟩
theorem rdS (s : SrcAt H q c l cs ls k) (h0 : σ[0]? = some (some (.ref q))) (h : Q (.int k) H) : tDGet (tVar 0) (tC (.str "spot")) σ H Q := ⟨_, h0, q, _, rfl, DGet.k (k := kS) s.dq, h⟩
end
end DL
namespace DL
open PySem L2
def leftLen (q : Addr) (H : Hp) : Nat := match H q with
  | some (.dK [_, (_, .ref l), _]) => (match H l with
    | some (.lst xs) => xs.length
    | _ => 0)
  | _ => 0
theorem SrcAt.len {H : Hp} {q c l : Addr} {cs ls : List Int} {k : Nat} (s : SrcAt H q c l cs ls k) : leftLen q H = ls.length := by
  unfold leftLen
  rw [s.dq]
  simp only
  rw [s.dl]
  simp
section
variable {K : PySem.W.Frag} {q c l : Addr} {cs ls : List Int} {k : Nat} {H H0 : Hp} {σ : L2.St}
theorem put_kS {c l : Addr} {k : Nat} {v : V} : putK [(kC, V.ref c), (kL, V.ref l), (kS, V.int k)] kS v = [(kC, V.ref c), (kL, V.ref l), (kS, v)] := rfl
theorem small3 : 3 < sizeLine := by decide +kernel
end
end DL
namespace DL
open PySem L2
end DL
namespace DL
open PySem L2
end DL
namespace DL
open PySem L2
end DL
namespace DL
open PySem L2
section
variable {X : Cx} {c : Cn}
theorem strs_vs {K : PySem.W.Frag} {F : Hp} : ∀ {vs : List V} {zs : List Str}, AtAll K F vs (zs.map PyData.str) → vs = zs.map V.str
  | _, [], h => by cases h; rfl
  | _, z :: zs, h => by
    cases h with
    | cons a t =>
      cases a
      rw [strs_vs t]
      rfl
/-- a text in a tuple of texts -/
def gInS : G2 := fun x y P => match x, y with
  | .str a, .tuple ds => ∃ zs, ofStrs ds = some zs ∧ P (.bool (zs.any fun z => z == a))
  | _, _ => False
theorem sem_inS (hK : X.K = c.K) : Sem2 X c (compareOp .In) gInS := by
  refine ⟨_, op_in_seq, fun F H σ ρ xx x y vx vy P Q r bx by_ g k => ?_⟩
  unfold gInS at g
  split at g
  · rename_i a ds
    obtain ⟨zs, ez, q⟩ := g
    cases bo_str bx
    obtain ⟨p, xs, rfl, f2, s2, t2⟩ := bo_tup r.w.fh by_
    rw [ofStrs_eq ez] at t2
    have e := strs_vs t2
    subst e
    refine ⟨p, _, rfl, .inr (by rw [hK]; exact s2), rfl, ?_, ?_⟩
    · rw [List.all_eq_true]
      intro v hv
      obtain ⟨z, _, rfl⟩ := List.mem_map.mp hv
      rfl
    · have ea : inV (.str a) (zs.map V.str) = zs.any fun z => z == a := by
        unfold inV
        rw [List.any_map]
        rfl
      show Q (.bl (if false = true then !inV (.str a) (zs.map V.str) else inV (.str a) (zs.map V.str))) H
      rw [if_neg Bool.false_ne_true, ea]
      exact k _ _ F H q (Ex.refl F) r (.bl _)
  · exact g.elim
/-- in a list, or a text in a tuple of texts -/
def gInU : G2 := fun x y P => match y with
  | .list ds => gIn x (.list ds) P
  | y => gInS x y P
theorem sem_inU (hK : X.K = c.K) (hu : X.A.units + 65 < cLine) : Sem2 X c (compareOp .In) gInU := by
  obtain ⟨r1, o1, h1⟩ := sem_in hK hu (X := X) (c := c)
  obtain ⟨r2, o2, h2⟩ := sem_inS hK (X := X) (c := c)
  refine ⟨_, o1.or o2, fun F H σ ρ xx x y vx vy P Q r bx by_ g k => ?_⟩
  unfold gInU at g
  split at g
  · exact .inl (h1 F H σ ρ xx x _ vx vy P Q r bx by_ g k)
  · exact .inr (h2 F H σ ρ xx x _ vx vy P Q r bx by_ g k)
theorem de_gtop {x : Str} {pos : Pos} {d : D} (hg : Gl X x) (h : ∃ u, X.mg x = some (.ref u) ∧ ∀ F, At c.K F (.ref u) d) (hd : (x == ("__debug__" : Str)) = false := by decide) : PE X (.Name x pos) (tD c (dC d)) := by
  obtain ⟨u, hm, ha⟩ := h
  exact de_gref hg hm ha hd
variable {x : Str} {p pos : Pos} {e : Expr} {es : List Expr} {fh : HLM} {g : GC}
def gImul : G2 := fun x y P => match x, y with
  | .int i, .int j => ((-(2 ^ 64) < i ∧ i < 2 ^ 64) ∨ (-(2 ^ 64) < j ∧ j < 2 ^ 64)) ∧ P (.int (i * j))
  | _, _ => False
theorem sem_imul : Sem2 X c (inplaceOp .Mult) gImul := by
  refine ⟨_, iop_mul, fun F H σ ρ xx x y vx vy P Q r bx by_ g k => ?_⟩
  unfold gImul at g
  split at g
  · cases bo_int bx
    cases bo_int by_
    exact ⟨_, _, rfl, rfl, g.1, k _ _ F H g.2 (Ex.refl F) r (.int _)⟩
  · exact g.elim
def gIdiv : G2 := fun x y P => match x, y with
  | .int i, .int j => (0 < j ∧ j < 1073741824) ∧ P (.int (i / j))
  | _, _ => False
theorem sem_idiv : Sem2 X c (inplaceOp .FloorDiv) gIdiv := by
  refine ⟨_, iop_fdiv, fun F H σ ρ xx x y vx vy P Q r bx by_ g k => ?_⟩
  unfold gIdiv at g
  split at g
  · cases bo_int bx
    cases bo_int by_
    exact ⟨_, _, rfl, rfl, g.1, k _ _ F H g.2 (Ex.refl F) r (.int _)⟩
  · exact g.elim
theorem at_top {K : PySem.W.Frag} {u : Addr} {dd : Option Addr} {its : Array Value} {n : Nat} {sl : Array (Option Value)} {zs : List Str} (h : K.lookup u = some ⟨.type "tuple", dd, .seq its n, sl⟩) (hz : its.size ≤ sizeLine) (hv : Vals (zs.map V.str) its.toList) (F : Hp) : At K F (.ref u) (.tuple (zs.map PyData.str)) := by
  refine .tup (.inr ⟨_, _, _, h, rfl, rfl, hz, hv⟩) ?_
  clear hv
  induction zs with
  | nil => exact .nil
  | cons z zs ih => exact .cons (.str z) ih
end
end DL
namespace DL
open PySem L2
end DL
namespace DL
open PySem L2
end DL
namespace DL
open PySem L2
structure SrcB (H : Hp) (q c l : Addr) (cs ls : List Int) (k : Nat) : Prop extends SrcAt H q c l cs ls k where
  len : ls.length = cs.length
  nz : cs ≠ []
def srcOrcB : Orc where
  I q H := ∃ c l cs ls k, SrcB H q c l cs ls k
  cnt q H := spotOf (H q)
  al q H a h f := by
    obtain ⟨c, l, cs, ls, k, s⟩ := h
    exact srcOrc.al q H a ⟨c, l, cs, ls, k, s.toSrcAt⟩ f
  st q H H' h e := by
    obtain ⟨c, l, cs, ls, k, s⟩ := h
    exact ⟨c, l, cs, ls, k, ⟨⟨(e q SrcAt.fq).trans s.dq, (e c s.fc).trans s.dc, (e l s.fl).trans s.dl, s.ne, s.nc, s.nl⟩, s.len, s.nz⟩⟩
  sc q H H' h e := by rw [e q SrcAt.fq]
theorem SrcB.spot {H : Hp} {q c l : Addr} {cs ls : List Int} {k : Nat} (s : SrcB H q c l cs ls k) : srcOrcB.cnt q H = k := s.toSrcAt.spot
theorem Tou.worldB {q : Addr} {F H H' : Hp} (t : Tou q H H') (w : World srcOrcB (some q) F H F H) (i : srcOrcB.I q H') : World srcOrcB (some q) F H F H' := by
  obtain ⟨c, l, cs, ls, k, s⟩ := i
  have w0 : World srcOrc (some q) F H F H := ⟨w.ff, w.fh, w.kp, w.dom, w.fn, w.ft, fun p e => by
    obtain ⟨c, l, cs, ls, k, s⟩ := w.or p e
    exact ⟨c, l, cs, ls, k, s.toSrcAt⟩⟩
  have w1 := t.world w0 ⟨c, l, cs, ls, k, s.toSrcAt⟩
  exact ⟨w1.ff, w1.fh, w1.kp, w1.dom, w1.fn, w1.ft, fun p e => by
    cases e
    exact ⟨c, l, cs, ls, k, s⟩⟩
def spBegunB (K : PySem.W.Frag) : Sp := fun vs H Q _ => ∃ (a : Addr) (ns : List Int), vs = [.ref a] ∧ SqL K H a (ns.map V.int) ∧ ns.length ≤ 63 ∧
  ∀ q c l cs ls H', (∀ b o, H b = some o → H' b = some o) → H q = none → H c = none → H l = none → SrcB H' q c l cs ls 0 → Q (.ref q) H'
/-- a call that leaves all that stands touches no source -/
theorem Tou.of_world {R : Orc} {q : Addr} {F H F' H' : Hp} (w : World R none F H F' H') (hq : H q ≠ none) : Tou q H H' := by
  have kp : ∀ a, H a ≠ none → H' a = H a := fun a h => by
    cases e : H a with
    | none => exact absurd e h
    | some o => exact (w.kp a o e fun z => z).1
  exact ⟨fun a h _ => kp a h, w.dom, fun a h => .inl ((Foot.eqv (p := some q) (fun y e => by cases e; exact kp q hq) a).mp h)⟩
theorem SrcAt.of_world {R : Orc} {q c l : Addr} {cs ls : List Int} {k : Nat} {F H F' H' : Hp} (s : SrcAt H q c l cs ls k) (w : World R none F H F' H') : SrcAt H' q c l cs ls k := by
  have kp : ∀ a o, H a = some o → H' a = some o := fun a o e => (w.kp a o e fun z => z).1
  exact ⟨kp _ _ s.dq, kp _ _ s.dc, kp _ _ s.dl, s.ne, s.nc, s.nl⟩
section
variable {X : Cx} {c : Cn} {a b : Expr} {pos : Pos}
def gAny : GC := fun ds P => match ds with
  | [.list xs] => ∃ ns, ofBools xs = some ns ∧ P (.bool (ns.any id))
  | _ => False
theorem sem_any (hK : X.K = c.K) (hc : X.calm = true) : SemC X c (.builtin "any") gAny :=
  ⟨_, cr_any hc, fun F H σ ρ xx ds vs P Q r bs g k => by
    unfold gAny at g
    split at g
    · obtain ⟨v, rfl, b⟩ := pr1 bs
      obtain ⟨ns, hn, g⟩ := g
      obtain ⟨a, ys, rfl, s1, t1⟩ := bo_lst r.w.fh b
      rw [ofBools_eq hn] at t1
      rw [t1.bools] at s1
      exact ⟨a, ns, rfl, by rw [hK]; exact s1, k _ _ F H g (Ex.refl F) r (.bl _)⟩
    · exact g.elim⟩
def gAbs : GC := fun ds P => match ds with
  | [.int i] => P (.int (if i < 0 then -i else i))
  | _ => False
theorem sem_abs : SemC X c (.builtin "abs") gAbs :=
  ⟨_, call_abs, fun F H σ ρ xx ds vs P Q r bs g k => by
    unfold gAbs at g
    split at g
    · obtain ⟨v, rfl, b⟩ := pr1 bs
      cases bo_int b
      exact ⟨_, rfl, k _ _ F H g (Ex.refl F) r (.int _)⟩
    · exact g.elim⟩
def sParIN (i j : Nat) (f g : DM) : SM := fun E ρ => f ρ fun d ρ1 => g ρ1 fun d' ρ2 => E.nx ((ρ2.set j (.ow d')).set i (.im d))
theorem parIN_use {i j : Nat} (hij : i ≠ j) {f g : DM} : ∀ Z σ H, tS c (sParIN i j f g) Z σ H → tPar i j (tCons (tD c f) (tCons (tN c g) tNil)) Z σ H := by
  rintro Z σ H ⟨F, ρ, xx, E, rel, q, n, rr, b, t⟩
  refine ⟨F, ρ, xx, _, rel, q, fun d ρ1 v F1 H1 q1 e1 r1 a1 => ?_⟩
  refine ⟨F1, ρ1, xx, _, r1, q1, fun d' ρ2 p F2 H2 q2 e2 r2 f2 => ?_⟩
  refine ⟨_, _, rfl, ?_⟩
  have z := n _ _ F2 H2 q2 (e1.trans e2) ((r2.putO j f2).putI i (a1.mono e2))
  rw [List.set_comm _ _ (Ne.symm hij)] at z
  exact z
theorem dp_parIN {x y : Str} {i j : Nat} {f g : DM} {px py pt : Pos} {kt k2 : Nat} {pt2 : Pos} (hc : X.calm = true) (hN : X.N.Nodup) (hi : X.N[i]? = some x) (hj : X.N[j]? = some y) (hij : i ≠ j)
    (hx : X.env.scope.names.lookup x = some .local) (hy : X.env.scope.names.lookup y = some .local) (ha : PE X a (tD c f)) (hb : PE X b (tN c g))
    (hw : (swappedStores [.Tuple [.Name x px, .Name y py] kt pt] (.Tuple [a, b] k2 pt2) X.env = pure (some [x, y])))
    (hs : swapsWithSole [.Tuple [.Name x px, .Name y py] kt pt] (.Tuple [a, b] k2 pt2) pos.line X.env = pure false := by rfl)
    (s1 : starEach [a, b] X.env = (false, eval a X.env) :: starEach [b] X.env := by rfl) (s2 : starEach [b] X.env = (false, eval b X.env) :: starEach [] X.env := by rfl) :
    PS X (.Assign [.Tuple [.Name x px, .Name y py] kt pt] (.Tuple [a, b] k2 pt2) pos) (tS c (sParIN i j f g)) :=
  PS.to (ps_par hc hN hi hj hij hx hy (pa_cons ha (pa_cons hb pa_nil s2) s1) hw hs) (parIN_use hij)
def gReprB : GC := fun ds P => match ds with
  | [.bool b] => P (.str (if b then "True" else "False"))
  | _ => False
theorem call_reprB : CallR X (.builtin "repr") (fun xs H Q => ∃ b, xs = [.bl b] ∧ Q (.str (if b then "True" else "False")) H) := by
  (intro pins s σ H xs us Q I r h)
  obtain ⟨b, rfl, q⟩ := h
  obtain ⟨u, rfl, rv⟩ := vals1 r
  cases (show u = Value.bool b from rv)
  exact P.repr_of_bool ⟨.str _, H, I.tok _, ⟨_, by cases b <;> rfl⟩, q⟩
theorem sem_reprB : SemC X c (.builtin "repr") gReprB :=
  ⟨_, call_reprB, fun F H σ ρ xx ds vs P Q r bs g k => by
    unfold gReprB at g
    split at g
    · obtain ⟨v, rfl, b⟩ := pr1 bs
      cases bo_bl b
      exact ⟨_, rfl, k _ _ F H g (Ex.refl F) r (.str _)⟩
    · exact g.elim⟩
end
end DL
namespace DL
open PySem L2
end DL
namespace DL
open PySem L2
section
variable {X : Cx} {c : Cn} {e a b : Expr} {pos : Pos}
def okR : D → Prop
  | .none => True
  | .bool _ => True
  | .int i => i.natAbs.log2 < 1920
  | .list xs => nod (.list xs) = true ∧ (PyData.list xs).showable = true ∧ (PyData.list xs).depth ≤ 60 ∧ (PyData.list xs).shown.length ≤ 1000000
  | .tuple xs => nod (.tuple xs) = true ∧ (PyData.tuple xs).showable = true ∧ (PyData.tuple xs).depth ≤ 60 ∧ (PyData.tuple xs).shown.length ≤ 1000000
  | _ => False
end
end DL
namespace DL
open PySem L2 PySem.Spec PyProof.Rows
theorem lawG {pr : Program} {wd : PySem.World} {K : PySem.W.Frag} {gl gb : PySem.Str → Option Value} {k : Nat} {fa a : Addr} {fd : FuncData} {x : PySem.Str} {sp : Sp} {s : Shared} {vs : List Value} {ns : List Int}
    (inK : K.In s.heap) (nsG : s.heap.Ns mainGlobals gl) (nsB : s.heap.Ns builtinsNs gb) (bb : ∀ y : PySem.Str, y ≠ "__name__" → gb y = bootBuiltins y) (lim : s.heap.NoLimit) (gen : s.gens = #[])
    (ha : s.heap.get? a = some { cls := .type "list", data := .seq vs.toArray }) (hi : IntsAre vs ns) (hl : ns.length ≤ sizeLine) (room : Room k callerA)
    (F : ∀ bas : Heap, K.In bas → bas.Ns mainGlobals gl → FnG pr wd K gl bas k fa fd [x] sp) (bind : ∀ (s : Shared) (u : Value), BindsTo s fd ⟨[u], []⟩ [(x, u)])
    (says : ∀ H : Hp, SqL K H a (ns.map V.int) → sp [.ref a] H (fun v _ => v = .bl true) fun _ _ _ => False) :
    codeAny (model pr wd) callerA (.call (.ref fa) ⟨[.ref a], []⟩) (fun r s' => r = .ok (.ret (.bool true)) ∧ OldK s.heap s'.heap ∧ s'.os = s.os ∧ AllBare s'.gens) s := by
  have vals := L2.vals_ints hi
  -- the heap H that the def sees: nothing, or the script alone, which stays as it is
  have run : ∀ (H : Hp), (∀ b o, H b = some o → b = a ∧ ∃ ob xs, o = .frz ob (.lst xs)) → SqL K H a (ns.map V.int) → HOk pr wd H s.heap → (H a ≠ none → K.lookup a = none) →
      codeAny (model pr wd) callerA (.call (.ref fa) ⟨[.ref a], []⟩) (fun r s' => r = .ok (.ret (.bool true)) ∧ OldK s.heap s'.heap ∧ s'.os = s.os ∧ AllBare s'.gens) s := by
    intro H only sq hok notK
    have plain : ∀ {b : Addr} {o : Obj}, s.heap.get? b = some o → (∀ es n, o.data = .dict es n → H b = none) := by
      intro b o e es n ed
      cases z : H b with
      | none => rfl
      | some u =>
        obtain ⟨rfl, _⟩ := only b u z
        rw [ha] at e
        cases e
        exact absurd (ed : Data.seq vs.toArray _ = Data.dict es n) (fun y => by cases y)
    have nsOf : ∀ {b : Addr} {m : PySem.Str → Option Value}, s.heap.Ns b m → (hidT s.heap H).Ns b m := by
      rintro b m ⟨o, es, n, e, ed, r⟩
      exact ⟨o, es, n, hidT_get e (plain e es n ed), ed, r⟩
    have inB : K.In (hidT s.heap H) := by
      intro b o e
      refine hidT_get (inK b o e) ?_
      cases z : H b with
      | none => rfl
      | some u =>
        obtain ⟨rfl, _⟩ := only b u z
        rw [notK (by rw [z]; exact Option.some_ne_none u)] at e
        cases e
    obtain ⟨mc, l1, l2⟩ := lim
    have md : Mod K gl (hidT s.heap H) := ⟨inB, nsOf nsG, ⟨gb, nsOf nsB, bb⟩, ⟨mc, nsOf l1, l2⟩⟩
    have env : Env0 pr wd K gl (hidT s.heap H) callerA [] s H := ⟨rfl, md, fun b o e => of_hidT e, Nat.le_of_eq (hidT_size _ _), trivial, fun b hb => (nomatch hb), hok, .of_eq gen⟩
    refine codeAny_mono ((F _ inB (nsOf nsG)).go callerA [] s H ⟨[.ref a], []⟩ [.ref a] [.ref a] _ _ rfl room env (bind s (.ref a)) (.cons rfl .nil) (says H sq)) ?_
    intro r s' z
    match r, z with
    | .error e, z => exact (z : False).elim
    | .ok (.ret u), ⟨v, H', os, bare, un, hok', rv, q⟩ =>
      have q : v = .bl true := q
      subst q
      cases (show u = Value.bool true from rv)
      refine ⟨rfl, OldK.of_keep ?_, os, bare⟩
      intro b o e
      cases z : H b with
      | none => exact un.keep b o e z (fun y => nomatch y) (by simp)
      | some u =>
        obtain ⟨_, ob, xs, rfl⟩ := only b u z
        obtain ⟨p1, _⟩ := hok b _ z
        obtain ⟨p2, _⟩ := hok' b _ (un.frzs b ob _ z)
        rw [e] at p1
        cases p1
        exact p2
  have len := hi.length
  cases z : K.lookup a with
  | some o =>
    have e := inK a o z
    rw [ha] at e
    cases e
    refine run (fun _ => none) (fun _ _ e => nomatch e) (.inr ⟨_, vs.toArray, _, z, rfl, rfl, rfl, ?_, by simpa using vals⟩) (fun _ _ e => nomatch e) fun e => absurd rfl e
    rw [List.size_toArray, len]
    exact hl
  | none =>
    have at1 : ∀ o, (fun b => if b = a then some (HO.frz { cls := .type "list", data := .seq vs.toArray } (.lst (ns.map V.int))) else none) a = some o → o = HO.frz { cls := .type "list", data := .seq vs.toArray } (.lst (ns.map V.int)) := by
      intro o e
      have e : (if a = a then some (HO.frz { cls := .type "list", data := .seq vs.toArray } (.lst (ns.map V.int))) else none) = some o := e
      rw [if_pos rfl] at e
      exact (Option.some.inj e).symm
    refine run (fun b => if b = a then some (HO.frz { cls := .type "list", data := .seq vs.toArray } (.lst (ns.map V.int))) else none) (fun b o e => ?_) (.inl (.inr ⟨{ cls := .type "list", data := .seq vs.toArray }, if_pos rfl⟩)) (fun b o e => ?_) fun _ => z
    · by_cases h : b = a
      · subst h
        exact ⟨rfl, _, _, at1 o e⟩
      · have e : (if b = a then some (HO.frz { cls := .type "list", data := .seq vs.toArray } (.lst (ns.map V.int))) else none) = some o := e
        rw [if_neg h] at e
        cases e
    · by_cases h : b = a
      · subst h
        rw [at1 o e]
        exact ⟨ha, by rw [List.length_map]; exact hl, vs, _, vals, ha⟩
      · have e : (if b = a then some (HO.frz { cls := .type "list", data := .seq vs.toArray } (.lst (ns.map V.int))) else none) = some o := e
        rw [if_neg h] at e
        cases e
theorem walkG {l : PySem.W.OpenLaw} {n k : Nat} {q : Program} {loose : List PySem.Str} {XP : (PySem.Str → Option Value) → Heap → Prop} {YP : PySem.World → Heap → Prop} {d : DefRec} {K : Params → PySem.W.Frag} {sp : PySem.World → Sp} {x : PySem.Str}
    (hn : l.most = some n) (hn2 : n ≤ sizeLine) (hdf : d.params.defaults = []) (room : Room k callerA) (hY : ∀ (wd : PySem.World) (h : Heap), YP wd h → (K wd.params).In h)
    (F : ∀ (wd : PySem.World) (gl : PySem.Str → Option Value) (fa : Addr) (h : Heap), (K wd.params).In h → h.Ns mainGlobals gl → gl d.name = some (.ref fa) →
      ∃ fd : FuncData, (∀ (s : Shared) (u : Value), BindsTo s fd ⟨[u], []⟩ [(x, u)]) ∧ ∀ bas : Heap, (K wd.params).In bas → bas.Ns mainGlobals gl → FnG l.prog wd (K wd.params) gl bas k fa fd [x] (sp wd))
    (says : ∀ (wd : PySem.World) (H : Hp) (a : Addr) (ns : List Int), ns.length ≤ n → SqL (K wd.params) H a (ns.map V.int) → sp wd [.ref a] H (fun v _ => v = .bl true) fun _ _ _ => False) :
    PySem.W.WalkO q loose XP YP l.row.toRowW d [] (fun f vs => PySem.call f vs)
      := by
  refine Att.attach_callB hn hdf ?_
  intro wd s0 s1 gl gb fa o pm cd doc a vs ns G Y ho hd hcd hgl hobj hints hlen _ hg
  obtain ⟨fd, hb, hF⟩ := F wd gl fa _ (hY wd _ Y) G.T.g hgl
  exact lawG (hY wd _ Y) G.T.g G.T.b G.T.builtins G.T.nolimit hg hobj hints (Nat.le_trans hlen hn2) room hF hb fun H sq => says wd H a ns hlen sq
end DL
namespace DL
open PySem L2
structure FnX (pr : Program) (wd : PySem.World) (K : PySem.W.Frag) (gl : Str → Option Value) (bas : Heap) (k : Nat) (f : Addr) (fd : FuncData) (ps : List Str) (sp : Sp) : Prop where
  many : ∀ vs H Q E, sp vs H Q E → vs.length = ps.length
  go : ∀ (A : Around) (out : List PySem.Env) (sh : Shared) (H : Hp) (ar : Args) (us : List Value) (vs : List V) (Q : VK) (E : XK), A.guards = some [] → Room k A →
    Env0 pr wd K gl bas A out sh H → BindsTo sh fd ar (ps.zip us) → Vals vs us → sp vs H Q E → codeAny (model pr wd) A (.call (.ref f) ar) (CR (L2.CX pr wd) out pr wd H sh Q E) sh
theorem FnX.more {pr : Program} {wd : PySem.World} {K : PySem.W.Frag} {gl : Str → Option Value} {bas : Heap} {j k : Nat} {f : Addr} {fd : FuncData} {ps : List Str} {sp : Sp} (F : FnX pr wd K gl bas j f fd ps sp) (h : j ≤ k) : FnX pr wd K gl bas k f fd ps sp :=
  ⟨F.many, fun A out sh H ar us vs Q E g r => F.go A out sh H ar us vs Q E g (r.mono h)⟩
theorem FnX.of {pr : Program} {wd : PySem.World} {K : PySem.W.Frag} {gl : Str → Option Value} {bas : Heap} {k : Nat} {f : Addr} {x qual : Str} {st : Stmt} {fd : FuncData} {N ps : List Str} {sp : Sp} (F : L2.Fun K x qual st f fd) (S : FnScope N ps (defScope st))
    (len : (∀ vs H Q E, sp vs H Q E → vs.length = ps.length))
    (body : ∀ (cdv : Value) (A : Around) (out : List PySem.Env) (sh : Shared) (H : Hp) (vs : List V) (Q : VK) (E : XK), A.guards = some [] → Room k (A.deeper (PyProof.Rows.envOfC qual (defScope st) sh.heap.objs.size f cdv)) → sp vs H Q E →
      ∃ t, PSs (cxOf (L2.CX pr wd) pr wd K gl bas N qual (defScope st) f cdv A out sh H E) (defBody st) t ∧ t { nx := fun _ H' => Q .non H', rt := Q } (start N vs) H) : FnX pr wd K gl bas (k + 1) f fd ps sp := by
  obtain ⟨oc, od, kV, doc, pm, an, cdv, ct, osl, efd, lk, hc⟩ := F.ex
  refine ⟨len, fun A out sh H ar us vs Q E hg room env bnd vals says => ?_⟩
  have heapK : K.In sh.heap := PySem.W.Frag.In.keeps env.mod.kin fun b o e => (env.bs b o e).1
  have noLim : sh.heap.NoLimit := Heap.NoLimit.keeps env.mod.nolimit fun b o e => (env.bs b o e).1
  have kinds : ∀ y ∈ ps.zip us, (defScope st).names.lookup y.1 = some .local ∨ ((defScope st).names.lookup y.1 = some .cell ∧ ((cellsFrom (sh.heap.objs.size + 1) (defScope st).names []).lookup y.1).isSome = true) := by
    rintro ⟨n, v⟩ hy
    exact (S.par n (List.of_mem_zip hy).1).imp id fun q => ⟨q, PySem.W.cellsFrom_some _ _ _ (.inl q)⟩
  rw [efd] at lk bnd
  refine codeAny_call_function room.depth (heapK _ _ lk) rfl S.co S.gen rfl (PySem.W.codeRec_of heapK hc) (bnd _ _ _ _ (wpAny_newFunctionEnv_cells S.kind kinds ?_))
  intro env1 he s1 xc
  subst he
  refine ⟨noLim.keeps xc.toInCall.keep, codeAny_func ?_⟩
  obtain ⟨t, ht, hq⟩ := body cdv A out sh H vs Q E hg (room.deeper _) says
  have inv : Inv (cxOf (L2.CX pr wd) pr wd K gl bas N qual (defScope st) f cdv A out sh H E) [] (start N vs) H s1 := inv_start S room.hd env (len _ _ _ _ says) vals xc
  refine wpAny_mono (ht.run [] s1 (start N vs) H _ inv hq) ?_ fun _ _ z => z
  intro fl s2 hs
  cases fl with
  | ret u =>
    (obtain ⟨v, σ', H', J, rv, q⟩ := hs)
    exact ⟨v, H', J.os, J.bare, J.base, J.hok, rv, q⟩
  | next =>
    obtain ⟨σ', H', J, q⟩ := hs
    exact ⟨V.non, H', J.os, J.bare, J.base, J.hok, rfl, q⟩
  | brk => exact (hs.choose_spec.choose_spec.2 : False).elim
  | cont => exact (hs.choose_spec.choose_spec.2 : False).elim
structure Exn where
  c : Str
  v : Option (Str × D)
def ExAt (gl : Str → Option Value) (K : PySem.W.Frag) (F H : Hp) (x : Exn) (cls : Value) (d : Option Addr) : Prop :=
  ∃ C, gl x.c = some (.ref C) ∧ cls = .ref C ∧ match x.v with
    | none => d = none
    | some (f, y) => ∃ a v, d = some a ∧ H a = some (.xd [(f, v)]) ∧ At K F v y
abbrev SpX := List Ar → Nat → (D → Nat → Prop) → (Exn → Nat → Prop) → Prop
def spX (K : PySem.W.Frag) (gl : Str → Option Value) (R : Orc) (n : Nat) (S : SpX) : Sp := fun vs H Q E => ∃ (q : Option Addr) (F : Hp) (as : List Ar) (m : Nat) (P : D → Nat → Prop) (PX : Exn → Nat → Prop),
  World R q F H F H ∧ Paired (ArAt ⟨K, R, q, F, H⟩ F) vs as ∧ as.length = n ∧ oraAt as ∧ (q = none ∨ as[0]? = some .ora) ∧ (∀ p, q = some p → R.cnt p H ≤ m) ∧ S as m P PX ∧
  (∀ d m' v F' H', P d m' → World R q F H F' H' → (∀ p, q = some p → R.cnt p H' ≤ m') → At K F' v d → Q v H') ∧
  ∀ x m' cls dd F' H', PX x m' → World R q F H F' H' → (∀ p, q = some p → R.cnt p H' ≤ m') → ExAt gl K F' H' x cls dd → E cls dd H'
/-- the wish of a frame about exceptions -/
def wx (gl : Str → Option Value) (c : Cn) (px : Exn → Env → Prop) : WX := fun cls dd σ H => ∃ F ρ xx x, Rel c F H σ ρ xx ∧ px x ρ ∧ ExAt gl c.K F H x cls dd
def CdX (pr : Program) (wd : PySem.World) (K : PySem.W.Frag) (gl : Str → Option Value) (bas : Heap) (R : Orc) (k : Nat) (x : Str) (n : Nat) (S : SpX) : Prop :=
  ∃ (f : Addr) (fd : FuncData) (ps : List Str), FnX pr wd K gl bas k f fd ps (spX K gl R n S) ∧ gl x = some (.ref f) ∧ PySem.W.keepIn K (.ref f) = true ∧ Binds K fd ps []
theorem CdX.more {pr : Program} {wd : PySem.World} {K : PySem.W.Frag} {gl : Str → Option Value} {bas : Heap} {R : Orc} {j k : Nat} {x : Str} {n : Nat} {S : SpX} (C : CdX pr wd K gl bas R j x n S) (h : j ≤ k) : CdX pr wd K gl bas R k x n S := by
  obtain ⟨f, fd, ps, F, a, b, d⟩ := C
  exact ⟨f, fd, ps, F.more h, a, b, d⟩
/-- what a body says, with its exceptions -/
def rawX (g : (Exn → Env → Prop) → SM) (N : Nat) : SpX := fun as m P PX =>
  g (fun x ρ => match ρ[0]? with
    | some (Sl.ora m') => PX x m'
    | _ => as.head?.map isD ≠ some false ∧ PX x 0)
  ⟨fun (ρ : DL.Env) => match ρ[0]? with
    | some (Sl.ora m') => P .none m'
    | _ => as.head?.map isD ≠ some false ∧ P .none 0,
  fun (d : D) (ρ : DL.Env) => match ρ[0]? with
    | some (Sl.ora m') => P d m'
    | _ => as.head?.map isD ≠ some false ∧ P d 0, fun _ => False, fun _ => False⟩ (startE N as m)
theorem FnX.data {pr : Program} {wd : PySem.World} {K : PySem.W.Frag} {gl : Str → Option Value} {bas : Heap} {k n : Nat} {f : Addr} {x qual : Str} {st : Stmt} {fd : FuncData} {N ps : List Str} {R : Orc} {g : (Exn → Env → Prop) → SM} (F : L2.Fun K x qual st f fd) (Sc : FnScope N ps (defScope st)) (hn : n = ps.length)
    (body : ∀ (cdv : Value) (A : Around) (out : List PySem.Env) (sh : Shared) (H : Hp) (E : XK) (q : Option Addr) (F : Hp) (px : Exn → Env → Prop), A.guards = some [] → Room k (A.deeper (PyProof.Rows.envOfC qual (defScope st) sh.heap.objs.size f cdv)) →
      Takes (cxOf (L2.CX pr wd) pr wd K gl bas N qual (defScope st) f cdv A out sh H E) (wx gl ⟨K, R, q, F, H⟩ px) →
      PSs (cxOf (L2.CX pr wd) pr wd K gl bas N qual (defScope st) f cdv A out sh H E) (defBody st) (tS ⟨K, R, q, F, H⟩ (g px))) : FnX pr wd K gl bas (k + 1) f fd ps (spX K gl R n (rawX g N.length)) := by
  refine FnX.of F Sc (fun vs H Q E ⟨q, F0, as, m, P, PX, w, pa, hl, _⟩ => by rw [paired_len pa, hl, hn]) fun cdv A out sh H vs Q E hg hr ⟨q, F0, as, m, P, PX, w, pa, hl, ho, hq, hm, says, k0, kx⟩ => ?_
  have cnt : ∀ {ρ' : DL.Env} {σ' : L2.St} {F' H' : Hp} {xx : XX} {PP : Nat → Prop}, (match ρ'[0]? with
      | some (Sl.ora m') => PP m'
      | _ => as.head?.map isD ≠ some false ∧ PP 0) → Rel ⟨K, R, q, F0, H⟩ F' H' σ' ρ' xx → ∃ m', PP m' ∧ ∀ z, q = some z → R.cnt z H' ≤ m' := by
    intro ρ' σ' F' H' xx PP p r
    split at p
    · rename_i m' e
      obtain ⟨y, h1, _, h3⟩ := r.s.or 0 m' e
      refine ⟨m', p, fun z hz => ?_⟩
      have h1' : q = some y := h1
      rw [hz] at h1'
      cases h1'
      exact h3
    · obtain ⟨p1, p2⟩ := p
      have qn : q = none := hq.resolve_right fun z => p1 (by
        cases as with
        | nil => cases z
        | cons b t => cases z; rfl)
      exact ⟨0, p2, fun z hz => by rw [qn] at hz; cases hz⟩
  have fin : ∀ (d : D) (v : V) (ρ' : DL.Env) (σ' : L2.St) (F' H' : Hp), (match ρ'[0]? with
      | some (Sl.ora m') => P d m'
      | _ => as.head?.map isD ≠ some false ∧ P d 0) → Rel ⟨K, R, q, F0, H⟩ F' H' σ' ρ' [] → At K F' v d → Q v H' := by
    intro d v ρ' σ' F' H' p r a
    obtain ⟨m', h1, h2⟩ := cnt (PP := P d) p r
    exact k0 d m' v F' H' h1 r.w h2 a
  refine ⟨_, body cdv A out sh H E q F0 (fun x ρ => match ρ[0]? with
    | some (Sl.ora m') => PX x m'
    | _ => as.head?.map isD ≠ some false ∧ PX x 0) hg hr ?_, F0, _, [], _, rel_start w pa ho hm, says, ?_, ?_, ?_, ?_⟩
  · refine (takes_of (E := E) rfl rfl rfl rfl).imp fun cls dd σ H' ⟨F', ρ', xx, x, r, p, a⟩ => ?_
    obtain ⟨m', h1, h2⟩ := cnt (PP := PX x) p r
    exact kx x m' cls dd F' H' h1 r.w h2 a
  · exact fun ρ' σ' F' H' p e r => fin .none .non ρ' σ' F' H' p r .non
  · exact fun d v ρ' σ' F' H' p r a => fin d v ρ' σ' F' H' p r a
  · exact fun ρ' σ' F' H' p => p.elim
  · exact fun ρ' σ' F' H' p => p.elim
theorem Rel.bare {c : Cn} {F H : Hp} {σ : L2.St} {ρ : List Sl} {xx : XX} (r : Rel c F H σ ρ xx) : Rel c F H σ ρ [] :=
  ⟨r.w, ⟨r.s.len, r.s.im, r.s.ow, r.s.dj, r.s.or, r.s.ou, (fun _ hp => nomatch hp), List.nodup_nil⟩⟩
end DL
namespace DL
end DL
namespace DL
open PySem L2
end DL
namespace DL
open PySem PyProof.Rows L2 RZ
/-- how far both are gone -/
structure MixGone (z t u p q a b : Addr) (n : Nat) (h : Heap) : Prop where
  zip : IsZip h z t u .none
  its : IsPair h t (.ref p) (.ref q)
  two : ∃ x y, IsPair h u x y
  fst : h.IsTupleIter p a n
  snd : h.IsListIter q b n
theorem five {z t u p q c : Addr} {P : Addr → Prop} (hc : c ∈ [z, t, u, p, q]) (h1 : P z) (h2 : P t) (h3 : P u) (h4 : P p) (h5 : P q) : P c := by
  simp only [List.mem_cons, List.not_mem_nil, or_false] at hc
  rcases hc with rfl | rfl | rfl | rfl | rfl <;> assumption
theorem MixGone.there {z t u p q a b : Addr} {n : Nat} {h : Heap} (m : MixGone z t u p q a b n h) {c : Addr} (hc : c ∈ [z, t, u, p, q]) :
    ∃ o, h.get? c = some o ∧ ∀ v, o.data ≠ .cell v := by
  obtain ⟨k1, k2, ⟨x, y, k3⟩, ⟨o4, e4, _, f4⟩, ⟨o5, e5, _, f5⟩⟩ := m
  refine five (P := fun c => ∃ o, h.get? c = some o ∧ ∀ v, o.data ≠ .cell v) hc ⟨_, k1, ?_⟩ ⟨_, k2, ?_⟩ ⟨_, k3, ?_⟩ ⟨o4, e4, ?_⟩ ⟨o5, e5, ?_⟩
  · exact fun v e => nomatch e
  · exact fun v e => nomatch e
  · exact fun v e => nomatch e
  · exact fun v e => by
      rw [f4] at e
      cases e
  · exact fun v e => by
      rw [f5] at e
      cases e
theorem MixGone.keep {z t u p q a b : Addr} {n : Nat} {h h' : Heap} (m : MixGone z t u p q a b n h) (k : ∀ c, c ∈ [z, t, u, p, q] → ∀ o, h.get? c = some o → h'.get? c = some o) : MixGone z t u p q a b n h' := by
  obtain ⟨k1, k2, ⟨x, y, k3⟩, k4, k5⟩ := m
  have kz := k z (by simp)
  have kt := k t (by simp)
  have ku := k u (by simp)
  have kp := k p (by simp)
  have kq := k q (by simp)
  exact ⟨kz _ k1, kt _ k2, ⟨x, y, ku _ k3⟩, k4.at kp, k5.at kq⟩
end DL
namespace DL
open PySem L2
end DL
namespace DL
open PySem PyProof.Rows L2
end DL
namespace DL
open PySem PyProof.Rows L2
end DL
namespace DL
open PySem PyProof.Rows L2
def CdD (pr : Program) (wd : PySem.World) (K : PySem.W.Frag) (gl : Str → Option Value) (bas : Heap) (R : Orc) (k : Nat) (x : Str) (n : Nat) (dds : List D) (S : SpD) : Prop :=
  ∃ (f : Addr) (fd : FuncData) (ps : List Str) (ds : List Value) (dvs : List V), FnG pr wd K gl bas k f fd ps (spD K R (n + dds.length) S) ∧ gl x = some (.ref f) ∧ PySem.W.keepIn K (.ref f) = true ∧ Binds K fd ps ds ∧ Vals dvs ds ∧ ∀ F, AtAll K F dvs dds
theorem CdD.more {pr : Program} {wd : PySem.World} {K : PySem.W.Frag} {gl : Str → Option Value} {bas : Heap} {R : Orc} {j k : Nat} {x : Str} {n : Nat} {dds : List D} {S : SpD} (C : CdD pr wd K gl bas R j x n dds S) (h : j ≤ k) : CdD pr wd K gl bas R k x n dds S := by
  obtain ⟨f, fd, ps, ds, dvs, F, a, b, d, e, u⟩ := C
  exact ⟨f, fd, ps, ds, dvs, F.more h, a, b, d, e, u⟩
end DL
namespace DL
open PySem L2
end DL
namespace DL
open PySem L2
section
variable {c : Cn} {F H : Hp} {σ : L2.St} {ρ : DL.Env} {xx yy : XX}
/-- a list of lists at A, its rows at as -/
structure Nest (K : PySem.W.Frag) (F : Hp) (A : Addr) (as : List Addr) (rows : List (List D)) : Prop where
  o : F A = some (.lst (as.map V.ref))
  n : as.length = rows.length
  r : ∀ (k : Nat) (a : Addr) (r : List D), as[k]? = some a → rows[k]? = some r → ∃ vs, F a = some (.lst vs) ∧ AtAll K F vs r
theorem Nest.mono {K : PySem.W.Frag} {F F' : Hp} {A : Addr} {as : List Addr} {rows : List (List D)} (h : Nest K F A as rows) (e : Ex F F') : Nest K F' A as rows :=
  ⟨e _ _ h.o, h.n, fun k a r h1 h2 => let ⟨vs, q1, q2⟩ := h.r k a r h1 h2; ⟨vs, e _ _ q1, q2.mono e⟩⟩
theorem rows_at {K : PySem.W.Frag} {F : Hp} : ∀ (as : List Addr) (rows : List (List D)), as.length = rows.length → (∀ (k : Nat) (a : Addr) (r : List D), as[k]? = some a → rows[k]? = some r → ∃ vs, F a = some (.lst vs) ∧ AtAll K F vs r) → AtAll K F (as.map V.ref) (rows.map PyData.list)
  | [], [], _, _ => .nil
  | [], _ :: _, h, _ => (by simp at h)
  | _ :: _, [], h, _ => (by simp at h)
  | a :: as, r :: rows, h, k => by
    obtain ⟨vs, q1, q2⟩ := k 0 a r rfl rfl
    exact .cons (.lst (.inl (.inl q1)) q2) (rows_at as rows (by simpa using h) fun j a r h1 h2 => k (j + 1) a r h1 h2)
theorem Nest.at {K : PySem.W.Frag} {F : Hp} {A : Addr} {as : List Addr} {rows : List (List D)} (h : Nest K F A as rows) : At K F (.ref A) (.list (rows.map PyData.list)) := .lst (.inl (.inl h.o)) (rows_at as rows h.n h.r)
end
end DL
namespace DL
open PySem L2
section
variable {K : PySem.W.Frag} {R : Orc} {F H : Hp} {v0 vc : V} {i j r w : Int} {s : Str} {rest : List D}
/-- the row at a, and all else -/
structure WI (K : PySem.W.Frag) (R : Orc) (F G Hw : Hp) (a U : Addr) (as : List Addr) (e : DL.Env) (σ : L2.St) (ds : List D) (H' : Hp) : Prop where
  x : ∃ F' us', Ex G F' ∧ Rel ⟨K, R, none, F, Hw⟩ F' H' σ e [(a, .o (.lst us'))] ∧ AtAll K F' us' ds
  u : H' U = some (.lst (as.map V.ref))
theorem WI.row {G Hw H' : Hp} {a U : Addr} {as : List Addr} {e : DL.Env} {σ : L2.St} {ds : List D} (h : WI K R F G Hw a U as e σ ds H') : ∃ us', H' a = some (.lst us') ∧ us'.length = ds.length := by
  obtain ⟨F', us', _, r, at_⟩ := h.x
  exact ⟨us', (r.s.ex (a, .o (.lst us')) (List.mem_cons_self ..)).1.o, at_.length⟩
theorem WI.put {G Hw H' : Hp} {a U : Addr} {as : List Addr} {e : DL.Env} {σ : L2.St} {ds : List D} {F2 : Hp} {us' : List V} {v : V} {d : D} {k : Nat} (hU : a ≠ U) (ef : Ex G F2) (r : Rel ⟨K, R, none, F, Hw⟩ F2 H' σ e [(a, .o (.lst us'))]) (ha : AtAll K F2 us' ds) (hu : H' U = some (.lst (as.map V.ref))) (hv : At K F2 v d) :
    WI K R F G Hw a U as e σ (ds.set k d) (upd H' a (.lst (us'.set k v))) :=
  ⟨⟨F2, us'.set k v, ef, r.mutX (show upd H' a _ a = _ from upd_same), ha.set hv k⟩, by rw [upd_ne (Ne.symm hU)]; exact hu⟩
end
section
variable {K : PySem.W.Frag} {R : Orc} {F H : Hp} {v0 vc : V} {i j r w : Int} {s : Str} {rest : List D} {Hw : Hp} {a U : Addr} {as : List Addr} {x : Option V} {ds : List D} {Z : Ends}
theorem WI.step {G : Hp} {F2 H2 : Hp} {us : List V} {e : DL.Env} {σ : L2.St} (hw : Hw U = some (.lst (as.map V.ref))) (ef : Ex G F2) (r2 : Rel ⟨K, R, none, F, Hw⟩ F2 H2 σ e [(a, .o (.lst us))]) (ha : AtAll K F2 us ds) : WI K R F G Hw a U as e σ ds H2 :=
  ⟨⟨F2, us, ef, r2, ha⟩, (r2.w.kp U _ hw fun z => z).1⟩
end
end DL
namespace DL
open PySem L2
end DL
namespace DL
open PySem L2
end DL
namespace DL
open PySem L2
end DL
namespace DL
open PySem L2 PyProof.Rows
/-- p, of the class cls, has been caught where the slots are σ and the heap is H -/
structure Catch (X : Cx) (pins : List (Addr × Obj)) (p : Addr) (cls : Value) (d : Option Addr) (σ : L2.St) (H : Hp) (s : Shared) : Prop where
  ok : X.Ok
  new : H p = none
  air : ∃ (B : Heap) (sI : Shared), Inv X pins σ H sI ∧ (∀ b o, sI.heap.get? b = some o → b ∉ frs X.stack → B.get? b = some o) ∧ sI.heap.UpToSlots s.heap ∧ s.os = sI.os ∧ AllBare s.gens ∧ HandSPX.FlyingZ B X.stack p (Zc cls d) s.heap
section
variable {X : Cx} {pins : List (Addr × Obj)} {p : Addr} {cls : Value} {d : Option Addr} {σ : L2.St} {H : Hp} {s : Shared} {D : Ends}
namespace Catch
/-- it is no frame of the stack, and it is new to the heap ahead -/
theorem out (c : Catch X pins p cls d σ H s) : p ∉ frs X.stack := fun m => by
  obtain ⟨B, sI, I, nb, up, os, ag, fl⟩ := c.air
  obtain ⟨ob, vs, e, _, hd⟩ := fl.there
  obtain ⟨o', o2, e2, q⟩ := fl.2.2.1.mem m
  cases Option.some.inj (e.symm.trans e2)
  exact q vs hd
theorem fresh (c : Catch X pins p cls d σ H s) : X.ex = [] → X.s_0.heap.get? p = none ∧ ∀ q ∈ X.pn ++ pins, q.1 ≠ p := by
  intro hx
  have out := c.out
  obtain ⟨B, sI, I, nb, up, os, ag, fl⟩ := c.air
  have unseen : ∀ o, sI.heap.get? p ≠ some o := fun o e => by
    have z := (nb p o e out).symm.trans fl.2.1
    cases z
  constructor
  · refine Option.eq_none_iff_forall_not_mem.mpr fun o e => ?_
    obtain ⟨o2, q⟩ := I.base.there p o e (by rw [hx]; exact List.not_mem_nil)
    exact unseen o2 q
  · exact fun q m z => unseen q.2 (z ▸ (I.pin q m).1)
end Catch
end
end DL
namespace DL
open PySem L2 PyProof.Rows
end DL
namespace DL
open PySem L2 PyProof.Rows
end DL
namespace DL
open PySem L2
def CdXD (pr : Program) (wd : PySem.World) (K : PySem.W.Frag) (gl : Str → Option Value) (bas : Heap) (R : Orc) (k : Nat) (x : Str) (n : Nat) (dds : List D) (S : SpX) : Prop :=
  ∃ (f : Addr) (fd : FuncData) (ps : List Str) (ds : List Value) (dvs : List V), FnX pr wd K gl bas k f fd ps (spX K gl R (n + dds.length) S) ∧ gl x = some (.ref f) ∧ PySem.W.keepIn K (.ref f) = true ∧ Binds K fd ps ds ∧ Vals dvs ds ∧ ∀ F, AtAll K F dvs dds
theorem CdXD.more {pr : Program} {wd : PySem.World} {K : PySem.W.Frag} {gl : Str → Option Value} {bas : Heap} {R : Orc} {j k : Nat} {x : Str} {n : Nat} {dds : List D} {S : SpX} (C : CdXD pr wd K gl bas R j x n dds S) (h : j ≤ k) : CdXD pr wd K gl bas R k x n dds S := by
  obtain ⟨f, fd, ps, ds, dvs, F, a, b, d, e, u⟩ := C
  exact ⟨f, fd, ps, ds, dvs, F.more h, a, b, d, e, u⟩
end DL
namespace DL
open PySem L2
end DL
namespace DL
open PySem L2 PySem.Spec PyProof.Rows
mutual
def nkD : D → Option NestedKey
  | .none => some .none
  | .int i => some (.num i)
  | .str x => some (.text x)
  | .tuple ds => (nkAll ds).map .tup
  | _ => none
def nkAll : List D → Option (List NestedKey)
  | [] => some []
  | d :: ds => match nkD d, nkAll ds with
    | some k, some ks => some (k :: ks)
    | _, _ => none
end
theorem nkAll_cons {d : D} {ds : List D} {ks : List NestedKey} (h : nkAll (d :: ds) = some ks) : ∃ k ks', nkD d = some k ∧ nkAll ds = some ks' ∧ ks = k :: ks' := by
  unfold nkAll at h
  split at h
  · rename_i k ks' h1 h2
    cases h
    exact ⟨k, ks', h1, h2, rfl⟩
  · cases h
mutual
theorem nk_inj : ∀ (d e : D) (k : NestedKey), nkD d = some k → nkD e = some k → d = e
  | .none, e, k, h1, h2 => by
    cases (show some NestedKey.none = some k from h1)
    cases e with
    | none => rfl
    | bool b => cases (show (none : Option NestedKey) = some _ from h2)
    | int i => cases (show some (NestedKey.num i) = some .none from h2)
    | str x => cases (show some (NestedKey.text x) = some .none from h2)
    | list xs => cases (show (none : Option NestedKey) = some _ from h2)
    | dict xs => cases (show (none : Option NestedKey) = some _ from h2)
    | tuple xs =>
      obtain ⟨ks, _, z⟩ := Option.map_eq_some_iff.mp (show (nkAll xs).map NestedKey.tup = some _ from h2)
      cases z
  | .bool b, e, k, h1, h2 => by cases (show (none : Option NestedKey) = some _ from h1)
  | .list xs, e, k, h1, h2 => by cases (show (none : Option NestedKey) = some _ from h1)
  | .dict xs, e, k, h1, h2 => by cases (show (none : Option NestedKey) = some _ from h1)
  | .int i, e, k, h1, h2 => by
    cases (show some (NestedKey.num i) = some k from h1)
    cases e with
    | none => cases (show some NestedKey.none = some (.num i) from h2)
    | bool b => cases (show (none : Option NestedKey) = some _ from h2)
    | int j => cases (show some (NestedKey.num j) = some (.num i) from h2); rfl
    | str x => cases (show some (NestedKey.text x) = some (.num i) from h2)
    | list xs => cases (show (none : Option NestedKey) = some _ from h2)
    | dict xs => cases (show (none : Option NestedKey) = some _ from h2)
    | tuple xs =>
      obtain ⟨ks, _, z⟩ := Option.map_eq_some_iff.mp (show (nkAll xs).map NestedKey.tup = some _ from h2)
      cases z
  | .str x, e, k, h1, h2 => by
    cases (show some (NestedKey.text x) = some k from h1)
    cases e with
    | none => cases (show some NestedKey.none = some (.text x) from h2)
    | bool b => cases (show (none : Option NestedKey) = some _ from h2)
    | int j => cases (show some (NestedKey.num j) = some (.text x) from h2)
    | str y => cases (show some (NestedKey.text y) = some (.text x) from h2); rfl
    | list xs => cases (show (none : Option NestedKey) = some _ from h2)
    | dict xs => cases (show (none : Option NestedKey) = some _ from h2)
    | tuple xs =>
      obtain ⟨ks, _, z⟩ := Option.map_eq_some_iff.mp (show (nkAll xs).map NestedKey.tup = some _ from h2)
      cases z
  | .tuple xs, e, k, h1, h2 => by
    obtain ⟨ks, h1', rfl⟩ := Option.map_eq_some_iff.mp (show (nkAll xs).map NestedKey.tup = some _ from h1)
    cases e with
    | none => cases (show some NestedKey.none = some (.tup ks) from h2)
    | bool b => cases (show (none : Option NestedKey) = some _ from h2)
    | int j => cases (show some (NestedKey.num j) = some (.tup ks) from h2)
    | str y => cases (show some (NestedKey.text y) = some (.tup ks) from h2)
    | list xs => cases (show (none : Option NestedKey) = some _ from h2)
    | dict xs => cases (show (none : Option NestedKey) = some _ from h2)
    | tuple ys =>
      obtain ⟨ks', h2', z⟩ := Option.map_eq_some_iff.mp (show (nkAll ys).map NestedKey.tup = some _ from h2)
      cases z
      rw [nkAll_inj xs ys ks h1' h2']
theorem nkAll_inj : ∀ (ds es : List D) (ks : List NestedKey), nkAll ds = some ks → nkAll es = some ks → ds = es
  | [], [], _, _, _ => rfl
  | [], e :: es, ks, h1, h2 => by
    obtain ⟨_, _, _, _, rfl⟩ := nkAll_cons h2
    cases (show some ([] : List NestedKey) = some _ from h1)
  | d :: ds, [], ks, h1, h2 => by
    obtain ⟨_, _, _, _, rfl⟩ := nkAll_cons h1
    cases (show some ([] : List NestedKey) = some _ from h2)
  | d :: ds, e :: es, ks, h1, h2 => by
    obtain ⟨k, ks', a1, a2, rfl⟩ := nkAll_cons h1
    obtain ⟨k', ks'', b1, b2, z⟩ := nkAll_cons h2
    cases z
    rw [nk_inj d e k a1 b1, nkAll_inj ds es ks' a2 b2]
end
abbrev NE (β : Type) := NestedKey × Addr × β
/-- a datum whose object is a key -/
def KeyAt (K : PySem.W.Frag) (F : Hp) (b : Addr) (k : NestedKey) (d : D) : Prop := At K F (.ref b) d ∧ nkD d = some k ∧ k.depth ≤ 8
def valN (xs : List (NE V)) (k : NestedKey) : Option V := (xs.find? fun p => decide (p.1 = k)).map (·.2.2)
theorem valN_some {xs : List (NE V)} {k : NestedKey} {v : V} (h : valN xs k = some v) : ∃ p ∈ xs, p.1 = k ∧ p.2.2 = v := by
  obtain ⟨p, hp, rfl⟩ := Option.map_eq_some_iff.mp h
  exact ⟨p, List.mem_of_find?_eq_some hp, by simpa using List.find?_some hp, rfl⟩
end DL
namespace DL
open PySem L2
section
variable {rs : SpD} {c : Cn} {w : PySem.World} {F H : Hp} {v0 v1 v2 : V} {a : Addr} {sc co : D} {ths : List D} {g : D → D}
/-- what the dict tells -/
def ThOk (K : PySem.W.Frag) (F : Hp) (g : D → D) (xs : List (NE V)) : Prop := ∀ p ∈ xs, ∃ d, KeyAt K F p.2.1 p.1 d ∧ At K F p.2.2 (g d)
theorem ThOk.mono {K : PySem.W.Frag} {F' : Hp} {xs : List (NE V)} (e : Ex F F') (h : ThOk K F g xs) : ThOk K F' g xs := fun p hp => let ⟨d, ⟨a, b, c⟩, z⟩ := h p hp; ⟨d, ⟨a.mono e, b, c⟩, z.mono e⟩
theorem ThOk.val {K : PySem.W.Frag} {xs : List (NE V)} {k : NestedKey} {v : V} {d : D} (h : ThOk K F g xs) (e : valN xs k = some v) (hk : nkD d = some k) : At K F v (g d) := by
  obtain ⟨p, mp, rfl, rfl⟩ := valN_some e
  obtain ⟨d', ⟨_, q, _⟩, z⟩ := h p mp
  rw [nk_inj d d' _ hk q]
  exact z
end
end DL
namespace DL
open PySem L2 PySem.Spec PyProof.Rows
end DL
namespace DL
open PySem L2 PySem.Spec PyProof.Rows
end DL
namespace DL
open PySem L2
end DL
namespace DL
open PySem L2
def rgOk (a b : Int) : Prop := -1000000 ≤ a ∧ a ≤ 1000000 ∧ -1000000 ≤ b ∧ b ≤ 1000000
theorem rgOk.ok {a b : Int} (h : rgOk a b) : RgOk a b := by
  obtain ⟨h1, h2, h3, h4⟩ := h
  exact ⟨by omega, by omega, by omega, by omega, by omega⟩
end DL
namespace DL
open PySem L2
end DL
namespace DL.Am
open PySem L2 DL
end DL.Am
namespace DL.Lz
open PySem Sem
section
variable {prog : Program} {w : PySem.World} {A : Around} {E : Value → Shared → Prop} {s : Shared} {z t u p q : Addr} {fa fb : List Addr} {na nb i : Nat} {Pa Pb : Nat → Value → Prop} {Sa Sb : Nat → Heap → Prop}
/-- where a zip stands: its parts, and no pair out or one that is alive -/
structure Zat (z t u p q L : Addr) (Sa Sb : Nat → Heap → Prop) (i : Nat) (h : Heap) : Prop where
  its : IsPair h t (.ref p) (.ref q)
  a : Sa i h
  b : Sb i h
  z : (IsZip h z t u .none ∧ ∃ x y, IsPair h u x y) ∨ ∃ (T : Addr) (f : Bool) (oT : Obj), IsZipHeld h z t u T f ∧ h.get? T = some oT ∧ T ≠ z ∧ T ≠ p ∧ T ≠ q ∧ T ≠ L
theorem Zat.keep {L : Addr} {h h' : Heap} {prog : Program} {w : PySem.World} {A : Around} (S : ZipSep2 z t u p q fa fb) (Da : Draws prog w A p fa na Pa Sa) (Db : Draws prog w A q fb nb Pb Sb) (st : Zat z t u p q L Sa Sb i h) (k : ∀ b o, b ≠ L → h.get? b = some o → h'.get? b = some o) (nz : L ≠ z) (nt : L ≠ t) (nu : L ≠ u) (na' : L ∉ fa) (nb' : L ∉ fb) : Zat z t u p q L Sa Sb i h' := by
  refine ⟨k _ _ (Ne.symm nt) st.its, Da.frame _ _ _ st.a fun b hb o e => k b o (fun x => na' (x ▸ hb)) e, Db.frame _ _ _ st.b fun b hb o e => k b o (fun x => nb' (x ▸ hb)) e, ?_⟩
  rcases st.z with ⟨hz, x0, y0, hu⟩ | ⟨T, f, oT, hz, hT, t1, t2, t3, t4⟩
  · exact .inl ⟨k _ _ (Ne.symm nz) hz, x0, y0, k _ _ (Ne.symm nu) hu⟩
  · exact .inr ⟨T, f, oT, k _ _ (Ne.symm nz) hz, k _ _ t4 hT, t1, t2, t3, t4⟩
end
end DL.Lz
namespace DL.Lz
open PySem PyProof.Rows L2 RZ
end DL.Lz
namespace DL
open PySem L2 PyProof.Rows
end DL
namespace DL.Lz
open PySem Sem PyProof.Rows L2 RZ
abbrev IsZf (h : Heap) (z t u : Addr) (v : Value) (f : Bool) : Prop := h.get? z = some { cls := .type "zip", dict := none, data := .fields #[v, .bool f, .bool false, .ref t, .ref u], slots := #[] }
section
variable {prog : Program} {w : PySem.World} {A : Around} {E : Value → Shared → Prop} {s : Shared} {z t u p q : Addr} {fa fb : List Addr} {na nb i : Nat} {Pa Pb : Nat → Value → Prop} {Sa Sb : Nat → Heap → Prop} {x0 y0 v : Value} {f : Bool}
/-- fresh, or with a pair out of which nothing is known -/
def Zn (z t u : Addr) (h : Heap) : Prop := ∃ v f, IsZf h z t u v f ∧ (v = .none ∨ ∃ T : Addr, v = rawInt T)
end
/-- how far both are gone -/
structure NmGone (z t u p q a b : Addr) (n : Nat) (h : Heap) : Prop where
  zip : Zn z t u h
  its : IsPair h t (.ref p) (.ref q)
  two : ∃ x y, IsPair h u x y
  fst : h.IsTupleIter p a n
  snd : h.IsTupleIter q b n
section
variable {z t u p q a b : Addr} {n : Nat} {h h' : Heap}
theorem NmGone.there (m : NmGone z t u p q a b n h) {c : Addr} (hc : c ∈ [z, t, u, p, q]) : ∃ o, h.get? c = some o ∧ ∀ v, o.data ≠ .cell v := by
  obtain ⟨⟨v1, f1, k1, _⟩, k2, ⟨x, y, k3⟩, ⟨o4, e4, _, f4⟩, ⟨o5, e5, _, f5⟩⟩ := m
  refine five (P := fun c => ∃ o, h.get? c = some o ∧ ∀ v, o.data ≠ .cell v) hc ⟨_, k1, nofun⟩ ⟨_, k2, nofun⟩ ⟨_, k3, nofun⟩ ⟨o4, e4, fun v e => ?_⟩ ⟨o5, e5, fun v e => ?_⟩
  · rw [f4] at e
    cases e
  · rw [f5] at e
    cases e
end
end DL.Lz
namespace DL
open PySem L2 PyProof.Rows
def Zk (H : Hp) (v : V) : Prop := ∃ (a : Addr) (o : Obj) (u : HO), v = .ref a ∧ H a = some (.frz o u) ∧ o.cls = .type "tuple" ∧ o.dict = none
/-- what a def promises that hands out such a tuple -/
def spZ (K : PySem.W.Frag) (R : Orc) (n : Nat) (S : SpD) : Sp := fun vs H Q _ => ∃ (q : Option Addr) (F : Hp) (as : List Ar) (m : Nat) (P : D → Nat → Prop), World R q F H F H ∧ Paired (ArAt ⟨K, R, q, F, H⟩ F) vs as ∧ as.length = n ∧ oraAt as ∧ (q = none ∨ as[0]? = some .ora) ∧ (∀ p, q = some p → R.cnt p H ≤ m) ∧ S as m P ∧
  ∀ d m' v F' H', P d m' → World R q F H F' H' → (∀ p, q = some p → R.cnt p H' ≤ m') → At K F' v d → Zk H' v → Q v H'
def CdZ (pr : Program) (wd : PySem.World) (K : PySem.W.Frag) (gl : Str → Option Value) (bas : Heap) (R : Orc) (k : Nat) (x : Str) (n : Nat) (S : SpD) : Prop :=
  ∃ (f : Addr) (fd : FuncData) (ps : List Str), FnG pr wd K gl bas k f fd ps (spZ K R n S) ∧ gl x = some (.ref f) ∧ PySem.W.keepIn K (.ref f) = true ∧ Binds K fd ps []
section
variable {pr : Program} {wd : PySem.World} {K : PySem.W.Frag} {gl : Str → Option Value} {bas : Heap} {R : Orc} {j k n : Nat} {x : Str} {S : SpD}
theorem CdZ.more (C : CdZ pr wd K gl bas R j x n S) (h : j ≤ k) : CdZ pr wd K gl bas R k x n S := by
  obtain ⟨f, fd, ps, F, rest⟩ := C
  exact ⟨f, fd, ps, F.more h, rest⟩
end
end DL
namespace DL.Ms
open PySem L2 PySem.Spec PyProof.Rows
end DL.Ms
namespace DL
open PySem L2 PySem.Spec PyProof.Rows
end DL
namespace DL
open PySem L2
end DL
namespace DL
open PySem L2
end DL
namespace DL
open PySem L2 PyProof.Rows
abbrev TD := List (List Key × D)
/-- what stands in the heap's dict, entry by entry -/
def TAt (K : PySem.W.Frag) (F : Hp) (kvs : List (List Key × V)) (xs : TD) : Prop := Paired (fun (p : List Key × V) (q : List Key × D) => p.1 = q.1 ∧ At K F p.2 q.2) kvs xs
section
variable {K : PySem.W.Frag} {F F' H : Hp} {a : Addr}
theorem TAt.mono (e : Ex F F') {kvs : List (List Key × V)} {xs : TD} (h : TAt K F kvs xs) : TAt K F' kvs xs := by
  unfold TAt at h ⊢
  induction h with
  | nil => exact .nil
  | cons h t ih => exact .cons ⟨h.1, h.2.mono e⟩ ih
end
end DL
namespace DL
open PySem L2
end DL
namespace DL
open PySem L2
section
variable {X : Cx} {c : Cn}
/-- arguments, some of them slots -/
abbrev Ar2 := Ar ⊕ Nat
abbrev AM2 := Env → (List Ar2 → Env → Prop) → Prop
def A2At (c : Cn) (F : Hp) (σ : L2.St) : V → Ar2 → Prop
  | v, .inl x => ArAt c F v x
  | v, .inr i => σ[i]? = some (some v)
theorem A2At.mono {F F' : Hp} {σ : L2.St} (e : Ex F F') {v : V} {x : Ar2} (h : A2At c F σ v x) : A2At c F' σ v x := by
  cases x with
  | inl x => exact ArAt.mono e h
  | inr i => exact h
variable {e : Expr} {es : List Expr}
variable {k : Nat} {f : Addr} {fd : FuncData} {ps : List Str} {S : SpD} {x : Str} {p pos : Pos} {fa : AM2} {n i : Nat}
end
end DL
namespace DL
open PySem L2
end DL
namespace DL
open PySem L2
end DL
namespace DL
open PySem L2 PyProof.Rows
end DL
namespace Q80
open PySem L2 DL
/-- the law's numbers: some integer below the total -/
def s_next : SpD := fun as m P => ∃ n : Int, as = [.ora, .d (.int n)] ∧ 0 < n ∧ n < 1073741824 ∧ m < 1048576 ∧ ∀ i : Int, 0 ≤ i → i < n → P (.int i) (m + 1)
/-- is_integer(thing), slots 0 thing -/
def g_is_integer : SM := sRet (dAnd (dIsi "int" (hS 0)) (dNot (dIsi "bool" (hS 0))))
def r_is_integer : SpD := raw g_is_integer 1
/-- is_within(thing, least, most), slots 0 thing 1 least 2 most -/
def g_is_within : SM := sRet (dAnd (dCall 1 r_is_integer (aCons (dV 0) (aNil))) (dChain gLe gLe (hS 1) (hS 0) (hS 2)))
def r_is_within : SpD := raw g_is_within 3
/-- is_tuple(thing, least, most), slots 0 thing 1 least 2 most -/
def g_is_tuple : SM := sRet (dAnd (dIsi "tuple" (hS 0)) (dChain gLe gLe (hS 1) (hV (dCB gLen (DL.gCons (hS 0) (DL.gNil)))) (hS 2)))
def r_is_tuple : SpD := raw g_is_tuple 3
/-- is_one_of(thing, words), slots 0 thing 1 words -/
def g_is_one_of : SM := sRet (dAnd (dIsi "str" (hS 0)) (d2 gInU (hS 0) (hS 1)))
def r_is_one_of : SpD := raw g_is_one_of 2
/-- is_sign(sign, lowest), slots 0 sign 1 lowest -/
def g_is_sign : SM := sRet (dAnd (dChain gLe gLe (hS 1) (hV (dCB gOrd (DL.gCons (hS 0) (DL.gNil)))) (hV (dC (.int 126)))) (d2 gNe (hV (dCB gOrd (DL.gCons (hS 0) (DL.gNil)))) (hV (dC (.int 37)))))
def r_is_sign : SpD := raw g_is_sign 2
/-- has_signs(thing, lowest), slots 0 thing 1 lowest 2 sign -/
def g_has_signs : SM := sSeq (sIf (bOr (bNot (bTruth (hV (dIsi "str" (hS 0))))) (bNot (bD (dChain gLe gLe (hV (dC (.int 1))) (hV (dCB gLen (DL.gCons (hS 0) (DL.gNil)))) (hV (dC (.int 40))))))) (sRet (dC (.bool false))) (sNo)) (sRet (dCB gAll (DL.gCons (hV (dLc (iSeq (dV 0)) (gN 2) (bYes) (dCall 2 r_is_sign (aCons (dV 2) (aCons (dV 1) (aNil)))) [2])) (DL.gNil))))
def r_has_signs : SpD := raw g_has_signs 3
/-- _is_line(thing), slots 0 thing -/
def g__is_line : SM := sRet (dAnd (dCall 2 r_has_signs (aCons (dV 0) (aCons (dC (.int 32)) (aNil)))) (dAnd (d2 gNe (hV (d2 gIx (hS 0) (hV (dC (.int 0))))) (hV (dC (.str (" " : Str))))) (d2 gNe (hV (d2 gIx (hS 0) (hV (dNeg (dC (.int 1)))))) (hV (dC (.str (" " : Str)))))))
def r__is_line : SpD := raw g__is_line 1
/-- is_text(thing), slots 0 thing 1 line -/
def g_is_text : SM := sRet (dAnd (dCall 3 r_is_tuple (aCons (dV 0) (aCons (dC (.int 1)) (aCons (dC (.int 4)) (aNil))))) (dCB gAll (DL.gCons (hV (dLc (iSeq (dV 0)) (gN 1) (bYes) (dCall 1 r__is_line (aCons (dV 1) (aNil))) [1])) (DL.gNil))))
def r_is_text : SpD := raw g_is_text 2
/-- is_cue(thing), slots 0 thing -/
def g_is_cue : SM := sSeq (sIf (bOr (bNot (bTruth (hV (dCall 3 r_is_tuple (aCons (dV 0) (aCons (dC (.int 3)) (aCons (dC (.int 3)) (aNil)))))))) (bNot (bTruth (hV (dCall 3 r_is_within (aCons (d2 gIx (hS 0) (hV (dC (.int 0)))) (aCons (dC (.int 0)) (aCons (dC (.int 1000000000000)) (aNil))))))))) (sRet (dC (.bool false))) (sNo)) (sRet (dAnd (dCall 3 r_is_within (aCons (d2 gIx (hS 0) (hV (dC (.int 1)))) (aCons (d2 gAdd (hV (d2 gIx (hS 0) (hV (dC (.int 0))))) (hV (dC (.int 1)))) (aCons (dC (.int 1000000000000)) (aNil))))) (dCall 1 r_is_text (aCons (d2 gIx (hS 0) (hV (dC (.int 2)))) (aNil)))))
def r_is_cue : SpD := raw g_is_cue 1
/-- need_file(thing), slots 0 thing 1 number 2 cue -/
def g_need_file : SM := sSeq (sIf (bNot (bTruth (hV (dCall 3 r_is_tuple (aCons (dV 0) (aCons (dC (.int 0)) (aCons (dC (.int 60)) (aNil)))))))) (sNever) (sNo)) (sSeq (sFor (iEn (lCons (dV 0) (lNil))) (gTupT 2 (gConsT (gN 1) (gConsT (gN 2) (gNoT)))) (sIf (bNot (bTruth (hV (dCall 1 r_is_cue (aCons (dV 2) (aNil)))))) (sNever) (sNo))) (sRet (dV 0)))
def r_need_file : SpD := raw g_need_file 3
/-- _is_step(thing), slots 0 thing -/
def g__is_step : SM := sSeq (sIf (bOr (bNot (bTruth (hV (dCall 3 r_is_tuple (aCons (dV 0) (aCons (dC (.int 3)) (aCons (dC (.int 3)) (aNil)))))))) (bNot (bTruth (hV (dCall 2 r_is_one_of (aCons (d2 gIx (hS 0) (hV (dC (.int 2)))) (aCons (dC (.tuple ([("down" : Str), ("up" : Str), ("near" : Str)].map PyData.str))) (aNil)))))))) (sRet (dC (.bool false))) (sNo)) (sRet (dAnd (dCall 3 r_is_within (aCons (d2 gIx (hS 0) (hV (dC (.int 0)))) (aCons (dC (.int 1)) (aCons (dC (.int 2000)) (aNil))))) (dCall 3 r_is_within (aCons (d2 gIx (hS 0) (hV (dC (.int 1)))) (aCons (dC (.int 1)) (aCons (dC (.int 2000)) (aNil)))))))
def r__is_step : SpD := raw g__is_step 1
/-- need_chain(thing), slots 0 thing 1 product 2 number 3 step -/
def g_need_chain : SM := sSeq (sIf (bNot (bTruth (hV (dCall 3 r_is_tuple (aCons (dV 0) (aCons (dC (.int 0)) (aCons (dC (.int 4)) (aNil)))))))) (sNever) (sNo)) (sSeq (sSet 1 (dC (.int 1))) (sSeq (sFor (iEn (lCons (dV 0) (lNil))) (gTupT 2 (gConsT (gN 2) (gConsT (gN 3) (gNoT)))) (sSeq (sIf (bNot (bTruth (hV (dCall 1 r__is_step (aCons (dV 3) (aNil)))))) (sNever) (sNo)) (sSeq (sAug 1 gImul (hV (d2 gIx (hS 3) (hV (dC (.int 1)))))) (sIf (bD (d2 gGt (hS 1) (hV (dC (.int 100000))))) (sNever) (sNo))))) (sRet (dV 0))))
def r_need_chain : SpD := raw g_need_chain 4
/-- _quotient(top, bottom, rounding), slots 0 top 1 bottom 2 rounding -/
def g__quotient : SM := sSeq (sIf (bD (d2 gEq (hS 2) (hV (dC (.str ("up" : Str)))))) (sRet (dNeg (d2 gDiv (hV (dNeg (dV 0))) (hS 1)))) (sNo)) (sSeq (sIf (bD (d2 gEq (hS 2) (hV (dC (.str ("near" : Str)))))) (sRet (d2 gDiv (hV (d2 gAdd (hV (d2 gMul (hV (dC (.int 2))) (hS 0))) (hS 1))) (hV (d2 gMul (hV (dC (.int 2))) (hS 1))))) (sNo)) (sRet (d2 gDiv (hS 0) (hS 1))))
def r__quotient : SpD := raw g__quotient 3
/-- _moved(chain, frame), slots 0 chain 1 frame 2 top 3 bottom 4 rounding -/
def g__moved : SM := sSeq (sFor (iSeq (dV 0)) (gTupT 3 (gConsT (gN 2) (gConsT (gN 3) (gConsT (gN 4) (gNoT))))) (sSet 1 (dCall 3 r__quotient (aCons (d2 gMul (hS 1) (hS 2)) (aCons (dV 3) (aCons (dV 4) (aNil))))))) (sRet (dV 1))
def r__moved : SpD := raw g__moved 5
/-- moved(chain, frame), slots 0 chain 1 frame -/
def g_moved : SM := sSeq (sExpr (dCall 1 r_need_chain (aCons (dV 0) (aNil)))) (sSeq (sIf (bNot (bTruth (hV (dCall 3 r_is_within (aCons (dV 1) (aCons (dC (.int 0)) (aCons (dC (.int 1000000000000)) (aNil)))))))) (sNever) (sNo)) (sRet (dCall 2 r__moved (aCons (dV 0) (aCons (dV 1) (aNil))))))
def r_moved : SpD := raw g_moved 2
/-- _bottom(chain), slots 0 chain 1 product 2 step -/
def g__bottom : SM := sSeq (sSet 1 (dC (.int 1))) (sSeq (sFor (iSeq (dV 0)) (gN 2) (sAug 1 gImul (hV (d2 gIx (hS 2) (hV (dC (.int 1))))))) (sRet (dV 1)))
def r__bottom : SpD := raw g__bottom 3
/-- _primes_of(number), slots 0 number 1 primes 2 prime -/
def g__primes_of : SM := sSeq (sSetN 1 (dLst (lNil))) (sSeq (sSet 2 (dC (.int 2))) (sSeq (sWhile (bD (d2 gGt (hS 0) (hV (dC (.int 1))))) (sSeq (sWhile (bD (d2 gEq (hV (d2 gMod (hS 0) (hS 2))) (hV (dC (.int 0))))) (sSeq (sApp 1 (dV 2)) (sAug 0 gIdiv (hS 2)))) (sAug 2 gIadd (hV (dC (.int 1)))))) (sRet (dV 1))))
def r__primes_of : SpD := raw g__primes_of 3
/-- _comes_again(rises, many), slots 0 rises 1 many -/
def g__comes_again : SM := sRet (d2 gEq (hV (d2 gAdd (hV (dSl (hS 0) (oI (dV 1)) (oNo))) (hV (dSl (hS 0) (oNo) (oI (dV 1)))))) (hS 0))
def r__comes_again : SpD := raw g__comes_again 2
/-- period(chain), slots 0 chain 1 many 2 frames 3 rises 4 prime 5 frame 6 ahead 7 after -/
def g_period : SM := sSeq (sExpr (dCall 1 r_need_chain (aCons (dV 0) (aNil)))) (sSeq (sSet 1 (dCall 1 r__bottom (aCons (dV 0) (aNil)))) (sSeq (sSet 2 (dLc (iRange1 (lCons (d2 gAdd (hS 1) (hV (dC (.int 1)))) (lNil))) (gN 5) (bYes) (dCall 2 r__moved (aCons (dV 0) (aCons (dV 5) (aNil)))) [5])) (sSeq (sSet 3 (dLc (iZp (lCons (dV 2) (lCons (dSl (hS 2) (oI (dC (.int 1))) (oNo)) (lNil)))) (gTupT 2 (gConsT (gN 6) (gConsT (gN 7) (gNoT)))) (bYes) (d2 DL.gSub (hS 7) (hS 6)) [6, 7])) (sSeq (sFor (iSeq (dCall 1 r__primes_of (aCons (dV 1) (aNil)))) (gN 4) (sIf (bTruth (hV (dCall 2 r__comes_again (aCons (dV 3) (aCons (d2 gDiv (hS 1) (hS 4)) (aNil)))))) (sAug 1 gIdiv (hS 4)) (sNo))) (sRet (dTup (lCons (dV 1) (lCons (d2 gIx (hS 2) (hS 1)) (lNil)))))))))
def r_period : SpD := raw g_period 8
/-- _first_apart(one, other, last), slots 0 one 1 other 2 last 3 frame -/
def g__first_apart : SM := sSeq (sFor (iRange1 (lCons (d2 gAdd (hS 2) (hV (dC (.int 1)))) (lNil))) (gN 3) (sIf (bD (d2 gNe (hV (dCall 2 r__moved (aCons (dV 0) (aCons (dV 3) (aNil))))) (hV (dCall 2 r__moved (aCons (dV 1) (aCons (dV 3) (aNil))))))) (sRet (dV 3)) (sNo))) (sRet (dC .none))
def r__first_apart : SpD := raw g__first_apart 4
/-- comes_back(chain), slots 0 chain -/
def g_comes_back : SM := sSeq (sExpr (dCall 1 r_need_chain (aCons (dV 0) (aNil)))) (sRet (d2 gIs (hV (dCall 3 r__first_apart (aCons (dV 0) (aCons (dTup (lNil)) (aCons (dCall 1 r__bottom (aCons (dV 0) (aNil))) (aNil)))))) (hV (dC .none))))
def r_comes_back : SpD := raw g_comes_back 1
/-- least_kept(chain), slots 0 chain 1 longest 2 many 3 ahead 4 frame 5 here -/
def g_least_kept : SM := sSeq (sExpr (dCall 1 r_need_chain (aCons (dV 0) (aNil)))) (sSeq (sSet 1 (dC (.int 0))) (sSeq (sSet 2 (dC (.int 0))) (sSeq (sSet 3 (dC .none)) (sSeq (sFor (iRange1 (lCons (d2 gMul (hV (dC (.int 2))) (hV (dCall 1 r__bottom (aCons (dV 0) (aNil))))) (lNil))) (gN 4) (sSeq (sSet 5 (dCall 2 r__moved (aCons (dV 0) (aCons (dV 4) (aNil))))) (sSeq (sIf (bD (d2 gEq (hS 5) (hS 3))) (sAug 2 gIadd (hV (dC (.int 1)))) (sSet 2 (dC (.int 1)))) (sSeq (sSet 1 (dCB gMax (DL.gCons (hS 1) (DL.gCons (hS 2) (DL.gNil))))) (sSet 3 (dV 5)))))) (sRet (dV 1))))))
def r_least_kept : SpD := raw g_least_kept 6
/-- moved_file(chain, file), slots 0 chain 1 file 2 cues 3 start 4 end 5 text 6 cue -/
def g_moved_file : SM := sSeq (sExpr (dCall 1 r_need_chain (aCons (dV 0) (aNil)))) (sSeq (sExpr (dCall 1 r_need_file (aCons (dV 1) (aNil)))) (sSeq (sSet 2 (dLc (iSeq (dV 1)) (gTupT 3 (gConsT (gN 3) (gConsT (gN 4) (gConsT (gN 5) (gNoT))))) (bYes) (dTup (lCons (dCall 2 r__moved (aCons (dV 0) (aCons (dV 3) (aNil)))) (lCons (dCall 2 r__moved (aCons (dV 0) (aCons (dV 4) (aNil)))) (lCons (dV 5) (lNil))))) [3, 4, 5])) (sSeq (sIf (bTruth (hV (dCB gAny (DL.gCons (hV (dLc (iSeq (dV 2)) (gN 6) (bYes) (d2 gGt (hV (d2 gIx (hS 6) (hV (dC (.int 1))))) (hV (dC (.int 1000000000000)))) [6])) (DL.gNil))))) (sNever) (sNo)) (sRet (dCB gTuple (DL.gCons (hV (dLc (iSeq (dV 2)) (gN 6) (bD (d2 gLt (hV (d2 gIx (hS 6) (hV (dC (.int 0))))) (hV (d2 gIx (hS 6) (hV (dC (.int 1))))))) (dV 6) [6])) (DL.gNil)))))))
def r_moved_file : SpD := raw g_moved_file 7
/-- _law_mix(_law_cell, _law_spot), slots 0 _law_cell 1 _law_spot 2 _law_first 3 _law_second -/
def g__law_mix : SM := sSeq (sSet 2 (d2 gMod (hV (dCB gInt (DL.gCons (hV (d2 gAdd (hV (d2 gAdd (hV (d2 gMul (hS 0) (hV (dC (.int 40503))))) (hV (d2 gMul (hS 1) (hV (dC (.int 69069))))))) (hV (dC (.int 12345))))) (DL.gNil)))) (hV (dC (.int 2147483647))))) (sSeq (sSet 3 (d2 gMod (hV (dCB gInt (DL.gCons (hV (d2 gAdd (hV (d2 gAdd (hV (d2 gMul (hS 2) (hV (dC (.int 48271))))) (hS 0))) (hS 1))) (DL.gNil)))) (hV (dC (.int 2147483647))))) (sRet (d2 gMod (hV (dCB gInt (DL.gCons (hV (d2 gAdd (hV (d2 gMul (hS 3) (hV (dC (.int 16807))))) (hV (d2 gMul (hV (d2 gMul (hS 1) (hS 1))) (hV (dC (.int 7919))))))) (DL.gNil)))) (hV (dC (.int 2147483647))))))
def r__law_mix : SpD := raw g__law_mix 4
/-- _law_divisor(_law_one, _law_other), slots 0 _law_one 1 _law_other -/
def g__law_divisor : SM := sSeq (sPar 0 1 (lCons (dCB gAbs (DL.gCons (hS 0) (DL.gNil))) (lCons (dCB gAbs (DL.gCons (hS 1) (DL.gNil))) (lNil)))) (sSeq (sWhile (bD (d2 gGt (hS 1) (hV (dC (.int 0))))) (sPar 0 1 (lCons (dV 1) (lCons (d2 gMod (hV (dCB gInt (DL.gCons (hS 0) (DL.gNil)))) (hS 1)) (lNil))))) (sRet (dV 0)))
def r__law_divisor : SpD := raw g__law_divisor 2
/-- _law_backs(_law_n, _law_d), slots 0 _law_n 1 _law_d 2 _law_found 3 _law_whole 4 _law_half -/
def g__law_backs : SM := sSeq (sPar 3 4 (lCons (d2 gEq (hS 1) (hV (dC (.int 1)))) (lCons (d2 gMul (hV (dC (.int 2))) (hV (d2 DL.gSub (hS 1) (hV (dC (.int 1)))))) (lNil)))) (sSeq (sSet 2 (dLst (lCons (dTup (lCons (dC (.str ("near" : Str))) (lCons (dC (.str ("near" : Str))) (lCons (d2 gGe (hS 0) (hS 1)) (lNil))))) (lCons (dTup (lCons (dC (.str ("down" : Str))) (lCons (dC (.str ("up" : Str))) (lCons (d2 gGe (hS 0) (hS 1)) (lNil))))) (lCons (dTup (lCons (dC (.str ("up" : Str))) (lCons (dC (.str ("down" : Str))) (lCons (d2 gGe (hS 0) (hS 1)) (lNil))))) (lCons (dTup (lCons (dC (.str ("down" : Str))) (lCons (dC (.str ("down" : Str))) (lCons (dV 3) (lNil))))) (lNil))))))) (sRet (d2 gAdd (hS 2) (hV (dLst (lCons (dTup (lCons (dC (.str ("up" : Str))) (lCons (dC (.str ("up" : Str))) (lCons (dV 3) (lNil))))) (lCons (dTup (lCons (dC (.str ("down" : Str))) (lCons (dC (.str ("near" : Str))) (lCons (d2 gLe (hS 4) (hS 0)) (lNil))))) (lCons (dTup (lCons (dC (.str ("up" : Str))) (lCons (dC (.str ("near" : Str))) (lCons (dOr (d2 gLt (hS 4) (hS 0)) (dV 3)) (lNil))))) (lNil)))))))))
def r__law_backs : SpD := raw g__law_backs 5
/-- _law_short(_law_word, _law_n, _law_d, _law_size), slots 0 _law_word 1 _law_n 2 _law_d 3 _law_size 4 _law_frame -/
def g__law_short : SM := sSeq (sFor (iRange1 (lCons (dV 2) (lNil))) (gN 4) (sIf (bD (d2 gEq (hV (dCall 2 r_moved (aCons (dTup (lCons (dTup (lCons (dV 1) (lCons (dV 2) (lCons (dV 0) (lNil))))) (lNil))) (aCons (dV 4) (aNil))))) (hV (dCall 2 r_moved (aCons (dTup (lCons (dTup (lCons (dV 1) (lCons (dV 2) (lCons (dV 0) (lNil))))) (lNil))) (aCons (d2 gAdd (hS 4) (hS 3)) (aNil))))))) (sRet (dV 4)) (sNo))) (sRet (dC .none))
def r__law_short : SpD := raw g__law_short 5
/-- law behind its first row, slots 0 _law_script 1 _law_m 2 _law_turn 3 _law_many 4 _law_part 5 _law_kept 6 _law_word 7 _law_n 8 _law_d 9 _law_low 10 _law_high 11 _law_there 12 _law_back 13 _law_due 14 _law_leg 15 _law_k 16 _law_told 17 _law_frame 18 _law_gone 19 _law_begin 20 _law_rows 21 _law_size 22 _law_one -/
def g_law : SM := sSeq (sFor (iRange1 (lCons (d2 gAdd (hV (dC (.int 2))) (hV (dCB gMin (DL.gCons (hV (dC (.int 4))) (DL.gCons (hV (dCB gLen (DL.gCons (hS 0) (DL.gNil)))) (DL.gNil)))))) (lNil))) (gN 2) (sSeq (sSet 3 (d2 gAdd (hV (dC (.int 1))) (hV (dCallO 1 2 s_next (aOra 1 (aCons (dC (.int 3)) (aNil))))))) (sSeq (sPar 7 8 (lCons (d2 gAdd (hV (dC (.int 1))) (hV (dCallO 1 2 s_next (aOra 1 (aCons (dC (.int 20)) (aNil)))))) (lCons (d2 gAdd (hV (dC (.int 1))) (hV (dCallO 1 2 s_next (aOra 1 (aCons (dC (.int 20)) (aNil)))))) (lNil)))) (sSeq (sSet 4 (dCall 2 r__law_divisor (aCons (dV 7) (aCons (dV 8) (aNil))))) (sSeq (sPar 9 10 (lCons (d2 gDiv (hS 7) (hS 4)) (lCons (d2 gDiv (hS 8) (hS 4)) (lNil)))) (sSeq (sPar 7 8 (lCons (d2 gMul (hS 9) (hS 3)) (lCons (d2 gMul (hS 10) (hS 3)) (lNil)))) (sSeq (sFor (iSeq (dCall 2 r__law_backs (aCons (dV 9) (aCons (dV 10) (aNil))))) (gTupT 3 (gConsT (gN 11) (gConsT (gN 12) (gConsT (gN 13) (gNoT))))) (sIf (bD (d2 gNeS (hV (dCB gReprB (DL.gCons (hV (dCall 1 r_comes_back (aCons (dTup (lCons (dTup (lCons (dV 7) (lCons (dV 8) (lCons (dV 11) (lNil))))) (lCons (dTup (lCons (dV 8) (lCons (dV 7) (lCons (dV 12) (lNil))))) (lNil)))) (aNil)))) (DL.gNil)))) (hV (dCB gReprB (DL.gCons (hS 13) (DL.gNil)))))) (sRet (dC (.bool false))) (sNo))) (sSeq (sSet 5 (d2 DL.gSub (hV (dC (.int 0))) (hV (d2 gDiv (hV (d2 DL.gSub (hV (dC (.int 0))) (hS 10))) (hS 9))))) (sFor (iSeq (dTup (lCons (dC (.str ("down" : Str))) (lCons (dC (.str ("up" : Str))) (lCons (dC (.str ("near" : Str))) (lNil)))))) (gN 6) (sSeq (sSet 14 (dTup (lCons (dV 7) (lCons (dV 8) (lCons (dV 6) (lNil)))))) (sSeq (sIf (bOr (bD (d2 gNe (hV (dCall 1 r_least_kept (aCons (dTup (lCons (dV 14) (lNil))) (aNil)))) (hS 5))) (bD (d2 gNe (hV (dCall 1 r_period (aCons (dTup (lCons (dV 14) (lNil))) (aNil)))) (hV (dTup (lCons (dV 10) (lCons (dV 9) (lNil)))))))) (sRet (dC (.bool false))) (sNo)) (sSeq (sIf (bAnd (bD (d2 gGt (hS 5) (hV (dC (.int 1))))) (bD (d2 gIs (hV (dCall 4 r__law_short (aCons (dV 6) (aCons (dV 9) (aCons (dV 10) (aCons (d2 DL.gSub (hS 5) (hV (dC (.int 1)))) (aNil))))))) (hV (dC .none))))) (sRet (dC (.bool false))) (sNo)) (sSeq (sParIN 19 20 (dCallO 1 2 s_next (aOra 1 (aCons (dC (.int 30)) (aNil)))) (dLst (lNil))) (sSeq (sFor (iRange1 (lCons (dC (.int 4)) (lNil))) (gN 15) (sSeq (sSet 21 (d2 gAdd (hS 5) (hV (dCallO 1 2 s_next (aOra 1 (aCons (dC (.int 9)) (aNil))))))) (sSeq (sApp 20 (dTup (lCons (dV 19) (lCons (d2 gAdd (hS 19) (hS 21)) (lCons (dTup (lCons (d2 gIx (hV (dC (.str ("abcd" : Str)))) (hS 15)) (lNil))) (lNil)))))) (sSet 19 (d2 gAdd (hS 19) (hV (dCallO 1 2 s_next (aOra 1 (aCons (d2 gMul (hV (dC (.int 2))) (hS 21)) (aNil)))))))))) (sSeq (sSet 16 (dCall 2 r_moved_file (aCons (dTup (lCons (dV 14) (lNil))) (aCons (dCB gTuple (DL.gCons (hS 20) (DL.gNil))) (aNil))))) (sSeq (sSet 13 (dLc (iSeq (dV 20)) (gN 22) (bYes) (dTup (lCons (dCall 2 r_moved (aCons (dTup (lCons (dV 14) (lNil))) (aCons (d2 gIx (hS 22) (hV (dC (.int 0)))) (aNil)))) (lCons (dCall 2 r_moved (aCons (dTup (lCons (dV 14) (lNil))) (aCons (d2 gIx (hS 22) (hV (dC (.int 1)))) (aNil)))) (lCons (d2 gIx (hS 22) (hV (dC (.int 2)))) (lNil))))) [22])) (sSeq (sIf (bOr (bD (d2 gNe (hS 16) (hV (dCB gTuple (DL.gCons (hS 13) (DL.gNil)))))) (bD (d2 gNe (hV (dCB gLen (DL.gCons (hS 16) (DL.gNil)))) (hV (dCB gLen (DL.gCons (hS 20) (DL.gNil))))))) (sRet (dC (.bool false))) (sNo)) (sSeq (sIf (bAnd (bD (d2 gGe (hS 9) (hS 10))) (bAnd (bD (d2 gEq (hS 6) (hV (dC (.str ("near" : Str)))))) (bD (d2 gNe (hV (dCall 2 r_moved_file (aCons (dTup (lCons (dTup (lCons (dV 8) (lCons (dV 7) (lCons (dV 6) (lNil))))) (lNil))) (aCons (dV 16) (aNil))))) (hV (dCB gTuple (DL.gCons (hS 20) (DL.gNil)))))))) (sRet (dC (.bool false))) (sNo)) (sSeq (sSet 17 (dIf (bD (d2 gGt (hS 5) (hV (dC (.int 1))))) (dCall 4 r__law_short (aCons (dV 6) (aCons (dV 9) (aCons (dV 10) (aCons (d2 DL.gSub (hS 5) (hV (dC (.int 1)))) (aNil)))))) (dC (.int 0)))) (sSeq (sSet 18 (dCall 2 r_moved_file (aCons (dTup (lCons (dV 14) (lNil))) (aCons (dTup (lCons (dTup (lCons (dV 17) (lCons (d2 gAdd (hS 17) (hV (dCB gMax (DL.gCons (hV (dC (.int 1))) (DL.gCons (hV (d2 DL.gSub (hS 5) (hV (dC (.int 1))))) (DL.gNil)))))) (lCons (dTup (lCons (dC (.str ("e" : Str))) (lNil))) (lNil))))) (lNil))) (aNil))))) (sIf (bAnd (bD (d2 gGt (hS 5) (hV (dC (.int 1))))) (bD (d2 gNe (hS 18) (hV (dTup (lNil)))))) (sRet (dC (.bool false))) (sNo)))))))))))))))))))))) (sRet (dC (.bool true)))
def lawSays (ns : List Int) : Prop := g_law ⟨fun _ => False, fun d _ => d = .bool true, fun _ => False, fun _ => False⟩ [.im (.list (ns.map PyData.int)), .ora 0, .no, .no, .no, .no, .no, .no, .no, .no, .no, .no, .no, .no, .no, .no, .no, .no, .no, .no, .no, .no, .no]
end Q80
namespace Q80
open PySem L2 DL
def topS (i : Nat) : Stmt := PySem.Challenge.pw_captionhouse_k80_whole_rates_there_and_b.main.body.getD i (.Pass ⟨0, 0, 0, 0⟩)
structure Tx (K : PySem.W.Frag) (gl : Str → Option Value) : Prop where
  n_abs : gl "abs" = none
  n_all : gl "all" = none
  n_any : gl "any" = none
  n_bool : gl "bool" = none
  n_enumerate : gl "enumerate" = none
  n_int : gl "int" = none
  n_isinstance : gl "isinstance" = none
  n_len : gl "len" = none
  n_list : gl "list" = none
  n_max : gl "max" = none
  n_min : gl "min" = none
  n_ord : gl "ord" = none
  n_range : gl "range" = none
  n_repr : gl "repr" = none
  n_str : gl "str" = none
  n_tuple : gl "tuple" = none
  n_zip : gl "zip" = none
  c_LOWEST_OF_LINES : ∃ t, gl "LOWEST_OF_LINES" = some (.int 32 t)
  c_MOST_CUES : ∃ t, gl "MOST_CUES" = some (.int 60 t)
  c_MOST_FRAME : ∃ t, gl "MOST_FRAME" = some (.int 1000000000000 t)
  c_MOST_LINES : ∃ t, gl "MOST_LINES" = some (.int 4 t)
  c_MOST_OF_STEP : ∃ t, gl "MOST_OF_STEP" = some (.int 2000 t)
  c_MOST_PRODUCT : ∃ t, gl "MOST_PRODUCT" = some (.int 100000 t)
  c_MOST_SIGNS : ∃ t, gl "MOST_SIGNS" = some (.int 40 t)
  c_MOST_STEPS : ∃ t, gl "MOST_STEPS" = some (.int 4 t)
  c_PERCENT : ∃ t, gl "PERCENT" = some (.int 37 t)
  t_ROUNDINGS : ∃ u, gl "ROUNDINGS" = some (.ref u) ∧ ∀ F, At K F (.ref u) (.tuple ([("down" : Str), ("up" : Str), ("near" : Str)].map PyData.str))
  c_TILDE : ∃ t, gl "TILDE" = some (.int 126 t)
section
variable {pr : Program} {wd : PySem.World} {K : PySem.W.Frag} {gl : Str → Option Value} {bas : Heap} {R : Orc}
abbrev st_is_integer : Stmt := topS 4
def names_is_integer : List Str := ["thing"]
theorem sc_is_integer : FnScope names_is_integer ["thing"] (defScope st_is_integer) := ⟨rfl, rfl, rfl, by decide +kernel, rfl, by decide +kernel, by decide +kernel⟩
theorem ok_is_integer {fa : Addr} {fd : FuncData} (T : Tx K gl) (F : L2.Fun K "is_integer" "is_integer" st_is_integer fa fd) : FnG pr wd K gl bas 1 fa fd ["thing"] (spD K R 1 r_is_integer) := by
  have sc := sc_is_integer
  refine FnG.data (g := g_is_integer) F sc rfl fun cdv A out sh H E q F hg hr => ?_
  exact (ds_one (dp_ret (de_and (de_isi rfl rfl T.n_isinstance rfl T.n_int (by decide +kernel) (dh_v (pv 0))) (pe_one (de_not (de_isi rfl rfl T.n_isinstance rfl T.n_bool (by decide +kernel) (dh_v (pv 0))))))))
abbrev st_is_within : Stmt := topS 5
def names_is_within : List Str := ["thing", "least", "most"]
theorem sc_is_within : FnScope names_is_within ["thing", "least", "most"] (defScope st_is_within) := ⟨rfl, rfl, rfl, by decide +kernel, rfl, by decide +kernel, by decide +kernel⟩
theorem ok_is_within {fa : Addr} {fd : FuncData} (T : Tx K gl) (F : L2.Fun K "is_within" "is_within" st_is_within fa fd) (C_is_integer : Cd pr wd K gl bas R 1 "is_integer" 1 r_is_integer) : FnG pr wd K gl bas 2 fa fd ["thing", "least", "most"] (spD K R 3 r_is_within) := by
  have sc := sc_is_within
  refine FnG.data (g := g_is_within) F sc rfl fun cdv A out sh H E q F hg hr => ?_
  exact (ds_one (dp_ret (de_and (de_cd (C_is_integer.more (by decide)) rfl hg hr rfl (da_cons (de_v (pv 0)) da_nil)) (pe_one (de_chain (sem_le) (sem_le) (dh_v (pv 1)) (dh_v (pv 0)) (dh_v (pv 2)) rfl)))))
abbrev st_is_tuple : Stmt := topS 6
def names_is_tuple : List Str := ["thing", "least", "most"]
theorem sc_is_tuple : FnScope names_is_tuple ["thing", "least", "most"] (defScope st_is_tuple) := ⟨rfl, rfl, rfl, by decide +kernel, rfl, by decide +kernel, by decide +kernel⟩
theorem ok_is_tuple {fa : Addr} {fd : FuncData} (T : Tx K gl) (F : L2.Fun K "is_tuple" "is_tuple" st_is_tuple fa fd) : FnG pr wd K gl bas 1 fa fd ["thing", "least", "most"] (spD K R 3 r_is_tuple) := by
  have sc := sc_is_tuple
  refine FnG.data (g := g_is_tuple) F sc rfl fun cdv A out sh H E q F hg hr => ?_
  exact (ds_one (dp_ret (de_and (de_isi rfl rfl T.n_isinstance rfl T.n_tuple (by decide +kernel) (dh_v (pv 0))) (pe_one (de_chain (sem_le) (sem_le) (dh_v (pv 1)) (dh_of (de_cb (sem_len rfl) rfl T.n_len (by decide +kernel) (dg_cons (dh_v (pv 0)) dg_nil))) (dh_v (pv 2)) rfl)))))
abbrev st_is_one_of : Stmt := topS 7
def names_is_one_of : List Str := ["thing", "words"]
theorem sc_is_one_of : FnScope names_is_one_of ["thing", "words"] (defScope st_is_one_of) := ⟨rfl, rfl, rfl, by decide +kernel, rfl, by decide +kernel, by decide +kernel⟩
theorem ok_is_one_of {fa : Addr} {fd : FuncData} (T : Tx K gl) (F : L2.Fun K "is_one_of" "is_one_of" st_is_one_of fa fd) : FnG pr wd K gl bas 1 fa fd ["thing", "words"] (spD K R 2 r_is_one_of) := by
  have sc := sc_is_one_of
  refine FnG.data (g := g_is_one_of) F sc rfl fun cdv A out sh H E q F hg hr => ?_
  exact (ds_one (dp_ret (de_and (de_isi rfl rfl T.n_isinstance rfl T.n_str (by decide +kernel) (dh_v (pv 0))) (pe_one (de_cmp (sem_inU rfl (hu65 hr)) (dh_v (pv 0)) (dh_v (pv 1)) rfl)))))
abbrev st_is_sign : Stmt := topS 8
def names_is_sign : List Str := ["sign", "lowest"]
theorem sc_is_sign : FnScope names_is_sign ["sign", "lowest"] (defScope st_is_sign) := ⟨rfl, rfl, rfl, by decide +kernel, rfl, by decide +kernel, by decide +kernel⟩
theorem ok_is_sign {fa : Addr} {fd : FuncData} (T : Tx K gl) (F : L2.Fun K "is_sign" "is_sign" st_is_sign fa fd) : FnG pr wd K gl bas 1 fa fd ["sign", "lowest"] (spD K R 2 r_is_sign) := by
  have sc := sc_is_sign
  refine FnG.data (g := g_is_sign) F sc rfl fun cdv A out sh H E q F hg hr => ?_
  exact (ds_one (dp_ret (de_and (de_chain (sem_le) (sem_le) (dh_v (pv 1)) (dh_of (de_cb (sem_ord) rfl T.n_ord (by decide +kernel) (dg_cons (dh_v (pv 0)) dg_nil))) (dh_of (de_gint rfl T.c_TILDE)) rfl) (pe_one (de_cmp (sem_ne rfl (hu64 hr)) (dh_of (de_cb (sem_ord) rfl T.n_ord (by decide +kernel) (dg_cons (dh_v (pv 0)) dg_nil))) (dh_of (de_gint rfl T.c_PERCENT)) (nomark _))))))
abbrev st_has_signs : Stmt := topS 9
def names_has_signs : List Str := ["thing", "lowest", "sign"]
theorem sc_has_signs : FnScope names_has_signs ["thing", "lowest"] (defScope st_has_signs) := ⟨rfl, rfl, rfl, by decide +kernel, rfl, by decide +kernel, by decide +kernel⟩
theorem ok_has_signs {fa : Addr} {fd : FuncData} (T : Tx K gl) (F : L2.Fun K "has_signs" "has_signs" st_has_signs fa fd) (C_is_sign : Cd pr wd K gl bas R 1 "is_sign" 2 r_is_sign) : FnG pr wd K gl bas 2 fa fd ["thing", "lowest"] (spD K R 2 r_has_signs) := by
  have sc := sc_has_signs
  refine FnG.data (g := g_has_signs) F sc rfl fun cdv A out sh H E q F hg hr => ?_
  exact (ds_cons (dp_if (PW.pt (dw_or (dt_not (dt_truth rfl (dh_of (de_isi rfl rfl T.n_isinstance rfl T.n_str (by decide +kernel) (dh_v (pv 0)))))) (pw_or1 (dt_not (dt_chain (sem_le) (sem_le) (dh_of de_int) (dh_of (de_cb (sem_len rfl) rfl T.n_len (by decide +kernel) (dg_cons (dh_v (pv 0)) dg_nil))) (dh_of (de_gint rfl T.c_MOST_SIGNS)) rfl))))) (ds_one (dp_ret de_bl)) ds_nil)
    (ds_one (dp_ret (de_cb (sem_all rfl rfl) rfl T.n_all (by decide +kernel) (dg_cons (dh_of (de_n (dn_lc (own := [("sign", 2)]) rfl sc.nd (di_seq rfl (de_v (pv 0))) (blkOk_by (own := [("sign", 2)]) (N := names_has_signs) (sc := defScope st_has_signs) (by decide +kernel)) (by decide) (fun _ _ _ _ _ => (dg_name sc.nd (i := 2) rfl (by first | exact Or.inl rfl | exact Or.inr rfl))) (fun _ _ _ _ _ => dts_nil) (fun _ _ _ _ _ => (de_cd (C_is_sign.more (by decide)) rfl hg hr rfl (da_cons (de_v (pv 2)) (da_cons (de_v (pv 1)) da_nil))))))) dg_nil)))))
abbrev st__is_line : Stmt := topS 23
def names__is_line : List Str := ["thing"]
theorem sc__is_line : FnScope names__is_line ["thing"] (defScope st__is_line) := ⟨rfl, rfl, rfl, by decide +kernel, rfl, by decide +kernel, by decide +kernel⟩
theorem ok__is_line {fa : Addr} {fd : FuncData} (T : Tx K gl) (F : L2.Fun K "_is_line" "_is_line" st__is_line fa fd) (C_has_signs : Cd pr wd K gl bas R 2 "has_signs" 2 r_has_signs) : FnG pr wd K gl bas 3 fa fd ["thing"] (spD K R 1 r__is_line) := by
  have sc := sc__is_line
  refine FnG.data (g := g__is_line) F sc rfl fun cdv A out sh H E q F hg hr => ?_
  exact (ds_one (dp_ret (de_and (de_cd (C_has_signs.more (by decide)) rfl hg hr rfl (da_cons (de_v (pv 0)) (da_cons (de_gint rfl T.c_LOWEST_OF_LINES) da_nil))) (de_and (de_cmp (sem_ne rfl (hu64 hr)) (dh_of (de_ix rfl (dh_v (pv 0)) (dh_of de_int) (fun _ _ => rfl))) (dh_of de_str) (nomark _)) (pe_one (de_cmp (sem_ne rfl (hu64 hr)) (dh_of (de_ix rfl (dh_v (pv 0)) (dh_of (de_neg de_int)) (fun _ _ => rfl))) (dh_of de_str) (nomark _)))))))
abbrev st_is_text : Stmt := topS 22
def names_is_text : List Str := ["thing", "line"]
theorem sc_is_text : FnScope names_is_text ["thing"] (defScope st_is_text) := ⟨rfl, rfl, rfl, by decide +kernel, rfl, by decide +kernel, by decide +kernel⟩
theorem ok_is_text {fa : Addr} {fd : FuncData} (T : Tx K gl) (F : L2.Fun K "is_text" "is_text" st_is_text fa fd) (C_is_tuple : Cd pr wd K gl bas R 1 "is_tuple" 3 r_is_tuple) (C__is_line : Cd pr wd K gl bas R 3 "_is_line" 1 r__is_line) : FnG pr wd K gl bas 4 fa fd ["thing"] (spD K R 1 r_is_text) := by
  have sc := sc_is_text
  refine FnG.data (g := g_is_text) F sc rfl fun cdv A out sh H E q F hg hr => ?_
  exact (ds_one (dp_ret (de_and (de_cd (C_is_tuple.more (by decide)) rfl hg hr rfl (da_cons (de_v (pv 0)) (da_cons de_int (da_cons (de_gint rfl T.c_MOST_LINES) da_nil)))) (pe_one (de_cb (sem_all rfl rfl) rfl T.n_all (by decide +kernel) (dg_cons (dh_of (de_n (dn_lc (own := [("line", 1)]) rfl sc.nd (di_seq rfl (de_v (pv 0))) (blkOk_by (own := [("line", 1)]) (N := names_is_text) (sc := defScope st_is_text) (by decide +kernel)) (by decide) (fun _ _ _ _ _ => (dg_name sc.nd (i := 1) rfl (by first | exact Or.inl rfl | exact Or.inr rfl))) (fun _ _ _ _ _ => dts_nil) (fun _ _ _ _ _ => (de_cd (C__is_line.more (by decide)) rfl hg hr rfl (da_cons (de_v (pv 1)) da_nil)))))) dg_nil))))))
abbrev st_is_cue : Stmt := topS 21
def names_is_cue : List Str := ["thing"]
theorem sc_is_cue : FnScope names_is_cue ["thing"] (defScope st_is_cue) := ⟨rfl, rfl, rfl, by decide +kernel, rfl, by decide +kernel, by decide +kernel⟩
theorem ok_is_cue {fa : Addr} {fd : FuncData} (T : Tx K gl) (F : L2.Fun K "is_cue" "is_cue" st_is_cue fa fd) (C_is_tuple : Cd pr wd K gl bas R 1 "is_tuple" 3 r_is_tuple) (C_is_within : Cd pr wd K gl bas R 2 "is_within" 3 r_is_within) (C_is_text : Cd pr wd K gl bas R 4 "is_text" 1 r_is_text) : FnG pr wd K gl bas 5 fa fd ["thing"] (spD K R 1 r_is_cue) := by
  have sc := sc_is_cue
  refine FnG.data (g := g_is_cue) F sc rfl fun cdv A out sh H E q F hg hr => ?_
  exact (ds_cons (dp_if (PW.pt (dw_or (dt_not (dt_truth rfl (dh_of (de_cd (C_is_tuple.more (by decide)) rfl hg hr rfl (da_cons (de_v (pv 0)) (da_cons de_int (da_cons de_int da_nil))))))) (pw_or1 (dt_not (dt_truth rfl (dh_of (de_cd (C_is_within.more (by decide)) rfl hg hr rfl (da_cons (de_ix rfl (dh_v (pv 0)) (dh_of de_int) (fun _ _ => rfl)) (da_cons de_int (da_cons (de_gint rfl T.c_MOST_FRAME) da_nil)))))))))) (ds_one (dp_ret de_bl)) ds_nil)
    (ds_one (dp_ret (de_and (de_cd (C_is_within.more (by decide)) rfl hg hr rfl (da_cons (de_ix rfl (dh_v (pv 0)) (dh_of de_int) (fun _ _ => rfl)) (da_cons (de_bin (sem_add rfl) (dh_of (de_ix rfl (dh_v (pv 0)) (dh_of de_int) (fun _ _ => rfl))) (dh_of de_int)) (da_cons (de_gint rfl T.c_MOST_FRAME) da_nil)))) (pe_one (de_cd (C_is_text.more (by decide)) rfl hg hr rfl (da_cons (de_ix rfl (dh_v (pv 0)) (dh_of de_int) (fun _ _ => rfl)) da_nil)))))))
abbrev st_need_file : Stmt := topS 20
def names_need_file : List Str := ["thing", "number", "cue"]
theorem sc_need_file : FnScope names_need_file ["thing"] (defScope st_need_file) := ⟨rfl, rfl, rfl, by decide +kernel, rfl, by decide +kernel, by decide +kernel⟩
theorem ok_need_file {fa : Addr} {fd : FuncData} (T : Tx K gl) (F : L2.Fun K "need_file" "need_file" st_need_file fa fd) (C_is_tuple : Cd pr wd K gl bas R 1 "is_tuple" 3 r_is_tuple) (C_is_cue : Cd pr wd K gl bas R 5 "is_cue" 1 r_is_cue) : FnG pr wd K gl bas 6 fa fd ["thing"] (spD K R 1 r_need_file) := by
  have sc := sc_need_file
  refine FnG.data (g := g_need_file) F sc rfl fun cdv A out sh H E q F hg hr => ?_
  exact (ds_cons (dp_if (dt_not (dt_truth rfl (dh_of (de_cd (C_is_tuple.more (by decide)) rfl hg hr rfl (da_cons (de_v (pv 0)) (da_cons de_int (da_cons (de_gint rfl T.c_MOST_CUES) da_nil))))))) ds_never ds_nil)
    (ds_cons (dp_for PassesOwn.never rfl (di_enum rfl rfl T.n_enumerate (dl_cons (de_v (pv 0)) dl_nil)) (dg_tup rfl rfl (dgs_cons (dg_name sc.nd (i := 1) rfl (by first | exact Or.inl rfl | exact Or.inr rfl)) (dgs_cons (dg_name sc.nd (i := 2) rfl (by first | exact Or.inl rfl | exact Or.inr rfl)) dgs_nil))) (ds_one (dp_if (dt_not (dt_truth rfl (dh_of (de_cd (C_is_cue.more (by decide)) rfl hg hr rfl (da_cons (de_v (pv 2)) da_nil))))) ds_never ds_nil)))
    (ds_one (dp_ret (de_v (pv 0))))))
abbrev st__is_step : Stmt := topS 35
def names__is_step : List Str := ["thing"]
theorem sc__is_step : FnScope names__is_step ["thing"] (defScope st__is_step) := ⟨rfl, rfl, rfl, by decide +kernel, rfl, by decide +kernel, by decide +kernel⟩
theorem ok__is_step {fa : Addr} {fd : FuncData} (T : Tx K gl) (F : L2.Fun K "_is_step" "_is_step" st__is_step fa fd) (C_is_tuple : Cd pr wd K gl bas R 1 "is_tuple" 3 r_is_tuple) (C_is_one_of : Cd pr wd K gl bas R 1 "is_one_of" 2 r_is_one_of) (C_is_within : Cd pr wd K gl bas R 2 "is_within" 3 r_is_within) : FnG pr wd K gl bas 3 fa fd ["thing"] (spD K R 1 r__is_step) := by
  have sc := sc__is_step
  refine FnG.data (g := g__is_step) F sc rfl fun cdv A out sh H E q F hg hr => ?_
  exact (ds_cons (dp_if (PW.pt (dw_or (dt_not (dt_truth rfl (dh_of (de_cd (C_is_tuple.more (by decide)) rfl hg hr rfl (da_cons (de_v (pv 0)) (da_cons de_int (da_cons de_int da_nil))))))) (pw_or1 (dt_not (dt_truth rfl (dh_of (de_cd (C_is_one_of.more (by decide)) rfl hg hr rfl (da_cons (de_ix rfl (dh_v (pv 0)) (dh_of de_int) (fun _ _ => rfl)) (da_cons (de_gtop rfl T.t_ROUNDINGS) da_nil))))))))) (ds_one (dp_ret de_bl)) ds_nil)
    (ds_one (dp_ret (de_and (de_cd (C_is_within.more (by decide)) rfl hg hr rfl (da_cons (de_ix rfl (dh_v (pv 0)) (dh_of de_int) (fun _ _ => rfl)) (da_cons de_int (da_cons (de_gint rfl T.c_MOST_OF_STEP) da_nil)))) (pe_one (de_cd (C_is_within.more (by decide)) rfl hg hr rfl (da_cons (de_ix rfl (dh_v (pv 0)) (dh_of de_int) (fun _ _ => rfl)) (da_cons de_int (da_cons (de_gint rfl T.c_MOST_OF_STEP) da_nil)))))))))
abbrev st_need_chain : Stmt := topS 29
def names_need_chain : List Str := ["thing", "product", "number", "step"]
theorem sc_need_chain : FnScope names_need_chain ["thing"] (defScope st_need_chain) := ⟨rfl, rfl, rfl, by decide +kernel, rfl, by decide +kernel, by decide +kernel⟩
theorem ok_need_chain {fa : Addr} {fd : FuncData} (T : Tx K gl) (F : L2.Fun K "need_chain" "need_chain" st_need_chain fa fd) (C_is_tuple : Cd pr wd K gl bas R 1 "is_tuple" 3 r_is_tuple) (C__is_step : Cd pr wd K gl bas R 3 "_is_step" 1 r__is_step) : FnG pr wd K gl bas 4 fa fd ["thing"] (spD K R 1 r_need_chain) := by
  have sc := sc_need_chain
  refine FnG.data (g := g_need_chain) F sc rfl fun cdv A out sh H E q F hg hr => ?_
  exact (ds_cons (dp_if (dt_not (dt_truth rfl (dh_of (de_cd (C_is_tuple.more (by decide)) rfl hg hr rfl (da_cons (de_v (pv 0)) (da_cons de_int (da_cons (de_gint rfl T.c_MOST_STEPS) da_nil))))))) ds_never ds_nil)
    (ds_cons (dp_set sc.nd (i := 1) rfl (by first | exact Or.inl rfl | exact Or.inr rfl) de_int)
    (ds_cons (dp_for PassesOwn.never rfl (di_enum rfl rfl T.n_enumerate (dl_cons (de_v (pv 0)) dl_nil)) (dg_tup rfl rfl (dgs_cons (dg_name sc.nd (i := 2) rfl (by first | exact Or.inl rfl | exact Or.inr rfl)) (dgs_cons (dg_name sc.nd (i := 3) rfl (by first | exact Or.inl rfl | exact Or.inr rfl)) dgs_nil))) (ds_cons (dp_if (dt_not (dt_truth rfl (dh_of (de_cd (C__is_step.more (by decide)) rfl hg hr rfl (da_cons (de_v (pv 3)) da_nil))))) ds_never ds_nil)
    (ds_cons (dp_aug sc.nd (i := 1) rfl (by first | exact Or.inl rfl | exact Or.inr rfl) (dh_of (de_ix rfl (dh_v (pv 3)) (dh_of de_int) (fun _ _ => rfl))) sem_imul)
    (ds_one (dp_if (dt_cmp (sem_gt) (dh_v (pv 1)) (dh_of (de_gint rfl T.c_MOST_PRODUCT)) (nomark _)) ds_never ds_nil)))))
    (ds_one (dp_ret (de_v (pv 0)))))))
abbrev st__quotient : Stmt := topS 37
def names__quotient : List Str := ["top", "bottom", "rounding"]
theorem sc__quotient : FnScope names__quotient ["top", "bottom", "rounding"] (defScope st__quotient) := ⟨rfl, rfl, rfl, by decide +kernel, rfl, by decide +kernel, by decide +kernel⟩
theorem ok__quotient {fa : Addr} {fd : FuncData} (T : Tx K gl) (F : L2.Fun K "_quotient" "_quotient" st__quotient fa fd) : FnG pr wd K gl bas 1 fa fd ["top", "bottom", "rounding"] (spD K R 3 r__quotient) := by
  have sc := sc__quotient
  refine FnG.data (g := g__quotient) F sc rfl fun cdv A out sh H E q F hg hr => ?_
  exact (ds_cons (dp_if (dt_cmp (sem_eq rfl (hu64 hr)) (dh_v (pv 2)) (dh_of de_str) (nomark _)) (ds_one (dp_ret (de_neg (de_bin (sem_div) (dh_of (de_neg (de_v (pv 0)))) (dh_v (pv 1)))))) ds_nil)
    (ds_cons (dp_if (dt_cmp (sem_eq rfl (hu64 hr)) (dh_v (pv 2)) (dh_of de_str) (nomark _)) (ds_one (dp_ret (de_bin (sem_div) (dh_of (de_bin (sem_add rfl) (dh_of (de_bin (sem_mul rfl) (dh_of de_int) (dh_v (pv 0)))) (dh_v (pv 1)))) (dh_of (de_bin (sem_mul rfl) (dh_of de_int) (dh_v (pv 1))))))) ds_nil)
    (ds_one (dp_ret (de_bin (sem_div) (dh_v (pv 0)) (dh_v (pv 1)))))))
abbrev st__moved : Stmt := topS 36
def names__moved : List Str := ["chain", "frame", "top", "bottom", "rounding"]
theorem sc__moved : FnScope names__moved ["chain", "frame"] (defScope st__moved) := ⟨rfl, rfl, rfl, by decide +kernel, rfl, by decide +kernel, by decide +kernel⟩
theorem ok__moved {fa : Addr} {fd : FuncData} (T : Tx K gl) (F : L2.Fun K "_moved" "_moved" st__moved fa fd) (C__quotient : Cd pr wd K gl bas R 1 "_quotient" 3 r__quotient) : FnG pr wd K gl bas 2 fa fd ["chain", "frame"] (spD K R 2 r__moved) := by
  have sc := sc__moved
  refine FnG.data (g := g__moved) F sc rfl fun cdv A out sh H E q F hg hr => ?_
  exact (ds_cons (dp_for PassesOwn.never rfl (di_seq rfl (de_v (pv 0))) (dg_tup rfl rfl (dgs_cons (dg_name sc.nd (i := 2) rfl (by first | exact Or.inl rfl | exact Or.inr rfl)) (dgs_cons (dg_name sc.nd (i := 3) rfl (by first | exact Or.inl rfl | exact Or.inr rfl)) (dgs_cons (dg_name sc.nd (i := 4) rfl (by first | exact Or.inl rfl | exact Or.inr rfl)) dgs_nil)))) (ds_one (dp_set sc.nd (i := 1) rfl (by first | exact Or.inl rfl | exact Or.inr rfl) (de_cd (C__quotient.more (by decide)) rfl hg hr rfl (da_cons (de_bin (sem_mul rfl) (dh_v (pv 1)) (dh_v (pv 2))) (da_cons (de_v (pv 3)) (da_cons (de_v (pv 4)) da_nil)))))))
    (ds_one (dp_ret (de_v (pv 1)))))
abbrev st_moved : Stmt := topS 30
def names_moved : List Str := ["chain", "frame"]
theorem sc_moved : FnScope names_moved ["chain", "frame"] (defScope st_moved) := ⟨rfl, rfl, rfl, by decide +kernel, rfl, by decide +kernel, by decide +kernel⟩
theorem ok_moved {fa : Addr} {fd : FuncData} (T : Tx K gl) (F : L2.Fun K "moved" "moved" st_moved fa fd) (C_need_chain : Cd pr wd K gl bas R 4 "need_chain" 1 r_need_chain) (C_is_within : Cd pr wd K gl bas R 2 "is_within" 3 r_is_within) (C__moved : Cd pr wd K gl bas R 2 "_moved" 2 r__moved) : FnG pr wd K gl bas 5 fa fd ["chain", "frame"] (spD K R 2 r_moved) := by
  have sc := sc_moved
  refine FnG.data (g := g_moved) F sc rfl fun cdv A out sh H E q F hg hr => ?_
  exact (ds_cons (dp_expr (de_cd (C_need_chain.more (by decide)) rfl hg hr rfl (da_cons (de_v (pv 0)) da_nil)))
    (ds_cons (dp_if (dt_not (dt_truth rfl (dh_of (de_cd (C_is_within.more (by decide)) rfl hg hr rfl (da_cons (de_v (pv 1)) (da_cons de_int (da_cons (de_gint rfl T.c_MOST_FRAME) da_nil))))))) ds_never ds_nil)
    (ds_one (dp_ret (de_cd (C__moved.more (by decide)) rfl hg hr rfl (da_cons (de_v (pv 0)) (da_cons (de_v (pv 1)) da_nil)))))))
abbrev st__bottom : Stmt := topS 38
def names__bottom : List Str := ["chain", "product", "step"]
theorem sc__bottom : FnScope names__bottom ["chain"] (defScope st__bottom) := ⟨rfl, rfl, rfl, by decide +kernel, rfl, by decide +kernel, by decide +kernel⟩
theorem ok__bottom {fa : Addr} {fd : FuncData} (T : Tx K gl) (F : L2.Fun K "_bottom" "_bottom" st__bottom fa fd) : FnG pr wd K gl bas 1 fa fd ["chain"] (spD K R 1 r__bottom) := by
  have sc := sc__bottom
  refine FnG.data (g := g__bottom) F sc rfl fun cdv A out sh H E q F hg hr => ?_
  exact (ds_cons (dp_set sc.nd (i := 1) rfl (by first | exact Or.inl rfl | exact Or.inr rfl) de_int)
    (ds_cons (dp_for PassesOwn.never rfl (di_seq rfl (de_v (pv 0))) (dg_name sc.nd (i := 2) rfl (by first | exact Or.inl rfl | exact Or.inr rfl)) (ds_one (dp_aug sc.nd (i := 1) rfl (by first | exact Or.inl rfl | exact Or.inr rfl) (dh_of (de_ix rfl (dh_v (pv 2)) (dh_of de_int) (fun _ _ => rfl))) sem_imul)))
    (ds_one (dp_ret (de_v (pv 1))))))
abbrev st__primes_of : Stmt := topS 39
def names__primes_of : List Str := ["number", "primes", "prime"]
theorem sc__primes_of : FnScope names__primes_of ["number"] (defScope st__primes_of) := ⟨rfl, rfl, rfl, by decide +kernel, rfl, by decide +kernel, by decide +kernel⟩
theorem ok__primes_of {fa : Addr} {fd : FuncData} (T : Tx K gl) (F : L2.Fun K "_primes_of" "_primes_of" st__primes_of fa fd) : FnG pr wd K gl bas 1 fa fd ["number"] (spD K R 1 r__primes_of) := by
  have sc := sc__primes_of
  refine FnG.data (g := g__primes_of) F sc rfl fun cdv A out sh H E q F hg hr => ?_
  exact (ds_cons (dp_setN sc.nd (i := 1) rfl (by first | exact Or.inl rfl | exact Or.inr rfl) (dn_lst dl_nil))
    (ds_cons (dp_set sc.nd (i := 2) rfl (by first | exact Or.inl rfl | exact Or.inr rfl) de_int)
    (ds_cons (dp_while PassesOwn.never (dt_cmp (sem_gt) (dh_v (pv 0)) (dh_of de_int) (nomark _)) (ds_cons (dp_while PassesOwn.never (dt_cmp (sem_eq rfl (hu64 hr)) (dh_of (de_bin (sem_mod) (dh_v (pv 0)) (dh_v (pv 2)))) (dh_of de_int) (nomark _)) (ds_cons (dp_app rfl (pv 1) (de_v (pv 2)))
    (ds_one (dp_aug sc.nd (i := 0) rfl (by first | exact Or.inl rfl | exact Or.inr rfl) (dh_v (pv 2)) sem_idiv))))
    (ds_one (dp_aug sc.nd (i := 2) rfl (by first | exact Or.inl rfl | exact Or.inr rfl) (dh_of de_int) sem_iadd))))
    (ds_one (dp_ret (de_v (pv 1)))))))
abbrev st__comes_again : Stmt := topS 40
def names__comes_again : List Str := ["rises", "many"]
theorem sc__comes_again : FnScope names__comes_again ["rises", "many"] (defScope st__comes_again) := ⟨rfl, rfl, rfl, by decide +kernel, rfl, by decide +kernel, by decide +kernel⟩
theorem ok__comes_again {fa : Addr} {fd : FuncData} (T : Tx K gl) (F : L2.Fun K "_comes_again" "_comes_again" st__comes_again fa fd) : FnG pr wd K gl bas 1 fa fd ["rises", "many"] (spD K R 2 r__comes_again) := by
  have sc := sc__comes_again
  refine FnG.data (g := g__comes_again) F sc rfl fun cdv A out sh H E q F hg hr => ?_
  exact (ds_one (dp_ret (de_cmp (sem_eq rfl (hu64 hr)) (dh_of (de_bin (sem_add rfl) (dh_of (de_sl rfl (dh_v (pv 0)) (do_i (de_v (pv 1))) do_no)) (dh_of (de_sl rfl (dh_v (pv 0)) do_no (do_i (de_v (pv 1))))))) (dh_v (pv 0)) (nomark _))))
abbrev st_period : Stmt := topS 31
def names_period : List Str := ["chain", "many", "frames", "rises", "prime", "frame", "ahead", "after"]
theorem sc_period : FnScope names_period ["chain"] (defScope st_period) := ⟨rfl, rfl, rfl, by decide +kernel, rfl, by decide +kernel, by decide +kernel⟩
theorem ok_period {fa : Addr} {fd : FuncData} (T : Tx K gl) (F : L2.Fun K "period" "period" st_period fa fd) (C_need_chain : Cd pr wd K gl bas R 4 "need_chain" 1 r_need_chain) (C__bottom : Cd pr wd K gl bas R 1 "_bottom" 1 r__bottom) (C__moved : Cd pr wd K gl bas R 2 "_moved" 2 r__moved) (C__primes_of : Cd pr wd K gl bas R 1 "_primes_of" 1 r__primes_of) (C__comes_again : Cd pr wd K gl bas R 1 "_comes_again" 2 r__comes_again) : FnG pr wd K gl bas 5 fa fd ["chain"] (spD K R 1 r_period) := by
  have sc := sc_period
  refine FnG.data (g := g_period) F sc rfl fun cdv A out sh H E q F hg hr => ?_
  exact (ds_cons (dp_expr (de_cd (C_need_chain.more (by decide)) rfl hg hr rfl (da_cons (de_v (pv 0)) da_nil)))
    (ds_cons (dp_set sc.nd (i := 1) rfl (by first | exact Or.inl rfl | exact Or.inr rfl) (de_cd (C__bottom.more (by decide)) rfl hg hr rfl (da_cons (de_v (pv 0)) da_nil)))
    (ds_cons (dp_setLc (n := 2) (own := [("frame", 5)]) rfl sc.nd rfl rfl (sw_true rfl rfl rfl (by decide +kernel)) (di_range1 rfl T.n_range (dl_cons (de_bin (sem_add rfl) (dh_v (pv 1)) (dh_of de_int)) dl_nil)) (blkOk_by (own := [("frame", 5)]) (N := names_period) (sc := defScope st_period) (by decide +kernel)) (by decide) (fun _ _ _ _ _ => (dg_name sc.nd (i := 5) rfl (by first | exact Or.inl rfl | exact Or.inr rfl))) (fun _ _ _ _ _ => dts_nil) (fun _ _ _ _ _ => (de_cd (C__moved.more (by decide)) rfl hg hr rfl (da_cons (de_v (pv 0)) (da_cons (de_v (pv 5)) da_nil)))))
    (ds_cons (dp_setLc (n := 3) (own := [("ahead", 6), ("after", 7)]) rfl sc.nd rfl rfl (sw_true rfl rfl rfl (by decide +kernel)) (di_zip rfl rfl T.n_zip (dl_cons (de_v (pv 2)) (dl_cons (de_sl rfl (dh_v (pv 2)) (do_i de_int) do_no) dl_nil))) (blkOk_by (own := [("ahead", 6), ("after", 7)]) (N := names_period) (sc := defScope st_period) (by decide +kernel)) (by decide) (fun _ _ _ _ _ => (dg_tup rfl rfl (dgs_cons (dg_name sc.nd (i := 6) rfl (by first | exact Or.inl rfl | exact Or.inr rfl)) (dgs_cons (dg_name sc.nd (i := 7) rfl (by first | exact Or.inl rfl | exact Or.inr rfl)) dgs_nil)))) (fun _ _ _ _ _ => dts_nil) (fun _ _ _ _ _ => (de_bin (sem_sub) (dh_v (pv 7)) (dh_v (pv 6)))))
    (ds_cons (dp_for PassesOwn.never rfl (di_seq rfl (de_cd (C__primes_of.more (by decide)) rfl hg hr rfl (da_cons (de_v (pv 1)) da_nil))) (dg_name sc.nd (i := 4) rfl (by first | exact Or.inl rfl | exact Or.inr rfl)) (ds_one (dp_if (dt_truth rfl (dh_of (de_cd (C__comes_again.more (by decide)) rfl hg hr rfl (da_cons (de_v (pv 3)) (da_cons (de_bin (sem_div) (dh_v (pv 1)) (dh_v (pv 4))) da_nil))))) (ds_one (dp_aug sc.nd (i := 1) rfl (by first | exact Or.inl rfl | exact Or.inr rfl) (dh_v (pv 4)) sem_idiv)) ds_nil)))
    (ds_one (dp_ret (de_tup (dl_cons (de_v (pv 1)) (dl_cons (de_ix rfl (dh_v (pv 2)) (dh_v (pv 1)) (fun _ _ => rfl)) dl_nil))))))))))
abbrev st__first_apart : Stmt := topS 41
def names__first_apart : List Str := ["one", "other", "last", "frame"]
theorem sc__first_apart : FnScope names__first_apart ["one", "other", "last"] (defScope st__first_apart) := ⟨rfl, rfl, rfl, by decide +kernel, rfl, by decide +kernel, by decide +kernel⟩
theorem ok__first_apart {fa : Addr} {fd : FuncData} (T : Tx K gl) (F : L2.Fun K "_first_apart" "_first_apart" st__first_apart fa fd) (C__moved : Cd pr wd K gl bas R 2 "_moved" 2 r__moved) : FnG pr wd K gl bas 3 fa fd ["one", "other", "last"] (spD K R 3 r__first_apart) := by
  have sc := sc__first_apart
  refine FnG.data (g := g__first_apart) F sc rfl fun cdv A out sh H E q F hg hr => ?_
  exact (ds_cons (dp_for PassesOwn.never rfl (di_range1 rfl T.n_range (dl_cons (de_bin (sem_add rfl) (dh_v (pv 2)) (dh_of de_int)) dl_nil)) (dg_name sc.nd (i := 3) rfl (by first | exact Or.inl rfl | exact Or.inr rfl)) (ds_one (dp_if (dt_cmp (sem_ne rfl (hu64 hr)) (dh_of (de_cd (C__moved.more (by decide)) rfl hg hr rfl (da_cons (de_v (pv 0)) (da_cons (de_v (pv 3)) da_nil)))) (dh_of (de_cd (C__moved.more (by decide)) rfl hg hr rfl (da_cons (de_v (pv 1)) (da_cons (de_v (pv 3)) da_nil)))) (nomark _)) (ds_one (dp_ret (de_v (pv 3)))) ds_nil)))
    (ds_one (dp_ret de_non)))
abbrev st_comes_back : Stmt := topS 32
def names_comes_back : List Str := ["chain"]
theorem sc_comes_back : FnScope names_comes_back ["chain"] (defScope st_comes_back) := ⟨rfl, rfl, rfl, by decide +kernel, rfl, by decide +kernel, by decide +kernel⟩
theorem ok_comes_back {fa : Addr} {fd : FuncData} (T : Tx K gl) (F : L2.Fun K "comes_back" "comes_back" st_comes_back fa fd) (C_need_chain : Cd pr wd K gl bas R 4 "need_chain" 1 r_need_chain) (C__first_apart : Cd pr wd K gl bas R 3 "_first_apart" 3 r__first_apart) (C__bottom : Cd pr wd K gl bas R 1 "_bottom" 1 r__bottom) : FnG pr wd K gl bas 5 fa fd ["chain"] (spD K R 1 r_comes_back) := by
  have sc := sc_comes_back
  refine FnG.data (g := g_comes_back) F sc rfl fun cdv A out sh H E q F hg hr => ?_
  exact (ds_cons (dp_expr (de_cd (C_need_chain.more (by decide)) rfl hg hr rfl (da_cons (de_v (pv 0)) da_nil)))
    (ds_one (dp_ret (de_cmp (sem_is) (dh_of (de_cd (C__first_apart.more (by decide)) rfl hg hr rfl (da_cons (de_v (pv 0)) (da_cons (de_tup dl_nil) (da_cons (de_cd (C__bottom.more (by decide)) rfl hg hr rfl (da_cons (de_v (pv 0)) da_nil)) da_nil))))) (dh_of de_non) (nomark _)))))
abbrev st_least_kept : Stmt := topS 33
def names_least_kept : List Str := ["chain", "longest", "many", "ahead", "frame", "here"]
theorem sc_least_kept : FnScope names_least_kept ["chain"] (defScope st_least_kept) := ⟨rfl, rfl, rfl, by decide +kernel, rfl, by decide +kernel, by decide +kernel⟩
theorem ok_least_kept {fa : Addr} {fd : FuncData} (T : Tx K gl) (F : L2.Fun K "least_kept" "least_kept" st_least_kept fa fd) (C_need_chain : Cd pr wd K gl bas R 4 "need_chain" 1 r_need_chain) (C__bottom : Cd pr wd K gl bas R 1 "_bottom" 1 r__bottom) (C__moved : Cd pr wd K gl bas R 2 "_moved" 2 r__moved) : FnG pr wd K gl bas 5 fa fd ["chain"] (spD K R 1 r_least_kept) := by
  have sc := sc_least_kept
  refine FnG.data (g := g_least_kept) F sc rfl fun cdv A out sh H E q F hg hr => ?_
  exact (ds_cons (dp_expr (de_cd (C_need_chain.more (by decide)) rfl hg hr rfl (da_cons (de_v (pv 0)) da_nil)))
    (ds_cons (dp_set sc.nd (i := 1) rfl (by first | exact Or.inl rfl | exact Or.inr rfl) de_int)
    (ds_cons (dp_set sc.nd (i := 2) rfl (by first | exact Or.inl rfl | exact Or.inr rfl) de_int)
    (ds_cons (dp_set sc.nd (i := 3) rfl (by first | exact Or.inl rfl | exact Or.inr rfl) de_non)
    (ds_cons (dp_for PassesOwn.never rfl (di_range1 rfl T.n_range (dl_cons (de_bin (sem_mul rfl) (dh_of de_int) (dh_of (de_cd (C__bottom.more (by decide)) rfl hg hr rfl (da_cons (de_v (pv 0)) da_nil)))) dl_nil)) (dg_name sc.nd (i := 4) rfl (by first | exact Or.inl rfl | exact Or.inr rfl)) (ds_cons (dp_set sc.nd (i := 5) rfl (by first | exact Or.inl rfl | exact Or.inr rfl) (de_cd (C__moved.more (by decide)) rfl hg hr rfl (da_cons (de_v (pv 0)) (da_cons (de_v (pv 4)) da_nil))))
    (ds_cons (dp_if (dt_cmp (sem_eq rfl (hu64 hr)) (dh_v (pv 5)) (dh_v (pv 3)) (nomark _)) (ds_one (dp_aug sc.nd (i := 2) rfl (by first | exact Or.inl rfl | exact Or.inr rfl) (dh_of de_int) sem_iadd)) (ds_one (dp_set sc.nd (i := 2) rfl (by first | exact Or.inl rfl | exact Or.inr rfl) de_int)))
    (ds_cons (dp_set sc.nd (i := 1) rfl (by first | exact Or.inl rfl | exact Or.inr rfl) (de_cb (sem_max rfl rfl) rfl T.n_max (by decide +kernel) (dg_cons (dh_v (pv 1)) (dg_cons (dh_v (pv 2)) dg_nil))))
    (ds_one (dp_set sc.nd (i := 3) rfl (by first | exact Or.inl rfl | exact Or.inr rfl) (de_v (pv 5))))))))
    (ds_one (dp_ret (de_v (pv 1)))))))))
abbrev st_moved_file : Stmt := topS 34
def names_moved_file : List Str := ["chain", "file", "cues", "start", "end", "text", "cue"]
theorem sc_moved_file : FnScope names_moved_file ["chain", "file"] (defScope st_moved_file) := ⟨rfl, rfl, rfl, by decide +kernel, rfl, by decide +kernel, by decide +kernel⟩
theorem ok_moved_file {fa : Addr} {fd : FuncData} (T : Tx K gl) (F : L2.Fun K "moved_file" "moved_file" st_moved_file fa fd) (C_need_chain : Cd pr wd K gl bas R 4 "need_chain" 1 r_need_chain) (C_need_file : Cd pr wd K gl bas R 6 "need_file" 1 r_need_file) (C__moved : Cd pr wd K gl bas R 2 "_moved" 2 r__moved) : FnG pr wd K gl bas 7 fa fd ["chain", "file"] (spD K R 2 r_moved_file) := by
  have sc := sc_moved_file
  refine FnG.data (g := g_moved_file) F sc rfl fun cdv A out sh H E q F hg hr => ?_
  exact (ds_cons (dp_expr (de_cd (C_need_chain.more (by decide)) rfl hg hr rfl (da_cons (de_v (pv 0)) da_nil)))
    (ds_cons (dp_expr (de_cd (C_need_file.more (by decide)) rfl hg hr rfl (da_cons (de_v (pv 1)) da_nil)))
    (ds_cons (dp_setLc (n := 2) (own := [("start", 3), ("end", 4), ("text", 5)]) rfl sc.nd rfl rfl (sw_true rfl rfl rfl (by decide +kernel)) (di_seq rfl (de_v (pv 1))) (blkOk_by (own := [("start", 3), ("end", 4), ("text", 5)]) (N := names_moved_file) (sc := defScope st_moved_file) (by decide +kernel)) (by decide) (fun _ _ _ _ _ => (dg_tup rfl rfl (dgs_cons (dg_name sc.nd (i := 3) rfl (by first | exact Or.inl rfl | exact Or.inr rfl)) (dgs_cons (dg_name sc.nd (i := 4) rfl (by first | exact Or.inl rfl | exact Or.inr rfl)) (dgs_cons (dg_name sc.nd (i := 5) rfl (by first | exact Or.inl rfl | exact Or.inr rfl)) dgs_nil))))) (fun _ _ _ _ _ => dts_nil) (fun _ _ _ _ _ => (de_tup (dl_cons (de_cd (C__moved.more (by decide)) rfl hg hr rfl (da_cons (de_v (pv 0)) (da_cons (de_v (pv 3)) da_nil))) (dl_cons (de_cd (C__moved.more (by decide)) rfl hg hr rfl (da_cons (de_v (pv 0)) (da_cons (de_v (pv 4)) da_nil))) (dl_cons (de_v (pv 5)) dl_nil))))))
    (ds_cons (dp_if (dt_truth rfl (dh_of (de_cb (sem_any rfl rfl) rfl T.n_any (by decide +kernel) (dg_cons (dh_of (de_n (dn_lc (own := [("cue", 6)]) rfl sc.nd (di_seq rfl (de_v (pv 2))) (blkOk_by (own := [("cue", 6)]) (N := names_moved_file) (sc := defScope st_moved_file) (by decide +kernel)) (by decide) (fun _ _ _ _ _ => (dg_name sc.nd (i := 6) rfl (by first | exact Or.inl rfl | exact Or.inr rfl))) (fun _ _ _ _ _ => dts_nil) (fun _ _ _ _ _ => (de_cmp (sem_gt) (dh_of (de_ix rfl (dh_v (pv 6)) (dh_of de_int) (fun _ _ => rfl))) (dh_of (de_gint rfl T.c_MOST_FRAME)) (nomark _)))))) dg_nil)))) ds_never ds_nil)
    (ds_one (dp_ret (de_ct (sem_tuple rfl) rfl T.n_tuple (by decide +kernel) (dg_cons (dh_of (de_n (dn_lc (own := [("cue", 6)]) rfl sc.nd (di_seq rfl (de_v (pv 2))) (blkOk_by (own := [("cue", 6)]) (N := names_moved_file) (sc := defScope st_moved_file) (by decide +kernel)) (by decide) (fun _ _ _ _ _ => (dg_name sc.nd (i := 6) rfl (by first | exact Or.inl rfl | exact Or.inr rfl))) (fun _ _ _ _ _ => (dts_one (dt_cmp (sem_lt) (dh_of (de_ix rfl (dh_v (pv 6)) (dh_of de_int) (fun _ _ => rfl))) (dh_of (de_ix rfl (dh_v (pv 6)) (dh_of de_int) (fun _ _ => rfl))) (nomark _)))) (fun _ _ _ _ _ => (de_v (pv 6)))))) dg_nil))))))))
abbrev st__law_mix : Stmt := topS 43
def names__law_mix : List Str := ["_law_cell", "_law_spot", "_law_first", "_law_second"]
theorem sc__law_mix : FnScope names__law_mix ["_law_cell", "_law_spot"] (defScope st__law_mix) := ⟨rfl, rfl, rfl, by decide +kernel, rfl, by decide +kernel, by decide +kernel⟩
theorem ok__law_mix {fa : Addr} {fd : FuncData} (T : Tx K gl) (F : L2.Fun K "_law_mix" "_law_mix" st__law_mix fa fd) : FnG pr wd K gl bas 1 fa fd ["_law_cell", "_law_spot"] (spD K R 2 r__law_mix) := by
  have sc := sc__law_mix
  refine FnG.data (g := g__law_mix) F sc rfl fun cdv A out sh H E q F hg hr => ?_
  exact (ds_cons (dp_set sc.nd (i := 2) rfl (by first | exact Or.inl rfl | exact Or.inr rfl) (de_bin (sem_mod) (dh_of (de_ct (sem_int) rfl T.n_int (by decide +kernel) (dg_cons (dh_of (de_bin (sem_add rfl) (dh_of (de_bin (sem_add rfl) (dh_of (de_bin (sem_mul rfl) (dh_v (pv 0)) (dh_of de_int))) (dh_of (de_bin (sem_mul rfl) (dh_v (pv 1)) (dh_of de_int))))) (dh_of de_int))) dg_nil))) (dh_of de_int)))
    (ds_cons (dp_set sc.nd (i := 3) rfl (by first | exact Or.inl rfl | exact Or.inr rfl) (de_bin (sem_mod) (dh_of (de_ct (sem_int) rfl T.n_int (by decide +kernel) (dg_cons (dh_of (de_bin (sem_add rfl) (dh_of (de_bin (sem_add rfl) (dh_of (de_bin (sem_mul rfl) (dh_v (pv 2)) (dh_of de_int))) (dh_v (pv 0)))) (dh_v (pv 1)))) dg_nil))) (dh_of de_int)))
    (ds_one (dp_ret (de_bin (sem_mod) (dh_of (de_ct (sem_int) rfl T.n_int (by decide +kernel) (dg_cons (dh_of (de_bin (sem_add rfl) (dh_of (de_bin (sem_mul rfl) (dh_v (pv 3)) (dh_of de_int))) (dh_of (de_bin (sem_mul rfl) (dh_of (de_bin (sem_mul rfl) (dh_v (pv 1)) (dh_v (pv 1)))) (dh_of de_int))))) dg_nil))) (dh_of de_int))))))
abbrev st__law_divisor : Stmt := topS 46
def names__law_divisor : List Str := ["_law_one", "_law_other"]
theorem sc__law_divisor : FnScope names__law_divisor ["_law_one", "_law_other"] (defScope st__law_divisor) := ⟨rfl, rfl, rfl, by decide +kernel, rfl, by decide +kernel, by decide +kernel⟩
theorem ok__law_divisor {fa : Addr} {fd : FuncData} (T : Tx K gl) (F : L2.Fun K "_law_divisor" "_law_divisor" st__law_divisor fa fd) : FnG pr wd K gl bas 1 fa fd ["_law_one", "_law_other"] (spD K R 2 r__law_divisor) := by
  have sc := sc__law_divisor
  refine FnG.data (g := g__law_divisor) F sc rfl fun cdv A out sh H E q F hg hr => ?_
  exact (ds_cons (dp_par rfl sc.nd (i := 0) (j := 1) rfl rfl (by decide) rfl rfl (dl_cons (de_cb (sem_abs) rfl T.n_abs (by decide +kernel) (dg_cons (dh_v (pv 0)) dg_nil)) (dl_cons (de_cb (sem_abs) rfl T.n_abs (by decide +kernel) (dg_cons (dh_v (pv 1)) dg_nil)) dl_nil)) rfl)
    (ds_cons (dp_while PassesOwn.never (dt_cmp (sem_gt) (dh_v (pv 1)) (dh_of de_int) (nomark _)) (ds_one (dp_par rfl sc.nd (i := 0) (j := 1) rfl rfl (by decide) rfl rfl (dl_cons (de_v (pv 1)) (dl_cons (de_bin (sem_mod) (dh_of (de_ct (sem_int) rfl T.n_int (by decide +kernel) (dg_cons (dh_v (pv 0)) dg_nil))) (dh_v (pv 1))) dl_nil)) rfl)))
    (ds_one (dp_ret (de_v (pv 0))))))
abbrev st__law_backs : Stmt := topS 47
def names__law_backs : List Str := ["_law_n", "_law_d", "_law_found", "_law_whole", "_law_half"]
theorem sc__law_backs : FnScope names__law_backs ["_law_n", "_law_d"] (defScope st__law_backs) := ⟨rfl, rfl, rfl, by decide +kernel, rfl, by decide +kernel, by decide +kernel⟩
theorem ok__law_backs {fa : Addr} {fd : FuncData} (T : Tx K gl) (F : L2.Fun K "_law_backs" "_law_backs" st__law_backs fa fd) : FnG pr wd K gl bas 1 fa fd ["_law_n", "_law_d"] (spD K R 2 r__law_backs) := by
  have sc := sc__law_backs
  refine FnG.data (g := g__law_backs) F sc rfl fun cdv A out sh H E q F hg hr => ?_
  exact (ds_cons (dp_par rfl sc.nd (i := 3) (j := 4) rfl rfl (by decide) rfl rfl (dl_cons (de_cmp (sem_eq rfl (hu64 hr)) (dh_v (pv 1)) (dh_of de_int) (nomark _)) (dl_cons (de_bin (sem_mul rfl) (dh_of de_int) (dh_of (de_bin (sem_sub) (dh_v (pv 1)) (dh_of de_int)))) dl_nil)) rfl)
    (ds_cons (dp_set sc.nd (i := 2) rfl (by first | exact Or.inl rfl | exact Or.inr rfl) (de_n (dn_lst (dl_cons (de_tup (dl_cons de_str (dl_cons de_str (dl_cons (de_cmp (sem_ge) (dh_v (pv 0)) (dh_v (pv 1)) (nomark _)) dl_nil)))) (dl_cons (de_tup (dl_cons de_str (dl_cons de_str (dl_cons (de_cmp (sem_ge) (dh_v (pv 0)) (dh_v (pv 1)) (nomark _)) dl_nil)))) (dl_cons (de_tup (dl_cons de_str (dl_cons de_str (dl_cons (de_cmp (sem_ge) (dh_v (pv 0)) (dh_v (pv 1)) (nomark _)) dl_nil)))) (dl_cons (de_tup (dl_cons de_str (dl_cons de_str (dl_cons (de_v (pv 3)) dl_nil)))) dl_nil)))))))
    (ds_one (dp_ret (de_bin (sem_add rfl) (dh_v (pv 2)) (dh_of (de_n (dn_lst (dl_cons (de_tup (dl_cons de_str (dl_cons de_str (dl_cons (de_v (pv 3)) dl_nil)))) (dl_cons (de_tup (dl_cons de_str (dl_cons de_str (dl_cons (de_cmp (sem_le) (dh_v (pv 4)) (dh_v (pv 0)) (nomark _)) dl_nil)))) (dl_cons (de_tup (dl_cons de_str (dl_cons de_str (dl_cons (de_or (de_cmp (sem_lt) (dh_v (pv 4)) (dh_v (pv 0)) (nomark _)) (pe_one (de_v (pv 3)))) dl_nil)))) dl_nil)))))))))))
abbrev st__law_short : Stmt := topS 48
def names__law_short : List Str := ["_law_word", "_law_n", "_law_d", "_law_size", "_law_frame"]
theorem sc__law_short : FnScope names__law_short ["_law_word", "_law_n", "_law_d", "_law_size"] (defScope st__law_short) := ⟨rfl, rfl, rfl, by decide +kernel, rfl, by decide +kernel, by decide +kernel⟩
theorem ok__law_short {fa : Addr} {fd : FuncData} (T : Tx K gl) (F : L2.Fun K "_law_short" "_law_short" st__law_short fa fd) (C_moved : Cd pr wd K gl bas R 5 "moved" 2 r_moved) : FnG pr wd K gl bas 6 fa fd ["_law_word", "_law_n", "_law_d", "_law_size"] (spD K R 4 r__law_short) := by
  have sc := sc__law_short
  refine FnG.data (g := g__law_short) F sc rfl fun cdv A out sh H E q F hg hr => ?_
  exact (ds_cons (dp_for PassesOwn.never rfl (di_range1 rfl T.n_range (dl_cons (de_v (pv 2)) dl_nil)) (dg_name sc.nd (i := 4) rfl (by first | exact Or.inl rfl | exact Or.inr rfl)) (ds_one (dp_if (dt_cmp (sem_eq rfl (hu64 hr)) (dh_of (de_cd (C_moved.more (by decide)) rfl hg hr rfl (da_cons (de_tup (dl_cons (de_tup (dl_cons (de_v (pv 1)) (dl_cons (de_v (pv 2)) (dl_cons (de_v (pv 0)) dl_nil)))) dl_nil)) (da_cons (de_v (pv 4)) da_nil)))) (dh_of (de_cd (C_moved.more (by decide)) rfl hg hr rfl (da_cons (de_tup (dl_cons (de_tup (dl_cons (de_v (pv 1)) (dl_cons (de_v (pv 2)) (dl_cons (de_v (pv 0)) dl_nil)))) dl_nil)) (da_cons (de_bin (sem_add rfl) (dh_v (pv 4)) (dh_v (pv 3))) da_nil)))) (nomark _)) (ds_one (dp_ret (de_v (pv 4)))) ds_nil)))
    (ds_one (dp_ret de_non)))
abbrev st__law_draw : Stmt := topS 45
def names__law_draw : List Str := ["_law_m", "_law_limit", "_law_spot", "_law_here", "_law_left"]
theorem sc__law_draw : FnScope names__law_draw ["_law_m", "_law_limit"] (defScope st__law_draw) := ⟨rfl, rfl, rfl, by decide +kernel, rfl, by decide +kernel, by decide +kernel⟩
theorem d_mix (c j : Int) (m : Nat) (P : D → Nat → Prop) (j0 : 0 ≤ j) (j1 : j < 2097152) (h : ∀ i : Int, P (.int i) 0) : r__law_mix [.d (.int c), .d (.int j)] m P := by
  have sj : -(2 ^ 64) < j ∧ j < 2 ^ 64 := ⟨by omega, by omega⟩
  refine ⟨trivial, .inr ⟨by decide, by decide⟩, trivial, .inr ⟨by decide, by decide⟩, by decide, ?_⟩
  refine ⟨trivial, .inr ⟨by decide, by decide⟩, trivial, trivial, by decide, ?_⟩
  refine ⟨trivial, .inr ⟨by decide, by decide⟩, trivial, trivial, .inl sj, .inr ⟨by decide, by decide⟩, by decide, hd_d, ?_⟩
  exact h _
theorem ok__law_draw {fa : Addr} {fd : FuncData} (T : Tx K gl) (F : L2.Fun K "_law_draw" "_law_draw" st__law_draw fa fd) (C : Cd pr wd K gl bas srcOrcB 1 "_law_mix" 2 r__law_mix) : FnG pr wd K gl bas 2 fa fd ["_law_m", "_law_limit"] (spD K srcOrcB 2 s_next) := by
  have nd := sc__law_draw.nd
  obtain ⟨fm, fdm, ps, Fm, gm, km, bm⟩ := C
  refine FnG.of F sc__law_draw (fun vs H Q E ⟨q, F0, as, m, P, w, pa, hl, _⟩ => by rw [paired_len pa, hl]; rfl) fun cdv A out sh H vs Q E hg hr ⟨qo, F0, as, m, P, w, pa, hl, ho, hq, hm, ⟨n, eas, n0, n1, m1, kP⟩, k0⟩ => ?_
  subst eas
  obtain ⟨v1, vs, rfl, a1, pa⟩ : ∃ v1 vs', vs = v1 :: vs' ∧ ArAt ⟨K, srcOrcB, qo, F0, H⟩ F0 v1 .ora ∧ Paired (ArAt ⟨K, srcOrcB, qo, F0, H⟩ F0) vs' [.d (.int n)] := by
    cases pa with
    | cons a b => (exact ⟨_, _, rfl, a, b⟩)
  obtain ⟨v2, rfl, a2⟩ : ∃ v2, vs = [v2] ∧ ArAt ⟨K, srcOrcB, qo, F0, H⟩ F0 v2 (.d (.int n)) := by
    cases pa with
    | cons a b => cases b; exact ⟨_, rfl, a⟩
  obtain ⟨q, eq, rfl⟩ := a1
  cases (show qo = some q from eq)
  have e2 : v2 = .int n := by
    have z : At K F0 v2 (.int n) := a2
    cases z
    rfl
  subst e2
  obtain ⟨c, l, cs, ls, k, s0⟩ := w.or q rfl
  have hk : k ≤ m := by have := hm q rfl; rw [s0.spot] at this; exact this
  refine ⟨_, pss_cons (ps_set (i := 2) nd rfl (Or.inl rfl) (pe_dget (hu_of hr) (pv 0) pe_str (fun _ _ => rfl)))
    (pss_cons (ps_dput (hu_of hr) (pv 0) pe_str (pe_op op_add (pv 2) pe_int) rfl)
    (pss_cons (ps_set (i := 3) nd rfl (Or.inl rfl) (pe_op op_mod (pe_callTy call_int1 rfl T.n_int (by decide +kernel) (pa_cons (pv 2) pa_nil)) (pe_callB call_len_seq rfl T.n_len (by decide +kernel) (pa_cons (pe_dget (hu_of hr) (pv 0) pe_str (fun _ _ => rfl)) pa_nil))))
    (pss_cons (ps_set (i := 4) nd rfl (Or.inl rfl) (pe_ix ix_list (pe_dget (hu_of hr) (pv 0) pe_str (fun _ _ => rfl)) (pv 3) (fun _ _ => rfl)))
    (pss_cons (ps_if (pt_cmpR op_gt (pv 4) pe_int (nomark _))
      (pss_cons (ps_asg (pe_op op_fdiv (pv 4) (pv 1)) (pg_sub (pe_dget (hu_of hr) (pv 0) pe_str (fun _ _ => rfl)) (pv 3) set_list))
        (pss_one (ps_ret (pe_op op_mod (pe_callTy call_int1 rfl T.n_int (by decide +kernel) (pa_cons (pv 4) pa_nil)) (pv 1))))) pss_nil)
    (pss_one (ps_ret (pe_op op_mod (pe_callTy call_int1 rfl T.n_int (by decide +kernel) (pa_cons (pe_op op_fdiv (pe_callG Fm hg (hr.mono (by decide)) rfl gm km bm (pa_cons (pe_ix ix_list (pe_dget (hu_of hr) (pv 0) pe_str (fun _ _ => rfl)) (pv 3) (fun _ _ => rfl)) (pa_cons (pv 2) pa_nil))) pe_int) pa_nil)) (pv 1)))))))), ?_⟩
  have fin : ∀ (r : Int) (H' : Hp) (l' : Addr) (ls' : List Int) (k' : Nat), 0 ≤ r → r < n → SrcB H' q c l' cs ls' k' → k' ≤ k + 1 → Tou q H H' → Q (.int r) H' := by
    intro r H' l' ls' k' r0 r1 s' hk' t'
    refine k0 (.int r) (m + 1) _ F0 H' (kP r r0 r1) (t'.worldB w ⟨_, _, _, _, _, s'⟩) (fun p e => ?_) (.int r)
    cases e
    rw [s'.spot]
    omega
  have modn : ∀ x : Int, 0 ≤ x % n ∧ x % n < n := fun x => ⟨Int.emod_nonneg x (by omega), Int.emod_lt_of_pos x n0⟩
  refine rdS s0.toSrcAt rfl ?_
  change L2.gName 2 (V.int (k : Int)) _ H _
  (refine ⟨_, rfl, _, _, rfl, rfl, ?_⟩)
  refine ⟨_, rfl, q, _, rfl, DPut.k (k := kS) s0.dq small3, ?_⟩
  have ek : (k : Int) + 1 = ((k + 1 : Nat) : Int) := by omega
  have s1 : SrcB (upd H q (.dK [(kC, .ref c), (kL, .ref l), (kS, .int ((k : Int) + 1))])) q c l cs ls (k + 1) := by
    rw [ek]
    exact ⟨s0.toSrcAt.setS (k + 1), s0.len, s0.nz⟩
  have t1 : Tou q H (upd H q (.dK [(kC, .ref c), (kL, .ref l), (kS, .int ((k : Int) + 1))])) := Tou.putQ s0.toSrcAt (.inl rfl) (fun _ z => by cases z)
  rw [put_kS]
  generalize upd H q (.dK [(kC, .ref c), (kL, .ref l), (kS, .int ((k : Int) + 1))]) = H1 at s1 t1 ⊢
  refine ⟨_, rfl, .inl ⟨_, rfl, ?_⟩⟩
  refine rdC s1.toSrcAt rfl ?_
  refine ⟨c, _, rfl, .inl (SqL.of s1.dc), ?_⟩
  have cl : 0 < cs.length := List.length_pos_iff.mpr s1.nz
  have k0' : (0 : Int) ≤ (k : Int) := by omega
  have kb : (k : Int) < 2097152 := by omega
  refine ⟨_, _, rfl, rfl, (by rw [List.length_map]; omega), ?_⟩
  have hj : ((k : Int) % (((cs.map V.int).length : Nat) : Int)) = ((k % cs.length : Nat) : Int) := by rw [List.length_map]; exact (Int.natCast_emod k cs.length).symm
  change L2.gName 3 (V.int ((k : Int) % (((cs.map V.int).length : Nat) : Int))) _ H1 _
  rw [hj]
  have jl : k % cs.length < cs.length := Nat.mod_lt _ cl
  generalize k % cs.length = j at jl ⊢
  refine rdL s1.toSrcAt rfl ?_
  have jl2 : j < ls.length := by rw [s1.len]; exact jl
  have el : atI (ls.map V.int) (j : Int) = some (V.int ls[j]) := by
    unfold atI ixN
    rw [if_pos (by omega), if_pos (by rw [List.length_map]; omega)]
    show (ls.map V.int)[j]? = _
    rw [List.getElem?_map, List.getElem?_eq_getElem jl2]
    rfl
  refine ⟨_, rfl, l, _, _, _, rfl, rfl, SqL.of s1.dl, el, ?_⟩
  generalize ls[j] = x
  change L2.gName 4 (V.int x) _ H1 _
  (refine ⟨_, rfl, _, _, rfl, rfl, _, rfl, ?_⟩)
  change if (decide ((0 : Int) < x)) = true then _ else _
  by_cases hx : 0 < x
  · rw [if_pos (decide_eq_true hx)]
    refine ⟨_, rfl, _, rfl, _, _, rfl, rfl, ⟨n0, n1⟩, ?_⟩
    have ix : ixN (ls.map V.int).length (j : Int) = some j := by
      unfold ixN
      rw [if_pos (by omega), if_pos (by rw [List.length_map]; omega)]
      rfl
    refine rdL s1.toSrcAt rfl ⟨_, rfl, l, _, (j : Int), j, rfl, rfl, s1.dl, ix, ?_⟩
    have e1 : ((ls.map V.int).set j (V.int (x / n))) = (ls.set j (x / n)).map V.int := by rw [List.map_set]
    rw [e1]
    have s3 : SrcB (upd H1 l (.lst ((ls.set j (x / n)).map V.int))) q c l cs (ls.set j (x / n)) (k + 1) := ⟨s1.toSrcAt.setV _ (by rw [List.length_set]; exact s1.nl), by rw [List.length_set]; exact s1.len, s1.nz⟩
    refine ⟨_, rfl, .inl ⟨_, rfl, _, rfl, _, _, rfl, rfl, n0, ?_⟩⟩
    exact fin _ _ _ _ _ (modn x).1 (modn x).2 s3 (Nat.le_refl _) (t1.trans (Tou.putL s1.toSrcAt))
  · rw [if_neg (by simpa using hx)]
    have ec : atI (cs.map V.int) (j : Int) = some (V.int cs[j]) := by
      unfold atI ixN
      rw [if_pos (by omega), if_pos (by rw [List.length_map]; omega)]
      show (cs.map V.int)[j]? = _
      rw [List.getElem?_map, List.getElem?_eq_getElem jl]
      rfl
    generalize cs[j] = z at ec
    have fh : Ex F0 H1 := (t1.worldB w ⟨_, _, _, _, _, s1⟩).fh
    refine rdC s1.toSrcAt rfl ⟨_, rfl, c, _, _, _, rfl, rfl, SqL.of s1.dc, ec, _, rfl, ?_⟩
    refine ⟨none, F0, [.d (.int z), .d (.int (k : Int))], 0, fun d _ => ∃ i : Int, d = .int i, World.start fh (fun _ _ z => z) (fun _ z => nomatch z), .cons (show At K F0 (.int z) (.int z) from .int _) (.cons (show At K F0 (.int (k : Int)) (.int (k : Int)) from .int _) .nil), rfl, fun i e => ?_, .inl rfl, (fun _ z => nomatch z), d_mix z k 0 _ k0' kb fun i => ⟨i, rfl⟩, ?_⟩
    · rcases i with _ | _ | i <;> simp at e
    · rintro d m' v F' H' ⟨i, rfl⟩ w' _ at_
      cases at_
      have s3 : SrcB H' q c l cs ls (k + 1) := ⟨s1.toSrcAt.of_world w', s1.len, s1.nz⟩
      have t3 : Tou q H1 H' := Tou.of_world w' (by rw [s1.dq]; exact Option.some_ne_none _)
      refine ⟨_, _, rfl, rfl, ⟨by decide, by decide⟩, .inl ⟨_, rfl, _, rfl, _, _, rfl, rfl, n0, ?_⟩⟩
      exact fin _ _ _ _ _ (modn _).1 (modn _).2 s3 (Nat.le_refl _) (t1.trans t3)
abbrev st__law_begun : Stmt := topS 44
def names__law_begun : List Str := ["_law_script", "_law_some", "_law_cell"]
theorem sc__law_begun : FnScope names__law_begun ["_law_script"] (defScope st__law_begun) := ⟨rfl, rfl, rfl, by decide +kernel, rfl, by decide +kernel, by decide +kernel⟩
theorem pe_some {X : Cx} {e : Expr} {ι : Type} {t : ι → TE} (h : ∀ i, PE X e (t i)) : PE X e (fun σ H Q => ∃ i, t i σ H Q) := ⟨fun pins s σ H Q I ⟨i, q⟩ => (h i).run pins s σ H Q I q⟩
abbrev pickD : DM := dLc (iSeq (dV 1)) (gN 2) (bYes) (dIf (bD (d2 gGe (hS 2) (hV (d2 gPow (hV (dC (.int 10))) (hV (dC (.int 18))))))) (dV 2) (dC (.int 0))) [2]
def pick (x : Int) : Int := if 1000000000000000000 ≤ x then x else 0
theorem pick_data {cs : List Int} (hl : cs.length ≤ 100) {s0 : Sl} : pickD [s0, .im (.list (cs.map PyData.int)), .no] fun d _ => d = .list ((cs.map pick).map PyData.int) := by
  have ew : (10 : Int) ^ (18 : Int).toNat = 1000000000000000000 := by decide
  refine ⟨by rw [List.length_map]; omega, ⟨by simp, fun j hj => by simp at hj; subst hj; rfl⟩, ?_⟩
  refine lcL_map (ρ := [s0, .im (.list (cs.map PyData.int)), .no]) (fun d => match d with
    | .int x => .int (pick x)
    | _ => .none) _ [] ?_ ?_
  · intro d hd Q hQ
    obtain ⟨x, _, rfl⟩ := List.mem_map.mp hd
    have hQ : ∀ ρ3, wipeE ρ3 [2] = [s0, .im (.list (cs.map PyData.int)), .no] → Q (.int (pick x)) ρ3 := hQ
    refine ⟨trivial, ⟨by decide, by decide, by decide⟩, ?_⟩
    show if decide (x ≥ (10 : Int) ^ (18 : Int).toNat) = true then _ else _
    rw [ew]
    unfold pick at hQ
    by_cases hx : 1000000000000000000 ≤ x
    · rw [if_pos (decide_eq_true hx)]
      rw [if_pos hx] at hQ
      exact hQ _ rfl
    · rw [if_neg (by simpa using hx)]
      rw [if_neg hx] at hQ
      exact hQ _ rfl
  · rw [List.nil_append, List.map_map, List.map_map]
    rfl
theorem ok__law_begun {fa : Addr} {fd : FuncData} (T : Tx K gl) (F : L2.Fun K "_law_begun" "_law_begun" st__law_begun fa fd) : FnG pr wd K gl bas 1 fa fd ["_law_script"] (spBegunB K) := by
  have sc := sc__law_begun
  have nd := sc.nd
  refine FnG.of F sc (fun vs H Q E h => ?_) fun cdv A out sh H vs Q E hg hr h => ?_
  · obtain ⟨a, ns, rfl, _⟩ := h
    rfl
  obtain ⟨a, ns, rfl, sq, hl, k⟩ := h
  refine ⟨_, pss_cons (ps_set (i := 1) nd rfl (Or.inl rfl) (pe_ifExp (pt_cmpR (op_neD (hu64 hr)) (pv 0) (pe_lst pa_nil) (nomark _)) (pe_callTy call_list_of rfl T.n_list (by decide +kernel) (pa_cons (pv 0) pa_nil)) (pe_lst (pa_cons pe_int pa_nil))))
    (pss_one (ps_ret (pe_disp (pps_cons pe_str (pv 1) (pps_cons pe_str (pe_some (ι := Hp) (t := fun H2 => tN ⟨K, Orc.nil, none, H2, H2⟩ pickD) fun H2 => (dn_lc (c := ⟨K, Orc.nil, none, H2, H2⟩) (own := [("_law_cell", 2)]) rfl sc.nd (di_seq rfl (de_v (pv 1))) (blkOk_by (own := [("_law_cell", 2)]) (N := names__law_begun) (sc := defScope st__law_begun) (by decide +kernel)) (by decide) (fun _ _ _ _ _ => (dg_name sc.nd (i := 2) rfl (by first | exact Or.inl rfl | exact Or.inr rfl))) (fun _ _ _ _ _ => dts_nil) (fun _ _ _ _ _ => (de_if (dt_cmp (sem_ge) (dh_v (pv 2)) (dh_of (de_bin (sem_pow) (dh_of de_int) (dh_of de_int))) (nomark _)) (de_v (pv 2)) de_int)))) (pps_cons pe_str pe_int pps_nil))) rfl rfl (by decide) (by decide)))), ?_⟩
  have nodI : ∀ ms : List Int, nod (.list (ms.map PyData.int)) = true := fun ms => by
    show nodAll (ms.map PyData.int) = true
    induction ms with
    | nil => rfl
    | cons x ms ih =>
      rw [List.map_cons, nodAll, ih]
      rfl
  refine ⟨_, rfl, Nat.zero_le _, fun p0 hp0 => ?_⟩
  have ex0 : Ex H (upd H p0 (.lst [])) := Ex.new hp0
  have dpA : Dp K (upd H p0 (.lst [])) (.ref a) (.list (ns.map PyData.int)) := (At.lst (ex0.sl sq) (AtAll.ofInts ns)).dp (nodI ns)
  refine ⟨_, _, dpA, dp_ints (ns := []) upd_same, okD_ints ns, okD_ints [], _, rfl, ?_⟩
  have ez : (!PyData.eqv (.list (ns.map PyData.int)) (.list (([] : List Int).map PyData.int))) = decide (ns ≠ []) := by cases ns <;> rfl
  rw [ez]
  generalize upd H p0 (.lst []) = H0 at ex0 dpA ⊢
  have rest : ∀ (p : Addr) (cs : List Int), H0 p = none → cs ≠ [] → cs.length ≤ 100 → tRet (tDisp [(tC (.str "cells"), tVar 1), (tC (.str "left"), fun σ H Q => ∃ H2 : Hp, tN ⟨K, Orc.nil, none, H2, H2⟩ pickD σ H Q), (tC (.str "spot"), tC (.int 0))]) { nx := fun _ H' => Q .non H', rt := Q } ((start names__law_begun [.ref a]).set 1 (some (.ref p))) (upd H0 p (.lst (cs.map V.int))) := by
    intro p cs hp cz cl
    have ex1 : Ex H0 (upd H0 p (.lst (cs.map V.int))) := Ex.new hp
    have h1 : (upd H0 p (.lst (cs.map V.int))) p = some (.lst (cs.map V.int)) := upd_same
    generalize upd H0 p (.lst (cs.map V.int)) = H1 at ex1 h1 ⊢
    intro q hq
    have ex2 : Ex H1 (upd H1 q (.dK [])) := Ex.new hq
    have hqq : (upd H1 q (.dK [])) q = some (.dK []) := upd_same
    generalize upd H1 q (.dK []) = H2 at ex2 hqq ⊢
    have ex02 : Ex H H2 := (ex0.trans ex1).trans ex2
    have w : World Orc.nil none H2 H2 H2 H2 := World.start (Ex.refl H2) (fun _ _ z => z) fun _ z => nomatch z
    have r0 : Rel ⟨K, Orc.nil, none, H2, H2⟩ H2 H2 (start names__law_begun [.ref a]) (startE names__law_begun.length [.d (.list (ns.map PyData.int))] 0) [] :=
      rel_start w (.cons (.lst (ex02.sl sq) (AtAll.ofInts ns)) .nil) (fun i z => by cases i with | zero => rfl | succ i => cases z) fun _ z => nomatch z
    have r1 := r0.putI 1 (v := .ref p) (d := .list (cs.map PyData.int)) (.lst (SqL.of (ex2 _ _ h1)) (AtAll.ofInts cs))
    refine ⟨_, rfl, ?_⟩
    refine ⟨H2, H2, _, [], _, r1, pick_data cl, ?_⟩
    rintro d2 ρ2 a2 F3 H3 rfl e3 r3 f3
    have r4 := r3.pushX f3
    have x2 := r4.s.ex (a2, .d (.list ((cs.map pick).map PyData.int))) (by simp)
    obtain ⟨v2, g2, t2⟩ := x2.1.o
    have q2 := t2.ints
    subst q2
    have hq3 : H3 q = some (.dK []) := r4.w.fh _ _ (e3 _ _ hqq)
    have h13 : H3 p = some (.lst (cs.map V.int)) := r4.w.fh _ _ (e3 _ _ (ex2 _ _ h1))
    refine ⟨hq3, [(kC, .ref p), (kL, .ref a2), (kS, .int 0)], rfl, (by show 3 ≤ 15; omega), ?_⟩
    have none_of : ∀ {A B : Hp} {b : Addr}, Ex A B → B b = none → A b = none := fun {A B b} e z => by
      cases y : A b with
      | none => rfl
      | some o => rw [e b o y] at z; cases z
    have y2 : H2 a2 = none := x2.1.y
    have pq : p ≠ q := fun z => by rw [z, hq] at h1; cases h1
    have aq : a2 ≠ q := fun z => by rw [z, hqq] at y2; cases y2
    have pa : p ≠ a2 := fun z => by rw [← z, ex2 _ _ h1] at y2; cases y2
    refine k q p a2 cs (cs.map pick) _ (fun b o e => ?_) (none_of (ex0.trans ex1) hq) (none_of ex0 hp) (none_of ex02 y2) ⟨⟨?_, ?_, ?_, pa, cl, by rw [List.length_map]; exact cl⟩, List.length_map _, cz⟩
    · have hb : b ≠ q := fun z => by
        have := none_of (ex0.trans ex1) hq
        rw [← z, e] at this
        cases this
      rw [upd_ne hb]
      exact r4.w.fh _ _ (e3 _ _ (ex02 _ _ e))
    · rw [upd_same]
      rfl
    · rw [upd_ne pq]
      exact h13
    · rw [upd_ne aq]
      exact g2
  change if decide (ns ≠ []) = true then _ else _
  by_cases hz : ns = []
  · rw [if_neg (by simpa using hz)]
    refine ⟨(by decide), fun p hp => ?_⟩
    exact rest p [0] hp (by simp) (by simp)
  · rw [if_pos (decide_eq_true hz)]
    refine ⟨_, rfl, a, _, rfl, .inl (ex0.sl sq), fun p hp => ?_⟩
    exact rest p ns hp hz (by omega)
abbrev st_law : Stmt := topS 49
def names_law : List Str := ["_law_script", "_law_m", "_law_turn", "_law_many", "_law_part", "_law_kept", "_law_word", "_law_n", "_law_d", "_law_low", "_law_high", "_law_there", "_law_back", "_law_due", "_law_leg", "_law_k", "_law_told", "_law_frame", "_law_gone", "_law_begin", "_law_rows", "_law_size", "_law_one"]
theorem sc_law : FnScope names_law ["_law_script"] (defScope st_law) := ⟨rfl, rfl, rfl, by decide +kernel, rfl, by decide +kernel, by decide +kernel⟩
theorem noIm (i : Nat) (d : D) : ([.ora 0, .no, .no, .no, .no, .no, .no, .no, .no, .no, .no, .no, .no, .no, .no, .no, .no, .no, .no, .no, .no, .no] : List Sl)[i]? ≠ some (.im d) := by
  intro e
  have := List.mem_of_getElem? e
  simp at this
theorem noOw {ns : List Int} (i : Nat) (d : D) : ([.im (.list (ns.map PyData.int)), .ora 0, .no, .no, .no, .no, .no, .no, .no, .no, .no, .no, .no, .no, .no, .no, .no, .no, .no, .no, .no, .no, .no] : List Sl)[i]? ≠ some (.ow d) := by
  intro e
  have := List.mem_of_getElem? e
  simp at this
theorem oneOra {ns : List Int} (i m : Nat) (e : ([.im (.list (ns.map PyData.int)), .ora 0, .no, .no, .no, .no, .no, .no, .no, .no, .no, .no, .no, .no, .no, .no, .no, .no, .no, .no, .no, .no, .no] : List Sl)[i]? = some (.ora m)) : i = 1 ∧ m = 0 := by
  have hi : i < 23 := by
    have := (List.getElem?_eq_some_iff.mp e).1
    simpa using this
  have : i = 0 ∨ i = 1 ∨ i = 2 ∨ i = 3 ∨ i = 4 ∨ i = 5 ∨ i = 6 ∨ i = 7 ∨ i = 8 ∨ i = 9 ∨ i = 10 ∨ i = 11 ∨ i = 12 ∨ i = 13 ∨ i = 14 ∨ i = 15 ∨ i = 16 ∨ i = 17 ∨ i = 18 ∨ i = 19 ∨ i = 20 ∨ i = 21 ∨ i = 22 := by omega
  rcases this with rfl | rfl | rfl | rfl | rfl | rfl | rfl | rfl | rfl | rfl | rfl | rfl | rfl | rfl | rfl | rfl | rfl | rfl | rfl | rfl | rfl | rfl | rfl <;> simp at e <;> simp [e]
theorem rel_law {K : PySem.W.Frag} {q c l a : Addr} {H H1 : Hp} {cs ls ns : List Int} (w : World srcOrcB (some q) H H1 H H1) (sq : SqL K H a (ns.map V.int)) (s : SrcB H1 q c l cs ls 0) :
    Rel ⟨K, srcOrcB, some q, H, H1⟩ H H1 ((start names_law [.ref a]).set 1 (some (.ref q))) [.im (.list (ns.map PyData.int)), .ora 0, .no, .no, .no, .no, .no, .no, .no, .no, .no, .no, .no, .no, .no, .no, .no, .no, .no, .no, .no, .no, .no] [] := by
  refine ⟨w, ⟨rfl, fun i d e => ?_, fun i d e => ?_, fun i j d e b z => ?_, fun i n e => ?_, fun i j m n e1 e2 => ?_, (fun _ hp => nomatch hp), List.nodup_nil⟩⟩
  · rcases i with _ | i
    · cases e
      exact ⟨_, rfl, .lst sq (AtAll.ofInts ns)⟩
    · exact absurd e (noIm i d)
  · exact absurd e (noOw i d)
  · exact absurd z (noOw i d)
  · obtain ⟨rfl, rfl⟩ := oneOra i n e
    exact ⟨q, rfl, rfl, by rw [s.spot]; exact Nat.le_refl _⟩
  · rw [(oneOra i m e1).1, (oneOra j n e2).1]
def spLawG (K : PySem.W.Frag) : Sp := fun vs H Q _ => ∃ (a : Addr) (ns : List Int), vs = [.ref a] ∧ SqL K H a (ns.map V.int) ∧ ns.length ≤ 63 ∧ ∀ H', Q (.bl true) H'
theorem ok_law {fa fb : Addr} {fd fdb : FuncData} (T : Tx K gl) (F : L2.Fun K "law" "law" st_law fa fd) (Fb : FnG pr wd K gl bas 1 fb fdb ["_law_script"] (spBegunB K)) (gb : gl "_law_begun" = some (.ref fb)) (kb : PySem.W.keepIn K (.ref fb) = true) (bb : Binds K fdb ["_law_script"] []) (C__law_draw : Cd pr wd K gl bas srcOrcB 2 "_law_draw" 2 s_next) (C__law_divisor : Cd pr wd K gl bas srcOrcB 1 "_law_divisor" 2 r__law_divisor) (C__law_backs : Cd pr wd K gl bas srcOrcB 1 "_law_backs" 2 r__law_backs) (C_comes_back : Cd pr wd K gl bas srcOrcB 5 "comes_back" 1 r_comes_back) (C_least_kept : Cd pr wd K gl bas srcOrcB 5 "least_kept" 1 r_least_kept) (C_period : Cd pr wd K gl bas srcOrcB 5 "period" 1 r_period) (C__law_short : Cd pr wd K gl bas srcOrcB 6 "_law_short" 4 r__law_short) (C_moved_file : Cd pr wd K gl bas srcOrcB 7 "moved_file" 2 r_moved_file) (C_moved : Cd pr wd K gl bas srcOrcB 5 "moved" 2 r_moved)
    (says : ∀ ns : List Int, ns.length ≤ 63 → lawSays ns) : FnG pr wd K gl bas 8 fa fd ["_law_script"] (spLawG K) := by
  have sc := sc_law
  refine FnG.of F sc (fun vs H Q E h => ?_) fun cdv A out sh H vs Q E hg hr h => ?_
  · obtain ⟨a, ns, rfl, _⟩ := h
    rfl
  obtain ⟨a, ns, rfl, sq, hl, k⟩ := h
  refine ⟨_, pss_cons (ps_set (i := 1) sc.nd rfl (by first | exact Or.inl rfl | exact Or.inr rfl) (pe_callG Fb hg (hr.mono (by decide)) rfl gb kb bb (pa_cons (pv 0) pa_nil)))
    (pss_some (ι := Option Addr × Hp × Hp) (t := fun i => tS ⟨K, srcOrcB, i.1, i.2.1, i.2.2⟩ g_law) fun ⟨qo, F0, H0⟩ => ?_), ?_⟩
  · exact (ds_cons (dp_for PassesOwn.never rfl (di_range1 rfl T.n_range (dl_cons (de_bin (sem_add rfl) (dh_of de_int) (dh_of (de_cb (sem_min rfl rfl) rfl T.n_min (by decide +kernel) (dg_cons (dh_of de_int) (dg_cons (dh_of (de_cb (sem_len rfl) rfl T.n_len (by decide +kernel) (dg_cons (dh_v (pv 0)) dg_nil))) dg_nil))))) dl_nil)) (dg_name sc.nd (i := 2) rfl (by first | exact Or.inl rfl | exact Or.inr rfl)) (ds_cons (dp_set sc.nd (i := 3) rfl (by first | exact Or.inl rfl | exact Or.inr rfl) (de_bin (sem_add rfl) (dh_of de_int) (dh_of (de_cdO (i := 1) (C__law_draw.more (by decide)) rfl hg hr rfl (da_ora (pv 1) (da_cons de_int da_nil))))))
    (ds_cons (dp_par rfl sc.nd (i := 7) (j := 8) rfl rfl (by decide) rfl rfl (dl_cons (de_bin (sem_add rfl) (dh_of de_int) (dh_of (de_cdO (i := 1) (C__law_draw.more (by decide)) rfl hg hr rfl (da_ora (pv 1) (da_cons de_int da_nil))))) (dl_cons (de_bin (sem_add rfl) (dh_of de_int) (dh_of (de_cdO (i := 1) (C__law_draw.more (by decide)) rfl hg hr rfl (da_ora (pv 1) (da_cons de_int da_nil))))) dl_nil)) rfl)
    (ds_cons (dp_set sc.nd (i := 4) rfl (by first | exact Or.inl rfl | exact Or.inr rfl) (de_cd (C__law_divisor.more (by decide)) rfl hg hr rfl (da_cons (de_v (pv 7)) (da_cons (de_v (pv 8)) da_nil))))
    (ds_cons (dp_par rfl sc.nd (i := 9) (j := 10) rfl rfl (by decide) rfl rfl (dl_cons (de_bin (sem_div) (dh_v (pv 7)) (dh_v (pv 4))) (dl_cons (de_bin (sem_div) (dh_v (pv 8)) (dh_v (pv 4))) dl_nil)) rfl)
    (ds_cons (dp_par rfl sc.nd (i := 7) (j := 8) rfl rfl (by decide) rfl rfl (dl_cons (de_bin (sem_mul rfl) (dh_v (pv 9)) (dh_v (pv 3))) (dl_cons (de_bin (sem_mul rfl) (dh_v (pv 10)) (dh_v (pv 3))) dl_nil)) rfl)
    (ds_cons (dp_for PassesOwn.never rfl (di_seq rfl (de_cd (C__law_backs.more (by decide)) rfl hg hr rfl (da_cons (de_v (pv 9)) (da_cons (de_v (pv 10)) da_nil)))) (dg_tup rfl rfl (dgs_cons (dg_name sc.nd (i := 11) rfl (by first | exact Or.inl rfl | exact Or.inr rfl)) (dgs_cons (dg_name sc.nd (i := 12) rfl (by first | exact Or.inl rfl | exact Or.inr rfl)) (dgs_cons (dg_name sc.nd (i := 13) rfl (by first | exact Or.inl rfl | exact Or.inr rfl)) dgs_nil)))) (ds_one (dp_if (dt_cmp (sem_neS) (dh_of (de_cb (sem_reprB) rfl T.n_repr (by decide +kernel) (dg_cons (dh_of (de_cd (C_comes_back.more (by decide)) rfl hg hr rfl (da_cons (de_tup (dl_cons (de_tup (dl_cons (de_v (pv 7)) (dl_cons (de_v (pv 8)) (dl_cons (de_v (pv 11)) dl_nil)))) (dl_cons (de_tup (dl_cons (de_v (pv 8)) (dl_cons (de_v (pv 7)) (dl_cons (de_v (pv 12)) dl_nil)))) dl_nil))) da_nil))) dg_nil))) (dh_of (de_cb (sem_reprB) rfl T.n_repr (by decide +kernel) (dg_cons (dh_v (pv 13)) dg_nil))) (nomark _)) (ds_one (dp_ret de_bl)) ds_nil)))
    (ds_cons (dp_set sc.nd (i := 5) rfl (by first | exact Or.inl rfl | exact Or.inr rfl) (de_bin (sem_sub) (dh_of de_int) (dh_of (de_bin (sem_div) (dh_of (de_bin (sem_sub) (dh_of de_int) (dh_v (pv 10)))) (dh_v (pv 9))))))
    (ds_one (dp_for PassesOwn.never rfl (di_seq rfl (de_tup (dl_cons de_str (dl_cons de_str (dl_cons de_str dl_nil))))) (dg_name sc.nd (i := 6) rfl (by first | exact Or.inl rfl | exact Or.inr rfl)) (ds_cons (dp_set sc.nd (i := 14) rfl (by first | exact Or.inl rfl | exact Or.inr rfl) (de_tup (dl_cons (de_v (pv 7)) (dl_cons (de_v (pv 8)) (dl_cons (de_v (pv 6)) dl_nil)))))
    (ds_cons (dp_if (PW.pt (dw_or (dt_cmp (sem_ne rfl (hu64 hr)) (dh_of (de_cd (C_least_kept.more (by decide)) rfl hg hr rfl (da_cons (de_tup (dl_cons (de_v (pv 14)) dl_nil)) da_nil))) (dh_v (pv 5)) (nomark _)) (pw_or1 (dt_cmp (sem_ne rfl (hu64 hr)) (dh_of (de_cd (C_period.more (by decide)) rfl hg hr rfl (da_cons (de_tup (dl_cons (de_v (pv 14)) dl_nil)) da_nil))) (dh_of (de_tup (dl_cons (de_v (pv 10)) (dl_cons (de_v (pv 9)) dl_nil)))) (nomark _))))) (ds_one (dp_ret de_bl)) ds_nil)
    (ds_cons (dp_if (PW.pt (dw_and (dt_cmp (sem_gt) (dh_v (pv 5)) (dh_of de_int) (nomark _)) (pw_and1 (dt_cmp (sem_is) (dh_of (de_cd (C__law_short.more (by decide)) rfl hg hr rfl (da_cons (de_v (pv 6)) (da_cons (de_v (pv 9)) (da_cons (de_v (pv 10)) (da_cons (de_bin (sem_sub) (dh_v (pv 5)) (dh_of de_int)) da_nil)))))) (dh_of de_non) (nomark _))))) (ds_one (dp_ret de_bl)) ds_nil)
    (ds_cons (dp_parIN rfl sc.nd (i := 19) (j := 20) rfl rfl (by decide) rfl rfl (de_cdO (i := 1) (C__law_draw.more (by decide)) rfl hg hr rfl (da_ora (pv 1) (da_cons de_int da_nil))) (dn_lst dl_nil) rfl)
    (ds_cons (dp_for PassesOwn.never rfl (di_range1 rfl T.n_range (dl_cons de_int dl_nil)) (dg_name sc.nd (i := 15) rfl (by first | exact Or.inl rfl | exact Or.inr rfl)) (ds_cons (dp_set sc.nd (i := 21) rfl (by first | exact Or.inl rfl | exact Or.inr rfl) (de_bin (sem_add rfl) (dh_v (pv 5)) (dh_of (de_cdO (i := 1) (C__law_draw.more (by decide)) rfl hg hr rfl (da_ora (pv 1) (da_cons de_int da_nil))))))
    (ds_cons (dp_app rfl (pv 20) (de_tup (dl_cons (de_v (pv 19)) (dl_cons (de_bin (sem_add rfl) (dh_v (pv 19)) (dh_v (pv 21))) (dl_cons (de_tup (dl_cons (de_ix rfl (dh_of de_str) (dh_v (pv 15)) (fun _ _ => rfl)) dl_nil)) dl_nil)))))
    (ds_one (dp_set sc.nd (i := 19) rfl (by first | exact Or.inl rfl | exact Or.inr rfl) (de_bin (sem_add rfl) (dh_v (pv 19)) (dh_of (de_cdO (i := 1) (C__law_draw.more (by decide)) rfl hg hr rfl (da_ora (pv 1) (da_cons (de_bin (sem_mul rfl) (dh_of de_int) (dh_v (pv 21))) da_nil))))))))))
    (ds_cons (dp_set sc.nd (i := 16) rfl (by first | exact Or.inl rfl | exact Or.inr rfl) (de_cd (C_moved_file.more (by decide)) rfl hg hr rfl (da_cons (de_tup (dl_cons (de_v (pv 14)) dl_nil)) (da_cons (de_ct (sem_tuple rfl) rfl T.n_tuple (by decide +kernel) (dg_cons (dh_v (pv 20)) dg_nil)) da_nil))))
    (ds_cons (dp_setLc (n := 13) (own := [("_law_one", 22)]) rfl sc.nd rfl rfl (sw_true rfl rfl rfl (by decide +kernel)) (di_seq rfl (de_v (pv 20))) (blkOk_by (own := [("_law_one", 22)]) (N := names_law) (sc := defScope st_law) (by decide +kernel)) (by decide) (fun _ _ _ _ _ => (dg_name sc.nd (i := 22) rfl (by first | exact Or.inl rfl | exact Or.inr rfl))) (fun _ _ _ _ _ => dts_nil) (fun _ _ _ _ _ => (de_tup (dl_cons (de_cd (C_moved.more (by decide)) rfl hg hr rfl (da_cons (de_tup (dl_cons (de_v (pv 14)) dl_nil)) (da_cons (de_ix rfl (dh_v (pv 22)) (dh_of de_int) (fun _ _ => rfl)) da_nil))) (dl_cons (de_cd (C_moved.more (by decide)) rfl hg hr rfl (da_cons (de_tup (dl_cons (de_v (pv 14)) dl_nil)) (da_cons (de_ix rfl (dh_v (pv 22)) (dh_of de_int) (fun _ _ => rfl)) da_nil))) (dl_cons (de_ix rfl (dh_v (pv 22)) (dh_of de_int) (fun _ _ => rfl)) dl_nil))))))
    (ds_cons (dp_if (PW.pt (dw_or (dt_cmp (sem_ne rfl (hu64 hr)) (dh_v (pv 16)) (dh_of (de_ct (sem_tuple rfl) rfl T.n_tuple (by decide +kernel) (dg_cons (dh_v (pv 13)) dg_nil))) (nomark _)) (pw_or1 (dt_cmp (sem_ne rfl (hu64 hr)) (dh_of (de_cb (sem_len rfl) rfl T.n_len (by decide +kernel) (dg_cons (dh_v (pv 16)) dg_nil))) (dh_of (de_cb (sem_len rfl) rfl T.n_len (by decide +kernel) (dg_cons (dh_v (pv 20)) dg_nil))) (nomark _))))) (ds_one (dp_ret de_bl)) ds_nil)
    (ds_cons (dp_if (PW.pt (dw_and (dt_cmp (sem_ge) (dh_v (pv 9)) (dh_v (pv 10)) (nomark _)) (dw_and (dt_cmp (sem_eq rfl (hu64 hr)) (dh_v (pv 6)) (dh_of de_str) (nomark _)) (pw_and1 (dt_cmp (sem_ne rfl (hu64 hr)) (dh_of (de_cd (C_moved_file.more (by decide)) rfl hg hr rfl (da_cons (de_tup (dl_cons (de_tup (dl_cons (de_v (pv 8)) (dl_cons (de_v (pv 7)) (dl_cons (de_v (pv 6)) dl_nil)))) dl_nil)) (da_cons (de_v (pv 16)) da_nil)))) (dh_of (de_ct (sem_tuple rfl) rfl T.n_tuple (by decide +kernel) (dg_cons (dh_v (pv 20)) dg_nil))) (nomark _)))))) (ds_one (dp_ret de_bl)) ds_nil)
    (ds_cons (dp_set sc.nd (i := 17) rfl (by first | exact Or.inl rfl | exact Or.inr rfl) (de_if (dt_cmp (sem_gt) (dh_v (pv 5)) (dh_of de_int) (nomark _)) (de_cd (C__law_short.more (by decide)) rfl hg hr rfl (da_cons (de_v (pv 6)) (da_cons (de_v (pv 9)) (da_cons (de_v (pv 10)) (da_cons (de_bin (sem_sub) (dh_v (pv 5)) (dh_of de_int)) da_nil))))) de_int))
    (ds_cons (dp_set sc.nd (i := 18) rfl (by first | exact Or.inl rfl | exact Or.inr rfl) (de_cd (C_moved_file.more (by decide)) rfl hg hr rfl (da_cons (de_tup (dl_cons (de_v (pv 14)) dl_nil)) (da_cons (de_tup (dl_cons (de_tup (dl_cons (de_v (pv 17)) (dl_cons (de_bin (sem_add rfl) (dh_v (pv 17)) (dh_of (de_cb (sem_max rfl rfl) rfl T.n_max (by decide +kernel) (dg_cons (dh_of de_int) (dg_cons (dh_of (de_bin (sem_sub) (dh_v (pv 5)) (dh_of de_int))) dg_nil))))) (dl_cons (de_tup (dl_cons de_str dl_nil)) dl_nil)))) dl_nil)) da_nil))))
    (ds_one (dp_if (PW.pt (dw_and (dt_cmp (sem_gt) (dh_v (pv 5)) (dh_of de_int) (nomark _)) (pw_and1 (dt_cmp (sem_ne rfl (hu64 hr)) (dh_v (pv 18)) (dh_of (de_tup dl_nil)) (nomark _))))) (ds_one (dp_ret de_bl)) ds_nil)))))))))))))))))))))))
    (ds_one (dp_ret de_bl)))
  refine ⟨.ref a, rfl, a, ns, rfl, sq, hl, fun q c l cs ls H1 ex hq hc hL s => ⟨(some q, H, H1), H, _, [], _, ?_, says ns hl, ?_, ?_, ?_, ?_⟩⟩
  · have w : World srcOrcB (some q) H H1 H H1 := by
      refine World.start ex (fun b hb z => ?_) fun p e => ?_
      · rcases s.foot z with rfl | rfl | rfl
        · exact hb hq
        · exact hb hc
        · exact hb hL
      · cases e
        exact ⟨_, _, _, _, _, s⟩
    exact rel_law w sq s
  · exact fun _ _ _ _ z => z.elim
  · rintro d v ρ' σ' F' H' rfl _ at_
    cases at_
    exact k _
  · exact fun _ _ _ _ z => z.elim
  · exact fun _ _ _ _ z => z.elim
end
end Q80
namespace Q80
open PySem L2 DL
open PySem.W (nsIn keepIn codeIn fnOf)
theorem all_mk {l : PySem.W.OpenLaw} {wd : PySem.World} {K : PySem.W.Frag} {h : Heap} {gl : Str → Option Value} {fa : Addr} (X : K.In h) (G : h.Ns mainGlobals gl) (hfa : gl "law" = some (.ref fa))
    {f0 : Addr} {od0 an0 : Option Addr} {sl0 : Array (Option Value)} {oc0 kV0 dc0 pm0 cd0 ct0 : Value}
    (a0 : nsIn K mainGlobals "is_integer" = some (some (.ref f0))) (l0 : K.lookup f0 = some ⟨oc0, od0, .func (fnOf "is_integer" "is_integer" (defArgs st_is_integer) (defBody st_is_integer) (defScope st_is_integer) .none kV0 dc0 pm0 an0 cd0 ct0), sl0⟩) (c0 : codeIn K cd0 "is_integer" = true) (k0 : keepIn K (.ref f0) = true)
    {f1 : Addr} {od1 an1 : Option Addr} {sl1 : Array (Option Value)} {oc1 kV1 dc1 pm1 cd1 ct1 : Value}
    (a1 : nsIn K mainGlobals "is_within" = some (some (.ref f1))) (l1 : K.lookup f1 = some ⟨oc1, od1, .func (fnOf "is_within" "is_within" (defArgs st_is_within) (defBody st_is_within) (defScope st_is_within) .none kV1 dc1 pm1 an1 cd1 ct1), sl1⟩) (c1 : codeIn K cd1 "is_within" = true) (k1 : keepIn K (.ref f1) = true)
    {f2 : Addr} {od2 an2 : Option Addr} {sl2 : Array (Option Value)} {oc2 kV2 dc2 pm2 cd2 ct2 : Value}
    (a2 : nsIn K mainGlobals "is_tuple" = some (some (.ref f2))) (l2 : K.lookup f2 = some ⟨oc2, od2, .func (fnOf "is_tuple" "is_tuple" (defArgs st_is_tuple) (defBody st_is_tuple) (defScope st_is_tuple) .none kV2 dc2 pm2 an2 cd2 ct2), sl2⟩) (c2 : codeIn K cd2 "is_tuple" = true) (k2 : keepIn K (.ref f2) = true)
    {f3 : Addr} {od3 an3 : Option Addr} {sl3 : Array (Option Value)} {oc3 kV3 dc3 pm3 cd3 ct3 : Value}
    (a3 : nsIn K mainGlobals "is_one_of" = some (some (.ref f3))) (l3 : K.lookup f3 = some ⟨oc3, od3, .func (fnOf "is_one_of" "is_one_of" (defArgs st_is_one_of) (defBody st_is_one_of) (defScope st_is_one_of) .none kV3 dc3 pm3 an3 cd3 ct3), sl3⟩) (c3 : codeIn K cd3 "is_one_of" = true) (k3 : keepIn K (.ref f3) = true)
    {f4 : Addr} {od4 an4 : Option Addr} {sl4 : Array (Option Value)} {oc4 kV4 dc4 pm4 cd4 ct4 : Value}
    (a4 : nsIn K mainGlobals "is_sign" = some (some (.ref f4))) (l4 : K.lookup f4 = some ⟨oc4, od4, .func (fnOf "is_sign" "is_sign" (defArgs st_is_sign) (defBody st_is_sign) (defScope st_is_sign) .none kV4 dc4 pm4 an4 cd4 ct4), sl4⟩) (c4 : codeIn K cd4 "is_sign" = true) (k4 : keepIn K (.ref f4) = true)
    {f5 : Addr} {od5 an5 : Option Addr} {sl5 : Array (Option Value)} {oc5 kV5 dc5 pm5 cd5 ct5 : Value}
    (a5 : nsIn K mainGlobals "has_signs" = some (some (.ref f5))) (l5 : K.lookup f5 = some ⟨oc5, od5, .func (fnOf "has_signs" "has_signs" (defArgs st_has_signs) (defBody st_has_signs) (defScope st_has_signs) .none kV5 dc5 pm5 an5 cd5 ct5), sl5⟩) (c5 : codeIn K cd5 "has_signs" = true) (k5 : keepIn K (.ref f5) = true)
    {f6 : Addr} {od6 an6 : Option Addr} {sl6 : Array (Option Value)} {oc6 kV6 dc6 pm6 cd6 ct6 : Value}
    (a6 : nsIn K mainGlobals "_is_line" = some (some (.ref f6))) (l6 : K.lookup f6 = some ⟨oc6, od6, .func (fnOf "_is_line" "_is_line" (defArgs st__is_line) (defBody st__is_line) (defScope st__is_line) .none kV6 dc6 pm6 an6 cd6 ct6), sl6⟩) (c6 : codeIn K cd6 "_is_line" = true) (k6 : keepIn K (.ref f6) = true)
    {f7 : Addr} {od7 an7 : Option Addr} {sl7 : Array (Option Value)} {oc7 kV7 dc7 pm7 cd7 ct7 : Value}
    (a7 : nsIn K mainGlobals "is_text" = some (some (.ref f7))) (l7 : K.lookup f7 = some ⟨oc7, od7, .func (fnOf "is_text" "is_text" (defArgs st_is_text) (defBody st_is_text) (defScope st_is_text) .none kV7 dc7 pm7 an7 cd7 ct7), sl7⟩) (c7 : codeIn K cd7 "is_text" = true) (k7 : keepIn K (.ref f7) = true)
    {f8 : Addr} {od8 an8 : Option Addr} {sl8 : Array (Option Value)} {oc8 kV8 dc8 pm8 cd8 ct8 : Value}
    (a8 : nsIn K mainGlobals "is_cue" = some (some (.ref f8))) (l8 : K.lookup f8 = some ⟨oc8, od8, .func (fnOf "is_cue" "is_cue" (defArgs st_is_cue) (defBody st_is_cue) (defScope st_is_cue) .none kV8 dc8 pm8 an8 cd8 ct8), sl8⟩) (c8 : codeIn K cd8 "is_cue" = true) (k8 : keepIn K (.ref f8) = true)
    {f9 : Addr} {od9 an9 : Option Addr} {sl9 : Array (Option Value)} {oc9 kV9 dc9 pm9 cd9 ct9 : Value}
    (a9 : nsIn K mainGlobals "need_file" = some (some (.ref f9))) (l9 : K.lookup f9 = some ⟨oc9, od9, .func (fnOf "need_file" "need_file" (defArgs st_need_file) (defBody st_need_file) (defScope st_need_file) .none kV9 dc9 pm9 an9 cd9 ct9), sl9⟩) (c9 : codeIn K cd9 "need_file" = true) (k9 : keepIn K (.ref f9) = true)
    {f10 : Addr} {od10 an10 : Option Addr} {sl10 : Array (Option Value)} {oc10 kV10 dc10 pm10 cd10 ct10 : Value}
    (a10 : nsIn K mainGlobals "_is_step" = some (some (.ref f10))) (l10 : K.lookup f10 = some ⟨oc10, od10, .func (fnOf "_is_step" "_is_step" (defArgs st__is_step) (defBody st__is_step) (defScope st__is_step) .none kV10 dc10 pm10 an10 cd10 ct10), sl10⟩) (c10 : codeIn K cd10 "_is_step" = true) (k10 : keepIn K (.ref f10) = true)
    {f11 : Addr} {od11 an11 : Option Addr} {sl11 : Array (Option Value)} {oc11 kV11 dc11 pm11 cd11 ct11 : Value}
    (a11 : nsIn K mainGlobals "need_chain" = some (some (.ref f11))) (l11 : K.lookup f11 = some ⟨oc11, od11, .func (fnOf "need_chain" "need_chain" (defArgs st_need_chain) (defBody st_need_chain) (defScope st_need_chain) .none kV11 dc11 pm11 an11 cd11 ct11), sl11⟩) (c11 : codeIn K cd11 "need_chain" = true) (k11 : keepIn K (.ref f11) = true)
    {f12 : Addr} {od12 an12 : Option Addr} {sl12 : Array (Option Value)} {oc12 kV12 dc12 pm12 cd12 ct12 : Value}
    (a12 : nsIn K mainGlobals "_quotient" = some (some (.ref f12))) (l12 : K.lookup f12 = some ⟨oc12, od12, .func (fnOf "_quotient" "_quotient" (defArgs st__quotient) (defBody st__quotient) (defScope st__quotient) .none kV12 dc12 pm12 an12 cd12 ct12), sl12⟩) (c12 : codeIn K cd12 "_quotient" = true) (k12 : keepIn K (.ref f12) = true)
    {f13 : Addr} {od13 an13 : Option Addr} {sl13 : Array (Option Value)} {oc13 kV13 dc13 pm13 cd13 ct13 : Value}
    (a13 : nsIn K mainGlobals "_moved" = some (some (.ref f13))) (l13 : K.lookup f13 = some ⟨oc13, od13, .func (fnOf "_moved" "_moved" (defArgs st__moved) (defBody st__moved) (defScope st__moved) .none kV13 dc13 pm13 an13 cd13 ct13), sl13⟩) (c13 : codeIn K cd13 "_moved" = true) (k13 : keepIn K (.ref f13) = true)
    {f14 : Addr} {od14 an14 : Option Addr} {sl14 : Array (Option Value)} {oc14 kV14 dc14 pm14 cd14 ct14 : Value}
    (a14 : nsIn K mainGlobals "moved" = some (some (.ref f14))) (l14 : K.lookup f14 = some ⟨oc14, od14, .func (fnOf "moved" "moved" (defArgs st_moved) (defBody st_moved) (defScope st_moved) .none kV14 dc14 pm14 an14 cd14 ct14), sl14⟩) (c14 : codeIn K cd14 "moved" = true) (k14 : keepIn K (.ref f14) = true)
    {f15 : Addr} {od15 an15 : Option Addr} {sl15 : Array (Option Value)} {oc15 kV15 dc15 pm15 cd15 ct15 : Value}
    (a15 : nsIn K mainGlobals "_bottom" = some (some (.ref f15))) (l15 : K.lookup f15 = some ⟨oc15, od15, .func (fnOf "_bottom" "_bottom" (defArgs st__bottom) (defBody st__bottom) (defScope st__bottom) .none kV15 dc15 pm15 an15 cd15 ct15), sl15⟩) (c15 : codeIn K cd15 "_bottom" = true) (k15 : keepIn K (.ref f15) = true)
    {f16 : Addr} {od16 an16 : Option Addr} {sl16 : Array (Option Value)} {oc16 kV16 dc16 pm16 cd16 ct16 : Value}
    (a16 : nsIn K mainGlobals "_primes_of" = some (some (.ref f16))) (l16 : K.lookup f16 = some ⟨oc16, od16, .func (fnOf "_primes_of" "_primes_of" (defArgs st__primes_of) (defBody st__primes_of) (defScope st__primes_of) .none kV16 dc16 pm16 an16 cd16 ct16), sl16⟩) (c16 : codeIn K cd16 "_primes_of" = true) (k16 : keepIn K (.ref f16) = true)
    {f17 : Addr} {od17 an17 : Option Addr} {sl17 : Array (Option Value)} {oc17 kV17 dc17 pm17 cd17 ct17 : Value}
    (a17 : nsIn K mainGlobals "_comes_again" = some (some (.ref f17))) (l17 : K.lookup f17 = some ⟨oc17, od17, .func (fnOf "_comes_again" "_comes_again" (defArgs st__comes_again) (defBody st__comes_again) (defScope st__comes_again) .none kV17 dc17 pm17 an17 cd17 ct17), sl17⟩) (c17 : codeIn K cd17 "_comes_again" = true) (k17 : keepIn K (.ref f17) = true)
    {f18 : Addr} {od18 an18 : Option Addr} {sl18 : Array (Option Value)} {oc18 kV18 dc18 pm18 cd18 ct18 : Value}
    (a18 : nsIn K mainGlobals "period" = some (some (.ref f18))) (l18 : K.lookup f18 = some ⟨oc18, od18, .func (fnOf "period" "period" (defArgs st_period) (defBody st_period) (defScope st_period) .none kV18 dc18 pm18 an18 cd18 ct18), sl18⟩) (c18 : codeIn K cd18 "period" = true) (k18 : keepIn K (.ref f18) = true)
    {f19 : Addr} {od19 an19 : Option Addr} {sl19 : Array (Option Value)} {oc19 kV19 dc19 pm19 cd19 ct19 : Value}
    (a19 : nsIn K mainGlobals "_first_apart" = some (some (.ref f19))) (l19 : K.lookup f19 = some ⟨oc19, od19, .func (fnOf "_first_apart" "_first_apart" (defArgs st__first_apart) (defBody st__first_apart) (defScope st__first_apart) .none kV19 dc19 pm19 an19 cd19 ct19), sl19⟩) (c19 : codeIn K cd19 "_first_apart" = true) (k19 : keepIn K (.ref f19) = true)
    {f20 : Addr} {od20 an20 : Option Addr} {sl20 : Array (Option Value)} {oc20 kV20 dc20 pm20 cd20 ct20 : Value}
    (a20 : nsIn K mainGlobals "comes_back" = some (some (.ref f20))) (l20 : K.lookup f20 = some ⟨oc20, od20, .func (fnOf "comes_back" "comes_back" (defArgs st_comes_back) (defBody st_comes_back) (defScope st_comes_back) .none kV20 dc20 pm20 an20 cd20 ct20), sl20⟩) (c20 : codeIn K cd20 "comes_back" = true) (k20 : keepIn K (.ref f20) = true)
    {f21 : Addr} {od21 an21 : Option Addr} {sl21 : Array (Option Value)} {oc21 kV21 dc21 pm21 cd21 ct21 : Value}
    (a21 : nsIn K mainGlobals "least_kept" = some (some (.ref f21))) (l21 : K.lookup f21 = some ⟨oc21, od21, .func (fnOf "least_kept" "least_kept" (defArgs st_least_kept) (defBody st_least_kept) (defScope st_least_kept) .none kV21 dc21 pm21 an21 cd21 ct21), sl21⟩) (c21 : codeIn K cd21 "least_kept" = true) (k21 : keepIn K (.ref f21) = true)
    {f22 : Addr} {od22 an22 : Option Addr} {sl22 : Array (Option Value)} {oc22 kV22 dc22 pm22 cd22 ct22 : Value}
    (a22 : nsIn K mainGlobals "moved_file" = some (some (.ref f22))) (l22 : K.lookup f22 = some ⟨oc22, od22, .func (fnOf "moved_file" "moved_file" (defArgs st_moved_file) (defBody st_moved_file) (defScope st_moved_file) .none kV22 dc22 pm22 an22 cd22 ct22), sl22⟩) (c22 : codeIn K cd22 "moved_file" = true) (k22 : keepIn K (.ref f22) = true)
    {f23 : Addr} {od23 an23 : Option Addr} {sl23 : Array (Option Value)} {oc23 kV23 dc23 pm23 cd23 ct23 : Value}
    (a23 : nsIn K mainGlobals "_law_mix" = some (some (.ref f23))) (l23 : K.lookup f23 = some ⟨oc23, od23, .func (fnOf "_law_mix" "_law_mix" (defArgs st__law_mix) (defBody st__law_mix) (defScope st__law_mix) .none kV23 dc23 pm23 an23 cd23 ct23), sl23⟩) (c23 : codeIn K cd23 "_law_mix" = true) (k23 : keepIn K (.ref f23) = true)
    {f24 : Addr} {od24 an24 : Option Addr} {sl24 : Array (Option Value)} {oc24 kV24 dc24 pm24 cd24 ct24 : Value}
    (a24 : nsIn K mainGlobals "_law_divisor" = some (some (.ref f24))) (l24 : K.lookup f24 = some ⟨oc24, od24, .func (fnOf "_law_divisor" "_law_divisor" (defArgs st__law_divisor) (defBody st__law_divisor) (defScope st__law_divisor) .none kV24 dc24 pm24 an24 cd24 ct24), sl24⟩) (c24 : codeIn K cd24 "_law_divisor" = true) (k24 : keepIn K (.ref f24) = true)
    {f25 : Addr} {od25 an25 : Option Addr} {sl25 : Array (Option Value)} {oc25 kV25 dc25 pm25 cd25 ct25 : Value}
    (a25 : nsIn K mainGlobals "_law_backs" = some (some (.ref f25))) (l25 : K.lookup f25 = some ⟨oc25, od25, .func (fnOf "_law_backs" "_law_backs" (defArgs st__law_backs) (defBody st__law_backs) (defScope st__law_backs) .none kV25 dc25 pm25 an25 cd25 ct25), sl25⟩) (c25 : codeIn K cd25 "_law_backs" = true) (k25 : keepIn K (.ref f25) = true)
    {f26 : Addr} {od26 an26 : Option Addr} {sl26 : Array (Option Value)} {oc26 kV26 dc26 pm26 cd26 ct26 : Value}
    (a26 : nsIn K mainGlobals "_law_short" = some (some (.ref f26))) (l26 : K.lookup f26 = some ⟨oc26, od26, .func (fnOf "_law_short" "_law_short" (defArgs st__law_short) (defBody st__law_short) (defScope st__law_short) .none kV26 dc26 pm26 an26 cd26 ct26), sl26⟩) (c26 : codeIn K cd26 "_law_short" = true) (k26 : keepIn K (.ref f26) = true)
    {f27 : Addr} {od27 an27 : Option Addr} {sl27 : Array (Option Value)} {oc27 kV27 dc27 pm27 cd27 ct27 : Value}
    (a27 : nsIn K mainGlobals "_law_draw" = some (some (.ref f27))) (l27 : K.lookup f27 = some ⟨oc27, od27, .func (fnOf "_law_draw" "_law_draw" (defArgs st__law_draw) (defBody st__law_draw) (defScope st__law_draw) .none kV27 dc27 pm27 an27 cd27 ct27), sl27⟩) (c27 : codeIn K cd27 "_law_draw" = true) (k27 : keepIn K (.ref f27) = true)
    {f28 : Addr} {od28 an28 : Option Addr} {sl28 : Array (Option Value)} {oc28 kV28 dc28 pm28 cd28 ct28 : Value}
    (a28 : nsIn K mainGlobals "_law_begun" = some (some (.ref f28))) (l28 : K.lookup f28 = some ⟨oc28, od28, .func (fnOf "_law_begun" "_law_begun" (defArgs st__law_begun) (defBody st__law_begun) (defScope st__law_begun) .none kV28 dc28 pm28 an28 cd28 ct28), sl28⟩) (c28 : codeIn K cd28 "_law_begun" = true) (k28 : keepIn K (.ref f28) = true)
    {f29 : Addr} {od29 an29 : Option Addr} {sl29 : Array (Option Value)} {oc29 kV29 dc29 pm29 cd29 ct29 : Value}
    (a29 : nsIn K mainGlobals "law" = some (some (.ref f29))) (l29 : K.lookup f29 = some ⟨oc29, od29, .func (fnOf "law" "law" (defArgs st_law) (defBody st_law) (defScope st_law) .none kV29 dc29 pm29 an29 cd29 ct29), sl29⟩) (c29 : codeIn K cd29 "law" = true) (k29 : keepIn K (.ref f29) = true)
    (z_abs : nsIn K mainGlobals "abs" = some none)
    (z_all : nsIn K mainGlobals "all" = some none)
    (z_any : nsIn K mainGlobals "any" = some none)
    (z_bool : nsIn K mainGlobals "bool" = some none)
    (z_enumerate : nsIn K mainGlobals "enumerate" = some none)
    (z_int : nsIn K mainGlobals "int" = some none)
    (z_isinstance : nsIn K mainGlobals "isinstance" = some none)
    (z_len : nsIn K mainGlobals "len" = some none)
    (z_list : nsIn K mainGlobals "list" = some none)
    (z_max : nsIn K mainGlobals "max" = some none)
    (z_min : nsIn K mainGlobals "min" = some none)
    (z_ord : nsIn K mainGlobals "ord" = some none)
    (z_range : nsIn K mainGlobals "range" = some none)
    (z_repr : nsIn K mainGlobals "repr" = some none)
    (z_str : nsIn K mainGlobals "str" = some none)
    (z_tuple : nsIn K mainGlobals "tuple" = some none)
    (z_zip : nsIn K mainGlobals "zip" = some none)
    {t_LOWEST_OF_LINES : Tok} (v_LOWEST_OF_LINES : nsIn K mainGlobals "LOWEST_OF_LINES" = some (some (.int 32 t_LOWEST_OF_LINES)))
    {t_MOST_CUES : Tok} (v_MOST_CUES : nsIn K mainGlobals "MOST_CUES" = some (some (.int 60 t_MOST_CUES)))
    {t_MOST_FRAME : Tok} (v_MOST_FRAME : nsIn K mainGlobals "MOST_FRAME" = some (some (.int 1000000000000 t_MOST_FRAME)))
    {t_MOST_LINES : Tok} (v_MOST_LINES : nsIn K mainGlobals "MOST_LINES" = some (some (.int 4 t_MOST_LINES)))
    {t_MOST_OF_STEP : Tok} (v_MOST_OF_STEP : nsIn K mainGlobals "MOST_OF_STEP" = some (some (.int 2000 t_MOST_OF_STEP)))
    {t_MOST_PRODUCT : Tok} (v_MOST_PRODUCT : nsIn K mainGlobals "MOST_PRODUCT" = some (some (.int 100000 t_MOST_PRODUCT)))
    {t_MOST_SIGNS : Tok} (v_MOST_SIGNS : nsIn K mainGlobals "MOST_SIGNS" = some (some (.int 40 t_MOST_SIGNS)))
    {t_MOST_STEPS : Tok} (v_MOST_STEPS : nsIn K mainGlobals "MOST_STEPS" = some (some (.int 4 t_MOST_STEPS)))
    {t_PERCENT : Tok} (v_PERCENT : nsIn K mainGlobals "PERCENT" = some (some (.int 37 t_PERCENT)))
    {u_ROUNDINGS : Addr} {dd_ROUNDINGS : Option Addr} {nn_ROUNDINGS : Nat} {sl_ROUNDINGS : Array (Option Value)} {k0_ROUNDINGS : Tok} {k1_ROUNDINGS : Tok} {k2_ROUNDINGS : Tok} (v_ROUNDINGS : nsIn K mainGlobals "ROUNDINGS" = some (some (.ref u_ROUNDINGS))) (w_ROUNDINGS : K.lookup u_ROUNDINGS = some ⟨.type "tuple", dd_ROUNDINGS, .seq #[.str "down" k0_ROUNDINGS, .str "up" k1_ROUNDINGS, .str "near" k2_ROUNDINGS] nn_ROUNDINGS, sl_ROUNDINGS⟩)
    {t_TILDE : Tok} (v_TILDE : nsIn K mainGlobals "TILDE" = some (some (.int 126 t_TILDE)))
    (says : ∀ ns : List Int, ns.length ≤ 63 → lawSays ns) :
    ∃ fd : FuncData, (∀ (s : Shared) (v : Value), BindsTo s fd ⟨[v], []⟩ [("_law_script", v)]) ∧ ∀ bas : Heap, K.In bas → bas.Ns mainGlobals gl → FnG l.prog wd K gl bas 8 fa fd ["_law_script"] (spLawG K) := by
  have e := hfa.symm.trans (PySem.W.mg_of X G a29)
  cases e
  have T : Tx K gl := ⟨PySem.W.mg_none_of X G z_abs, PySem.W.mg_none_of X G z_all, PySem.W.mg_none_of X G z_any, PySem.W.mg_none_of X G z_bool, PySem.W.mg_none_of X G z_enumerate, PySem.W.mg_none_of X G z_int, PySem.W.mg_none_of X G z_isinstance, PySem.W.mg_none_of X G z_len, PySem.W.mg_none_of X G z_list, PySem.W.mg_none_of X G z_max, PySem.W.mg_none_of X G z_min, PySem.W.mg_none_of X G z_ord, PySem.W.mg_none_of X G z_range, PySem.W.mg_none_of X G z_repr, PySem.W.mg_none_of X G z_str, PySem.W.mg_none_of X G z_tuple, PySem.W.mg_none_of X G z_zip, ⟨_, PySem.W.mg_of X G v_LOWEST_OF_LINES⟩, ⟨_, PySem.W.mg_of X G v_MOST_CUES⟩, ⟨_, PySem.W.mg_of X G v_MOST_FRAME⟩, ⟨_, PySem.W.mg_of X G v_MOST_LINES⟩, ⟨_, PySem.W.mg_of X G v_MOST_OF_STEP⟩, ⟨_, PySem.W.mg_of X G v_MOST_PRODUCT⟩, ⟨_, PySem.W.mg_of X G v_MOST_SIGNS⟩, ⟨_, PySem.W.mg_of X G v_MOST_STEPS⟩, ⟨_, PySem.W.mg_of X G v_PERCENT⟩, ⟨_, PySem.W.mg_of X G v_ROUNDINGS, at_top w_ROUNDINGS (Nat.le_of_ble_eq_true rfl) (.cons ⟨_, rfl⟩ (.cons ⟨_, rfl⟩ (.cons ⟨_, rfl⟩ .nil)))⟩, ⟨_, PySem.W.mg_of X G v_TILDE⟩⟩
  have F0 := fun_mk (st := st_is_integer) l0 c0 k0
  have b0 := F0.binds (ps := ["thing"]) fun _ _ _ _ _ _ us hl => match us, hl with | [_], _ => rfl
  have F1 := fun_mk (st := st_is_within) l1 c1 k1
  have b1 := F1.binds (ps := ["thing", "least", "most"]) fun _ _ _ _ _ _ us hl => match us, hl with | [_, _, _], _ => rfl
  have F2 := fun_mk (st := st_is_tuple) l2 c2 k2
  have b2 := F2.binds (ps := ["thing", "least", "most"]) fun _ _ _ _ _ _ us hl => match us, hl with | [_, _, _], _ => rfl
  have F3 := fun_mk (st := st_is_one_of) l3 c3 k3
  have b3 := F3.binds (ps := ["thing", "words"]) fun _ _ _ _ _ _ us hl => match us, hl with | [_, _], _ => rfl
  have F4 := fun_mk (st := st_is_sign) l4 c4 k4
  have b4 := F4.binds (ps := ["sign", "lowest"]) fun _ _ _ _ _ _ us hl => match us, hl with | [_, _], _ => rfl
  have F5 := fun_mk (st := st_has_signs) l5 c5 k5
  have b5 := F5.binds (ps := ["thing", "lowest"]) fun _ _ _ _ _ _ us hl => match us, hl with | [_, _], _ => rfl
  have F6 := fun_mk (st := st__is_line) l6 c6 k6
  have b6 := F6.binds (ps := ["thing"]) fun _ _ _ _ _ _ us hl => match us, hl with | [_], _ => rfl
  have F7 := fun_mk (st := st_is_text) l7 c7 k7
  have b7 := F7.binds (ps := ["thing"]) fun _ _ _ _ _ _ us hl => match us, hl with | [_], _ => rfl
  have F8 := fun_mk (st := st_is_cue) l8 c8 k8
  have b8 := F8.binds (ps := ["thing"]) fun _ _ _ _ _ _ us hl => match us, hl with | [_], _ => rfl
  have F9 := fun_mk (st := st_need_file) l9 c9 k9
  have b9 := F9.binds (ps := ["thing"]) fun _ _ _ _ _ _ us hl => match us, hl with | [_], _ => rfl
  have F10 := fun_mk (st := st__is_step) l10 c10 k10
  have b10 := F10.binds (ps := ["thing"]) fun _ _ _ _ _ _ us hl => match us, hl with | [_], _ => rfl
  have F11 := fun_mk (st := st_need_chain) l11 c11 k11
  have b11 := F11.binds (ps := ["thing"]) fun _ _ _ _ _ _ us hl => match us, hl with | [_], _ => rfl
  have F12 := fun_mk (st := st__quotient) l12 c12 k12
  have b12 := F12.binds (ps := ["top", "bottom", "rounding"]) fun _ _ _ _ _ _ us hl => match us, hl with | [_, _, _], _ => rfl
  have F13 := fun_mk (st := st__moved) l13 c13 k13
  have b13 := F13.binds (ps := ["chain", "frame"]) fun _ _ _ _ _ _ us hl => match us, hl with | [_, _], _ => rfl
  have F14 := fun_mk (st := st_moved) l14 c14 k14
  have b14 := F14.binds (ps := ["chain", "frame"]) fun _ _ _ _ _ _ us hl => match us, hl with | [_, _], _ => rfl
  have F15 := fun_mk (st := st__bottom) l15 c15 k15
  have b15 := F15.binds (ps := ["chain"]) fun _ _ _ _ _ _ us hl => match us, hl with | [_], _ => rfl
  have F16 := fun_mk (st := st__primes_of) l16 c16 k16
  have b16 := F16.binds (ps := ["number"]) fun _ _ _ _ _ _ us hl => match us, hl with | [_], _ => rfl
  have F17 := fun_mk (st := st__comes_again) l17 c17 k17
  have b17 := F17.binds (ps := ["rises", "many"]) fun _ _ _ _ _ _ us hl => match us, hl with | [_, _], _ => rfl
  have F18 := fun_mk (st := st_period) l18 c18 k18
  have b18 := F18.binds (ps := ["chain"]) fun _ _ _ _ _ _ us hl => match us, hl with | [_], _ => rfl
  have F19 := fun_mk (st := st__first_apart) l19 c19 k19
  have b19 := F19.binds (ps := ["one", "other", "last"]) fun _ _ _ _ _ _ us hl => match us, hl with | [_, _, _], _ => rfl
  have F20 := fun_mk (st := st_comes_back) l20 c20 k20
  have b20 := F20.binds (ps := ["chain"]) fun _ _ _ _ _ _ us hl => match us, hl with | [_], _ => rfl
  have F21 := fun_mk (st := st_least_kept) l21 c21 k21
  have b21 := F21.binds (ps := ["chain"]) fun _ _ _ _ _ _ us hl => match us, hl with | [_], _ => rfl
  have F22 := fun_mk (st := st_moved_file) l22 c22 k22
  have b22 := F22.binds (ps := ["chain", "file"]) fun _ _ _ _ _ _ us hl => match us, hl with | [_, _], _ => rfl
  have F23 := fun_mk (st := st__law_mix) l23 c23 k23
  have b23 := F23.binds (ps := ["_law_cell", "_law_spot"]) fun _ _ _ _ _ _ us hl => match us, hl with | [_, _], _ => rfl
  have F24 := fun_mk (st := st__law_divisor) l24 c24 k24
  have b24 := F24.binds (ps := ["_law_one", "_law_other"]) fun _ _ _ _ _ _ us hl => match us, hl with | [_, _], _ => rfl
  have F25 := fun_mk (st := st__law_backs) l25 c25 k25
  have b25 := F25.binds (ps := ["_law_n", "_law_d"]) fun _ _ _ _ _ _ us hl => match us, hl with | [_, _], _ => rfl
  have F26 := fun_mk (st := st__law_short) l26 c26 k26
  have b26 := F26.binds (ps := ["_law_word", "_law_n", "_law_d", "_law_size"]) fun _ _ _ _ _ _ us hl => match us, hl with | [_, _, _, _], _ => rfl
  have F27 := fun_mk (st := st__law_draw) l27 c27 k27
  have b27 := F27.binds (ps := ["_law_m", "_law_limit"]) fun _ _ _ _ _ _ us hl => match us, hl with | [_, _], _ => rfl
  have F28 := fun_mk (st := st__law_begun) l28 c28 k28
  have b28 := F28.binds (ps := ["_law_script"]) fun _ _ _ _ _ _ us hl => match us, hl with | [_], _ => rfl
  have F29 := fun_mk (st := st_law) l29 c29 k29
  have b29 := F29.binds (ps := ["_law_script"]) fun _ _ _ _ _ _ us hl => match us, hl with | [_], _ => rfl
  refine ⟨fnOf "law" "law" (defArgs st_law) (defBody st_law) (defScope st_law) .none kV29 dc29 pm29 an29 cd29 ct29, fun s v => .of_eq rfl, fun bas _ _ => ?_⟩
  have C__law_mix : Cd l.prog wd K gl bas srcOrcB 1 "_law_mix" 2 r__law_mix := ⟨_, _, _, ok__law_mix T F23, PySem.W.mg_of X G a23, k23, b23⟩
  have C__law_draw : Cd l.prog wd K gl bas srcOrcB 2 "_law_draw" 2 s_next := ⟨_, _, _, ok__law_draw T F27 C__law_mix, PySem.W.mg_of X G a27, k27, b27⟩
  have C_is_integer : Cd l.prog wd K gl bas srcOrcB 1 "is_integer" 1 r_is_integer := ⟨_, _, _, ok_is_integer T F0, PySem.W.mg_of X G a0, k0, b0⟩
  have C_is_within : Cd l.prog wd K gl bas srcOrcB 2 "is_within" 3 r_is_within := ⟨_, _, _, ok_is_within T F1 C_is_integer, PySem.W.mg_of X G a1, k1, b1⟩
  have C_is_tuple : Cd l.prog wd K gl bas srcOrcB 1 "is_tuple" 3 r_is_tuple := ⟨_, _, _, ok_is_tuple T F2, PySem.W.mg_of X G a2, k2, b2⟩
  have C_is_one_of : Cd l.prog wd K gl bas srcOrcB 1 "is_one_of" 2 r_is_one_of := ⟨_, _, _, ok_is_one_of T F3, PySem.W.mg_of X G a3, k3, b3⟩
  have C_is_sign : Cd l.prog wd K gl bas srcOrcB 1 "is_sign" 2 r_is_sign := ⟨_, _, _, ok_is_sign T F4, PySem.W.mg_of X G a4, k4, b4⟩
  have C_has_signs : Cd l.prog wd K gl bas srcOrcB 2 "has_signs" 2 r_has_signs := ⟨_, _, _, ok_has_signs T F5 C_is_sign, PySem.W.mg_of X G a5, k5, b5⟩
  have C__is_line : Cd l.prog wd K gl bas srcOrcB 3 "_is_line" 1 r__is_line := ⟨_, _, _, ok__is_line T F6 C_has_signs, PySem.W.mg_of X G a6, k6, b6⟩
  have C_is_text : Cd l.prog wd K gl bas srcOrcB 4 "is_text" 1 r_is_text := ⟨_, _, _, ok_is_text T F7 C_is_tuple C__is_line, PySem.W.mg_of X G a7, k7, b7⟩
  have C_is_cue : Cd l.prog wd K gl bas srcOrcB 5 "is_cue" 1 r_is_cue := ⟨_, _, _, ok_is_cue T F8 C_is_tuple C_is_within C_is_text, PySem.W.mg_of X G a8, k8, b8⟩
  have C_need_file : Cd l.prog wd K gl bas srcOrcB 6 "need_file" 1 r_need_file := ⟨_, _, _, ok_need_file T F9 C_is_tuple C_is_cue, PySem.W.mg_of X G a9, k9, b9⟩
  have C__is_step : Cd l.prog wd K gl bas srcOrcB 3 "_is_step" 1 r__is_step := ⟨_, _, _, ok__is_step T F10 C_is_tuple C_is_one_of C_is_within, PySem.W.mg_of X G a10, k10, b10⟩
  have C_need_chain : Cd l.prog wd K gl bas srcOrcB 4 "need_chain" 1 r_need_chain := ⟨_, _, _, ok_need_chain T F11 C_is_tuple C__is_step, PySem.W.mg_of X G a11, k11, b11⟩
  have C__quotient : Cd l.prog wd K gl bas srcOrcB 1 "_quotient" 3 r__quotient := ⟨_, _, _, ok__quotient T F12, PySem.W.mg_of X G a12, k12, b12⟩
  have C__moved : Cd l.prog wd K gl bas srcOrcB 2 "_moved" 2 r__moved := ⟨_, _, _, ok__moved T F13 C__quotient, PySem.W.mg_of X G a13, k13, b13⟩
  have C_moved : Cd l.prog wd K gl bas srcOrcB 5 "moved" 2 r_moved := ⟨_, _, _, ok_moved T F14 C_need_chain C_is_within C__moved, PySem.W.mg_of X G a14, k14, b14⟩
  have C__bottom : Cd l.prog wd K gl bas srcOrcB 1 "_bottom" 1 r__bottom := ⟨_, _, _, ok__bottom T F15, PySem.W.mg_of X G a15, k15, b15⟩
  have C__primes_of : Cd l.prog wd K gl bas srcOrcB 1 "_primes_of" 1 r__primes_of := ⟨_, _, _, ok__primes_of T F16, PySem.W.mg_of X G a16, k16, b16⟩
  have C__comes_again : Cd l.prog wd K gl bas srcOrcB 1 "_comes_again" 2 r__comes_again := ⟨_, _, _, ok__comes_again T F17, PySem.W.mg_of X G a17, k17, b17⟩
  have C_period : Cd l.prog wd K gl bas srcOrcB 5 "period" 1 r_period := ⟨_, _, _, ok_period T F18 C_need_chain C__bottom C__moved C__primes_of C__comes_again, PySem.W.mg_of X G a18, k18, b18⟩
  have C__first_apart : Cd l.prog wd K gl bas srcOrcB 3 "_first_apart" 3 r__first_apart := ⟨_, _, _, ok__first_apart T F19 C__moved, PySem.W.mg_of X G a19, k19, b19⟩
  have C_comes_back : Cd l.prog wd K gl bas srcOrcB 5 "comes_back" 1 r_comes_back := ⟨_, _, _, ok_comes_back T F20 C_need_chain C__first_apart C__bottom, PySem.W.mg_of X G a20, k20, b20⟩
  have C_least_kept : Cd l.prog wd K gl bas srcOrcB 5 "least_kept" 1 r_least_kept := ⟨_, _, _, ok_least_kept T F21 C_need_chain C__bottom C__moved, PySem.W.mg_of X G a21, k21, b21⟩
  have C_moved_file : Cd l.prog wd K gl bas srcOrcB 7 "moved_file" 2 r_moved_file := ⟨_, _, _, ok_moved_file T F22 C_need_chain C_need_file C__moved, PySem.W.mg_of X G a22, k22, b22⟩
  have C__law_divisor : Cd l.prog wd K gl bas srcOrcB 1 "_law_divisor" 2 r__law_divisor := ⟨_, _, _, ok__law_divisor T F24, PySem.W.mg_of X G a24, k24, b24⟩
  have C__law_backs : Cd l.prog wd K gl bas srcOrcB 1 "_law_backs" 2 r__law_backs := ⟨_, _, _, ok__law_backs T F25, PySem.W.mg_of X G a25, k25, b25⟩
  have C__law_short : Cd l.prog wd K gl bas srcOrcB 6 "_law_short" 4 r__law_short := ⟨_, _, _, ok__law_short T F26 C_moved, PySem.W.mg_of X G a26, k26, b26⟩
  exact ok_law T F29 (ok__law_begun T F28) (PySem.W.mg_of X G a28) k28 b28 C__law_draw C__law_divisor C__law_backs C_comes_back C_least_kept C_period C__law_short C_moved_file C_moved says
end Q80
namespace Q80
inductive Ro | dn | up | nr
structure Sp where
  t : Int
  b : Int
  r : Ro
def q1 : Ro → Int → Int → Int
  | .dn, n, b => n / b
  | .up, n, b => -(-n / b)
  | .nr, n, b => (2 * n + b) / (2 * b)
def lq : Ro → Int → Int → Int
  | .dn, n, b => n / b
  | .up, n, b => n / b + (if 0 < n % b then 1 else 0)
  | .nr, n, b => n / b + (if b ≤ 2 * (n % b) then 1 else 0)
theorem lq_q1 (r : Ro) (n : Int) {b : Int} (hb : 0 < b) : lq r n b = q1 r n b := by
  have e := Int.mul_ediv_add_emod n b
  have h0 := Int.emod_nonneg n (show b ≠ 0 by omega)
  have h1 := Int.emod_lt_of_pos n hb
  cases r with
  | dn => rfl
  | up =>
    show n / b + (if 0 < n % b then 1 else 0) = -(-n / b)
    generalize n / b = q at *
    generalize n % b = s at *
    have e2 : -n = -s + b * (-q) := by rw [Int.mul_neg]; omega
    rw [e2, Int.add_mul_ediv_left _ _ (by omega : b ≠ 0)]
    by_cases z : 0 < s
    · rw [if_pos z]
      have a1 : -1 ≤ -s / b := (Int.le_ediv_iff_mul_le hb).mpr (by omega)
      have a2 : -s / b < 0 := (Int.ediv_lt_iff_lt_mul hb).mpr (by omega)
      omega
    · rw [if_neg z]
      have : s = 0 := by omega
      subst this
      simp
  | nr =>
    show n / b + (if b ≤ 2 * (n % b) then 1 else 0) = (2 * n + b) / (2 * b)
    generalize n / b = q at *
    generalize n % b = s at *
    have e2 : 2 * n + b = (2 * s + b) + 2 * b * q := by rw [Int.mul_assoc]; omega
    rw [e2, Int.add_mul_ediv_left _ _ (by omega : 2 * b ≠ 0)]
    by_cases z : b ≤ 2 * s
    · rw [if_pos z]
      have a1 : 1 ≤ (2 * s + b) / (2 * b) := (Int.le_ediv_iff_mul_le (by omega)).mpr (by omega)
      have a2 : (2 * s + b) / (2 * b) < 2 := (Int.ediv_lt_iff_lt_mul (by omega)).mpr (by omega)
      omega
    · rw [if_neg z]
      have a1 : 0 ≤ (2 * s + b) / (2 * b) := (Int.le_ediv_iff_mul_le (by omega)).mpr (by omega)
      have a2 : (2 * s + b) / (2 * b) < 1 := (Int.ediv_lt_iff_lt_mul (by omega)).mpr (by omega)
      omega
theorem q1_add (r : Ro) (n k : Int) {b : Int} (hb : 0 < b) : q1 r (n + b * k) b = q1 r n b + k := by
  cases r with
  | dn => exact Int.add_mul_ediv_left _ _ (by omega)
  | up =>
    show -(-(n + b * k) / b) = -(-n / b) + k
    have e : -(n + b * k) = -n + b * (-k) := by rw [Int.mul_neg]; omega
    rw [e, Int.add_mul_ediv_left _ _ (by omega : b ≠ 0)]
    omega
  | nr =>
    show (2 * (n + b * k) + b) / (2 * b) = (2 * n + b) / (2 * b) + k
    have e : 2 * (n + b * k) + b = (2 * n + b) + 2 * b * k := by rw [Int.mul_assoc]; omega
    rw [e, Int.add_mul_ediv_left _ _ (by omega : 2 * b ≠ 0)]
theorem q1_zero (r : Ro) {b : Int} (hb : 0 < b) : q1 r 0 b = 0 := by
  cases r with
  | dn => show (0 : Int) / b = 0; simp
  | up => show -(-(0 : Int) / b) = 0; simp
  | nr =>
    show (2 * 0 + b) / (2 * b) = 0
    have a1 : 0 ≤ (2 * 0 + b) / (2 * b) := (Int.le_ediv_iff_mul_le (by omega)).mpr (by omega)
    have a2 : (2 * 0 + b) / (2 * b) < 1 := (Int.ediv_lt_iff_lt_mul (by omega)).mpr (by omega)
    omega
theorem q1_bnd (r : Ro) {n b : Int} (hb : 0 < b) (hn : 0 ≤ n) : 0 ≤ q1 r n b ∧ q1 r n b ≤ n := by
  have e := Int.mul_ediv_add_emod n b
  have h0 := Int.emod_nonneg n (show b ≠ 0 by omega)
  have h1 := Int.emod_lt_of_pos n hb
  have hq : 0 ≤ n / b := Int.ediv_nonneg hn (by omega)
  have hm : n / b ≤ b * (n / b) := by
    have := Int.mul_le_mul_of_nonneg_right (show (1 : Int) ≤ b by omega) hq
    omega
  rw [← lq_q1 r n hb]
  cases r with
  | dn => show 0 ≤ n / b ∧ n / b ≤ n; omega
  | up => show 0 ≤ n / b + (if 0 < n % b then 1 else 0) ∧ n / b + (if 0 < n % b then 1 else 0) ≤ n; split <;> omega
  | nr => show 0 ≤ n / b + (if b ≤ 2 * (n % b) then 1 else 0) ∧ n / b + (if b ≤ 2 * (n % b) then 1 else 0) ≤ n; split <;> omega
def mv : List Sp → Int → Int
  | [], x => x
  | s :: c, x => mv c (q1 s.r (x * s.t) s.b)
def bot : List Sp → Int
  | [] => 1
  | s :: c => s.b * bot c
def top : List Sp → Int
  | [] => 1
  | s :: c => s.t * top c
def Ok (c : List Sp) : Prop := ∀ s ∈ c, 1 ≤ s.t ∧ s.t ≤ 60 ∧ 1 ≤ s.b ∧ s.b ≤ 2000
theorem bot_pos : ∀ {c : List Sp}, Ok c → 1 ≤ bot c
  | [], _ => by show (1 : Int) ≤ 1; omega
  | s :: c, h => by
    have h1 := (h s (List.mem_cons_self ..)).2.2.1
    have h2 := bot_pos fun x hx => h x (List.mem_cons_of_mem _ hx)
    show 1 ≤ s.b * bot c
    have := Int.mul_le_mul h1 h2 (by omega) (by omega)
    omega
theorem mv_add : ∀ {c : List Sp}, Ok c → ∀ (x k : Int), mv c (x + bot c * k) = mv c x + top c * k
  | [], _, x, k => by show x + 1 * k = x + 1 * k; rfl
  | s :: c, h, x, k => by
    have h1 := (h s (List.mem_cons_self ..)).2.2.1
    have ih := mv_add (c := c) fun x hx => h x (List.mem_cons_of_mem _ hx)
    show mv c (q1 s.r ((x + s.b * bot c * k) * s.t) s.b) = mv c (q1 s.r (x * s.t) s.b) + s.t * top c * k
    have e : (x + s.b * bot c * k) * s.t = x * s.t + s.b * (bot c * (k * s.t)) := by
      rw [Int.add_mul]
      congr 1
      simp only [Int.mul_assoc]
    rw [e, q1_add _ _ _ (by omega), ih]
    congr 1
    rw [← Int.mul_assoc, Int.mul_comm, ← Int.mul_assoc]
theorem mv_zero : ∀ {c : List Sp}, Ok c → mv c 0 = 0
  | [], _ => rfl
  | s :: c, h => by
    have h1 := (h s (List.mem_cons_self ..)).2.2.1
    show mv c (q1 s.r (0 * s.t) s.b) = 0
    rw [Int.zero_mul, q1_zero _ (by omega)]
    exact mv_zero fun x hx => h x (List.mem_cons_of_mem _ hx)
section
variable {f : Nat → Int}
def Per (f : Nat → Int) (m : Nat) : Prop := ∀ x, f (x + m) = f x + f m
theorem per_sub (h0 : f 0 = 0) {a b : Nat} (ha : Per f a) (hb : Per f b) (h : b ≤ a) : Per f (a - b) := by
  have key : ∀ x, f (x + (a - b)) = f x + f a - f b := fun x => by
    have h1 := hb (x + (a - b))
    have h2 := ha x
    have e : x + (a - b) + b = x + a := by omega
    rw [e] at h1
    omega
  intro x
  have k0 := key 0
  rw [Nat.zero_add, h0] at k0
  rw [key x, k0]
  omega
theorem per_zero (h0 : f 0 = 0) : Per f 0 := fun x => by rw [h0]; simp
theorem per_add {a b : Nat} (ha : Per f a) (hb : Per f b) : Per f (a + b) := fun x => by
  rw [← Nat.add_assoc, hb (x + a), ha x, hb a]
  omega
theorem per_mul (h0 : f 0 = 0) {a : Nat} (ha : Per f a) : ∀ k, Per f (k * a)
  | 0 => by rw [Nat.zero_mul]; exact per_zero h0
  | k + 1 => by rw [Nat.succ_mul]; exact per_add (per_mul h0 ha k) ha
theorem per_val (h0 : f 0 = 0) {a : Nat} (ha : Per f a) : ∀ k : Nat, f (k * a) = k * f a
  | 0 => by simp [h0]
  | k + 1 => by
    rw [Nat.succ_mul, ha (k * a), per_val h0 ha k]
    have : ((k + 1 : Nat) : Int) * f a = k * f a + f a := by rw [Int.natCast_add]; simp [Int.add_mul]
    rw [this]
theorem least_of {p : Nat → Prop} : ∀ n, p n → ∃ m, p m ∧ ∀ k, p k → m ≤ k := by
  intro n
  induction n using
    Nat.strongRecOn with
  | ind n ih =>
    intro hn
    by_cases h : ∃ k, p k ∧ k < n
    · obtain ⟨k, hk, hlt⟩ := h
      exact ih k hlt hk
    · refine ⟨n, hn, fun k hk => ?_⟩
      refine Classical.byContradiction fun q => h ⟨k, hk, by omega⟩
structure Lst (f : Nat → Int) (p : Nat) : Prop where
  pos : 0 < p
  per : Per f p
  iff : ∀ m, Per f m ↔ p ∣ m
theorem ex_lst (h0 : f 0 = 0) {B : Nat} (hB : 0 < B) (h : Per f B) : ∃ p, Lst f p := by
  obtain ⟨p, ⟨hp, hper⟩, hl⟩ := least_of (p := fun m => 0 < m ∧ Per f m) B ⟨hB, h⟩
  refine ⟨p, hp, hper, fun m => ⟨fun hm => ?_, fun ⟨k, e⟩ => ?_⟩⟩
  · induction m using Nat.strongRecOn with
    | ind m ih =>
      by_cases z : m < p
      · by_cases z0 : m = 0
        · subst z0; exact Nat.dvd_zero p
        · have := hl m ⟨by omega, hm⟩
          omega
      · have := ih (m - p) (by omega) (per_sub h0 hm hper (by omega))
        have e : m = (m - p) + p := by omega
        rw [e]
        exact Nat.dvd_add this (Nat.dvd_refl p)
  · subst e
    rw [Nat.mul_comm]
    exact per_mul h0 hper k
/-- alike on one round is alike for ever -/
theorem per_round {B m : Nat} {A : Int} (hB : 0 < B) (hA : ∀ x, f (x + B) = f x + A) {v : Int} (h : ∀ x, x < B → f (x + m) = f x + v) (h0 : f 0 = 0) : Per f m ∧ f m = v := by
  have all : ∀ x, f (x + m) = f x + v := by
    intro x
    induction x using Nat.strongRecOn with
    | ind x ih =>
      by_cases z : x < B
      · exact h x z
      · have h1 := ih (x - B) (by omega)
        have h2 := hA (x - B)
        have h3 := hA (x - B + m)
        have e1 : x - B + B = x := by omega
        have e2 : x - B + m + B = x + m := by omega
        rw [e1] at h2
        rw [e2] at h3
        omega
  have hv : f m = v := by
    have := all 0
    rw [Nat.zero_add, h0] at this
    omega
  exact ⟨fun x => by rw [all x, hv], hv⟩
/-- the rises, gone round -/
theorem per_rot {B m : Nat} {A : Int} (hB : 0 < B) (hA : ∀ x, f (x + B) = f x + A) (hm : m ≤ B) (h0 : f 0 = 0) :
    (∀ i, i < B → f ((if i + m < B then i + m else i + m - B) + 1) - f (if i + m < B then i + m else i + m - B) = f (i + 1) - f i) ↔ Per f m := by
  have shift : ∀ i, i < B → f ((if i + m < B then i + m else i + m - B) + 1) - f (if i + m < B then i + m else i + m - B) = f (i + m + 1) - f (i + m) := by
    intro i hi
    by_cases z : i + m < B
    · rw [if_pos z]
    · rw [if_neg z]
      have h1 := hA (i + m - B)
      have h2 := hA (i + m - B + 1)
      have e1 : i + m - B + B = i + m := by omega
      have e2 : i + m - B + 1 + B = i + m + 1 := by omega
      rw [e1] at h1
      rw [e2] at h2
      omega
  constructor
  · intro h
    have key : ∀ x, x ≤ B → f (x + m) = f x + f m := by
      intro x
      induction x with
      | zero => intro _; rw [Nat.zero_add, h0]; omega
      | succ x ih =>
        intro hx
        have h1 := ih (by omega)
        have h2 := h x (by omega)
        rw [shift x (by omega)] at h2
        have e : x + 1 + m = x + m + 1 := by omega
        rw [e]
        omega
    exact (per_round hB hA (v := f m) (fun x hx => key x (by omega)) h0).1
  · intro h i hi
    rw [shift i hi]
    have h1 := h i
    have h2 := h (i + 1)
    have e : i + 1 + m = i + m + 1 := by omega
    rw [e] at h2
    omega
end
def Pr (q : Nat) : Prop := 2 ≤ q ∧ ∀ d, d ∣ q → d = 1 ∨ d = q
theorem pr_cop {q c L : Nat} (hq : Pr q) (hn : ¬ q ∣ c) (h : c ∣ q * L) : c ∣ L := by
  have g : Nat.gcd c q = 1 := by
    rcases hq.2 _ (Nat.gcd_dvd_right c q) with h | h
    · exact h
    · have := Nat.gcd_dvd_left c q
      rw [h] at this
      exact absurd this hn
  have hc : Nat.Coprime c q := g
  exact hc.dvd_of_dvd_mul_left h
/-- parting by each prime as long as it goes -/
def parted (p0 : Nat) : List Nat → Nat → Nat
  | [], m => m
  | q :: L, m => parted p0 L (if p0 ∣ m / q then m / q else m)
def prod : List Nat → Nat
  | [] => 1
  | q :: L => q * prod L
theorem parted_eq {p0 : Nat} (h0 : 0 < p0) : ∀ (L : List Nat) (c : Nat), 0 < c → (∀ q ∈ L, Pr q) → c ∣ prod L → prod L ∣ p0 * c → parted p0 L (p0 * c) = p0
  | [], c, hc, _, h, _ => by
    have : c = 1 := Nat.dvd_one.mp h
    subst this
    show p0 * 1 = p0
    omega
  | q :: L, c, hc, hp, h, hm => by
    have hq := hp q (List.mem_cons_self ..)
    have hp' : ∀ x ∈ L, Pr x := fun x hx => hp x (List.mem_cons_of_mem _ hx)
    have q0 : 0 < q := by have := hq.1; omega
    have hqm : q ∣ p0 * c := Nat.dvd_trans ⟨prod L, rfl⟩ hm
    have hm' : prod L ∣ p0 * c := Nat.dvd_trans ⟨q, by show q * prod L = _; rw [Nat.mul_comm]⟩ hm
    show parted p0 L (if p0 ∣ p0 * c / q then p0 * c / q else p0 * c) = p0
    by_cases z : q ∣ c
    · obtain ⟨d, rfl⟩ := z
      have e : p0 * (q * d) / q = p0 * d := by
        rw [Nat.mul_left_comm]
        exact Nat.mul_div_cancel_left _ q0
      rw [e, if_pos ⟨d, rfl⟩]
      refine parted_eq h0 L d (Nat.pos_of_mul_pos_left hc) hp' ?_ ?_
      · exact Nat.dvd_of_mul_dvd_mul_left q0 h
      · have : q * prod L ∣ q * (p0 * d) := by
          rw [← Nat.mul_left_comm]
          exact hm
        exact Nat.dvd_of_mul_dvd_mul_left q0 this
    · have nd : ¬ p0 ∣ p0 * c / q := by
        rintro ⟨k, e⟩
        refine z ⟨k, ?_⟩
        have e2 : p0 * c = q * (p0 * k) := by rw [← e]; exact (Nat.mul_div_cancel' hqm).symm
        rw [Nat.mul_left_comm] at e2
        exact Nat.eq_of_mul_eq_mul_left h0 e2
      rw [if_neg nd]
      exact parted_eq h0 L c hc hp' (pr_cop hq z h) hm'
end Q80
namespace Q80
open PySem L2 DL
theorem d_is_integer {i : Int} {m : Nat} {P : D → Nat → Prop} (h : P (.bool true) 0) : r_is_integer [.d (.int i)] m P := by
  refine ⟨trivial, true, k_int, trivial, false, k_ib, ?_⟩
  exact ⟨hd_d, h⟩
theorem d_is_within {i a b : Int} {m : Nat} {P : D → Nat → Prop} (h1 : a ≤ i) (h2 : i ≤ b) (h : P (.bool true) 0) : r_is_within [.d (.int i), .d (.int a), .d (.int b)] m P := by
  refine ⟨rfl, rfl, d_is_integer ?_⟩
  simp [raw, startE, arSl, sSeq, sIf, sRet, sRetN, sNo, sSet, sSetN, sExpr, sAsg, dCall, dCallO, aCons, aNil, aOra, dV, hS, hV, dC, d2, see, seeAll, dCB, DL.gCons, DL.gNil, dChain, bD, bAnd, bOr, bNot, dAnd, dOr, dNot, dNeg, dIf, dIsi, bTruth, truD, lCons, lNil, dTup, dLst, isD, gCmp, gAdd, DL.gSub, gIs, gIsNot, gLen, gN, gTupT, gConsT, gNoT, ownL, dSl, oI, oNo, h1, h2, h]
theorem d_is_tuple {ds : List D} {a b : Int} {m : Nat} {P : D → Nat → Prop} (h1 : a ≤ ds.length) (h2 : (ds.length : Int) ≤ b) (h : P (.bool true) 0) : r_is_tuple [.d (.tuple ds), .d (.int a), .d (.int b)] m P := by
  refine ⟨trivial, true, k_tt, ?_⟩
  simp [raw, startE, arSl, sSeq, sIf, sRet, sRetN, sNo, sSet, sSetN, sExpr, sAsg, dCall, dCallO, aCons, aNil, aOra, dV, hS, hV, dC, d2, see, seeAll, dCB, DL.gCons, DL.gNil, dChain, bD, bAnd, bOr, bNot, dAnd, dOr, dNot, dNeg, dIf, dIsi, bTruth, truD, lCons, lNil, dTup, dLst, isD, gCmp, gAdd, DL.gSub, gIs, gIsNot, gLen, gN, gTupT, gConsT, gNoT, ownL, dSl, oI, oNo, h1, h2, h]
def rdS : Ro → Str
  | .dn => "down"
  | .up => "up"
  | .nr => "near"
def Sp.d (s : Sp) : D := .tuple [.int s.t, .int s.b, .str (rdS s.r)]
def chD (c : List Sp) : D := .tuple (c.map Sp.d)
theorem d_one_of {r : Ro} {m : Nat} {P : D → Nat → Prop} (h : P (.bool true) 0) : r_is_one_of [.d (.str (rdS r)), .d (.tuple ([("down" : Str), ("up" : Str), ("near" : Str)].map PyData.str))] m P := by
  refine ⟨trivial, true, k_ss, trivial, trivial, _, ofStrs_map _, ?_⟩
  have e : ([("down" : Str), ("up" : Str), ("near" : Str)].any fun z => z == rdS r) = true := by cases r <;> decide +kernel
  rw [e]
  exact ⟨hd_d, h⟩
structure OkS (s : Sp) : Prop where
  t0 : 1 ≤ s.t
  t1 : s.t ≤ 60
  b0 : 1 ≤ s.b
  b1 : s.b ≤ 2000
theorem d_is_step {s : Sp} {m : Nat} {P : D → Nat → Prop} (o : OkS s) (h : P (.bool true) 0) : r__is_step [.d s.d] m P := by
  have := o.t0
  have := o.t1
  have := o.b0
  have := o.b1
  refine ⟨rfl, rfl, d_is_tuple (by simp) (by simp) ?_⟩
  refine ⟨trivial, _, rfl, rfl, rfl, d_one_of ?_⟩
  refine ⟨trivial, _, rfl, rfl, rfl, d_is_within (by omega) (by omega) ?_⟩
  refine ⟨trivial, _, rfl, rfl, rfl, d_is_within (by omega) (by omega) ?_⟩
  exact ⟨hd_d, h⟩
theorem small {i : Int} (h0 : 0 ≤ i) (h1 : i ≤ 1000000000000000000) : -(2 ^ 64) < i ∧ i < 2 ^ 64 := by
  have e : (2 : Int) ^ 64 = 18446744073709551616 := by decide
  rw [e]
  omega
theorem bot_ok {c : List Sp} (h : ∀ s ∈ c, OkS s) : Ok c := fun s hs => ⟨(h s hs).t0, (h s hs).t1, (h s hs).b0, (h s hs).b1⟩
/-- the product of all beginnings is no greater -/
theorem need_loop {C : D} {E : DE} : ∀ (c : List Sp) (k : Nat) (p : Int) (s2 s3 : Sl), (∀ s ∈ c, OkS s) → 1 ≤ p → p * bot c ≤ 100000 → (∀ s2 s3, E.nx [.im C, .im (.int (p * bot c)), s2, s3]) →
    forL (gTupT 2 (gConsT (gN 2) (gConsT (gN 3) (gNoT)))) (sSeq (sIf (bNot (bTruth (hV (dCall 1 r__is_step (aCons (dV 3) (aNil)))))) (sNever) (sNo)) (sSeq (sAug 1 gImul (hV (d2 gIx (hS 3) (hV (dC (.int 1)))))) (sIf (bD (d2 gGt (hS 1) (hV (dC (.int 100000))))) (sNever) (sNo)))) E ((c.map Sp.d).mapIdx fun i d => .tuple [.int (((k + i : Nat)) : Int), d]) [.im C, .im (.int p), s2, s3]
  | [], k, p, s2, s3, _, _, _, h => by
    have := h s2 s3
    rw [show p * bot [] = p from Int.mul_one p] at this
    exact this
  | s :: c, k, p, s2, s3, o, hp, hb, h => by
    have os := o s (List.mem_cons_self ..)
    have o' : ∀ s ∈ c, OkS s := fun x hx => o x (List.mem_cons_of_mem _ hx)
    have b1 := bot_pos (bot_ok o')
    have sb := os.b0
    have sb1 := os.b1
    have e : p * bot (s :: c) = p * s.b * bot c := (Int.mul_assoc ..).symm
    rw [e] at hb h
    have hps : 1 ≤ p * s.b := by
      have := Int.mul_le_mul hp sb (by omega) (by omega)
      omega
    have hle : p * s.b ≤ p * s.b * bot c := by
      have := Int.mul_le_mul_of_nonneg_left b1 (show 0 ≤ p * s.b by omega)
      omega
    rw [List.map_cons, List.mapIdx_cons]
    refine ⟨rfl, rfl, rfl, rfl, d_is_step os ?_⟩
    refine ⟨trivial, trivial, _, rfl, .inr (small (by omega) (by omega)), ?_⟩
    have ng : ¬ 100000 < p * s.b := by omega
    refine ⟨trivial, ?_⟩
    show if decide (100000 < p * s.b) = true then _ else _
    rw [if_neg (by simpa using ng)]
    have e2 : (fun (i : Nat) (d : D) => (PyData.tuple [.int (((k + (i + 1) : Nat)) : Int), d])) = fun i d => PyData.tuple [.int ((((k + 1) + i : Nat)) : Int), d] := by
      funext i d
      rw [Nat.add_assoc, Nat.add_comm 1 i]
    rw [e2]
    exact need_loop c (k + 1) _ _ _ o' hps hb h
structure GC (c : List Sp) : Prop where
  len : c.length ≤ 4
  ok : ∀ s ∈ c, OkS s
  bt : bot c ≤ 100000
theorem d_need {c : List Sp} {m : Nat} {P : D → Nat → Prop} (g : GC c) (h : P (chD c) 0) : r_need_chain [.d (chD c)] m P := by
  have := g.len
  refine ⟨rfl, rfl, d_is_tuple (by omega) (by rw [List.length_map]; omega) ?_⟩
  show forL _ _ _ (enD (c.map Sp.d)) [.im (chD c), .im (.int 1), .no, .no]
  have e : enD (c.map Sp.d) = (c.map Sp.d).mapIdx fun i d => .tuple [.int (((0 + i : Nat)) : Int), d] := by
    unfold enD
    simp
  rw [e]
  exact need_loop c 0 1 _ _ g.ok (by omega) (by rw [Int.one_mul]; exact g.bt) fun s2 s3 => ⟨hd_d, h⟩
theorem bot_loop {C : D} {E : DE} : ∀ (c : List Sp) (p : Int) (s2 : Sl), (∀ s ∈ c, OkS s) → (∀ s2, E.nx [.im C, .im (.int (p * bot c)), s2]) →
    forL (gN 2) (sAug 1 gImul (hV (d2 gIx (hS 2) (hV (dC (.int 1)))))) E (c.map Sp.d) [.im C, .im (.int p), s2]
  | [], p, s2, _, h => by
    have := h s2
    rw [show p * bot [] = p from Int.mul_one p] at this
    exact this
  | s :: c, p, s2, o, h => by
    have os := o s (List.mem_cons_self ..)
    have sb := os.b0
    have sb1 := os.b1
    have e : p * bot (s :: c) = p * s.b * bot c := (Int.mul_assoc ..).symm
    rw [e] at h
    refine ⟨trivial, trivial, _, rfl, .inr (small (by omega) (by omega)), ?_⟩
    exact bot_loop c _ _ (fun x hx => o x (List.mem_cons_of_mem _ hx)) h
theorem d_bottom {c : List Sp} {m : Nat} {P : D → Nat → Prop} (g : GC c) (h : P (.int (bot c)) 0) : r__bottom [.d (chD c)] m P := by
  show forL _ _ _ (c.map Sp.d) [.im (chD c), .im (.int 1), .no]
  refine bot_loop c 1 _ g.ok fun s2 => ?_
  rw [Int.one_mul]
  exact ⟨hd_d, h⟩
theorem okI (i : Int) : okD (.int i) := rfl
theorem okR (r : Ro) : okD (.str (rdS r)) := by
  show SeqAt.shaped _ = true
  cases r <;> decide +kernel
theorem o_up : okD (.str ("up" : Str)) := by show SeqAt.shaped _ = true; decide +kernel
theorem o_nr : okD (.str ("near" : Str)) := by show SeqAt.shaped _ = true; decide +kernel
theorem e_up (r : Ro) : PyData.eqv (.str (rdS r)) (.str ("up" : Str)) = (match r with | .up => true | _ => false) := by cases r <;> decide +kernel
theorem e_nr (r : Ro) : PyData.eqv (.str (rdS r)) (.str ("near" : Str)) = (match r with | .nr => true | _ => false) := by cases r <;> decide +kernel
theorem d_quot {n b : Int} {r : Ro} {m : Nat} {P : D → Nat → Prop} (b0 : 1 ≤ b) (b1 : b ≤ 2000) (h : P (.int (q1 r n b)) 0) : r__quotient [.d (.int n), .d (.int b), .d (.str (rdS r))] m P := by
  have e1 := e_up r
  have e2 := e_nr r
  have l1 : -18446744073709551616 < b := by omega
  refine ⟨trivial, okR r, o_up, ?_⟩
  rw [e1]
  cases r with
  | up => exact ⟨trivial, ⟨by omega, by omega⟩, hd_d, h⟩
  | dn =>
    refine ⟨trivial, okR .dn, o_nr, ?_⟩
    rw [e2]
    exact ⟨trivial, trivial, ⟨by omega, by omega⟩, hd_d, h⟩
  | nr =>
    refine ⟨trivial, okR .nr, o_nr, ?_⟩
    rw [e2]
    refine ⟨trivial, .inl (small (by omega) (by omega)), trivial, trivial, .inl (small (by omega) (by omega)), ⟨by omega, by omega⟩, hd_d, h⟩
theorem mv_loop {C : D} {E : DE} : ∀ (c : List Sp) (x : Int) (s2 s3 s4 : Sl), (∀ s ∈ c, OkS s) → (∀ s2 s3 s4, E.nx [.im C, .im (.int (mv c x)), s2, s3, s4]) →
    forL (gTupT 3 (gConsT (gN 2) (gConsT (gN 3) (gConsT (gN 4) (gNoT))))) (sSet 1 (dCall 3 r__quotient (aCons (d2 gMul (hS 1) (hS 2)) (aCons (dV 3) (aCons (dV 4) (aNil)))))) E (c.map Sp.d) [.im C, .im (.int x), s2, s3, s4]
  | [], x, s2, s3, s4, _, h => h s2 s3 s4
  | s :: c, x, s2, s3, s4, o, h => by
    have os := o s (List.mem_cons_self ..)
    have := os.t0
    have := os.t1
    refine ⟨rfl, rfl, trivial, trivial, .inr (small (by omega) (by omega)), rfl, rfl, d_quot os.b0 os.b1 ?_⟩
    exact mv_loop c _ _ _ _ (fun x hx => o x (List.mem_cons_of_mem _ hx)) h
theorem d__moved {c : List Sp} {x : Int} {m : Nat} {P : D → Nat → Prop} (g : GC c) (h : P (.int (mv c x)) 0) : r__moved [.d (chD c), .d (.int x)] m P := by
  show forL _ _ _ (c.map Sp.d) [.im (chD c), .im (.int x), .no, .no, .no]
  exact mv_loop c x _ _ _ g.ok fun s2 s3 s4 => ⟨hd_d, h⟩
theorem d_moved {c : List Sp} {x : Int} {m : Nat} {P : D → Nat → Prop} (g : GC c) (x0 : 0 ≤ x) (x1 : x ≤ 1000000000000) (h : P (.int (mv c x)) 0) : r_moved [.d (chD c), .d (.int x)] m P := by
  refine ⟨rfl, rfl, d_need g ?_⟩
  refine ⟨rfl, rfl, d_is_within x0 x1 ?_⟩
  exact ⟨rfl, rfl, d__moved g ⟨hd_d, h⟩⟩
end Q80
namespace Q80
open PySem L2 DL
def natD (n : Nat) : D := .int (n : Int)
structure PI (B : Nat) (n k : Nat) (L : List Nat) : Prop where
  n0 : 0 < n
  k2 : 2 ≤ k
  pr : ∀ q ∈ L, Pr q
  mul : prod (L ++ [n]) = B
  sm : ∀ d, 2 ≤ d → d < k → ¬ d ∣ n
  len : L.length + n ≤ B
theorem prod_app (L : List Nat) (n : Nat) : prod (L ++ [n]) = prod L * n := by
  induction L with
  | nil => simp [prod]
  | cons q L ih => show q * prod (L ++ [n]) = q * prod L * n; rw [ih, Nat.mul_assoc]
theorem pi_pr {B n k : Nat} {L : List Nat} (h : PI B n k L) (hd : k ∣ n) : Pr k := by
  refine ⟨h.k2, fun d hdk => ?_⟩
  refine Classical.byContradiction fun q => ?_
  have kpos : 0 < k := by have := h.k2; omega
  have d0 : 0 < d := Nat.pos_of_dvd_of_pos hdk kpos
  have dl := Nat.le_of_dvd kpos hdk
  refine h.sm d ?_ ?_ (Nat.dvd_trans hdk hd)
  · have : d ≠ 1 := fun e => q (.inl e)
    omega
  · have : d ≠ k := fun e => q (.inr e)
    omega
theorem pi_div {B n k : Nat} {L : List Nat} (h : PI B n k L) (hd : k ∣ n) : PI B (n / k) k (L ++ [k]) := by
  have k2 := h.k2
  have n0 := h.n0
  have le := Nat.le_of_dvd n0 hd
  have e : k * (n / k) = n := Nat.mul_div_cancel' hd
  refine ⟨Nat.div_pos le (by omega), k2, fun q hq => ?_, ?_, fun d h2 hk hdn => h.sm d h2 hk (Nat.dvd_trans hdn (Nat.div_dvd_of_dvd hd)), ?_⟩
  · (rcases List.mem_append.mp hq with hq | hq)
    · exact h.pr q hq
    · simp at hq
      rw [hq]
      exact pi_pr h hd
  · have m := h.mul
    rw [prod_app] at m
    rw [prod_app, prod_app, Nat.mul_assoc, e]
    exact m
  · have l := h.len
    (rw [List.length_append, List.length_singleton])
    have : n / k < n := Nat.div_lt_self n0 (by omega)
    omega
theorem pi_next {B n k : Nat} {L : List Nat} (h : PI B n k L) (hd : ¬ k ∣ n) : PI B n (k + 1) L := by
  refine ⟨h.n0, by have := h.k2; omega, h.pr, h.mul, fun d h2 hk => ?_, h.len⟩
  by_cases e : d = k
  · rw [e]
    exact hd
  · exact h.sm d h2 (by omega)
theorem pi_le {B n k : Nat} {L : List Nat} (h : PI B n k L) (hn : 1 < n) : k ≤ n := by
  refine Classical.byContradiction fun q => ?_
  exact h.sm n (by omega) (by omega) (Nat.dvd_refl n)
theorem d_primes {B : Nat} {m : Nat} {P : D → Nat → Prop} (b0 : 0 < B) (b1 : B ≤ 100000) (h : ∀ L : List Nat, (∀ q ∈ L, Pr q) → prod L = B → L.length ≤ B → (∀ q ∈ L, q ≤ 100001) → P (.list (L.map natD)) 0) : r__primes_of [.d (.int B)] m P := by
  refine ⟨by decide, ?_⟩
  refine ⟨fun w ρ => ∃ (n k : Nat) (L : List Nat), ρ = [.im (.int n), .ow (.list (L.map natD)), .im (.int k)] ∧ ((w + k = 2 * n + 2 ∧ k ≤ n + 1) ∨ (n = 1 ∧ w = 0)) ∧ PI B n k L, ⟨2 * B, B, 2, [], rfl, .inl ⟨by omega, by omega⟩, ⟨b0, by omega, (fun _ z => nomatch z), by simp [prod], fun d h2 hk => by omega, by simp⟩⟩, ?_⟩
  rintro w ρ ⟨n, k, L, rfl, hw, pi⟩
  refine ⟨trivial, ?_⟩
  have hl := pi.len
  have hB : n ≤ 100000 := by omega
  show if decide ((1 : Int) < (n : Int)) = true then _ else _
  by_cases z : 1 < n
  · rw [if_pos (by simpa using (show (1 : Int) < n by omega))]
    have le := pi_le pi z
    -- the inner loop
    refine ⟨fun w' ρ => ∃ (n' : Nat) (L : List Nat), ρ = [.im (.int n'), .ow (.list (L.map natD)), .im (.int k)] ∧ w' = n' ∧ n' ≤ n ∧ PI B n' k L, ⟨n, n, L, rfl, rfl, Nat.le_refl n, pi⟩, ?_⟩
    rintro w' ρ ⟨n', L', rfl, ew, hn', pi'⟩
    have hw : w + k = 2 * n + 2 := by omega
    have k2 := pi'.k2
    refine ⟨trivial, trivial, by omega, okI _, okI _, ?_⟩
    have ee : PyData.eqv (.int ((n' : Int) % (k : Int))) (.int 0) = decide (k ∣ n') := by
      have : ((n' : Int) % (k : Int)) = ((n' % k : Nat) : Int) := (Int.natCast_emod ..).symm
      have e9 : ∀ a b : Int, PyData.eqv (.int a) (.int b) = (a == b) := fun a b => by simp [PyData.eqv]
      rw [this, e9]
      by_cases hd : k ∣ n'
      · rw [decide_eq_true hd, Nat.mod_eq_zero_of_dvd hd]
        rfl
      · rw [decide_eq_false hd]
        have ne : n' % k ≠ 0 := fun e => hd (Nat.dvd_of_mod_eq_zero e)
        (exact beq_eq_false_iff_ne.mpr (by omega))
    rw [ee]
    show if decide (k ∣ n') = true then _ else _
    by_cases hd : k ∣ n'
    · rw [if_pos (by simpa using hd)]
      have pd := pi_div pi' hd
      have lt : n' / k < n' := Nat.div_lt_self pi'.n0 (by omega)
      have ll := pi'.len
      refine ⟨trivial, by rw [List.length_map]; omega, trivial, trivial, ⟨by omega, by omega⟩, n' / k, by omega, n' / k, L' ++ [k], ?_, rfl, by omega, pd⟩
      show [Sl.im (.int ((n' : Int) / (k : Int))), Sl.ow (.list (L'.map natD ++ [.int (k : Int)])), Sl.im (.int k)] = _
      rw [List.map_append]
      have : ((n' : Int) / (k : Int)) = ((n' / k : Nat) : Int) := (Int.natCast_ediv ..).symm
      rw [this]
      rfl
    · rw [if_neg (by simpa using hd)]
      have pn := pi_next pi' hd
      refine ⟨trivial, ?_⟩
      by_cases o : 1 < n'
      · have := pi_le pi' o
        exact ⟨2 * n' + 2 - (k + 1), by omega, n', k + 1, L', by simp, .inl ⟨by omega, by omega⟩, pn⟩
      · have := pi'.n0
        exact ⟨0, by omega, n', k + 1, L', by simp, .inr ⟨by omega, rfl⟩, pn⟩
  · rw [if_neg (by simpa using (show ¬ (1 : Int) < n by omega))]
    have n1 : n = 1 := by have := pi.n0; omega
    subst n1
    have m := pi.mul
    rw [prod_app, Nat.mul_one] at m
    refine ⟨hd_d, h L pi.pr m (by omega) fun q hq => ?_⟩
    have hqB : q ∣ B := by
      rw [← m]
      clear h hl hw pi z m
      induction L with
      | nil => cases hq
      | cons x L ih =>
        (rcases List.mem_cons.mp hq with rfl | hq)
        · exact ⟨prod L, rfl⟩
        · exact Nat.dvd_trans (ih hq) ⟨x, by show x * prod L = _; rw [Nat.mul_comm]⟩
    have := Nat.le_of_dvd b0 hqB
    omega
end Q80
namespace Q80
open PySem L2 DL
theorem six_lo {n k : Nat} (h : k ≤ n) : HT.sIx n 0 (some (k : Int)) = k := by
  unfold HT.sIx
  simp
  rw [if_neg (by omega)]
  omega
theorem six_hi {n k : Nat} (h : k ≤ n) : HT.sIx n n (some (k : Int)) = k := by
  unfold HT.sIx
  simp
  rw [if_neg (by omega)]
  omega
theorem cut_lo {l : List D} {k : Nat} (h : k ≤ l.length) : cutD l (some (k : Int)) none = l.drop k := by
  unfold cutD
  rw [six_lo h]
  have e2 : HT.sIx l.length l.length none = l.length := rfl
  rw [e2]
  exact List.take_of_length_le (by rw [List.length_drop]; exact Nat.le_refl _)
theorem cut_hi {l : List D} {k : Nat} (h : k ≤ l.length) : cutD l none (some (k : Int)) = l.take k := by
  unfold cutD
  rw [six_hi h]
  have e2 : HT.sIx l.length 0 none = 0 := rfl
  rw [e2]
  rfl
theorem atI_nat {l : List D} {i : Nat} {d : D} (h : l[i]? = some d) : atI l (i : Int) = some d := by
  have hi : i < l.length := (List.getElem?_eq_some_iff.mp h).1
  unfold atI ixN
  (rw [if_pos (by omega), if_pos (by omega)])
  exact h
theorem eqv_iLs : ∀ xs ys : List Int, PyData.eqvAll (xs.map PyData.int) (ys.map PyData.int) = decide (xs = ys)
  | [], [] => rfl
  | [], _ :: _ => (by simp [PyData.eqvAll])
  | _ :: _, [] => (by simp [PyData.eqvAll])
  | x :: xs, y :: ys => by
    simp only [List.map_cons, PyData.eqvAll, PyData.eqv, eqv_iLs xs ys]
    by_cases h : x = y <;> by_cases h2 : xs = ys <;> simp [h, h2]
theorem eqv_il (xs ys : List Int) : PyData.eqv (.list (xs.map PyData.int)) (.list (ys.map PyData.int)) = decide (xs = ys) := by
  rw [← eqv_iLs xs ys]
  simp [PyData.eqv]
def iL (f : Nat → Int) (n : Nat) : List Int := (List.range n).map f
theorem iL_len (f : Nat → Int) (n : Nat) : (iL f n).length = n := by simp [iL]
theorem iL_get {f : Nat → Int} {n i : Nat} (h : i < n) : (iL f n)[i]? = some (f i) := by
  unfold iL
  rw [List.getElem?_map, List.getElem?_range h]
  rfl
theorem rot_eq {r : Nat → Int} {B m : Nat} (hm : m ≤ B) : ((iL r B).drop m ++ (iL r B).take m = iL r B) ↔ ∀ i, i < B → r (if i + m < B then i + m else i + m - B) = r i := by
  have g : ∀ i, i < B → ((iL r B).drop m ++ (iL r B).take m)[i]? = some (r (if i + m < B then i + m else i + m - B)) := by
    intro i hi
    by_cases z : i + m < B
    · rw [if_pos z, List.getElem?_append_left (by rw [List.length_drop, iL_len]; omega), List.getElem?_drop, Nat.add_comm m i]
      exact iL_get z
    · rw [if_neg z, List.getElem?_append_right (by rw [List.length_drop, iL_len]; omega), List.length_drop, iL_len, List.getElem?_take_of_lt (by omega)]
      have e : i - (B - m) = i + m - B := by omega
      rw [e]
      exact iL_get (by omega)
  constructor
  · intro h i hi
    have := g i hi
    rw [h, iL_get hi] at this
    (exact (Option.some.inj this).symm)
  · intro h
    refine List.ext_getElem? fun i => ?_
    by_cases hi : i < B
    · rw [g i hi, h i hi, iL_get hi]
    · rw [List.getElem?_eq_none (by rw [List.length_append, List.length_drop, List.length_take, iL_len]; omega), List.getElem?_eq_none (by rw [iL_len]; omega)]
theorem d_again {r : Nat → Int} {B k : Nat} (hm : k ≤ B) (hB : B ≤ 100000) {m : Nat} {P : D → Nat → Prop} (h1 : (∀ i, i < B → r (if i + k < B then i + k else i + k - B) = r i) → P (.bool true) 0) (h2 : ¬ (∀ i, i < B → r (if i + k < B then i + k else i + k - B) = r i) → P (.bool false) 0) :
    r__comes_again [.d (.list ((iL r B).map PyData.int)), .d (.int k)] m P := by
  have l1 := cut_lo (l := (iL r B).map PyData.int) (k := k) (by rw [List.length_map, iL_len]; exact hm)
  have l2 := cut_hi (l := (iL r B).map PyData.int) (k := k) (by rw [List.length_map, iL_len]; exact hm)
  refine ⟨trivial, trivial, ?_⟩
  show (cutD ((iL r B).map PyData.int) (some (k : Int)) none).length + (cutD ((iL r B).map PyData.int) none (some (k : Int))).length ≤ 1000000 ∧ _
  rw [l1, l2]
  refine ⟨by rw [List.length_drop, List.length_take, List.length_map, iL_len]; omega, trivial, ?_⟩
  have e : (((iL r B).map PyData.int).drop k ++ ((iL r B).map PyData.int).take k) = ((iL r B).drop k ++ (iL r B).take k).map PyData.int := by
    rw [List.map_append, List.map_drop, List.map_take]
  rw [e]
  refine ⟨okD_ints _, okD_ints _, ?_⟩
  rw [eqv_il]
  by_cases z : (iL r B).drop k ++ (iL r B).take k = iL r B
  · rw [decide_eq_true z]
    exact ⟨hd_d, h1 ((rot_eq hm).mp z)⟩
  · rw [decide_eq_false z]
    exact ⟨hd_d, h2 fun q => z ((rot_eq hm).mpr q)⟩
def fn (c : List Sp) : Nat → Int := fun x => mv c (x : Int)
def bn (c : List Sp) : Nat := (bot c).toNat
structure GP (c : List Sp) (p : Nat) : Prop where
  g : GC c
  l : Lst (fn c) p
theorem bn_eq {c : List Sp} (g : GC c) : bot c = (bn c : Int) ∧ 0 < bn c ∧ bn c ≤ 100000 := by
  have h1 := bot_pos (bot_ok g.ok)
  have h2 := g.bt
  unfold bn
  omega
theorem fn_zero {c : List Sp} (g : GC c) : fn c 0 = 0 := mv_zero (bot_ok g.ok)
theorem fn_add {c : List Sp} (g : GC c) (x : Nat) : fn c (x + bn c) = fn c x + top c := by
  have h := mv_add (bot_ok g.ok) (x : Int) 1
  rw [Int.mul_one, Int.mul_one, (bn_eq g).1] at h
  show mv c ((x + bn c : Nat) : Int) = mv c (x : Int) + top c
  rw [Int.natCast_add]
  exact h
theorem fn_bn {c : List Sp} (g : GC c) : fn c (bn c) = top c := by
  have := fn_add g 0
  rw [Nat.zero_add, fn_zero g] at this
  omega
theorem per_bn {c : List Sp} (g : GC c) : Per (fn c) (bn c) := fun x => by rw [fn_add g x, fn_bn g]
theorem ex_gp {c : List Sp} (g : GC c) : ∃ p, GP c p := by
  obtain ⟨p, hp⟩ := ex_lst (fn_zero g) (bn_eq g).2.1 (per_bn g)
  exact ⟨p, g, hp⟩
theorem gp_le {c : List Sp} {p : Nat} (h : GP c p) : p ∣ bn c ∧ p ≤ bn c := by
  have d := (h.l.iff _).mp (per_bn h.g)
  exact ⟨d, Nat.le_of_dvd (bn_eq h.g).2.1 d⟩
theorem rg_nat (n : Nat) : rgD 0 (n : Int) = (List.range n).map natD := by
  unfold rgD natD
  simp
def rise (f : Nat → Int) (i : Nat) : Int := f (i + 1) - f i
theorem per_loop {C F R : D} {c : List Sp} {p : Nat} (gp : GP c p) {E : DE} (eR : R = .list ((iL (rise (fn c)) (bn c)).map PyData.int)) : ∀ (L : List Nat) (k : Nat) (s4 s5 s6 s7 : Sl), (∀ q ∈ L, 0 < q ∧ q ≤ 100001) → k ≤ bn c → (∀ s4, E.nx [.im C, .im (.int (parted p L k)), .im F, .im R, s4, s5, s6, s7]) →
    forL (gN 4) (sIf (bTruth (hV (dCall 2 r__comes_again (aCons (dV 3) (aCons (d2 gDiv (hS 1) (hS 4)) (aNil)))))) (sAug 1 gIdiv (hS 4)) (sNo)) E (L.map natD) [.im C, .im (.int k), .im F, .im R, s4, s5, s6, s7]
  | [], k, s4, s5, s6, s7, _, _, h => h s4
  | q :: L, k, s4, s5, s6, s7, hq, hk, h => by
    obtain ⟨q0, q1⟩ := hq q (List.mem_cons_self ..)
    have hq' : ∀ x ∈ L, 0 < x ∧ x ≤ 100001 := fun x hx => hq x (List.mem_cons_of_mem _ hx)
    have ed : ((k : Int) / (q : Int)) = ((k / q : Nat) : Int) := (Int.natCast_ediv ..).symm
    have le : k / q ≤ k := Nat.div_le_self k q
    have b := bn_eq gp.g
    refine ⟨trivial, trivial, ⟨by omega, by omega⟩, rfl, rfl, ?_⟩
    rw [ed, eR]
    have iff := per_rot (f := fn c) (B := bn c) (m := k / q) b.2.1 (fn_add gp.g) (by omega) (fn_zero gp.g)
    refine d_again (r := rise (fn c)) (by omega) (by omega) (fun z => ?_) fun z => ?_
    · have dv := (gp.l.iff _).mp (iff.mp z)
      have e : parted p (q :: L) k = parted p L (k / q) := by
        show parted p L (if p ∣ k / q then k / q else k) = _
        rw [if_pos dv]
      rw [e] at h
      refine ⟨trivial, trivial, ⟨by omega, by omega⟩, ?_⟩
      rw [ed, ← eR]
      exact per_loop gp eR L (k / q) _ _ _ _ hq' (by omega) h
    · have dv : ¬ p ∣ k / q := fun y => z (iff.mpr ((gp.l.iff _).mpr y))
      have e : parted p (q :: L) k = parted p L k := by
        show parted p L (if p ∣ k / q then k / q else k) = _
        rw [if_neg dv]
      rw [e] at h
      rw [← eR]
      exact per_loop gp eR L k _ _ _ _ hq' hk h
def mvI (c : List Sp) : D → D
  | .int i => .int (mv c i)
  | _ => .none
def pairT (p : D × D) : D := .tuple [p.1, p.2]
theorem zip_tail (l : List D) : zipD l (cutD l (some 1) none) = (l.zip l.tail).map pairT := by
  have e : cutD l (some 1) none = l.tail := by
    cases l with
    | nil => rfl
    | cons b r =>
      unfold cutD
      have e1 : HT.sIx (b :: r).length 0 (some 1) = 1 := by
        unfold HT.sIx
        simp
      have e2 : HT.sIx (b :: r).length (b :: r).length none = (b :: r).length := rfl
      rw [e1, e2]
      simp
  rw [e]
  unfold zipD
  rw [List.zip, List.map_zipWith]
  rfl
theorem zip_iL (f : Nat → Int) (n : Nat) : ((iL f (n + 1)).map PyData.int).zip ((iL f (n + 1)).map PyData.int).tail = (List.range n).map fun i => (PyData.int (f i), PyData.int (f (i + 1))) := by
  refine List.ext_getElem? fun i => ?_
  by_cases hi : i < n
  · rw [List.getElem?_map, List.getElem?_range hi]
    have h1 : ((iL f (n + 1)).map PyData.int)[i]? = some (PyData.int (f i)) := by
      rw [List.getElem?_map, iL_get (by omega)]
      rfl
    have h2 : ((iL f (n + 1)).map PyData.int).tail[i]? = some (PyData.int (f (i + 1))) := by
      rw [List.getElem?_tail, List.getElem?_map, iL_get (by omega)]
      rfl
    unfold List.zip
    rw [List.getElem?_zipWith, h1, h2]
    rfl
  · rw [List.getElem?_eq_none (by rw [List.length_zip, List.length_tail, List.length_map, iL_len]; omega), List.getElem?_eq_none (by simp; omega)]
def subP : D → D
  | .tuple [.int a, .int b] => .int (b - a)
  | _ => .none
theorem d_period {c : List Sp} {p : Nat} (gp : GP c p) {m : Nat} {P : D → Nat → Prop} (h : P (.tuple [.int p, .int (fn c p)]) 0) : r_period [.d (chD c)] m P := by
  have b := bn_eq gp.g
  have pl := gp_le gp
  refine ⟨rfl, rfl, d_need gp.g ?_⟩
  refine ⟨rfl, rfl, d_bottom gp.g ?_⟩
  rw [b.1]
  refine ⟨trivial, ⟨by omega, by omega⟩, ?_⟩
  have ec : ((bn c : Int) + 1) = ((bn c + 1 : Nat) : Int) := by omega
  rw [ec, rg_nat]
  refine ⟨by simp; omega, ⟨by simp, fun j hj => by simp at hj; subst hj; rfl⟩, ?_⟩
  refine lcL_map (ρ := [.im (chD c), .im (.int (bn c)), .no, .no, .no, .no, .no, .no]) (mvI c) _ [] ?_ ?_
  · intro d hd Q hQ
    obtain ⟨i, hi, rfl⟩ := List.mem_map.mp hd
    exact ⟨rfl, rfl, d__moved gp.g (hQ _ rfl)⟩
  · have ef : ([] : List D) ++ ((List.range (bn c + 1)).map natD).map (mvI c) = (iL (fn c) (bn c + 1)).map PyData.int := by
      rw [List.nil_append, List.map_map]
      unfold iL
      rw [List.map_map]
      rfl
    rw [ef]
    refine ⟨trivial, ?_⟩
    show (zipD ((iL (fn c) (bn c + 1)).map PyData.int) (cutD ((iL (fn c) (bn c + 1)).map PyData.int) (some 1) none)).length ≤ 1000000 ∧ _
    rw [zip_tail, zip_iL]
    refine ⟨by simp; omega, ⟨by simp, fun j hj => by simp at hj; rcases hj with rfl | rfl <;> rfl⟩, ?_⟩
    refine lcL_map (ρ := [.im (chD c), .im (.int (bn c)), .im (.list ((iL (fn c) (bn c + 1)).map PyData.int)), .no, .no, .no, .no, .no]) subP _ [] ?_ ?_
    · intro d hd Q hQ
      (obtain ⟨q, hq, rfl⟩ := List.mem_map.mp hd)
      obtain ⟨i, hi, rfl⟩ := List.mem_map.mp hq
      exact ⟨rfl, rfl, trivial, trivial, hQ _ rfl⟩
    · have er : ([] : List D) ++ (((List.range (bn c)).map fun i => (PyData.int (fn c i), PyData.int (fn c (i + 1)))).map pairT).map subP = (iL (rise (fn c)) (bn c)).map PyData.int := by
        rw [List.nil_append, List.map_map, List.map_map]
        unfold iL
        rw [List.map_map]
        rfl
      rw [er]
      refine ⟨rfl, rfl, d_primes b.2.1 b.2.2 fun L lp lm ll lq => ?_⟩
      refine per_loop gp rfl L (bn c) _ _ _ _ (fun q hq => ⟨by have := (lp q hq).1; omega, lq q hq⟩) (Nat.le_refl _) fun s4 => ?_
      have ep : parted p L (bn c) = p := by
        obtain ⟨k, hk⟩ := pl.1
        have k0 : 0 < k := by
          refine Nat.pos_of_ne_zero fun z => ?_
          rw [z, Nat.mul_zero] at hk
          omega
        rw [hk]
        refine parted_eq gp.l.pos L k k0 lp ?_ ?_
        · rw [lm, hk]
          exact ⟨p, Nat.mul_comm ..⟩
        · rw [lm, hk]
          exact Nat.dvd_refl _
      rw [ep]
      refine ⟨trivial, trivial, _, atI_nat (i := p) (d := .int (fn c p)) ?_, (by show 2 ≤ 1000000; omega), hd_d, h⟩
      rw [List.getElem?_map, iL_get (by omega)]
      rfl
end Q80
namespace Q80
open PySem L2 DL
theorem dw_is_within {i a b : Int} {m : Nat} {P : D → Nat → Prop} (h : P (.bool (decide (a ≤ i) && decide (i ≤ b))) 0) : r_is_within [.d (.int i), .d (.int a), .d (.int b)] m P := by
  refine ⟨rfl, rfl, d_is_integer ?_⟩
  by_cases e : a ≤ i
  · rw [decide_eq_true e, Bool.true_and] at h
    simp [raw, startE, arSl, sSeq, sIf, sRet, sRetN, sNo, sSet, sSetN, sExpr, sAsg, dCall, dCallO, aCons, aNil, aOra, dV, hS, hV, dC, d2, see, seeAll, dCB, DL.gCons, DL.gNil, dChain, bD, bAnd, bOr, bNot, dAnd, dOr, dNot, dNeg, dIf, dIsi, bTruth, truD, lCons, lNil, dTup, dLst, isD, gCmp, gAdd, DL.gSub, gIs, gIsNot, gLen, gN, gTupT, gConsT, gNoT, ownL, dSl, oI, oNo, e, h]
  · rw [decide_eq_false e, Bool.false_and] at h
    simp [raw, startE, arSl, sSeq, sIf, sRet, sRetN, sNo, sSet, sSetN, sExpr, sAsg, dCall, dCallO, aCons, aNil, aOra, dV, hS, hV, dC, d2, see, seeAll, dCB, DL.gCons, DL.gNil, dChain, bD, bAnd, bOr, bNot, dAnd, dOr, dNot, dNeg, dIf, dIsi, bTruth, truD, lCons, lNil, dTup, dLst, isD, gCmp, gAdd, DL.gSub, gIs, gIsNot, gLen, gN, gTupT, gConsT, gNoT, ownL, dSl, oI, oNo, e, h]
theorem dw_is_tuple {ds : List D} {a b : Int} {m : Nat} {P : D → Nat → Prop} (h : P (.bool (decide (a ≤ ds.length) && decide ((ds.length : Int) ≤ b))) 0) : r_is_tuple [.d (.tuple ds), .d (.int a), .d (.int b)] m P := by
  refine ⟨trivial, true, k_tt, ?_⟩
  by_cases e : a ≤ (ds.length : Int)
  · rw [decide_eq_true e, Bool.true_and] at h
    simp [raw, startE, arSl, sSeq, sIf, sRet, sRetN, sNo, sSet, sSetN, sExpr, sAsg, dCall, dCallO, aCons, aNil, aOra, dV, hS, hV, dC, d2, see, seeAll, dCB, DL.gCons, DL.gNil, dChain, bD, bAnd, bOr, bNot, dAnd, dOr, dNot, dNeg, dIf, dIsi, bTruth, truD, lCons, lNil, dTup, dLst, isD, gCmp, gAdd, DL.gSub, gIs, gIsNot, gLen, gN, gTupT, gConsT, gNoT, ownL, dSl, oI, oNo, e, h]
  · rw [decide_eq_false e, Bool.false_and] at h
    simp [raw, startE, arSl, sSeq, sIf, sRet, sRetN, sNo, sSet, sSetN, sExpr, sAsg, dCall, dCallO, aCons, aNil, aOra, dV, hS, hV, dC, d2, see, seeAll, dCB, DL.gCons, DL.gNil, dChain, bD, bAnd, bOr, bNot, dAnd, dOr, dNot, dNeg, dIf, dIsi, bTruth, truD, lCons, lNil, dTup, dLst, isD, gCmp, gAdd, DL.gSub, gIs, gIsNot, gLen, gN, gTupT, gConsT, gNoT, ownL, dSl, oI, oNo, e, h]
structure Cue where
  f : Int
  t : Int
  x : D
def Cue.d (c : Cue) : D := .tuple [.int c.f, .int c.t, c.x]
def fileD (cs : List Cue) : D := .tuple (cs.map Cue.d)
structure OkStr (z : Str) : Prop where
  l1 : 1 ≤ z.cps.toList.length
  l2 : z.cps.toList.length ≤ 40
  ok : ∀ c ∈ z.cps.toList, 32 ≤ c ∧ c ≤ 126 ∧ c ≠ 37
  hd : atI z.cps.toList 0 ≠ some 32
  tl : atI z.cps.toList (-1) ≠ some 32
theorem len_eq (z : Str) : z.length = z.cps.toList.length := by
  show z.cps.size = _
  rw [Array.length_toList]
theorem d_is_sign {c : Nat} {m : Nat} {P : D → Nat → Prop} (h1 : 32 ≤ c) (h2 : c ≤ 126) (h3 : c ≠ 37) (h : P (.bool true) 0) : r_is_sign [.d (.str ⟨#[c]⟩), .d (.int 32)] m P := by
  have a1 : (32 : Int) ≤ (c : Int) := by omega
  have a2 : (c : Int) ≤ 126 := by omega
  have a3 : ((c : Int) == 37) = false := by
    have : (c : Int) ≠ 37 := by omega
    simpa using this
  have o1 : okD (.int (c : Int)) := rfl
  have o2 : okD (.int 37) := rfl
  simp [r_is_sign, g_is_sign, raw, startE, arSl, sSeq, sIf, sRet, sRetN, sNo, sSet, sSetN, sExpr, sAsg, dCall, dCallO, aCons, aNil, aOra, dV, hS, hV, dC, d2, see, seeAll, dCB, DL.gCons, DL.gNil, dChain, bD, bAnd, bOr, bNot, dAnd, dOr, dNot, dNeg, dIf, dIsi, bTruth, truD, lCons, lNil, dTup, dLst, isD, gCmp, gAdd, DL.gSub, gIs, gIsNot, gLen, gN, gTupT, gConsT, gNoT, ownL, dSl, oI, oNo, gOrd, gNe, a1, a2, o1, o2, PyData.eqv, a3, h]
  rfl
theorem d_has_signs {z : Str} {m : Nat} {P : D → Nat → Prop} (o : OkStr z) (h : P (.bool true) 0) : r_has_signs [.d (.str z), .d (.int 32)] m P := by
  have l1 := o.l1
  have l2 := o.l2
  have e1 : (1 : Int) ≤ (z.length : Int) := by rw [len_eq]; omega
  have e2 : (z.length : Int) ≤ 40 := by rw [len_eq]; omega
  have e3 : z.length ≤ 1000000 := by rw [len_eq]; omega
  show sIf _ _ _ _ _
  simp [raw, startE, arSl, sSeq, sIf, sRet, sRetN, sNo, sSet, sSetN, sExpr, sAsg, dCall, dCallO, aCons, aNil, aOra, dV, hS, hV, dC, d2, see, seeAll, dCB, DL.gCons, DL.gNil, dChain, bD, bAnd, bOr, bNot, dAnd, dOr, dNot, dNeg, dIf, dIsi, bTruth, truD, lCons, lNil, dTup, dLst, isD, gCmp, gAdd, DL.gSub, gIs, gIsNot, gLen, gN, gTupT, gConsT, gNoT, ownL, dSl, oI, oNo, k_ss, tyN, gLen, e1, e2, e3]
  refine ⟨by rw [signs_eq, List.length_map]; omega, ⟨by simp, fun j hj => by simp at hj; subst hj; rfl⟩, ?_⟩
  refine lcL_map (ρ := [.im (.str z), .im (.int 32), .no]) (fun _ => .bool true) (signs z) [] ?_ ?_
  · intro d hd Q hQ
    rw [signs_eq] at hd
    obtain ⟨c, hc, rfl⟩ := List.mem_map.mp hd
    obtain ⟨b1, b2, b3⟩ := o.ok c hc
    refine ⟨rfl, rfl, d_is_sign b1 b2 b3 ?_⟩
    exact hQ _ rfl
  · have e : ([] : List D) ++ (signs z).map (fun _ => PyData.bool true) = List.replicate (signs z).length (.bool true) := by
      rw [List.nil_append, List.map_const']
    rw [e]
    refine ⟨_, ofBools_true _, ?_⟩
    have e4 : (List.replicate (signs z).length true).all id = true := by simp
    rw [e4]
    exact h
theorem d_is_line {z : Str} {m : Nat} {P : D → Nat → Prop} (o : OkStr z) (h : P (.bool true) 0) : r__is_line [.d (.str z)] m P := by
  have l1 := o.l1
  have l2 := o.l2
  have e3 : z.length ≤ 1000000 := by rw [len_eq]; omega
  refine ⟨rfl, rfl, d_has_signs o ?_⟩
  have ne : z.cps.toList ≠ [] := fun e => by rw [e] at l1; cases l1
  obtain ⟨a, ha⟩ : ∃ a, atI z.cps.toList 0 = some a := by
    cases e : z.cps.toList with
    | nil => exact absurd e ne
    | cons a t => exact ⟨a, by simp [atI, ixN]⟩
  obtain ⟨b, hb⟩ : ∃ b, atI z.cps.toList (-1) = some b := by
    cases e : z.cps.toList with
    | nil => exact absurd e ne
    | cons a t =>
      refine ⟨(a :: t)[t.length]'(by simp), ?_⟩
      have hj : ixN (a :: t).length (-1) = some t.length := by
        unfold ixN
        rw [if_neg (by decide), if_pos (by simp; omega)]
        simp
        omega
      unfold atI
      rw [hj]
      show (a :: t)[t.length]? = _
      rw [List.getElem?_eq_getElem (by simp)]
  have na : a ≠ 32 := fun z' => o.hd (by rw [ha, z'])
  have nb : b ≠ 32 := fun z' => o.tl (by rw [hb, z'])
  have om : ∀ c, c ∈ z.cps.toList → okD (.str ⟨#[c]⟩) := by
    intro c hc
    obtain ⟨_, h2, _⟩ := o.ok c hc
    show SeqAt.shaped _ = true
    unfold SeqAt.shaped
    have h3 : c < 1114112 := by omega
    simp [PyData.canLay0, PyData.strOk, PyData.depth, h3]
  have ma : a ∈ z.cps.toList := by
    unfold atI at ha
    obtain ⟨j, _, hj⟩ := Option.bind_eq_some_iff.mp ha
    exact List.mem_of_getElem? hj
  have mb : b ∈ z.cps.toList := by
    unfold atI at hb
    obtain ⟨j, _, hj⟩ := Option.bind_eq_some_iff.mp hb
    exact List.mem_of_getElem? hj
  have ob : okD (.str (" " : Str)) := by
    show SeqAt.shaped _ = true
    decide +kernel
  have ev : ∀ c : Nat, c ≠ 32 → PyData.eqv (.str ⟨#[c]⟩) (.str (" " : Str)) = false := by
    intro c hc
    show ((⟨#[c]⟩ : Str) == (" " : Str)) = false
    refine beq_eq_false_iff_ne.mpr fun e => hc ?_
    have e2 : (⟨#[c]⟩ : Str).cps = (" " : Str).cps := by rw [e]
    have e3 : (" " : Str).cps = #[32] := by decide +kernel
    rw [e3] at e2
    have := congrArg Array.toList e2
    simpa using this
  simp [raw, startE, arSl, sSeq, sIf, sRet, sRetN, sNo, sSet, sSetN, sExpr, sAsg, dCall, dCallO, aCons, aNil, aOra, dV, hS, hV, dC, d2, see, seeAll, dCB, DL.gCons, DL.gNil, dChain, bD, bAnd, bOr, bNot, dAnd, dOr, dNot, dNeg, dIf, dIsi, bTruth, truD, lCons, lNil, dTup, dLst, isD, gCmp, gAdd, DL.gSub, gIs, gIsNot, gLen, gN, gTupT, gConsT, gNoT, ownL, dSl, oI, oNo, gNe, gIx, e3, ha, hb, om a ma, om b mb, ob, ev a na, ev b nb, h]
/-- a text: lines that may stand in a file -/
def textD (ls : List Str) : D := .tuple (ls.map PyData.str)
theorem d_is_text {ls : List Str} {m : Nat} {P : D → Nat → Prop} (l1 : 1 ≤ ls.length) (l2 : ls.length ≤ 4) (o : ∀ z ∈ ls, OkStr z) (h : P (.bool true) 0) : r_is_text [.d (textD ls)] m P := by
  refine ⟨rfl, rfl, dw_is_tuple ?_⟩
  have a1 : (1 : Int) ≤ ((ls.map PyData.str).length : Int) := by rw [List.length_map]; omega
  have a2 : ((ls.map PyData.str).length : Int) ≤ 4 := by rw [List.length_map]; omega
  rw [decide_eq_true a1, decide_eq_true a2]
  refine ⟨by rw [List.length_map]; omega, ⟨by simp, fun j hj => by simp at hj; subst hj; rfl⟩, ?_⟩
  refine lcL_map (ρ := [.im (textD ls), .no]) (fun _ => .bool true) _ [] ?_ ?_
  · intro d hd Q hQ
    obtain ⟨z, hz, rfl⟩ := List.mem_map.mp hd
    exact ⟨rfl, rfl, d_is_line (o z hz) (hQ _ rfl)⟩
  · have e : ([] : List D) ++ (ls.map PyData.str).map (fun _ => PyData.bool true) = List.replicate (ls.map PyData.str).length (.bool true) := by
      rw [List.nil_append, List.map_const']
    rw [e]
    refine ⟨_, ofBools_true _, ?_⟩
    have e4 : (List.replicate (ls.map PyData.str).length true).all id = true := by simp
    rw [e4]
    exact ⟨hd_d, h⟩
structure OkCue (c : Cue) : Prop where
  f0 : 0 ≤ c.f
  ft : c.f < c.t
  t1 : c.t ≤ 1000000000000
  x : ∃ ls : List Str, c.x = textD ls ∧ 1 ≤ ls.length ∧ ls.length ≤ 4 ∧ ∀ z ∈ ls, OkStr z
theorem d_is_cue {c : Cue} {m : Nat} {P : D → Nat → Prop} (o : OkCue c) (h : P (.bool true) 0) : r_is_cue [.d c.d] m P := by
  obtain ⟨ls, ex, b1, b2, b3⟩ := o.x
  have f0 := o.f0
  have ft := o.ft
  have t1 := o.t1
  refine ⟨rfl, rfl, dw_is_tuple ?_⟩
  refine ⟨trivial, _, rfl, rfl, rfl, dw_is_within ?_⟩
  have a1 : decide (c.f ≤ 1000000000000) = true := decide_eq_true (by omega)
  rw [decide_eq_true f0, a1]
  refine ⟨trivial, _, rfl, trivial, _, rfl, rfl, rfl, dw_is_within ?_⟩
  have a2 : decide (c.f + 1 ≤ c.t) = true := decide_eq_true (by omega)
  rw [a2, decide_eq_true t1]
  refine ⟨trivial, _, rfl, rfl, rfl, ?_⟩
  rw [ex]
  exact d_is_text b1 b2 b3 ⟨hd_d, h⟩
theorem d_need_file {cs : List Cue} {m : Nat} {P : D → Nat → Prop} (l : cs.length ≤ 60) (o : ∀ c ∈ cs, OkCue c) (h : P (fileD cs) 0) : r_need_file [.d (fileD cs)] m P := by
  refine ⟨rfl, rfl, dw_is_tuple ?_⟩
  have a1 : ((cs.map Cue.d).length : Int) ≤ 60 := by rw [List.length_map]; omega
  have a0 : (0 : Int) ≤ ((cs.map Cue.d).length : Int) := by omega
  rw [decide_eq_true a0, decide_eq_true a1]
  show forL _ _ _ (enD (cs.map Cue.d)) [.im (fileD cs), .no, .no]
  have loop : ∀ (ds : List D) (s1 s2 : Sl), (∀ d ∈ ds, ∃ (i : Int) (c : Cue), d = .tuple [.int i, c.d] ∧ OkCue c) →
      forL (gTupT 2 (gConsT (gN 1) (gConsT (gN 2) (gNoT)))) (sIf (bNot (bTruth (hV (dCall 1 r_is_cue (aCons (dV 2) (aNil)))))) (sNever) (sNo))
        ⟨sRet (dV 0) ⟨fun ρ => match ρ[0]? with
          | some (Sl.ora m') => P .none m'
          | _ => ([Ar.d (fileD cs)].head?).map isD ≠ some false ∧ P .none 0, fun d ρ => match ρ[0]? with
          | some (Sl.ora m') => P d m'
          | _ => ([Ar.d (fileD cs)].head?).map isD ≠ some false ∧ P d 0, fun _ => False, fun _ => False⟩, fun d ρ => match ρ[0]? with
          | some (Sl.ora m') => P d m'
          | _ => ([Ar.d (fileD cs)].head?).map isD ≠ some false ∧ P d 0, fun _ => False, fun _ => False⟩ ds [.im (fileD cs), s1, s2] := by
    intro ds
    induction ds with
    | nil => exact fun s1 s2 _ => ⟨hd_d, h⟩
    | cons d ds ih =>
      intro s1 s2 hd
      obtain ⟨i, c, rfl, oc⟩ := hd _ (List.mem_cons_self ..)
      refine ⟨rfl, ?_⟩
      refine ⟨rfl, ?_⟩
      refine ⟨rfl, rfl, d_is_cue oc ?_⟩
      exact ih _ _ fun d' h' => hd d' (List.mem_cons_of_mem _ h')
  refine loop _ _ _ fun d hd => ?_
  obtain ⟨i, hi⟩ := List.getElem?_of_mem hd
  obtain ⟨e, h1, h2⟩ := enD_get hi
  rw [List.getElem?_map] at h1
  cases z : cs[i]? with
  | none => rw [z] at h1; cases h1
  | some c =>
    rw [z] at h1
    cases h1
    exact ⟨_, c, h2, o c (List.mem_of_getElem? z)⟩
end Q80
namespace Q80
theorem bez : ∀ a b : Nat, ∃ x y : Int, (a : Int) * x + b * y = (Nat.gcd a b : Nat) := by
  intro a b
  induction a, b using
    Nat.gcd.induction with
  | H0 n => exact ⟨0, 1, by rw [Nat.gcd_zero_left]; simp⟩
  | H1 m n hm ih =>
    obtain ⟨x, y, e⟩ := ih
    refine ⟨y - (n / m : Nat) * x, x, ?_⟩
    rw [Nat.gcd_rec, ← e]
    have h := Nat.div_add_mod n m
    have h2 : (n : Int) = (m : Int) * (n / m : Nat) + (n % m : Nat) := by
      rw [← Int.natCast_mul, ← Int.natCast_add, h]
    rw [Int.mul_sub, ← Int.mul_assoc]
    generalize ((n / m : Nat) : Int) = q at h2 ⊢
    generalize ((n % m : Nat) : Int) = r at h2 ⊢
    rw [h2, Int.add_mul]
    omega
structure Lo (L H : Nat) : Prop where
  l : 1 ≤ L
  h : 1 ≤ H
  co : Nat.gcd L H = 1
theorem resid {L H : Nat} (o : Lo L H) {s : Int} : ∃ x q : Int, 0 ≤ x ∧ x < H ∧ x * L = H * q + s := by
  obtain ⟨x, y, e⟩ := bez L H
  rw [o.co] at e
  have h0 : (H : Int) ≠ 0 := by have := o.h; omega
  have d := Int.mul_ediv_add_emod (s * x) H
  refine ⟨(s * x) % H, -(s * y) - (s * x) / H * L, Int.emod_nonneg _ h0, Int.emod_lt_of_pos _ (by have := o.h; omega), ?_⟩
  have e1 : s * x % (H : Int) = s * x - H * (s * x / H) := by omega
  rw [e1, Int.sub_mul, Int.mul_sub]
  have e2 : s * x * (L : Int) = s - H * (s * y) := by
    have : s * ((L : Int) * x + H * y) = s * 1 := by rw [e]; rfl
    rw [Int.mul_add, Int.mul_one] at this
    have a1 : s * x * (L : Int) = s * ((L : Int) * x) := by rw [Int.mul_assoc, Int.mul_comm x]
    have a2 : (H : Int) * (s * y) = s * ((H : Int) * y) := by rw [Int.mul_left_comm]
    rw [a1, a2]
    omega
  have e3 : (H : Int) * (s * x / H) * L = H * (s * x / H * L) := Int.mul_assoc ..
  have e4 : (H : Int) * -(s * y) = -(H * (s * y)) := Int.mul_neg ..
  rw [e2, e3, e4]
  omega
def Ron : Ro → Int → Int → Int → Prop
  | .dn, n, b, p => p ≤ n ∧ n < p + b
  | .up, n, b, p => p - b < n ∧ n ≤ p
  | .nr, n, b, p => 2 * p - b ≤ 2 * n ∧ 2 * n < 2 * p + b
theorem ron_of (r : Ro) (n : Int) {b : Int} (hb : 0 < b) : Ron r n b (b * q1 r n b) := by
  cases r with
  | dn =>
    have e := Int.mul_ediv_add_emod n b
    have h0 := Int.emod_nonneg n (show b ≠ 0 by omega)
    have h1 := Int.emod_lt_of_pos n hb
    show b * (n / b) ≤ n ∧ n < b * (n / b) + b
    omega
  | up =>
    have e := Int.mul_ediv_add_emod (-n) b
    have h0 := Int.emod_nonneg (-n) (show b ≠ 0 by omega)
    have h1 := Int.emod_lt_of_pos (-n) hb
    show b * -(-n / b) - b < n ∧ n ≤ b * -(-n / b)
    rw [Int.mul_neg]
    omega
  | nr =>
    have e := Int.mul_ediv_add_emod (2 * n + b) (2 * b)
    have h0 := Int.emod_nonneg (2 * n + b) (show 2 * b ≠ 0 by omega)
    have h1 := Int.emod_lt_of_pos (2 * n + b) (show 0 < 2 * b by omega)
    show 2 * (b * ((2 * n + b) / (2 * b))) - b ≤ 2 * n ∧ 2 * n < 2 * (b * ((2 * n + b) / (2 * b))) + b
    rw [Int.mul_assoc] at e
    omega
theorem mul_inj {b s t : Int} (hb : 0 < b) (h1 : b * s < b * t + b) (h2 : b * t < b * s + b) : s = t := by
  have a1 : s < t + 1 := by
    have : b * s < b * (t + 1) := by rw [Int.mul_add, Int.mul_one]; exact h1
    exact Int.lt_of_mul_lt_mul_left this (by omega)
  have a2 : t < s + 1 := by
    have : b * t < b * (s + 1) := by rw [Int.mul_add, Int.mul_one]; exact h2
    exact Int.lt_of_mul_lt_mul_left this (by omega)
  omega
theorem ron_is {r : Ro} {n b t : Int} (hb : 0 < b) (h : Ron r n b (b * t)) : q1 r n b = t := by
  have g := ron_of r n hb
  cases r with
  | dn =>
    obtain ⟨h1, h2⟩ := h
    obtain ⟨g1, g2⟩ := g
    exact mul_inj hb (by omega) (by omega)
  | up =>
    obtain ⟨h1, h2⟩ := h
    obtain ⟨g1, g2⟩ := g
    exact mul_inj hb (by omega) (by omega)
  | nr =>
    obtain ⟨h1, h2⟩ := h
    obtain ⟨g1, g2⟩ := g
    exact mul_inj hb (by omega) (by omega)
theorem q1_scale (r : Ro) (n b : Int) {k : Int} (hk : 0 < k) : q1 r (n * k) (b * k) = q1 r n b := by
  cases r with
  | dn => exact Int.mul_ediv_mul_of_pos_left _ _ hk
  | up =>
    show -(-(n * k) / (b * k)) = -(-n / b)
    rw [← Int.neg_mul, Int.mul_ediv_mul_of_pos_left _ _ hk]
  | nr =>
    show (2 * (n * k) + b * k) / (2 * (b * k)) = (2 * n + b) / (2 * b)
    rw [← Int.mul_assoc, ← Int.mul_assoc, ← Int.add_mul, Int.mul_ediv_mul_of_pos_left _ _ hk]
theorem q1_mono (r : Ro) {n n' b : Int} (hb : 0 < b) (h : n ≤ n') : q1 r n b ≤ q1 r n' b := by
  cases r with
  | dn => exact Int.ediv_le_ediv hb h
  | up =>
    show -(-n / b) ≤ -(-n' / b)
    have := Int.ediv_le_ediv hb (show -n' ≤ -n by omega)
    omega
  | nr => exact Int.ediv_le_ediv (by omega) (by omega)
def Cond (L H : Nat) : Ro → Ro → Bool
  | .nr, .nr => decide (H ≤ L)
  | .dn, .up => decide (H ≤ L)
  | .up, .dn => decide (H ≤ L)
  | .dn, .dn => decide (H = 1)
  | .up, .up => decide (H = 1)
  | .dn, .nr => decide (2 * ((H : Int) - 1) ≤ L)
  | .up, .nr => decide (2 * ((H : Int) - 1) < L) || decide (H = 1)
  | .nr, _ => true
theorem eq_one {L H : Nat} (o : Lo L H) (h : L = H) : H = 1 := by
  have := o.co
  rw [h, Nat.gcd_self] at this
  exact this
theorem back_ok {L H : Nat} (o : Lo L H) {r s : Ro} (hr : r = .nr → s = .nr) (c : Cond L H r s = true) (x : Int) : q1 s (q1 r (x * L) H * H) L = x := by
  have l := o.l
  have h := o.h
  have g := ron_of r (x * L) (show (0 : Int) < H by omega)
  refine ron_is (by omega) ?_
  rw [Int.mul_comm (q1 r (x * L) H), Int.mul_comm (L : Int) x]
  generalize (H : Int) * q1 r (x * L) H = p at g ⊢
  generalize x * (L : Int) = n at g ⊢
  have e1 := eq_one o
  cases r with
  | dn =>
    obtain ⟨g1, g2⟩ := g
    cases s with
    | dn =>
      have : H = 1 := by simpa [Cond] using c
      show n ≤ p ∧ p < n + L
      omega
    | up =>
      have : H ≤ L := by simpa [Cond] using c
      show n - L < p ∧ p ≤ n
      omega
    | nr =>
      have : 2 * ((H : Int) - 1) ≤ L := by simpa [Cond] using c
      show 2 * n - L ≤ 2 * p ∧ 2 * p < 2 * n + L
      omega
  | up =>
    obtain ⟨g1, g2⟩ := g
    cases s with
    | dn =>
      have : H ≤ L := by simpa [Cond] using c
      show n ≤ p ∧ p < n + L
      omega
    | up =>
      have : H = 1 := by simpa [Cond] using c
      show n - L < p ∧ p ≤ n
      omega
    | nr =>
      have : 2 * ((H : Int) - 1) < L ∨ H = 1 := by simpa [Cond] using c
      show 2 * n - L ≤ 2 * p ∧ 2 * p < 2 * n + L
      omega
  | nr =>
    obtain ⟨g1, g2⟩ := g
    have es := hr rfl
    subst es
    have : H ≤ L := by simpa [Cond] using c
    show 2 * n - L ≤ 2 * p ∧ 2 * p < 2 * n + L
    by_cases z : L = H
    · have := e1 z
      omega
    · omega
theorem back_no {L H : Nat} (o : Lo L H) {r s : Ro} (hr : r = .nr → s = .nr) (c : Cond L H r s = false) : ∃ x : Int, 0 ≤ x ∧ x < H ∧ q1 s (q1 r (x * L) H * H) L ≠ x := by
  have l := o.l
  have h := o.h
  have h0 : (0 : Int) < H := by omega
  have l0 : (0 : Int) < L := by omega
  -- from an error e of the way there
  have via : ∀ x q u : Int, x * L = H * q + u → ∀ t : Int, Ron r (H * q + u) H (H * t) → ¬ Ron s (H * t) L (H * q + u) → q1 s (q1 r (x * L) H * H) L ≠ x := by
    intro x q u e t ht hn z
    rw [e, ron_is h0 ht] at z
    have g := ron_of s (t * H) l0
    rw [z, Int.mul_comm t, Int.mul_comm (L : Int) x, e] at g
    exact hn g
  have hq : ∀ q : Int, (H : Int) * (q + 1) = H * q + H := fun q => by rw [Int.mul_add, Int.mul_one]
  cases r with
  | dn =>
    cases s with
    | dn =>
      have : ¬ H = 1 := by simpa [Cond] using c
      obtain ⟨x, q, a, b, e⟩ := resid o (s := 1)
      exact ⟨x, a, b, via x q 1 e q ⟨by omega, by omega⟩ fun ⟨z1, z2⟩ => by omega⟩
    | up =>
      have : ¬ H ≤ L := by simpa [Cond] using c
      obtain ⟨x, q, a, b, e⟩ := resid o (s := (H : Int) - 1)
      exact ⟨x, a, b, via x q _ e q ⟨by omega, by omega⟩ fun ⟨z1, z2⟩ => by omega⟩
    | nr =>
      have : ¬ 2 * ((H : Int) - 1) ≤ L := by simpa [Cond] using c
      obtain ⟨x, q, a, b, e⟩ := resid o (s := (H : Int) - 1)
      exact ⟨x, a, b, via x q _ e q ⟨by omega, by omega⟩ fun ⟨z1, z2⟩ => by omega⟩
  | up =>
    cases s with
    | dn =>
      have : ¬ H ≤ L := by simpa [Cond] using c
      obtain ⟨x, q, a, b, e⟩ := resid o (s := 1)
      have := hq q
      exact ⟨x, a, b, via x q 1 e (q + 1) ⟨by omega, by omega⟩ fun ⟨z1, z2⟩ => by omega⟩
    | up =>
      have : ¬ H = 1 := by simpa [Cond] using c
      obtain ⟨x, q, a, b, e⟩ := resid o (s := 1)
      have := hq q
      exact ⟨x, a, b, via x q 1 e (q + 1) ⟨by omega, by omega⟩ fun ⟨z1, z2⟩ => by omega⟩
    | nr =>
      have : ¬ 2 * ((H : Int) - 1) < L ∧ ¬ H = 1 := by simpa [Cond] using c
      obtain ⟨x, q, a, b, e⟩ := resid o (s := 1)
      have := hq q
      exact ⟨x, a, b, via x q 1 e (q + 1) ⟨by omega, by omega⟩ fun ⟨z1, z2⟩ => by omega⟩
  | nr =>
    have es := hr rfl
    subst es
    have : ¬ H ≤ L := by simpa [Cond] using c
    obtain ⟨x, q, a, b, e⟩ := resid o (s := ((H + 1) / 2 : Nat))
    have := hq q
    exact ⟨x, a, b, via x q _ e (q + 1) ⟨by omega, by omega⟩ fun ⟨z1, z2⟩ => by omega⟩
structure Kp (L H K : Nat) : Prop where
  k1 : 1 ≤ K
  lo : L * (K - 1) < H
  hi : H ≤ L * K
theorem kept_up {L H K : Nat} (o : Lo L H) (k : Kp L H K) (r : Ro) (x : Int) : q1 r (x * L) H < q1 r ((x + K) * L) H := by
  have h := o.h
  have e1 := q1_add r (x * L) 1 (show (0 : Int) < H by omega)
  have hi : (H : Int) ≤ K * L := by
    have := k.hi
    rw [Nat.mul_comm] at this
    have e : ((K * L : Nat) : Int) = (K : Int) * L := Int.natCast_mul ..
    omega
  have m := q1_mono r (n := x * L + H * 1) (n' := (x + K) * L) (b := H) (by omega) (by rw [Int.add_mul]; omega)
  omega
theorem kept_at {L H K : Nat} (o : Lo L H) (k : Kp L H K) (r : Ro) : ∃ x : Nat, x < H ∧ q1 r ((x : Int) * L) H = q1 r (((x + (K - 1) : Nat) : Int) * L) H := by
  have h := o.h
  have l := o.l
  have k1 := k.k1
  have h0 : (0 : Int) < H := by omega
  by_cases z : K = 1
  · exact ⟨0, by omega, by rw [z]⟩
  have lo : ((K - 1 : Nat) : Int) * L ≤ H - 1 := by
    have a := k.lo
    rw [Nat.mul_comm] at a
    have e : (((K - 1) * L : Nat) : Int) = ((K - 1 : Nat) : Int) * L := Int.natCast_mul ..
    omega
  have pos : 0 ≤ ((K - 1 : Nat) : Int) * L := Int.mul_nonneg (by omega) (by omega)
  have big : 2 ≤ H := by
    have : L * 1 ≤ L * (K - 1) := Nat.mul_le_mul_left _ (by omega)
    have := k.lo
    omega
  have via : ∀ (x q u t : Int), 0 ≤ x → x < H → x * L = H * q + u → Ron r (H * q + u) H (H * t) → Ron r (H * q + u + ((K - 1 : Nat) : Int) * L) H (H * t) → ∃ x : Nat, x < H ∧ q1 r ((x : Int) * L) H = q1 r (((x + (K - 1) : Nat) : Int) * L) H := by
    intro x q u t a b e h1 h2
    refine ⟨x.toNat, by omega, ?_⟩
    have ex : ((x.toNat : Nat) : Int) = x := by omega
    rw [Int.natCast_add, ex, Int.add_mul, e, ron_is h0 h1, ron_is h0 h2]
  have hq : ∀ q : Int, (H : Int) * (q + 1) = H * q + H := fun q => by rw [Int.mul_add, Int.mul_one]
  cases r with
  | dn =>
    obtain ⟨x, q, a, b, e⟩ := resid o (s := 0)
    exact via x q 0 q a b e ⟨by omega, by omega⟩ ⟨by omega, by omega⟩
  | up =>
    obtain ⟨x, q, a, b, e⟩ := resid o (s := 1)
    have := hq q
    exact via x q 1 (q + 1) a b e ⟨by omega, by omega⟩ ⟨by omega, by omega⟩
  | nr =>
    obtain ⟨x, q, a, b, e⟩ := resid o (s := ((H + 1) / 2 : Nat))
    have := hq q
    exact via x q _ (q + 1) a b e ⟨by omega, by omega⟩ ⟨by omega, by omega⟩
end Q80
namespace Q80
open PySem L2 DL
theorem eqi (a b : Int) : PyData.eqv (.int a) (.int b) = decide (a = b) := by
  by_cases h : a = b
  · simp [PyData.eqv, h]
  · simp [PyData.eqv, h]
theorem g0 : GC [] := ⟨by decide, fun s hs => (by cases hs), by decide⟩
abbrev faBody : SM := (sIf (bD (d2 gNe (hV (dCall 2 r__moved (aCons (dV 0) (aCons (dV 3) (aNil))))) (hV (dCall 2 r__moved (aCons (dV 1) (aCons (dV 3) (aNil))))))) (sRet (dV 3)) (sNo))
theorem fa_loop {c e : List Sp} (gc : GC c) (ge : GC e) {L : D} {E : DE} : ∀ (ks : List Nat) (s3 : Sl), (∀ k ∈ ks, mv c (k : Int) ≠ mv e (k : Int) → E.rt (natD k) [.im (chD c), .im (chD e), .im L, .im (natD k)]) → ((∀ k ∈ ks, mv c (k : Int) = mv e (k : Int)) → ∀ s3, E.nx [.im (chD c), .im (chD e), .im L, s3]) →
    forL (gN 3) faBody E (ks.map natD) [.im (chD c), .im (chD e), .im L, s3]
  | [], s3, _, hn => hn (fun k hk => by cases hk) s3
  | k :: ks, s3, hr, hn => by
    refine ⟨rfl, rfl, d__moved gc ?_⟩
    refine ⟨rfl, rfl, d__moved ge ?_⟩
    refine ⟨okI _, okI _, ?_⟩
    rw [eqi]
    show if (!decide (mv c (k : Int) = mv e (k : Int))) = true then _ else _
    by_cases z : mv c (k : Int) = mv e (k : Int)
    · rw [decide_eq_true z, if_neg (by decide)]
      exact fa_loop gc ge ks _ (fun q hq => hr q (List.mem_cons_of_mem _ hq)) fun all => hn fun q hq => by
        (rcases List.mem_cons.mp hq with rfl | hq)
        · exact z
        · exact all q hq
    · rw [decide_eq_false z, if_pos (by decide)]
      exact hr k (List.mem_cons_self ..) z
theorem d_comes_back {c : List Sp} (gc : GC c) {m : Nat} {P : D → Nat → Prop} (h1 : (∀ x : Nat, x ≤ bn c → mv c (x : Int) = x) → P (.bool true) 0) (h2 : (∃ x : Nat, x ≤ bn c ∧ mv c (x : Int) ≠ x) → P (.bool false) 0) : r_comes_back [.d (chD c)] m P := by
  have b := bn_eq gc
  refine ⟨rfl, rfl, d_need gc ?_⟩
  refine ⟨(by show 0 ≤ 1000000; omega), rfl, rfl, d_bottom gc ?_⟩
  rw [b.1]
  refine ⟨rfl, rfl, ?_⟩
  refine ⟨trivial, ⟨by omega, by omega⟩, ?_⟩
  have ec : ((bn c : Int) + 1) = ((bn c + 1 : Nat) : Int) := by omega
  rw [ec, rg_nat]
  show forL (gN 3) faBody _ _ [.im (chD c), .im (chD []), .im (.int (bn c)), .no]
  refine fa_loop gc g0 _ _ (fun k hk ne => ?_) fun all s3 => ?_
  · have := List.mem_range.mp hk
    exact ⟨hd_d, hd_d, h2 ⟨k, by omega, ne⟩⟩
  · refine ⟨hd_d, hd_d, h1 fun x hx => all x (List.mem_range.mpr (by omega))⟩
structure Run (f : Nat → Int) (K : Nat) : Prop where
  k1 : 1 ≤ K
  mono : ∀ a b : Nat, a ≤ b → f a ≤ f b
  up : ∀ x, f x < f (x + K)
structure LkI (f : Nat → Int) (K x0 i longest many : Nat) : Prop where
  l1 : longest ≤ K
  i1 : many ≤ i
  mK : many ≤ K
  m1 : 0 < i → 1 ≤ many
  same : 0 < i → f (i - many) = f (i - 1)
  all : ∀ j, j < i → f j = f (i - 1) → i - many ≤ j
  hx : x0 + (K - 1) < i → longest = K
theorem lk_same {f : Nat → Int} {K x0 i longest many : Nat} (r : Run f K) (hx0 : f x0 = f (x0 + (K - 1))) (h : LkI f K x0 i longest many) (hi : 0 < i) (e : f i = f (i - 1)) : LkI f K x0 (i + 1) (max longest (many + 1)) (many + 1) := by
  have k1 := r.k1
  have mk : many + 1 ≤ K := by
    refine Classical.byContradiction fun z => ?_
    have hm : many = K := by have := h.mK; omega
    have u := r.up (i - many)
    have s := h.same hi
    have i1 := h.i1
    rw [← hm, show i - many + many = i by omega] at u
    omega
  have e0 : i + 1 - (many + 1) = i - many := by omega
  have al : ∀ j, j < i + 1 → f j = f (i + 1 - 1) → i + 1 - (many + 1) ≤ j := by
    intro j hj ej
    rw [Nat.add_sub_cancel] at ej
    rw [e0]
    by_cases z : j = i
    · omega
    · exact h.all j (by omega) (by omega)
  refine ⟨by have := h.l1; omega, by have := h.i1; omega, mk, fun _ => by omega, fun _ => ?_, al, fun hh => ?_⟩
  · rw [e0, Nat.add_sub_cancel, h.same hi, e]
  · by_cases z : x0 + (K - 1) < i
    · have := h.hx z
      omega
    · have hi2 : x0 + (K - 1) = i := by omega
      have := al x0 (by omega) (by rw [Nat.add_sub_cancel, ← hi2]; exact hx0)
      have := h.l1
      omega
theorem lk_new {f : Nat → Int} {K x0 i longest many : Nat} (r : Run f K) (hx0 : f x0 = f (x0 + (K - 1))) (h : LkI f K x0 i longest many) (e : i = 0 ∨ f i ≠ f (i - 1)) : LkI f K x0 (i + 1) (max longest 1) 1 := by
  have k1 := r.k1
  have al : ∀ j, j < i + 1 → f j = f (i + 1 - 1) → i + 1 - 1 ≤ j := by
    intro j hj ej
    rw [Nat.add_sub_cancel] at ej ⊢
    refine Classical.byContradiction fun z => ?_
    rcases e with e | e
    · omega
    · have a1 := r.mono j (i - 1) (by omega)
      have a2 := r.mono (i - 1) i (by omega)
      exact e (by omega)
  refine ⟨by have := h.l1; omega, by omega, k1, fun _ => Nat.le_refl _, fun _ => rfl, al, fun hh => ?_⟩
  by_cases z : x0 + (K - 1) < i
  · have := h.hx z
    omega
  · have hi2 : x0 + (K - 1) = i := by omega
    have := al x0 (by omega) (by rw [Nat.add_sub_cancel, ← hi2]; exact hx0)
    have := h.l1
    omega
def aheadD (f : Nat → Int) : Nat → D
  | 0 => .none
  | i + 1 => .int (f i)
abbrev lkBody : SM := (sSeq (sSet 5 (dCall 2 r__moved (aCons (dV 0) (aCons (dV 4) (aNil))))) (sSeq (sIf (bD (d2 gEq (hS 5) (hS 3))) (sAug 2 gIadd (hV (dC (.int 1)))) (sSet 2 (dC (.int 1)))) (sSeq (sSet 1 (dCB gMax (DL.gCons (hS 1) (DL.gCons (hS 2) (DL.gNil))))) (sSet 3 (dV 5)))))
theorem okN : okD .none := rfl
theorem lk_loop {c : List Sp} (gc : GC c) {K x0 : Nat} (r : Run (fn c) K) (hx0 : fn c x0 = fn c (x0 + (K - 1))) {E : DE} : ∀ (n i longest many : Nat) (s4 s5 : Sl), LkI (fn c) K x0 i longest many → (∀ longest many a s4 s5, LkI (fn c) K x0 (i + n) longest many → E.nx [.im (chD c), .im (natD longest), .im (natD many), .im a, s4, s5]) →
    forL (gN 4) lkBody E ((List.range' i n).map natD) [.im (chD c), .im (natD longest), .im (natD many), .im (aheadD (fn c) i), s4, s5]
  | 0, i, longest, many, s4, s5, h, hn => hn _ _ _ _ _ h
  | n + 1, i, longest, many, s4, s5, h, hn => by
    rw [List.range'_succ, List.map_cons]
    have hn' : ∀ longest many a s4 s5, LkI (fn c) K x0 (i + 1 + n) longest many → E.nx [.im (chD c), .im (natD longest), .im (natD many), .im a, s4, s5] := by
      rw [show i + 1 + n = i + (n + 1) by omega]
      exact hn
    refine ⟨rfl, rfl, d__moved gc ?_⟩
    have es : ∀ x : Nat, max (longest : Int) (x : Int) = ((max longest x : Nat) : Int) := fun x => by omega
    have same : 0 < i → fn c i = fn c (i - 1) → forL (gN 4) lkBody E ((List.range' (i + 1) n).map natD) [.im (chD c), .im (.int (max (longest : Int) ((many : Int) + 1))), .im (.int ((many : Int) + 1)), .im (.int (fn c i)), .im (natD i), .im (.int (fn c i))] := fun hi e => by
      rw [show (many : Int) + 1 = ((many + 1 : Nat) : Int) by omega, es]
      exact lk_loop gc r hx0 n (i + 1) _ _ _ _ (lk_same r hx0 h hi e) hn'
    have new : (i = 0 ∨ fn c i ≠ fn c (i - 1)) → forL (gN 4) lkBody E ((List.range' (i + 1) n).map natD) [.im (chD c), .im (.int (max (longest : Int) 1)), .im (.int 1), .im (.int (fn c i)), .im (natD i), .im (.int (fn c i))] := fun e => by
      have := es 1
      rw [show ((1 : Nat) : Int) = 1 from rfl] at this
      rw [this]
      exact lk_loop gc r hx0 n (i + 1) _ 1 _ _ (lk_new r hx0 h e) hn'
    cases i with
    | zero =>
      refine ⟨trivial, trivial, okI _, okN, ?_⟩
      show if PyData.eqv (.int (mv c ((0 : Nat) : Int))) .none = true then _ else _
      rw [if_neg (by simp [PyData.eqv])]
      exact ⟨trivial, trivial, new (.inl rfl)⟩
    | succ i =>
      refine ⟨trivial, trivial, okI _, okI _, ?_⟩
      show if PyData.eqv (.int (fn c (i + 1))) (.int (fn c i)) = true then _ else _
      rw [eqi]
      by_cases z : fn c (i + 1) = fn c i
      · rw [decide_eq_true z, if_pos rfl]
        exact ⟨trivial, trivial, trivial, same (by omega) z⟩
      · rw [decide_eq_false z, if_neg (by decide)]
        exact ⟨trivial, trivial, new (.inr z)⟩
theorem d_least_kept {c : List Sp} (gc : GC c) {K x0 : Nat} (r : Run (fn c) K) (hx0 : fn c x0 = fn c (x0 + (K - 1))) (hb : x0 + (K - 1) < 2 * bn c) {m : Nat} {P : D → Nat → Prop} (h : P (.int K) 0) : r_least_kept [.d (chD c)] m P := by
  have b := bn_eq gc
  refine ⟨rfl, rfl, d_need gc ?_⟩
  refine ⟨rfl, rfl, d_bottom gc ?_⟩
  rw [b.1]
  refine ⟨.inl (small (by omega) (by omega)), ⟨by omega, by omega⟩, ?_⟩
  have ec : 2 * (bn c : Int) = ((2 * bn c : Nat) : Int) := by omega
  rw [ec, rg_nat, List.range_eq_range']
  show forL (gN 4) lkBody _ _ [.im (chD c), .im (natD 0), .im (natD 0), .im (aheadD (fn c) 0), .no, .no]
  refine lk_loop gc r hx0 (2 * bn c) 0 0 0 _ _ ⟨Nat.zero_le _, Nat.le_refl _, Nat.zero_le _, fun z => absurd z (by omega), fun z => absurd z (by omega), fun j hj => absurd hj (by omega), fun z => absurd z (by omega)⟩ fun longest many a s4 s5 q => ?_
  have := q.hx (by omega)
  refine ⟨hd_d, ?_⟩
  rw [this]
  exact h
end Q80
namespace Q80
open PySem L2 DL
theorem lcL_filt {t : TM} {b : BM} {f : DM} {vs : List Nat} {K : List D → DL.Env → Prop} {ρ : DL.Env} (p : D → Bool) (g : D → D) : ∀ (ds acc : List D),
    (∀ d ∈ ds, ∀ (Q : D → DL.Env → Prop) (R : DL.Env → Prop), (p d = true → ∀ ρ3, wipeE ρ3 vs = ρ → Q (g d) ρ3) → (p d = false → ∀ ρ3, wipeE ρ3 vs = ρ → R ρ3) → t d ρ fun ρ1 => b ρ1 fun k ρ2 => if k = true then f ρ2 Q else R ρ2) →
    K (acc ++ (ds.filter p).map g) ρ → lcL t b f vs K ds acc ρ
  | [], acc, _, hk => by
    show K acc ρ
    simpa using hk
  | d :: ds, acc, h, hk => by
    refine h d (List.mem_cons_self ..) (fun y ρ3 => lcL t b f vs K ds (acc ++ [y]) (wipeE ρ3 vs)) (fun ρ3 => lcL t b f vs K ds acc (wipeE ρ3 vs)) (fun hp ρ3 e => ?_) fun hp ρ3 e => ?_
    · show lcL t b f vs K ds (acc ++ [g d]) (wipeE ρ3 vs)
      rw [e]
      refine lcL_filt p g ds (acc ++ [g d]) (fun d' hd => h d' (List.mem_cons_of_mem _ hd)) ?_
      rw [List.filter_cons_of_pos hp] at hk
      simpa using hk
    · show lcL t b f vs K ds acc (wipeE ρ3 vs)
      rw [e]
      refine lcL_filt p g ds acc (fun d' hd => h d' (List.mem_cons_of_mem _ hd)) ?_
      rw [List.filter_cons_of_neg (by rw [hp]; exact Bool.false_ne_true)] at hk
      exact hk
def mvCue (c : List Sp) (q : Cue) : Cue := ⟨mv c q.f, mv c q.t, q.x⟩
def mvI3 (c : List Sp) : D → D
  | .tuple [.int a, .int b, x] => .tuple [.int (mv c a), .int (mv c b), x]
  | _ => .none
def ltI3 : D → Bool
  | .tuple [.int a, .int b, _] => decide (a < b)
  | _ => false
theorem d_moved_file {c : List Sp} (gc : GC c) {cs : List Cue} (l : cs.length ≤ 60) (o : ∀ q ∈ cs, OkCue q) (hm : ∀ q ∈ cs, mv c q.t ≤ 1000000000000) {m : Nat} {P : D → Nat → Prop} (h : P (fileD ((cs.map (mvCue c)).filter fun q => decide (q.f < q.t))) 0) : r_moved_file [.d (chD c), .d (fileD cs)] m P := by
  refine ⟨rfl, rfl, d_need gc ?_⟩
  refine ⟨rfl, rfl, d_need_file l o ?_⟩
  refine ⟨by rw [List.length_map]; omega, ⟨by simp, fun j hj => by simp at hj; rcases hj with rfl | rfl | rfl <;> rfl⟩, ?_⟩
  refine lcL_map (ρ := [.im (chD c), .im (fileD cs), .no, .no, .no, .no, .no]) (mvI3 c) _ [] ?_ ?_
  · intro d hd Q hQ
    (obtain ⟨q, hq, rfl⟩ := List.mem_map.mp hd)
    have e : mvI3 c q.d = .tuple [.int (mv c q.f), .int (mv c q.t), q.x] := rfl
    rw [e] at hQ
    exact ⟨rfl, rfl, rfl, rfl, d__moved gc ⟨rfl, rfl, d__moved gc ⟨(by show 3 ≤ 1000000; omega), hQ _ rfl⟩⟩⟩
  · have e1 : ([] : List D) ++ (cs.map Cue.d).map (mvI3 c) = (cs.map (mvCue c)).map Cue.d := by
      rw [List.nil_append, List.map_map, List.map_map]
      rfl
    rw [e1]
    have l2 : ((cs.map (mvCue c)).map Cue.d).length = cs.length := by simp
    refine ⟨by rw [l2]; omega, ⟨by simp, fun j hj => by simp at hj; subst hj; rfl⟩, ?_⟩
    refine lcL_map (ρ := [.im (chD c), .im (fileD cs), .im (.list ((cs.map (mvCue c)).map Cue.d)), .no, .no, .no, .no]) (fun _ => .bool false) _ [] ?_ ?_
    · intro d hd Q hQ
      (obtain ⟨q, hq, rfl⟩ := List.mem_map.mp hd)
      (obtain ⟨p, hp, rfl⟩ := List.mem_map.mp hq)
      have := hm p hp
      refine ⟨trivial, _, rfl, ?_⟩
      show Q (.bool (decide (mv c p.t > 1000000000000))) _
      (rw [decide_eq_false (by omega)])
      exact hQ _ rfl
    · have e2 : ([] : List D) ++ ((cs.map (mvCue c)).map Cue.d).map (fun _ => PyData.bool false) = (List.replicate cs.length false).map PyData.bool := by
        rw [List.nil_append, List.map_const', l2, List.map_replicate]
      rw [e2]
      refine ⟨_, ofBools_map _, ?_⟩
      have e3 : (List.replicate cs.length false).any id = false := by simp
      rw [e3]
      show ((cs.map (mvCue c)).map Cue.d).length ≤ 1000000 ∧ _
      refine ⟨by rw [l2]; omega, ⟨by simp, fun j hj => by simp at hj; subst hj; rfl⟩, ?_⟩
      refine lcL_filt (ρ := [.im (chD c), .im (fileD cs), .im (.list ((cs.map (mvCue c)).map Cue.d)), .no, .no, .no, .no]) ltI3 id _ [] ?_ ?_
      · intro d hd Q R hQ hR
        (obtain ⟨q, hq, rfl⟩ := List.mem_map.mp hd)
        have e : ltI3 q.d = decide (q.f < q.t) := rfl
        refine ⟨trivial, _, rfl, trivial, _, rfl, ?_⟩
        show if decide (q.f < q.t) = true then Q q.d _ else R _
        by_cases z : q.f < q.t
        · rw [decide_eq_true z, if_pos rfl]
          exact hQ (by rw [e, decide_eq_true z]) _ rfl
        · rw [decide_eq_false z, if_neg (by decide)]
          exact hR (by rw [e, decide_eq_false z]) _ rfl
      · have e4 : ([] : List D) ++ (((cs.map (mvCue c)).map Cue.d).filter ltI3).map id = ((cs.map (mvCue c)).filter fun q => decide (q.f < q.t)).map Cue.d := by
          rw [List.nil_append, List.map_id, List.filter_map]
          rfl
        rw [e4]
        exact ⟨hd_d, h⟩
theorem d_divisor {a b : Nat} {m : Nat} {P : D → Nat → Prop} (h : P (.int ((Nat.gcd a b : Nat) : Int)) 0) : r__law_divisor [.d (.int a), .d (.int b)] m P := by
  refine ⟨trivial, trivial, ?_⟩
  have ea : ∀ n : Nat, (if (n : Int) < 0 then -(n : Int) else (n : Int)) = n := fun n => if_neg (by omega)
  show sSeq (sWhile _ _) _ _ [.im (.int (if (a : Int) < 0 then -(a : Int) else (a : Int))), .im (.int (if (b : Int) < 0 then -(b : Int) else (b : Int)))]
  rw [ea, ea]
  refine ⟨fun n ρ => ∃ x y : Nat, ρ = [.im (.int x), .im (.int y)] ∧ y = n ∧ Nat.gcd x y = Nat.gcd a b, ⟨b, a, b, rfl, rfl, rfl⟩, ?_⟩
  rintro n ρ ⟨x, y, rfl, rfl, e⟩
  refine ⟨trivial, ?_⟩
  show if decide ((y : Int) > (0 : Int)) = true then _ else _
  by_cases z : 0 < y
  · have z' : decide ((y : Int) > (0 : Int)) = true := by simp; omega
    rw [if_pos z']
    refine ⟨trivial, trivial, by omega, ?_⟩
    refine ⟨x % y, Nat.mod_lt _ z, y, x % y, rfl, rfl, ?_⟩
    rw [← e, Nat.gcd_comm x y, Nat.gcd_rec y x, Nat.gcd_comm]
  · have z' : ¬ decide ((y : Int) > (0 : Int)) = true := by simp; omega
    have y0 : y = 0 := by omega
    subst y0
    rw [if_neg z']
    rw [Nat.gcd_zero_right] at e
    rw [e]
    exact ⟨hd_d, h⟩
def backD (L H : Nat) (r s : Ro) : D := .tuple [.str (rdS r), .str (rdS s), .bool (Cond L H r s)]
def backs (L H : Nat) : List D := [backD L H .nr .nr, backD L H .dn .up, backD L H .up .dn, backD L H .dn .dn, backD L H .up .up, backD L H .dn .nr, backD L H .up .nr]
theorem dec_cast {p q : Prop} [Decidable p] [Decidable q] (h : p ↔ q) : decide p = decide q := by
  by_cases z : p
  · rw [decide_eq_true z, decide_eq_true (h.mp z)]
  · rw [decide_eq_false z, decide_eq_false (fun y => z (h.mpr y))]
abbrev bkRest : SM := (sSeq (sSet 2 (dLst (lCons (dTup (lCons (dC (.str ("near" : Str))) (lCons (dC (.str ("near" : Str))) (lCons (d2 gGe (hS 0) (hS 1)) (lNil))))) (lCons (dTup (lCons (dC (.str ("down" : Str))) (lCons (dC (.str ("up" : Str))) (lCons (d2 gGe (hS 0) (hS 1)) (lNil))))) (lCons (dTup (lCons (dC (.str ("up" : Str))) (lCons (dC (.str ("down" : Str))) (lCons (d2 gGe (hS 0) (hS 1)) (lNil))))) (lCons (dTup (lCons (dC (.str ("down" : Str))) (lCons (dC (.str ("down" : Str))) (lCons (dV 3) (lNil))))) (lNil))))))) (sRet (d2 gAdd (hS 2) (hV (dLst (lCons (dTup (lCons (dC (.str ("up" : Str))) (lCons (dC (.str ("up" : Str))) (lCons (dV 3) (lNil))))) (lCons (dTup (lCons (dC (.str ("down" : Str))) (lCons (dC (.str ("near" : Str))) (lCons (d2 gLe (hS 4) (hS 0)) (lNil))))) (lCons (dTup (lCons (dC (.str ("up" : Str))) (lCons (dC (.str ("near" : Str))) (lCons (dOr (d2 gLt (hS 4) (hS 0)) (dV 3)) (lNil))))) (lNil)))))))))
theorem bk_rest {L H hf : Int} {w : Bool} {E : DE} (h : ∀ s2, E.rt (.list [.tuple [.str "near", .str "near", .bool (decide (L ≥ H))], .tuple [.str "down", .str "up", .bool (decide (L ≥ H))], .tuple [.str "up", .str "down", .bool (decide (L ≥ H))], .tuple [.str "down", .str "down", .bool w],
    .tuple [.str "up", .str "up", .bool w], .tuple [.str "down", .str "near", .bool (decide (hf ≤ L))], .tuple [.str "up", .str "near", .bool (decide (hf < L) || w)]]) [.im (.int L), .im (.int H), s2, .im (.bool w), .im (.int hf)]) : bkRest E [.im (.int L), .im (.int H), .no, .im (.bool w), .im (.int hf)] := by
  refine ⟨trivial, trivial, (by show 3 ≤ 1000000; omega), trivial, trivial, (by show 3 ≤ 1000000; omega), trivial, trivial, (by show 3 ≤ 1000000; omega), (by show 3 ≤ 1000000; omega), (by show 4 ≤ 1000000; omega), ?_⟩
  refine ⟨trivial, (by show 3 ≤ 1000000; omega), trivial, trivial, (by show 3 ≤ 1000000; omega), trivial, trivial, ?_⟩
  by_cases z : hf < L
  · rw [decide_eq_true z, Bool.true_or] at h
    show match PyData.bool (decide (hf < L)) with
      | .bool true => _
      | .bool false => _
      | _ => False
    rw [decide_eq_true z]
    exact ⟨(by show 3 ≤ 1000000; omega), (by show 3 ≤ 1000000; omega), (by show 4 + 3 ≤ 1000000; omega), h _⟩
  · rw [decide_eq_false z, Bool.false_or] at h
    show match PyData.bool (decide (hf < L)) with
      | .bool true => _
      | .bool false => _
      | _ => False
    rw [decide_eq_false z]
    exact ⟨(by show 3 ≤ 1000000; omega), (by show 3 ≤ 1000000; omega), (by show 4 + 3 ≤ 1000000; omega), h _⟩
theorem d_backs {L H : Nat} {m : Nat} {P : D → Nat → Prop} (h : P (.list (backs L H)) 0) : r__law_backs [.d (.int L), .d (.int H)] m P := by
  have c1 : decide ((L : Int) ≥ H) = decide (H ≤ L) := dec_cast (by omega)
  have c2 : PyData.eqv (.int (H : Int)) (.int 1) = decide (H = 1) := by
    rw [eqi]
    exact dec_cast (by omega)
  refine ⟨trivial, okI _, okI _, trivial, .inl ⟨by decide, by decide⟩, ?_⟩
  refine bk_rest (w := PyData.eqv (.int (H : Int)) (.int 1)) (hf := 2 * ((H : Int) - 1)) fun s2 => ⟨hd_d, ?_⟩
  rw [c1, c2]
  exact h
def one (n d : Nat) (r : Ro) : List Sp := [⟨n, d, r⟩]
theorem gc_one {n d : Nat} {r : Ro} (n1 : 1 ≤ n) (n2 : n ≤ 60) (d1 : 1 ≤ d) (d2 : d ≤ 60) : GC (one n d r) := by
  refine ⟨(by show 1 ≤ 4; omega), fun s hs => ?_, (by show (d : Int) * 1 ≤ 100000; omega)⟩
  have : s = ⟨n, d, r⟩ := by simpa [one] using hs
  subst this
  exact ⟨by show (1 : Int) ≤ n; omega, by show (n : Int) ≤ 60; omega, by show (1 : Int) ≤ d; omega, by show (d : Int) ≤ 2000; omega⟩
def shBody (rr : SpD) : SM := (sIf (bD (d2 gEq (hV (dCall 2 rr (aCons (dTup (lCons (dTup (lCons (dV 1) (lCons (dV 2) (lCons (dV 0) (lNil))))) (lNil))) (aCons (dV 4) (aNil))))) (hV (dCall 2 rr (aCons (dTup (lCons (dTup (lCons (dV 1) (lCons (dV 2) (lCons (dV 0) (lNil))))) (lNil))) (aCons (d2 gAdd (hS 4) (hS 3)) (aNil))))))) (sRet (dV 4)) (sNo))
theorem sh_loop {rr : SpD} {L H z : Nat} {r : Ro} (gc : ∀ (x : Nat) (m : Nat) (P : D → Nat → Prop), x ≤ 2000 → P (.int (mv (one L H r) x)) 0 → rr [.d (chD (one L H r)), .d (.int x)] m P) (hz : z ≤ 1000) {E : DE} : ∀ (ks : List Nat) (s4 : Sl), (∀ k ∈ ks, k ≤ 1000) → (∃ k ∈ ks, mv (one L H r) (k : Int) = mv (one L H r) ((k + z : Nat) : Int)) → (∀ k ∈ ks, mv (one L H r) (k : Int) = mv (one L H r) ((k + z : Nat) : Int) → E.rt (natD k) [.im (.str (rdS r)), .im (.int L), .im (.int H), .im (.int z), .im (natD k)]) →
    forL (gN 4) (shBody rr) E (ks.map natD) [.im (.str (rdS r)), .im (.int L), .im (.int H), .im (.int z), s4]
  | [], s4, _, ⟨k, hk, _⟩, _ => by cases hk
  | k :: ks, s4, hb, ex, hr => by
    have kb := hb k (List.mem_cons_self ..)
    have ez : (k : Int) + (z : Int) = ((k + z : Nat) : Int) := by omega
    refine ⟨(by show 3 ≤ 1000000; omega), (by show 1 ≤ 1000000; omega), rfl, rfl, gc k _ _ (by omega) ?_⟩
    refine ⟨(by show 3 ≤ 1000000; omega), (by show 1 ≤ 1000000; omega), trivial, trivial, rfl, rfl, ?_⟩
    show rr [.d (chD (one L H r)), .d (.int ((k : Int) + (z : Int)))] _ _
    rw [ez]
    refine gc (k + z) _ _ (by omega) ?_
    refine ⟨okI _, okI _, ?_⟩
    rw [eqi]
    show if decide (mv (one L H r) (k : Int) = mv (one L H r) ((k + z : Nat) : Int)) = true then _ else _
    by_cases y : mv (one L H r) (k : Int) = mv (one L H r) ((k + z : Nat) : Int)
    · rw [decide_eq_true y, if_pos rfl]
      exact hr k (List.mem_cons_self ..) y
    · rw [decide_eq_false y, if_neg (by decide)]
      refine sh_loop gc hz ks _ (fun q hq => hb q (List.mem_cons_of_mem _ hq)) ?_ fun q hq => hr q (List.mem_cons_of_mem _ hq)
      obtain ⟨q, hq, e⟩ := ex
      (rcases List.mem_cons.mp hq with rfl | hq)
      · exact absurd e y
      · exact ⟨q, hq, e⟩
theorem d_short {L H z : Nat} {r : Ro} (gc : GC (one L H r)) (hH : H ≤ 100) (hz : z ≤ 1000) (ex : ∃ k : Nat, k < H ∧ mv (one L H r) (k : Int) = mv (one L H r) ((k + z : Nat) : Int)) {m : Nat} {P : D → Nat → Prop} (h : ∀ k : Nat, k < H → mv (one L H r) (k : Int) = mv (one L H r) ((k + z : Nat) : Int) → P (natD k) 0) :
    r__law_short [.d (.str (rdS r)), .d (.int L), .d (.int H), .d (.int z)] m P := by
  refine ⟨⟨by omega, by omega⟩, ?_⟩
  rw [rg_nat]
  show forL (gN 4) (shBody r_moved) _ _ [.im (.str (rdS r)), .im (.int L), .im (.int H), .im (.int z), .no]
  obtain ⟨k, hk, e⟩ := ex
  exact sh_loop (fun x m P hx hp => d_moved gc (by omega) (by omega) hp) hz _ _ (fun q hq => by have := List.mem_range.mp hq; omega) ⟨k, List.mem_range.mpr hk, e⟩ fun q hq e => ⟨hd_d, h q (List.mem_range.mp hq) e⟩
end Q80
namespace Q80
open PySem L2 DL
/-- a leg moves x so -/
def F (L H : Nat) (r : Ro) (x : Int) : Int := q1 r (x * L) H
theorem one_mv {L H k : Nat} (hk : 1 ≤ k) (r : Ro) (x : Int) : mv (one (L * k) (H * k) r) x = F L H r x := by
  show q1 r (x * ((L * k : Nat) : Int)) ((H * k : Nat) : Int) = q1 r (x * L) H
  rw [Int.natCast_mul, Int.natCast_mul, ← Int.mul_assoc]
  exact q1_scale r (x * L) H (by omega)
theorem F_mono {L H : Nat} (o : Lo L H) (r : Ro) {x y : Int} (h : x ≤ y) : F L H r x ≤ F L H r y := by
  have := o.h
  exact q1_mono r (by omega) (Int.mul_le_mul_of_nonneg_right h (by omega))
theorem F_bnd {L H : Nat} (o : Lo L H) (r : Ro) {x : Int} (h : 0 ≤ x) : 0 ≤ F L H r x ∧ F L H r x ≤ x * L := by
  have := o.h
  exact q1_bnd r (by omega) (Int.mul_nonneg h (by omega))
theorem F_add {L H : Nat} (o : Lo L H) (r : Ro) (x : Int) : F L H r (x + H) = F L H r x + L := by
  have := o.h
  show q1 r ((x + H) * L) H = q1 r (x * L) H + L
  rw [Int.add_mul]
  exact q1_add r (x * L) L (by omega)
theorem F_zero {L H : Nat} (o : Lo L H) (r : Ro) : F L H r 0 = 0 := by
  have := o.h
  show q1 r (0 * (L : Int)) H = 0
  rw [Int.zero_mul]
  exact q1_zero r (by omega)
theorem bn_one {n d : Nat} {r : Ro} : bn (one n d r) = d := by
  show ((d : Int) * 1).toNat = d
  omega
theorem gp_one {L H k : Nat} (o : Lo L H) (hk : 1 ≤ k) {r : Ro} (g : GC (one (L * k) (H * k) r)) : GP (one (L * k) (H * k) r) H ∧ fn (one (L * k) (H * k) r) H = L := by
  have h := o.h
  have l := o.l
  have ff : ∀ x : Nat, fn (one (L * k) (H * k) r) x = F L H r x := fun x => one_mv hk r x
  have f0 := fn_zero g
  have fH : fn (one (L * k) (H * k) r) H = L := by
    rw [ff]
    have := F_add o r 0
    rw [F_zero o r, Int.zero_add, Int.zero_add] at this
    exact this
  have perH : Per (fn (one (L * k) (H * k) r)) H := fun x => by
    rw [fH, ff, ff, Int.natCast_add]
    exact F_add o r x
  obtain ⟨p, gp⟩ := ex_gp g
  have d1 := (gp.l.iff H).mp perH
  have v1 := per_val f0 gp.l.per H
  have v2 := per_val f0 perH p
  rw [Nat.mul_comm H p, v2, fH] at v1
  have d2 : H ∣ p := by
    have : (H : Int) ∣ (p : Int) * L := ⟨_, v1⟩
    rw [← Int.natCast_mul, Int.natCast_dvd_natCast] at this
    have co : Nat.Coprime H L := by
      show Nat.gcd H L = 1
      rw [Nat.gcd_comm]
      exact o.co
    exact co.dvd_of_dvd_mul_right this
  have e : p = H := Nat.dvd_antisymm d1 d2
  subst e
  exact ⟨gp, fH⟩
theorem run_one {L H k K : Nat} (o : Lo L H) (hk : 1 ≤ k) (kp : Kp L H K) (r : Ro) : Run (fn (one (L * k) (H * k) r)) K := by
  have ff : ∀ x : Nat, fn (one (L * k) (H * k) r) x = F L H r x := fun x => one_mv hk r x
  refine ⟨kp.k1, fun a b h => ?_, fun x => ?_⟩
  · rw [ff, ff]
    exact F_mono o r (by omega)
  · rw [ff, ff, Int.natCast_add]
    exact kept_up o kp r x
theorem d_kept {L H k K : Nat} (o : Lo L H) (hk : 1 ≤ k) (kp : Kp L H K) {r : Ro} (g : GC (one (L * k) (H * k) r)) {m : Nat} {P : D → Nat → Prop} (h : P (.int K) 0) : r_least_kept [.d (chD (one (L * k) (H * k) r))] m P := by
  have ff : ∀ x : Nat, fn (one (L * k) (H * k) r) x = F L H r x := fun x => one_mv hk r x
  obtain ⟨x0, hx, e⟩ := kept_at o kp r
  refine d_least_kept g (run_one o hk kp r) (x0 := x0) (by rw [ff, ff]; exact e) ?_ h
  rw [bn_one]
  have h1 := kp.lo
  have h2 := kp.k1
  have l := o.l
  have a1 : 1 * (K - 1) ≤ L * (K - 1) := Nat.mul_le_mul_right _ l
  have a2 : H * 1 ≤ H * k := Nat.mul_le_mul_left _ hk
  omega
theorem d_per {L H k : Nat} (o : Lo L H) (hk : 1 ≤ k) {r : Ro} (g : GC (one (L * k) (H * k) r)) {m : Nat} {P : D → Nat → Prop} (h : P (.tuple [.int H, .int L]) 0) : r_period [.d (chD (one (L * k) (H * k) r))] m P := by
  obtain ⟨gp, e⟩ := gp_one o hk g
  refine d_period gp ?_
  rw [e]
  exact h
/-- there and back -/
def two (n d : Nat) (r s : Ro) : List Sp := [⟨n, d, r⟩, ⟨d, n, s⟩]
theorem gc_two {n d : Nat} {r s : Ro} (n1 : 1 ≤ n) (n2 : n ≤ 60) (d1 : 1 ≤ d) (d2 : d ≤ 60) : GC (two n d r s) := by
  have hp : d * n ≤ 60 * 60 := Nat.mul_le_mul d2 n2
  have e : ((d * n : Nat) : Int) = (d : Int) * n := Int.natCast_mul ..
  refine ⟨(by show 2 ≤ 4; omega), fun q hq => ?_, (by show (d : Int) * ((n : Int) * 1) ≤ 100000; rw [Int.mul_one]; omega)⟩
  have : q = ⟨n, d, r⟩ ∨ q = ⟨d, n, s⟩ := by simpa [two] using hq
  rcases this with rfl | rfl
  · exact ⟨by show (1 : Int) ≤ n; omega, by show (n : Int) ≤ 60; omega, by show (1 : Int) ≤ d; omega, by show (d : Int) ≤ 2000; omega⟩
  · exact ⟨by show (1 : Int) ≤ d; omega, by show (d : Int) ≤ 60; omega, by show (1 : Int) ≤ n; omega, by show (n : Int) ≤ 2000; omega⟩
theorem two_mv {L H k : Nat} (hk : 1 ≤ k) (r s : Ro) (x : Int) : mv (two (L * k) (H * k) r s) x = q1 s (q1 r (x * L) H * H) L := by
  show mv (one (H * k) (L * k) s) (mv (one (L * k) (H * k) r) x) = _
  rw [one_mv hk, one_mv hk]
  rfl
theorem d_back {L H k : Nat} (o : Lo L H) (hk : 1 ≤ k) {r s : Ro} (hr : r = .nr → s = .nr) (g : GC (two (L * k) (H * k) r s)) {m : Nat} {P : D → Nat → Prop} (h : P (.bool (Cond L H r s)) 0) : r_comes_back [.d (chD (two (L * k) (H * k) r s))] m P := by
  have bnt : bn (two (L * k) (H * k) r s) = (H * k) * (L * k) := by
    show (((H * k : Nat) : Int) * (((L * k : Nat) : Int) * 1)).toNat = _
    rw [Int.mul_one, ← Int.natCast_mul]
    omega
  refine d_comes_back g (fun all => ?_) fun ex => ?_
  · have c : Cond L H r s = true := by
      refine Classical.byContradiction fun z => ?_
      rw [Bool.not_eq_true] at z
      obtain ⟨x, x0, x1, ne⟩ := back_no o hr z
      have hx : ((x.toNat : Nat) : Int) = x := by omega
      have a := all x.toNat (by
        rw [bnt]
        have l := o.l
        have a1 : H * 1 ≤ H * k := Nat.mul_le_mul_left _ hk
        have a2 : 1 ≤ L * k := Nat.mul_le_mul l hk
        have a3 : H * k * 1 ≤ H * k * (L * k) := Nat.mul_le_mul_left _ a2
        omega)
      rw [hx, two_mv hk] at a
      exact ne a
    rw [c] at h
    exact h
  · have c : Cond L H r s = false := by
      refine Classical.byContradiction fun z => ?_
      rw [Bool.not_eq_false] at z
      obtain ⟨x, _, ne⟩ := ex
      exact ne (by rw [two_mv hk]; exact back_ok o hr z x)
    rw [c] at h
    exact h
structure RowC (K : Nat) (q : Cue) : Prop where
  f0 : 0 ≤ q.f
  ft : q.f + K ≤ q.t
  t1 : q.t ≤ 2000
  x : ∃ n : Nat, q.x = textD [⟨#[n]⟩] ∧ 97 ≤ n ∧ n ≤ 101
theorem ok_sign {n : Nat} (h1 : 97 ≤ n) (h2 : n ≤ 101) : OkStr ⟨#[n]⟩ := by
  refine ⟨by simp, by simp, fun c hc => ?_, ?_, ?_⟩
  · have : c = n := by simpa using hc
    omega
  · show some n ≠ some 32
    intro z
    cases z
    omega
  · show some n ≠ some 32
    intro z
    cases z
    omega
theorem RowC.ok {K : Nat} {q : Cue} (h : RowC K q) (k1 : 1 ≤ K) : OkCue q := by
  obtain ⟨n, e, n1, n2⟩ := h.x
  refine ⟨h.f0, by have := h.ft; omega, by have := h.t1; omega, [⟨#[n]⟩], e, by simp, by simp, fun z hz => ?_⟩
  have : z = ⟨#[n]⟩ := by simpa using hz
  rw [this]
  exact ok_sign n1 n2
theorem okD_file {cs : List Cue} (h : ∀ q ∈ cs, ∃ n : Nat, q.x = textD [⟨#[n]⟩] ∧ 97 ≤ n ∧ n ≤ 101) : okD (fileD cs) ∧ okD (.list (cs.map Cue.d)) := by
  have key : ∀ cs : List Cue, (∀ q ∈ cs, ∃ n : Nat, q.x = textD [⟨#[n]⟩] ∧ 97 ≤ n ∧ n ≤ 101) → PyData.canLayAll0 (cs.map Cue.d) = true ∧ PyData.depthAll (cs.map Cue.d) ≤ 2 := by
    intro cs
    induction cs with
    | nil => exact fun _ => ⟨by simp [PyData.canLayAll0], by simp [PyData.depthAll]⟩
    | cons q cs ih =>
      intro h
      obtain ⟨i1, i2⟩ := ih fun x hx => h x (List.mem_cons_of_mem _ hx)
      obtain ⟨n, e, n1, n2⟩ := h q (List.mem_cons_self ..)
      have hn : n < 1114112 := by omega
      have ed : q.d = .tuple [.int q.f, .int q.t, .tuple [.str ⟨#[n]⟩]] := by
        unfold Cue.d
        rw [e]
        rfl
      rw [List.map_cons, ed]
      constructor
      · rw [PyData.canLayAll0, i1]
        simp [PyData.canLay0, PyData.canLayAll0, PyData.strOk, hn]
      · rw [PyData.depthAll]
        generalize PyData.depthAll (cs.map Cue.d) = z at i2 ⊢
        simp [PyData.depth, PyData.depthAll]
        omega
  obtain ⟨k1, k2⟩ := key cs h
  constructor
  · show SeqAt.shaped _ = true
    unfold SeqAt.shaped fileD
    simp [PyData.canLay0, PyData.depth, k1]
    omega
  · show SeqAt.shaped _ = true
    unfold SeqAt.shaped
    simp [PyData.canLay0, PyData.depth, k1]
    omega
def FC (L H : Nat) (r : Ro) (q : Cue) : Cue := ⟨F L H r q.f, F L H r q.t, q.x⟩
theorem F_lt {L H K : Nat} (o : Lo L H) (kp : Kp L H K) (r : Ro) {q : Cue} (h : RowC K q) : F L H r q.f < F L H r q.t := by
  have a := kept_up o kp r q.f
  have b := F_mono o r h.ft
  exact Int.lt_of_lt_of_le a b
theorem F_le {L H : Nat} (o : Lo L H) (hL : L ≤ 60) (r : Ro) {x : Int} (h0 : 0 ≤ x) (h1 : x ≤ 2000) : F L H r x ≤ 120000 := by
  have a := (F_bnd o r h0).2
  have b := Int.mul_le_mul h1 (show (L : Int) ≤ 60 by omega) (by omega) (by omega)
  omega
theorem d_legs {L H k K : Nat} (o : Lo L H) (hk : 1 ≤ k) (hL : L ≤ 60) (kp : Kp L H K) {r : Ro} (g : GC (one (L * k) (H * k) r)) {cs : List Cue} (l : cs.length ≤ 60) (hc : ∀ q ∈ cs, RowC K q) {m : Nat} {P : D → Nat → Prop} (h : P (fileD (cs.map (FC L H r))) 0) :
    r_moved_file [.d (chD (one (L * k) (H * k) r)), .d (fileD cs)] m P := by
  refine d_moved_file g l (fun q hq => (hc q hq).ok kp.k1) (fun q hq => ?_) ?_
  · rw [one_mv hk]
    have c := hc q hq
    have := F_le o hL r (show 0 ≤ q.t by have := c.f0; have := c.ft; omega) c.t1
    omega
  · have e1 : cs.map (mvCue (one (L * k) (H * k) r)) = cs.map (FC L H r) := List.map_congr_left fun q _ => by
      unfold mvCue FC
      rw [one_mv hk, one_mv hk]
    have e2 : (cs.map (FC L H r)).filter (fun q => decide (q.f < q.t)) = cs.map (FC L H r) := by
      rw [List.filter_eq_self]
      intro q hq
      (obtain ⟨p, hp, rfl⟩ := List.mem_map.mp hq)
      exact decide_eq_true (F_lt o kp r (hc p hp))
    rw [e1, e2]
    exact h
/-- moved there by "near", and back by "near" -/
theorem d_nears {L H k K : Nat} (o : Lo L H) (hk : 1 ≤ k) (hL : L ≤ 60) (hLH : H ≤ L) (kp : Kp L H K) (g : GC (one (H * k) (L * k) .nr)) {cs : List Cue} (l : cs.length ≤ 60) (hc : ∀ q ∈ cs, RowC K q) {m : Nat} {P : D → Nat → Prop} (h : P (fileD cs) 0) :
    r_moved_file [.d (chD (one (H * k) (L * k) .nr)), .d (fileD (cs.map (FC L H .nr)))] m P := by
  have cond : Cond L H .nr .nr = true := decide_eq_true hLH
  have bk : ∀ x : Int, mv (one (H * k) (L * k) .nr) (F L H .nr x) = x := fun x => by
    rw [one_mv hk]
    exact back_ok o (r := .nr) (s := .nr) (fun _ => rfl) cond x
  refine d_moved_file g (by rw [List.length_map]; exact l) (fun q hq => ?_) (fun q hq => ?_) ?_
  · obtain ⟨p, hp, rfl⟩ := List.mem_map.mp hq
    have c := hc p hp
    obtain ⟨n, e, n1, n2⟩ := c.x
    have t0 : 0 ≤ p.t := by have := c.f0; have := c.ft; omega
    refine ⟨(F_bnd o .nr c.f0).1, F_lt o kp .nr c, ?_, [⟨#[n]⟩], e, by simp, by simp, fun z hz => ?_⟩
    · have := F_le o hL .nr t0 c.t1
      show F L H .nr p.t ≤ _
      omega
    · have : z = ⟨#[n]⟩ := by simpa using hz
      rw [this]
      exact ok_sign n1 n2
  · obtain ⟨p, hp, rfl⟩ := List.mem_map.mp hq
    show mv (one (H * k) (L * k) .nr) (F L H .nr p.t) ≤ _
    rw [bk]
    have := (hc p hp).t1
    omega
  · have e1 : (cs.map (FC L H .nr)).map (mvCue (one (H * k) (L * k) .nr)) = cs := by
      rw [List.map_map]
      have : ∀ q ∈ cs, (mvCue (one (H * k) (L * k) .nr) ∘ FC L H .nr) q = id q := fun q _ => by
        show (⟨mv _ (F L H .nr q.f), mv _ (F L H .nr q.t), q.x⟩ : Cue) = q
        rw [bk, bk]
      rw [List.map_congr_left this, List.map_id]
    have e2 : cs.filter (fun q => decide (q.f < q.t)) = cs := by
      rw [List.filter_eq_self]
      intro q hq
      refine decide_eq_true ?_
      have := (hc q hq).ft
      have := kp.k1
      omega
    rw [e1, e2]
    exact h
/-- one cue that is left out -/
theorem d_gone {L H k : Nat} (o : Lo L H) (hk : 1 ≤ k) (hL : L ≤ 60) {r : Ro} (g : GC (one (L * k) (H * k) r)) {q : Cue} (oq : OkCue q) (t1 : q.t ≤ 2000) (e : F L H r q.f = F L H r q.t) {m : Nat} {P : D → Nat → Prop} (h : P (.tuple []) 0) : r_moved_file [.d (chD (one (L * k) (H * k) r)), .d (fileD [q])] m P := by
  have f0 := oq.f0
  have ft := oq.ft
  refine d_moved_file g (by simp) (fun p hp => ?_) (fun p hp => ?_) ?_
  · have : p = q := by simpa using hp
    rw [this]
    exact oq
  · have : p = q := by simpa using hp
    rw [this, one_mv hk]
    have := F_le o hL r (show 0 ≤ q.t by omega) t1
    omega
  · have : ([q].map (mvCue (one (L * k) (H * k) r))).filter (fun q => decide (q.f < q.t)) = [] := by
      rw [List.map_cons, List.map_nil, List.filter_cons, if_neg]
      · rfl
      · show ¬ decide (mv (one (L * k) (H * k) r) q.f < mv (one (L * k) (H * k) r) q.t) = true
        rw [one_mv hk, one_mv hk, e, decide_eq_false (Int.lt_irrefl _)]
        decide
    rw [this]
    exact h
end Q80
namespace Q80
open PySem L2 DL
abbrev ev (S : D) (m : Nat) (s2 s3 s4 : Sl) (K : Nat) (r : Ro) (n d L H : Nat) (s11 s12 s13 s14 s15 s16 s17 s18 s19 s20 s21 : Sl) : DL.Env :=
  [.im S, .ora m, s2, s3, s4, .im (.int (K : Int)), .im (.str (rdS r)), .im (.int (n : Int)), .im (.int (d : Int)), .im (.int (L : Int)), .im (.int (H : Int)), s11, s12, s13, s14, s15, s16, s17, s18, s19, s20, s21, .no]
def w0 : SM := (sSet 14 (dTup (lCons (dV 7) (lCons (dV 8) (lCons (dV 6) (lNil))))))
def w1 (rk rp : SpD) : SM := (sIf (bOr (bD (d2 gNe (hV (dCall 1 rk (aCons (dTup (lCons (dV 14) (lNil))) (aNil)))) (hS 5))) (bD (d2 gNe (hV (dCall 1 rp (aCons (dTup (lCons (dV 14) (lNil))) (aNil)))) (hV (dTup (lCons (dV 10) (lCons (dV 9) (lNil)))))))) (sRet (dC (.bool false))) (sNo))
def w2 (rs : SpD) : SM := (sIf (bAnd (bD (d2 gGt (hS 5) (hV (dC (.int 1))))) (bD (d2 gIs (hV (dCall 4 rs (aCons (dV 6) (aCons (dV 9) (aCons (dV 10) (aCons (d2 DL.gSub (hS 5) (hV (dC (.int 1)))) (aNil))))))) (hV (dC .none))))) (sRet (dC (.bool false))) (sNo))
def w3 : SM := (sParIN 19 20 (dCallO 1 2 s_next (aOra 1 (aCons (dC (.int 30)) (aNil)))) (dLst (lNil)))
def rowB : SM := (sSeq (sSet 21 (d2 gAdd (hS 5) (hV (dCallO 1 2 s_next (aOra 1 (aCons (dC (.int 9)) (aNil))))))) (sSeq (sApp 20 (dTup (lCons (dV 19) (lCons (d2 gAdd (hS 19) (hS 21)) (lCons (dTup (lCons (d2 gIx (hV (dC (.str ("abcd" : Str)))) (hS 15)) (lNil))) (lNil)))))) (sSet 19 (d2 gAdd (hS 19) (hV (dCallO 1 2 s_next (aOra 1 (aCons (d2 gMul (hV (dC (.int 2))) (hS 21)) (aNil)))))))))
def w4 : SM := sFor (iRange1 (lCons (dC (.int 4)) (lNil))) (gN 15) rowB
def w5 (rf : SpD) : SM := (sSet 16 (dCall 2 rf (aCons (dTup (lCons (dV 14) (lNil))) (aCons (dCB gTuple (DL.gCons (hS 20) (DL.gNil))) (aNil)))))
def w6 (rm : SpD) : SM := (sSet 13 (dLc (iSeq (dV 20)) (gN 22) (bYes) (dTup (lCons (dCall 2 rm (aCons (dTup (lCons (dV 14) (lNil))) (aCons (d2 gIx (hS 22) (hV (dC (.int 0)))) (aNil)))) (lCons (dCall 2 rm (aCons (dTup (lCons (dV 14) (lNil))) (aCons (d2 gIx (hS 22) (hV (dC (.int 1)))) (aNil)))) (lCons (d2 gIx (hS 22) (hV (dC (.int 2)))) (lNil))))) [22]))
def w7 : SM := (sIf (bOr (bD (d2 gNe (hS 16) (hV (dCB gTuple (DL.gCons (hS 13) (DL.gNil)))))) (bD (d2 gNe (hV (dCB gLen (DL.gCons (hS 16) (DL.gNil)))) (hV (dCB gLen (DL.gCons (hS 20) (DL.gNil))))))) (sRet (dC (.bool false))) (sNo))
def w8 (rf : SpD) : SM := (sIf (bAnd (bD (d2 gGe (hS 9) (hS 10))) (bAnd (bD (d2 gEq (hS 6) (hV (dC (.str ("near" : Str)))))) (bD (d2 gNe (hV (dCall 2 rf (aCons (dTup (lCons (dTup (lCons (dV 8) (lCons (dV 7) (lCons (dV 6) (lNil))))) (lNil))) (aCons (dV 16) (aNil))))) (hV (dCB gTuple (DL.gCons (hS 20) (DL.gNil)))))))) (sRet (dC (.bool false))) (sNo))
def w9 (rs : SpD) : SM := (sSet 17 (dIf (bD (d2 gGt (hS 5) (hV (dC (.int 1))))) (dCall 4 rs (aCons (dV 6) (aCons (dV 9) (aCons (dV 10) (aCons (d2 DL.gSub (hS 5) (hV (dC (.int 1)))) (aNil)))))) (dC (.int 0))))
def w10 (rf : SpD) : SM := (sSet 18 (dCall 2 rf (aCons (dTup (lCons (dV 14) (lNil))) (aCons (dTup (lCons (dTup (lCons (dV 17) (lCons (d2 gAdd (hS 17) (hV (dCB gMax (DL.gCons (hV (dC (.int 1))) (DL.gCons (hV (d2 DL.gSub (hS 5) (hV (dC (.int 1))))) (DL.gNil)))))) (lCons (dTup (lCons (dC (.str ("e" : Str))) (lNil))) (lNil))))) (lNil))) (aNil)))))
def w11 : SM := (sIf (bAnd (bD (d2 gGt (hS 5) (hV (dC (.int 1))))) (bD (d2 gNe (hS 18) (hV (dTup (lNil)))))) (sRet (dC (.bool false))) (sNo))
theorem seqAny {g h : SM} {E : DE} {ρ : DL.Env} (x : g { E with nx := h E } ρ) : sSeq g h E ρ := x
theorem ok2 (x y : Int) : okD (.tuple [.int x, .int y]) := by
  show SeqAt.shaped _ = true
  simp [SeqAt.shaped, PyData.canLay0, PyData.canLayAll0, PyData.depth, PyData.depthAll]
theorem eq2 (x y : Int) : PyData.eqv (.tuple [.int x, .int y]) (.tuple [.int x, .int y]) = true := by simp [PyData.eqv, PyData.eqvAll]
section
variable {S : D} {m : Nat} {s2 s3 s4 : Sl} {K : Nat} {r : Ro} {n d L H : Nat} {s11 s12 s13 s14 s15 s16 s17 s18 s19 s20 s21 : Sl} {E : DE} {rk rp rs rm rf : SpD}
def legD (n d : Nat) (r : Ro) : D := .tuple [.int (n : Int), .int (d : Int), .str (rdS r)]
theorem leg_eq : chD (one n d r) = .tuple [legD n d r] := rfl
theorem w0_ok (h : E.nx (ev S m s2 s3 s4 K r n d L H s11 s12 s13 (.im (legD n d r)) s15 s16 s17 s18 s19 s20 s21)) : w0 E (ev S m s2 s3 s4 K r n d L H s11 s12 s13 s14 s15 s16 s17 s18 s19 s20 s21) :=
  ⟨(by show 3 ≤ 1000000; omega), h⟩
theorem w1_ok (hk : ∀ P : D → Nat → Prop, P (.int K) 0 → rk [.d (.tuple [legD n d r])] 0 P) (hp : ∀ P : D → Nat → Prop, P (.tuple [.int H, .int L]) 0 → rp [.d (.tuple [legD n d r])] 0 P) (h : E.nx (ev S m s2 s3 s4 K r n d L H s11 s12 s13 (.im (legD n d r)) s15 s16 s17 s18 s19 s20 s21)) :
    w1 rk rp E (ev S m s2 s3 s4 K r n d L H s11 s12 s13 (.im (legD n d r)) s15 s16 s17 s18 s19 s20 s21) := by
  refine ⟨(by show 1 ≤ 1000000; omega), rfl, rfl, hk _ ?_⟩
  refine ⟨trivial, okI _, okI _, ?_⟩
  rw [eqi, decide_eq_true rfl]
  refine ⟨(by show 1 ≤ 1000000; omega), rfl, rfl, hp _ ?_⟩
  refine ⟨(by show 2 ≤ 1000000; omega), ok2 _ _, ok2 _ _, ?_⟩
  rw [eq2]
  exact h
theorem k_sub (h : 1 ≤ K) : (K : Int) - 1 = ((K - 1 : Nat) : Int) := by omega
theorem w2_ok (k1 : 1 ≤ K) (hs : 1 < K → ∀ P : D → Nat → Prop, (∀ x : Nat, P (natD x) 0) → rs [.d (.str (rdS r)), .d (.int L), .d (.int H), .d (.int ((K - 1 : Nat) : Int))] 0 P) (h : E.nx (ev S m s2 s3 s4 K r n d L H s11 s12 s13 s14 s15 s16 s17 s18 s19 s20 s21)) :
    w2 rs E (ev S m s2 s3 s4 K r n d L H s11 s12 s13 s14 s15 s16 s17 s18 s19 s20 s21) := by
  refine ⟨trivial, ?_⟩
  show if decide ((K : Int) > 1) = true then _ else _
  by_cases z : 1 < K
  · rw [if_pos (by simp; omega)]
    refine ⟨trivial, rfl, rfl, ?_⟩
    show rs [.d (.str (rdS r)), .d (.int L), .d (.int H), .d (.int ((K : Int) - 1))] _ _
    rw [k_sub k1]
    exact hs z _ fun x => h
  · rw [if_neg (by simp; omega)]
    exact h
theorem w3_ok (hm : m < 1040000) (h : ∀ i : Nat, i < 30 → E.nx (ev S (m + 1) s2 s3 s4 K r n d L H s11 s12 s13 s14 s15 s16 s17 s18 (.im (.int (i : Int))) (.ow (.list [])) s21)) : w3 E (ev S m s2 s3 s4 K r n d L H s11 s12 s13 s14 s15 s16 s17 s18 s19 s20 s21) := by
  refine ⟨trivial, rfl, rfl, rfl, 30, rfl, by omega, by omega, by omega, fun i i0 i1 => ?_⟩
  refine ⟨(by show 0 ≤ 1000000; omega), ?_⟩
  have := h i.toNat (by omega)
  rw [show ((i.toNat : Nat) : Int) = i by omega] at this
  exact this
theorem abcd_at {k : Nat} (hk : k < 4) : ∃ c : Nat, atI ("abcd" : Str).cps.toList (k : Int) = some c ∧ 97 ≤ c ∧ c ≤ 101 := by
  have : k = 0 ∨ k = 1 ∨ k = 2 ∨ k = 3 := by omega
  rcases this with rfl | rfl | rfl | rfl
  · exact ⟨97, by decide +kernel, by omega, by omega⟩
  · exact ⟨98, by decide +kernel, by omega, by omega⟩
  · exact ⟨99, by decide +kernel, by omega, by omega⟩
  · exact ⟨100, by decide +kernel, by omega, by omega⟩
theorem abcd_len : ("abcd" : Str).length ≤ 1000000 := by decide +kernel
theorem row_ok (hm : m < 1040000) {k b : Nat} (hk : k < 4) (k1 : 1 ≤ K) (hK : K ≤ 20) {acc : List Cue} (hl : acc.length ≤ 100) (h : ∀ (q : Cue) (b' : Nat) s21, RowC K q → q.t ≤ b + 28 + 0 → b' ≤ b + 56 → E.nx (ev S (m + 2) s2 s3 s4 K r n d L H s11 s12 s13 s14 (.im (natD k)) s16 s17 s18 (.im (.int (b' : Int))) (.ow (.list ((acc ++ [q]).map Cue.d))) s21)) (hb : b ≤ 1900) :
    rowB E (ev S m s2 s3 s4 K r n d L H s11 s12 s13 s14 (.im (natD k)) s16 s17 s18 (.im (.int (b : Int))) (.ow (.list (acc.map Cue.d))) s21) := by
  refine ⟨trivial, trivial, rfl, rfl, rfl, 9, rfl, by omega, by omega, by omega, fun i i0 i1 => ?_⟩
  obtain ⟨c, ec, c1, c2⟩ := abcd_at hk
  refine ⟨trivial, trivial, trivial, trivial, abcd_len, c, ec, (by show 1 ≤ 1000000; omega), (by show 3 ≤ 1000000; omega), (by show (acc.map Cue.d).length < 1000000; rw [List.length_map]; omega), ?_⟩
  refine ⟨trivial, trivial, trivial, .inl ⟨by decide, by decide⟩, rfl, rfl, rfl, 2 * ((K : Int) + i), rfl, by omega, by omega, by omega, fun j j0 j1 => ?_⟩
  have hh := h ⟨(b : Int), (b : Int) + ((K : Int) + i), textD [⟨#[c]⟩]⟩ (b + j.toNat) (.im (.int ((K : Int) + i))) ⟨by show (0 : Int) ≤ b; omega, by show (b : Int) + K ≤ b + (K + i); omega, by show (b : Int) + (K + i) ≤ 2000; omega, c, rfl, c1, c2⟩ (by show (b : Int) + (K + i) ≤ _; omega) (by omega)
  rw [List.map_append, show ((b + j.toNat : Nat) : Int) = (b : Int) + j by omega] at hh
  exact hh
theorem rows_ok (hK : K ≤ 20) (k1 : 1 ≤ K) : ∀ (c k b m : Nat) (acc : List Cue) (s15 s21 : Sl), k + c = 4 → m + 2 * c < 1040000 → acc.length ≤ k → b ≤ 100 + 60 * k → (∀ q ∈ acc, RowC K q) → (∀ (m' : Nat) (s15 : Sl) (b' : Int) (acc : List Cue) (s21 : Sl), m' ≤ m + 2 * c → acc.length ≤ 4 → (∀ q ∈ acc, RowC K q) → E.nx (ev S m' s2 s3 s4 K r n d L H s11 s12 s13 s14 s15 s16 s17 s18 (.im (.int b')) (.ow (.list (acc.map Cue.d))) s21)) →
    forL (gN 15) rowB E ((List.range' k c).map natD) (ev S m s2 s3 s4 K r n d L H s11 s12 s13 s14 s15 s16 s17 s18 (.im (.int ((b : Nat) : Int))) (.ow (.list (acc.map Cue.d))) s21)
  | 0, k, b, m, acc, s15, s21, hk, hm, hl, hb, ha, h => h m s15 ((b : Nat) : Int) acc s21 (by omega) (by omega) ha
  | c + 1, k, b, m, acc, s15, s21, hk, hm, hl, hb, ha, h => by
    rw [List.range'_succ, List.map_cons]
    refine row_ok (E := ⟨forL (gN 15) rowB E ((List.range' (k + 1) c).map natD), E.rt, E.nx, forL (gN 15) rowB E ((List.range' (k + 1) c).map natD)⟩) (by omega) (by omega) k1 hK (by omega) (fun q b' s21 hq ht hb' => ?_) (by omega)
    refine rows_ok hK k1 c (k + 1) b' (m + 2) (acc ++ [q]) _ _ (by omega) (by omega) (by rw [List.length_append, List.length_singleton]; omega) (by omega) (fun p hp => ?_) fun m' s15 b' acc s21 hm' => h m' s15 b' acc s21 (by omega)
    (rcases List.mem_append.mp hp with hp | hp)
    · exact ha p hp
    · have : p = q := by simpa using hp
      rw [this]
      exact hq
theorem w4_ok (hK : K ≤ 20) (k1 : 1 ≤ K) {b : Nat} (hb : b ≤ 100) (hm : m < 1030000) (h : ∀ (m' : Nat) (s15 : Sl) (b' : Int) (acc : List Cue) (s21 : Sl), m' ≤ m + 8 → acc.length ≤ 4 → (∀ q ∈ acc, RowC K q) → E.nx (ev S m' s2 s3 s4 K r n d L H s11 s12 s13 s14 s15 s16 s17 s18 (.im (.int b')) (.ow (.list (acc.map Cue.d))) s21)) :
    w4 E (ev S m s2 s3 s4 K r n d L H s11 s12 s13 s14 s15 s16 s17 s18 (.im (.int (b : Int))) (.ow (.list [])) s21) := by
  refine ⟨⟨by decide, by decide⟩, ?_⟩
  have e : rgD 0 4 = (List.range' 0 4).map natD := by
    rw [← List.range_eq_range']
    exact rg_nat 4
  rw [e]
  exact rows_ok hK k1 4 0 b m [] s15 s21 (by omega) (by omega) (by show 0 ≤ 0; omega) (by omega) (fun q hq => by cases hq) fun m' s15 b' acc s21 a1 a2 a3 => h m' s15 b' acc s21 (by omega) a2 a3
theorem w5_ok {acc : List Cue} (hf : ∀ P : D → Nat → Prop, P (fileD (acc.map (FC L H r))) 0 → rf [.d (.tuple [legD n d r]), .d (fileD acc)] 0 P) (h : E.nx (ev S m s2 s3 s4 K r n d L H s11 s12 s13 (.im (legD n d r)) s15 (.im (fileD (acc.map (FC L H r)))) s17 s18 s19 (.ow (.list (acc.map Cue.d))) s21)) :
    w5 rf E (ev S m s2 s3 s4 K r n d L H s11 s12 s13 (.im (legD n d r)) s15 s16 s17 s18 s19 (.ow (.list (acc.map Cue.d))) s21) :=
  ⟨(by show 1 ≤ 1000000; omega), trivial, rfl, rfl, hf _ h⟩
def fcI (L H : Nat) (r : Ro) : D → D
  | .tuple [.int a, .int b, x] => .tuple [.int (F L H r a), .int (F L H r b), x]
  | _ => .none
theorem w6_ok {acc : List Cue} (hl : acc.length ≤ 100) (hr : ∀ q ∈ acc, RowC K q) (hf : ∀ (x : Int) (P : D → Nat → Prop), 0 ≤ x → x ≤ 2000 → P (.int (F L H r x)) 0 → rm [.d (.tuple [legD n d r]), .d (.int x)] 0 P) (h : E.nx (ev S m s2 s3 s4 K r n d L H s11 s12 (.im (.list ((acc.map (FC L H r)).map Cue.d))) (.im (legD n d r)) s15 s16 s17 s18 s19 (.im (.list (acc.map Cue.d))) s21)) :
    w6 rm E (ev S m s2 s3 s4 K r n d L H s11 s12 s13 (.im (legD n d r)) s15 s16 s17 s18 s19 (.ow (.list (acc.map Cue.d))) s21) := by
  refine ⟨by rw [List.length_map]; omega, ⟨by simp, fun j hj => by simp at hj; subst hj; rfl⟩, ?_⟩
  refine lcL_map (ρ := ev S m s2 s3 s4 K r n d L H s11 s12 s13 (.im (legD n d r)) s15 s16 s17 s18 s19 (.im (.list (acc.map Cue.d))) s21) (fcI L H r) _ [] ?_ ?_
  · intro x hx Q hQ
    obtain ⟨q, hq, rfl⟩ := List.mem_map.mp hx
    have c := hr q hq
    have f0 := c.f0
    have ft := c.ft
    have t1 := c.t1
    have e : fcI L H r q.d = .tuple [.int (F L H r q.f), .int (F L H r q.t), q.x] := rfl
    rw [e] at hQ
    refine ⟨(by show 1 ≤ 1000000; omega), trivial, _, rfl, rfl, rfl, hf q.f _ f0 (by omega) ?_⟩
    refine ⟨(by show 1 ≤ 1000000; omega), trivial, _, rfl, rfl, rfl, hf q.t _ (by omega) t1 ?_⟩
    exact ⟨trivial, _, rfl, (by show 3 ≤ 1000000; omega), hQ _ rfl⟩
  · have e : ([] : List D) ++ (acc.map Cue.d).map (fcI L H r) = (acc.map (FC L H r)).map Cue.d := by
      rw [List.nil_append, List.map_map, List.map_map]
      rfl
    rw [e]
    exact h
theorem fc_x {acc : List Cue} (hr : ∀ q ∈ acc, RowC K q) : ∀ q ∈ acc.map (FC L H r), ∃ n : Nat, q.x = textD [⟨#[n]⟩] ∧ 97 ≤ n ∧ n ≤ 101 := fun q hq => by
  (obtain ⟨p, hp, rfl⟩ := List.mem_map.mp hq)
  exact (hr p hp).x
theorem w7_ok {acc : List Cue} (hr : ∀ q ∈ acc, RowC K q) (h : E.nx (ev S m s2 s3 s4 K r n d L H s11 s12 (.im (.list ((acc.map (FC L H r)).map Cue.d))) s14 s15 (.im (fileD (acc.map (FC L H r)))) s17 s18 s19 (.im (.list (acc.map Cue.d))) s21)) :
    w7 E (ev S m s2 s3 s4 K r n d L H s11 s12 (.im (.list ((acc.map (FC L H r)).map Cue.d))) s14 s15 (.im (fileD (acc.map (FC L H r)))) s17 s18 s19 (.im (.list (acc.map Cue.d))) s21) := by
  have ok := (okD_file (fc_x (L := L) (H := H) (r := r) hr)).1
  have ev1 : PyData.eqv (fileD (acc.map (FC L H r))) (.tuple ((acc.map (FC L H r)).map Cue.d)) = true := eqv_refl _ (okD.nod ok)
  refine ⟨trivial, trivial, ok, ok, ?_⟩
  rw [ev1]
  refine ⟨trivial, trivial, okI _, okI _, ?_⟩
  rw [eqi]
  have el : ((((acc.map (FC L H r)).map Cue.d).length : Nat) : Int) = (((acc.map Cue.d).length : Nat) : Int) := by simp
  rw [decide_eq_true el]
  exact h
theorem w8_ok {acc : List Cue} (hr : ∀ q ∈ acc, RowC K q) (hf : H ≤ L → r = .nr → ∀ P : D → Nat → Prop, P (fileD acc) 0 → rf [.d (.tuple [legD d n .nr]), .d (fileD (acc.map (FC L H .nr)))] 0 P) (h : E.nx (ev S m s2 s3 s4 K r n d L H s11 s12 s13 s14 s15 (.im (fileD (acc.map (FC L H r)))) s17 s18 s19 (.im (.list (acc.map Cue.d))) s21)) :
    w8 rf E (ev S m s2 s3 s4 K r n d L H s11 s12 s13 s14 s15 (.im (fileD (acc.map (FC L H r)))) s17 s18 s19 (.im (.list (acc.map Cue.d))) s21) := by
  refine ⟨trivial, trivial, ?_⟩
  show if decide ((L : Int) ≥ H) = true then _ else _
  by_cases z : H ≤ L
  · rw [if_pos (by simp; omega)]
    refine ⟨trivial, okR r, o_nr, ?_⟩
    rw [e_nr]
    cases r with
    | dn => exact h
    | up => exact h
    | nr =>
      refine ⟨(by show 3 ≤ 1000000; omega), (by show 1 ≤ 1000000; omega), rfl, rfl, hf z rfl _ ?_⟩
      have ok := (okD_file (cs := acc) fun q hq => (hr q hq).x).1
      have ev1 : PyData.eqv (fileD acc) (.tuple (acc.map Cue.d)) = true := eqv_refl _ (okD.nod ok)
      refine ⟨trivial, ok, ok, ?_⟩
      rw [ev1]
      exact h
  · rw [if_neg (by simp; omega)]
    exact h
theorem w9_ok (k1 : 1 ≤ K) (hs : 1 < K → ∀ P : D → Nat → Prop, (∀ x : Nat, x < H → F L H r x = F L H r ((x + (K - 1) : Nat) : Int) → P (natD x) 0) → rs [.d (.str (rdS r)), .d (.int L), .d (.int H), .d (.int ((K - 1 : Nat) : Int))] 0 P)
    (h : ∀ x : Nat, x ≤ H → (1 < K → F L H r x = F L H r ((x + (K - 1) : Nat) : Int)) → E.nx (ev S m s2 s3 s4 K r n d L H s11 s12 s13 s14 s15 s16 (.im (.int (x : Int))) s18 s19 s20 s21)) :
    w9 rs E (ev S m s2 s3 s4 K r n d L H s11 s12 s13 s14 s15 s16 s17 s18 s19 s20 s21) := by
  refine ⟨trivial, ?_⟩
  show if decide ((K : Int) > 1) = true then _ else _
  by_cases z : 1 < K
  · rw [if_pos (by simp; omega)]
    refine ⟨trivial, rfl, rfl, ?_⟩
    show rs [.d (.str (rdS r)), .d (.int L), .d (.int H), .d (.int ((K : Int) - 1))] _ _
    rw [k_sub k1]
    exact hs z _ fun x hx e => h x (by omega) fun _ => e
  · rw [if_neg (by simp; omega)]
    exact h 0 (by omega) fun y => absurd y z
theorem w10_ok (k1 : 1 ≤ K) (hK : K ≤ 20) {x : Nat} (hx : x ≤ 100) (hf : ∀ (q : Cue) (P : D → Nat → Prop), OkCue q → q.t ≤ 2000 → q.f = x → q.t = ((x + max 1 (K - 1) : Nat) : Int) → (∀ d, (1 < K → d = .tuple []) → P d 0) → rf [.d (.tuple [legD n d r]), .d (fileD [q])] 0 P) (h : ∀ g, (1 < K → g = .tuple []) → E.nx (ev S m s2 s3 s4 K r n d L H s11 s12 s13 (.im (legD n d r)) s15 s16 (.im (.int (x : Int))) (.im g) s19 s20 s21)) :
    w10 rf E (ev S m s2 s3 s4 K r n d L H s11 s12 s13 (.im (legD n d r)) s15 s16 (.im (.int (x : Int))) s18 s19 s20 s21) := by
  have ee : (x : Int) + max 1 ((K : Int) - 1) = ((x + max 1 (K - 1) : Nat) : Int) := by omega
  refine ⟨(by show 1 ≤ 1000000; omega), trivial, trivial, (by show 1 ≤ 1000000; omega), (by show 3 ≤ 1000000; omega), (by show 1 ≤ 1000000; omega), rfl, rfl, ?_⟩
  refine hf ⟨x, (x : Int) + max 1 ((K : Int) - 1), textD [("e" : Str)]⟩ _ ⟨by show (0 : Int) ≤ x; omega, by show (x : Int) < x + max 1 ((K : Int) - 1); omega, by show (x : Int) + max 1 ((K : Int) - 1) ≤ _; omega, [("e" : Str)], rfl, by simp, by simp, fun z hz => ?_⟩ (by show (x : Int) + max 1 ((K : Int) - 1) ≤ _; omega) rfl ee fun g hg => h g hg
  have : z = ("e" : Str) := by simpa using hz
  rw [this]
  have e : ("e" : Str) = ⟨#[101]⟩ := by decide +kernel
  rw [e]
  exact ok_sign (by omega) (by omega)
theorem w11_ok {g : D} (hg : 1 < K → g = .tuple []) (h : E.nx (ev S m s2 s3 s4 K r n d L H s11 s12 s13 s14 s15 s16 s17 (.im g) s19 s20 s21)) : w11 E (ev S m s2 s3 s4 K r n d L H s11 s12 s13 s14 s15 s16 s17 (.im g) s19 s20 s21) := by
  refine ⟨trivial, ?_⟩
  show if decide ((K : Int) > 1) = true then _ else _
  by_cases z : 1 < K
  · rw [if_pos (by simp; omega)]
    have e := hg z
    subst e
    have ok : okD (.tuple []) := by
      show SeqAt.shaped _ = true
      decide
    refine ⟨trivial, (by show 0 ≤ 1000000; omega), ok, ok, ?_⟩
    rw [show PyData.eqv (.tuple []) (.tuple []) = true by simp [PyData.eqv, PyData.eqvAll]]
    exact h
  · rw [if_neg (by simp; omega)]
    exact h
end
end Q80
namespace Q80
open PySem L2 DL
def wordB (rk rp rs rm rf : SpD) : SM := sSeq w0 (sSeq (w1 rk rp) (sSeq (w2 rs) (sSeq w3 (sSeq w4 (sSeq (w5 rf) (sSeq (w6 rm) (sSeq w7 (sSeq (w8 rf) (sSeq (w9 rs) (sSeq (w10 rf) w11))))))))))
/-- what a leg's calls tell -/
structure Tells (rk rp rs rm rf : SpD) (K k L H : Nat) (r : Ro) : Prop where
  tk : ∀ P : D → Nat → Prop, P (.int K) 0 → rk [.d (.tuple [legD (L * k) (H * k) r])] 0 P
  tp : ∀ P : D → Nat → Prop, P (.tuple [.int H, .int L]) 0 → rp [.d (.tuple [legD (L * k) (H * k) r])] 0 P
  ts : ∀ P : D → Nat → Prop, (∀ x : Nat, x < H → F L H r x = F L H r ((x + (K - 1) : Nat) : Int) → P (natD x) 0) → rs [.d (.str (rdS r)), .d (.int L), .d (.int H), .d (.int ((K - 1 : Nat) : Int))] 0 P
  tm : ∀ (x : Int) (P : D → Nat → Prop), 0 ≤ x → x ≤ 2000 → P (.int (F L H r x)) 0 → rm [.d (.tuple [legD (L * k) (H * k) r]), .d (.int x)] 0 P
  tf : ∀ (acc : List Cue), acc.length ≤ 60 → (∀ q ∈ acc, RowC K q) → ∀ P : D → Nat → Prop, P (fileD (acc.map (FC L H r))) 0 → rf [.d (.tuple [legD (L * k) (H * k) r]), .d (fileD acc)] 0 P
  tb : H ≤ L → ∀ (acc : List Cue), acc.length ≤ 60 → (∀ q ∈ acc, RowC K q) → ∀ P : D → Nat → Prop, P (fileD acc) 0 → rf [.d (.tuple [legD (H * k) (L * k) .nr]), .d (fileD (acc.map (FC L H .nr)))] 0 P
  tg : ∀ (x : Nat) (q : Cue) (P : D → Nat → Prop), (1 < K → F L H r x = F L H r ((x + (K - 1) : Nat) : Int)) → OkCue q → q.t ≤ 2000 → q.f = x → q.t = ((x + max 1 (K - 1) : Nat) : Int) → (∀ d, (1 < K → d = .tuple []) → P d 0) → rf [.d (.tuple [legD (L * k) (H * k) r]), .d (fileD [q])] 0 P
section
variable {K k L H : Nat} {r : Ro} (o : Lo L H) (hk : 1 ≤ k) (hL : L * k ≤ 60) (hH : H * k ≤ 60) (kp : Kp L H K)
include o hk hL
theorem L60 : L ≤ 60 := by
  have aL : L * 1 ≤ L * k := Nat.mul_le_mul_left _ hk
  omega
include hH
theorem H60 : H ≤ 60 := by
  have aL : H * 1 ≤ H * k := Nat.mul_le_mul_left _ hk
  omega
theorem gc_a : GC (one (L * k) (H * k) r) := by
  have l1 := o.l
  have h1 := o.h
  have aL : L * 1 ≤ L * k := Nat.mul_le_mul_left _ hk
  have aH : H * 1 ≤ H * k := Nat.mul_le_mul_left _ hk
  exact gc_one (by omega) hL (by omega) hH
theorem gc_b : GC (one (H * k) (L * k) r) := by
  have l1 := o.l
  have h1 := o.h
  have aL : L * 1 ≤ L * k := Nat.mul_le_mul_left _ hk
  have aH : H * 1 ≤ H * k := Nat.mul_le_mul_left _ hk
  exact gc_one (by omega) hH (by omega) hL
theorem gc_c : GC (one L H r) := gc_one o.l (L60 o hk hL) o.h (H60 o hk hL hH)
theorem c_rm (x : Int) (P : D → Nat → Prop) (x0 : 0 ≤ x) (x1 : x ≤ 2000) (h : P (.int (F L H r x)) 0) : r_moved [.d (.tuple [legD (L * k) (H * k) r]), .d (.int x)] 0 P := by
  have z : x ≤ 1000000000000 := by omega
  rw [← leg_eq]
  refine d_moved (gc_a o hk hL hH) x0 z ?_
  rw [one_mv hk]
  exact h
include kp
theorem c_rk (P : D → Nat → Prop) (h : P (.int K) 0) : r_least_kept [.d (.tuple [legD (L * k) (H * k) r])] 0 P := by
  rw [← leg_eq]
  exact d_kept o hk kp (gc_a o hk hL hH) h
omit kp in
theorem c_rp (P : D → Nat → Prop) (h : P (.tuple [.int H, .int L]) 0) : r_period [.d (.tuple [legD (L * k) (H * k) r])] 0 P := by
  rw [← leg_eq]
  exact d_per o hk (gc_a o hk hL hH) h
theorem c_rs (P : D → Nat → Prop) (hP : ∀ x : Nat, x < H → F L H r x = F L H r ((x + (K - 1) : Nat) : Int) → P (natD x) 0) : r__law_short [.d (.str (rdS r)), .d (.int L), .d (.int H), .d (.int ((K - 1 : Nat) : Int))] 0 P := by
  have h60 := H60 o hk hL hH
  have kl := kp.lo
  have l1 := o.l
  have a : 1 * (K - 1) ≤ L * (K - 1) := Nat.mul_le_mul_right _ l1
  have h1 : H ≤ 100 := by omega
  have h2 : K - 1 ≤ 1000 := by omega
  exact d_short (gc_c o hk hL hH) h1 h2 (kept_at o kp r) fun x hx e => hP x hx e
theorem c_rf (acc : List Cue) (l : acc.length ≤ 60) (ha : ∀ q ∈ acc, RowC K q) (P : D → Nat → Prop) (h : P (fileD (acc.map (FC L H r))) 0) : r_moved_file [.d (.tuple [legD (L * k) (H * k) r]), .d (fileD acc)] 0 P := by
  rw [← leg_eq]
  exact d_legs o hk (L60 o hk hL) kp (gc_a o hk hL hH) l ha h
theorem c_rb (hLH : H ≤ L) (acc : List Cue) (l : acc.length ≤ 60) (ha : ∀ q ∈ acc, RowC K q) (P : D → Nat → Prop) (h : P (fileD acc) 0) : r_moved_file [.d (.tuple [legD (H * k) (L * k) .nr]), .d (fileD (acc.map (FC L H .nr)))] 0 P := by
  rw [← leg_eq]
  exact d_nears o hk (L60 o hk hL) hLH kp (gc_b o hk hL hH) l ha h
theorem c_rg (x : Nat) (q : Cue) (P : D → Nat → Prop) (ex : 1 < K → F L H r x = F L H r ((x + (K - 1) : Nat) : Int)) (oq : OkCue q) (qt : q.t ≤ 2000) (qf : q.f = x) (qq : q.t = ((x + max 1 (K - 1) : Nat) : Int)) (hP : ∀ d, (1 < K → d = .tuple []) → P d 0) : r_moved_file [.d (.tuple [legD (L * k) (H * k) r]), .d (fileD [q])] 0 P := by
  rw [← leg_eq]
  have g := gc_a (r := r) o hk hL hH
  have hl := L60 o hk hL
  by_cases z : 1 < K
  · refine d_gone o hk hl g oq qt ?_ (hP _ fun _ => rfl)
    rw [qf, qq, ex z, show max 1 (K - 1) = K - 1 by omega]
  · refine d_moved_file g (by simp) (fun p hp => ?_) (fun p hp => ?_) (hP _ fun y => absurd y z)
    · have : p = q := by simpa using hp
      rw [this]
      exact oq
    · have : p = q := by simpa using hp
      have f0 := oq.f0
      have ft := oq.ft
      have t0 : 0 ≤ q.t := by omega
      rw [this, one_mv hk]
      have := F_le o hl r t0 qt
      omega
theorem tells : Tells r_least_kept r_period r__law_short r_moved r_moved_file K k L H r :=
  ⟨c_rk o hk hL hH kp, c_rp o hk hL hH, c_rs o hk hL hH kp, c_rm o hk hL hH, c_rf o hk hL hH kp, c_rb o hk hL hH kp, c_rg o hk hL hH kp⟩
end
theorem word_ok {rk rp rs rm rf : SpD} {S : D} {m : Nat} {s2 s3 s4 : Sl} {K : Nat} {r : Ro} {k L H : Nat} {s11 s12 s13 s14 s15 s16 s17 s18 s19 s20 s21 : Sl} {E : DE} (t : Tells rk rp rs rm rf K k L H r) (hm : m < 1029000) (k1 : 1 ≤ K) (hK : K ≤ 20) (hH : H ≤ 60)
    (h : ∀ (m' : Nat) (s13 s14 s15 s16 s17 s18 s19 s20 s21 : Sl), m' ≤ m + 9 → E.nx (ev S m' s2 s3 s4 K r (L * k) (H * k) L H s11 s12 s13 s14 s15 s16 s17 s18 s19 s20 s21)) : wordB rk rp rs rm rf E (ev S m s2 s3 s4 K r (L * k) (H * k) L H s11 s12 s13 s14 s15 s16 s17 s18 s19 s20 s21) := by
  refine seqAny (w0_ok ?_)
  refine seqAny (w1_ok t.tk t.tp ?_)
  refine seqAny (w2_ok k1 (fun _ P hP => t.ts P fun x _ _ => hP x) ?_)
  refine seqAny (w3_ok (by omega) fun i hi => ?_)
  have m1 : m + 1 < 1030000 := by omega
  have i1 : i ≤ 100 := by omega
  refine seqAny (w4_ok hK k1 i1 m1 fun m' s15 b' acc s21 hm' hl ha => ?_)
  have l60 : acc.length ≤ 60 := by omega
  have l100 : acc.length ≤ 100 := by omega
  refine seqAny (w5_ok (t.tf acc l60 ha) ?_)
  refine seqAny (w6_ok l100 ha t.tm ?_)
  refine seqAny (w7_ok ha ?_)
  refine seqAny (w8_ok ha (fun hLH _ => t.tb hLH acc l60 ha) ?_)
  refine seqAny (w9_ok k1 (fun _ => t.ts) fun x hx ex => ?_)
  have x1 : x ≤ 100 := by omega
  refine seqAny (w10_ok k1 hK x1 (fun q P => t.tg x q P ex) fun gd hg => ?_)
  have m2 : m' ≤ m + 9 := by omega
  exact w11_ok hg (h _ _ _ _ _ _ _ _ _ _ m2)
theorem words_loop {rk rp rs rm rf : SpD} {S : D} {s2 s3 s4 : Sl} {K : Nat} {k L H : Nat} {s11 s12 : Sl} {E : DE} (t : ∀ r, Tells rk rp rs rm rf K k L H r) (k1 : 1 ≤ K) (hK : K ≤ 20) (hH : H ≤ 60) : ∀ (rs' : List Ro) (m : Nat) (s6 s13 s14 s15 s16 s17 s18 s19 s20 s21 : Sl), m + 9 * rs'.length < 1029000 →
    (∀ (m' : Nat) (s6 s13 s14 s15 s16 s17 s18 s19 s20 s21 : Sl), m' ≤ m + 9 * rs'.length → E.nx [.im S, .ora m', s2, s3, s4, .im (.int (K : Int)), s6, .im (.int ((L * k : Nat) : Int)), .im (.int ((H * k : Nat) : Int)), .im (.int (L : Int)), .im (.int (H : Int)), s11, s12, s13, s14, s15, s16, s17, s18, s19, s20, s21, .no]) →
    forL (gN 6) (wordB rk rp rs rm rf) E (rs'.map fun r => PyData.str (rdS r)) [.im S, .ora m, s2, s3, s4, .im (.int (K : Int)), s6, .im (.int ((L * k : Nat) : Int)), .im (.int ((H * k : Nat) : Int)), .im (.int (L : Int)), .im (.int (H : Int)), s11, s12, s13, s14, s15, s16, s17, s18, s19, s20, s21, .no]
  | [], m, s6, s13, s14, s15, s16, s17, s18, s19, s20, s21, hm, h => h m s6 s13 s14 s15 s16 s17 s18 s19 s20 s21 (by omega)
  | r :: rs', m, s6, s13, s14, s15, s16, s17, s18, s19, s20, s21, hm, h => by
    rw [List.length_cons] at hm h
    refine word_ok (E := ⟨forL (gN 6) (wordB rk rp rs rm rf) E (rs'.map fun r => PyData.str (rdS r)), E.rt, E.nx, forL (gN 6) (wordB rk rp rs rm rf) E (rs'.map fun r => PyData.str (rdS r))⟩) (t r) (by omega) k1 hK hH fun m' s13 s14 s15 s16 s17 s18 s19 s20 s21 hm' => ?_
    refine words_loop t k1 hK hH rs' m' _ _ _ _ _ _ _ _ _ _ (by omega) fun m'' s6 s13 s14 s15 s16 s17 s18 s19 s20 s21 hm'' => ?_
    exact h _ _ _ _ _ _ _ _ _ _ _ (by omega)
end Q80
namespace Q80
open PySem L2 DL
def t0 : SM := (sSet 3 (d2 gAdd (hV (dC (.int 1))) (hV (dCallO 1 2 s_next (aOra 1 (aCons (dC (.int 3)) (aNil)))))))
def t1 : SM := (sPar 7 8 (lCons (d2 gAdd (hV (dC (.int 1))) (hV (dCallO 1 2 s_next (aOra 1 (aCons (dC (.int 20)) (aNil)))))) (lCons (d2 gAdd (hV (dC (.int 1))) (hV (dCallO 1 2 s_next (aOra 1 (aCons (dC (.int 20)) (aNil)))))) (lNil))))
def t2 (rd : SpD) : SM := (sSet 4 (dCall 2 rd (aCons (dV 7) (aCons (dV 8) (aNil)))))
def t3 : SM := (sPar 9 10 (lCons (d2 gDiv (hS 7) (hS 4)) (lCons (d2 gDiv (hS 8) (hS 4)) (lNil))))
def t4 : SM := (sPar 7 8 (lCons (d2 gMul (hS 9) (hS 3)) (lCons (d2 gMul (hS 10) (hS 3)) (lNil))))
def bkB (rc : SpD) : SM := (sIf (bD (d2 gNeS (hV (dCB gReprB (DL.gCons (hV (dCall 1 rc (aCons (dTup (lCons (dTup (lCons (dV 7) (lCons (dV 8) (lCons (dV 11) (lNil))))) (lCons (dTup (lCons (dV 8) (lCons (dV 7) (lCons (dV 12) (lNil))))) (lNil)))) (aNil)))) (DL.gNil)))) (hV (dCB gReprB (DL.gCons (hS 13) (DL.gNil)))))) (sRet (dC (.bool false))) (sNo))
def t5 (rb rc : SpD) : SM := (sFor (iSeq (dCall 2 rb (aCons (dV 9) (aCons (dV 10) (aNil))))) (gTupT 3 (gConsT (gN 11) (gConsT (gN 12) (gConsT (gN 13) (gNoT))))) (bkB rc))
def t6 : SM := (sSet 5 (d2 DL.gSub (hV (dC (.int 0))) (hV (d2 gDiv (hV (d2 DL.gSub (hV (dC (.int 0))) (hS 10))) (hS 9)))))
def t7 (rk rp rs rm rf : SpD) : SM := sFor (iSeq (dTup (lCons (dC (.str ("down" : Str))) (lCons (dC (.str ("up" : Str))) (lCons (dC (.str ("near" : Str))) (lNil)))))) (gN 6) (wordB rk rp rs rm rf)
abbrev te (S : D) (m : Nat) (s2 s3 s4 s5 s6 s7 s8 s9 s10 s11 s12 s13 s14 s15 s16 s17 s18 s19 s20 s21 : Sl) : DL.Env := [.im S, .ora m, s2, s3, s4, s5, s6, s7, s8, s9, s10, s11, s12, s13, s14, s15, s16, s17, s18, s19, s20, s21, .no]
section
variable {S : D} {m : Nat} {s2 s3 s4 s5 s6 s7 s8 s9 s10 s11 s12 s13 s14 s15 s16 s17 s18 s19 s20 s21 : Sl} {E : DE}
theorem t0_ok (hm : m < 1029000) (h : ∀ k : Nat, 1 ≤ k → k ≤ 3 → E.nx (te S (m + 1) s2 (.im (.int ((k : Nat) : Int))) s4 s5 s6 s7 s8 s9 s10 s11 s12 s13 s14 s15 s16 s17 s18 s19 s20 s21)) : t0 E (te S m s2 s3 s4 s5 s6 s7 s8 s9 s10 s11 s12 s13 s14 s15 s16 s17 s18 s19 s20 s21) := by
  refine ⟨trivial, rfl, rfl, rfl, 3, rfl, by omega, by omega, by omega, fun i i0 i1 => ?_⟩
  have := h (1 + i.toNat) (by omega) (by omega)
  rw [show ((1 + i.toNat : Nat) : Int) = 1 + i by omega] at this
  exact this
theorem t1_ok (hm : m < 1029000) (h : ∀ a b : Nat, 1 ≤ a → a ≤ 20 → 1 ≤ b → b ≤ 20 → E.nx (te S (m + 1 + 1) s2 s3 s4 s5 s6 (.im (.int ((a : Nat) : Int))) (.im (.int ((b : Nat) : Int))) s9 s10 s11 s12 s13 s14 s15 s16 s17 s18 s19 s20 s21)) : t1 E (te S m s2 s3 s4 s5 s6 s7 s8 s9 s10 s11 s12 s13 s14 s15 s16 s17 s18 s19 s20 s21) := by
  refine ⟨trivial, rfl, rfl, rfl, 20, rfl, by omega, by omega, by omega, fun i i0 i1 => ?_⟩
  refine ⟨trivial, rfl, rfl, rfl, 20, rfl, by omega, by omega, by omega, fun j j0 j1 => ?_⟩
  have := h (1 + i.toNat) (1 + j.toNat) (by omega) (by omega) (by omega) (by omega)
  rw [show ((1 + i.toNat : Nat) : Int) = 1 + i by omega, show ((1 + j.toNat : Nat) : Int) = 1 + j by omega] at this
  exact this
theorem t2_ok {rd : SpD} {a b : Nat} (hd : ∀ P : D → Nat → Prop, P (.int ((Nat.gcd a b : Nat) : Int)) 0 → rd [.d (.int a), .d (.int b)] 0 P) (h : E.nx (te S m s2 s3 (.im (.int ((Nat.gcd a b : Nat) : Int))) s5 s6 (.im (.int ((a : Nat) : Int))) (.im (.int ((b : Nat) : Int))) s9 s10 s11 s12 s13 s14 s15 s16 s17 s18 s19 s20 s21)) : t2 rd E (te S m s2 s3 s4 s5 s6 (.im (.int ((a : Nat) : Int))) (.im (.int ((b : Nat) : Int))) s9 s10 s11 s12 s13 s14 s15 s16 s17 s18 s19 s20 s21) :=
  ⟨rfl, rfl, hd _ h⟩
theorem t3_ok {a b c : Nat} (c0 : 1 ≤ c) (c1 : c ≤ 20) (h : E.nx (te S m s2 s3 (.im (.int ((c : Nat) : Int))) s5 s6 (.im (.int ((a : Nat) : Int))) (.im (.int ((b : Nat) : Int))) (.im (.int ((a / c : Nat) : Int))) (.im (.int ((b / c : Nat) : Int))) s11 s12 s13 s14 s15 s16 s17 s18 s19 s20 s21)) : t3 E (te S m s2 s3 (.im (.int ((c : Nat) : Int))) s5 s6 (.im (.int ((a : Nat) : Int))) (.im (.int ((b : Nat) : Int))) s9 s10 s11 s12 s13 s14 s15 s16 s17 s18 s19 s20 s21) := by
  rw [Int.natCast_ediv, Int.natCast_ediv] at h
  have p : (0 : Int) < c ∧ (c : Int) < 1073741824 := by omega
  exact ⟨trivial, trivial, p, trivial, trivial, p, h⟩
theorem t4_ok {L H k : Nat} (k1 : k ≤ 3) (h : E.nx (te S m s2 (.im (.int ((k : Nat) : Int))) s4 s5 s6 (.im (.int ((L * k : Nat) : Int))) (.im (.int ((H * k : Nat) : Int))) (.im (.int ((L : Nat) : Int))) (.im (.int ((H : Nat) : Int))) s11 s12 s13 s14 s15 s16 s17 s18 s19 s20 s21)) : t4 E (te S m s2 (.im (.int ((k : Nat) : Int))) s4 s5 s6 s7 s8 (.im (.int ((L : Nat) : Int))) (.im (.int ((H : Nat) : Int))) s11 s12 s13 s14 s15 s16 s17 s18 s19 s20 s21) := by
  rw [Int.natCast_mul, Int.natCast_mul] at h
  have p : -(2 ^ 64 : Int) < (k : Int) ∧ (k : Int) < 2 ^ 64 := by omega
  exact ⟨trivial, trivial, .inr p, trivial, trivial, .inr p, h⟩
theorem t6_ok {L H K : Nat} (o : Lo L H) (hL : L ≤ 60) (kp : Kp L H K) (h : E.nx (te S m s2 s3 s4 (.im (.int (K : Int))) s6 s7 s8 (.im (.int ((L : Nat) : Int))) (.im (.int ((H : Nat) : Int))) s11 s12 s13 s14 s15 s16 s17 s18 s19 s20 s21)) : t6 E (te S m s2 s3 s4 s5 s6 s7 s8 (.im (.int ((L : Nat) : Int))) (.im (.int ((H : Nat) : Int))) s11 s12 s13 s14 s15 s16 s17 s18 s19 s20 s21) := by
  have l1 := o.l
  have p : (0 : Int) < L ∧ (L : Int) < 1073741824 := by omega
  have e : (0 : Int) - (0 - (H : Int)) / (L : Int) = K := by
    rw [Int.zero_sub, Int.zero_sub]
    have k1 := kp.k1
    have lo := kp.lo
    have hi := kp.hi
    rw [Nat.mul_sub, Nat.mul_one] at lo
    have hz : L * 1 ≤ L * K := Nat.mul_le_mul_left _ k1
    have hc : ((L * K : Nat) : Int) = (L : Int) * K := Int.natCast_mul ..
    exact ron_is (r := .up) (n := H) (b := L) (t := K) p.1 ⟨by rw [← hc]; omega, by rw [← hc]; omega⟩
  rw [← e] at h
  exact ⟨trivial, trivial, p, h⟩
theorem bk_row {rc : SpD} {n d : Nat} {r s : Ro} {c : Bool} (hc : ∀ P : D → Nat → Prop, P (.bool c) 0 → rc [.d (chD (two n d r s))] 0 P) (h : E.nx (te S m s2 s3 s4 s5 s6 (.im (.int ((n : Nat) : Int))) (.im (.int ((d : Nat) : Int))) s9 s10 (.im (.str (rdS r))) (.im (.str (rdS s))) (.im (.bool c)) s14 s15 s16 s17 s18 s19 s20 s21)) : bkB rc E (te S m s2 s3 s4 s5 s6 (.im (.int ((n : Nat) : Int))) (.im (.int ((d : Nat) : Int))) s9 s10 (.im (.str (rdS r))) (.im (.str (rdS s))) (.im (.bool c)) s14 s15 s16 s17 s18 s19 s20 s21) := by
  refine ⟨(by show 3 ≤ 1000000; omega), (by show 3 ≤ 1000000; omega), (by show 2 ≤ 1000000; omega), rfl, rfl, hc _ ?_⟩
  refine ⟨trivial, ?_⟩
  show if (!decide ((if c = true then ("True" : Str) else "False") = (if c = true then ("True" : Str) else "False"))) = true then _ else _
  rw [decide_eq_true rfl]
  exact h
theorem bk_loop {rc : SpD} {n d L H : Nat} : ∀ (ps : List (Ro × Ro)) (s11 s12 s13 : Sl), (∀ p ∈ ps, ∀ P : D → Nat → Prop, P (.bool (Cond L H p.1 p.2)) 0 → rc [.d (chD (two n d p.1 p.2))] 0 P) → (∀ s11 s12 s13, E.nx (te S m s2 s3 s4 s5 s6 (.im (.int ((n : Nat) : Int))) (.im (.int ((d : Nat) : Int))) s9 s10 s11 s12 s13 s14 s15 s16 s17 s18 s19 s20 s21)) →
    forL (gTupT 3 (gConsT (gN 11) (gConsT (gN 12) (gConsT (gN 13) (gNoT))))) (bkB rc) E (ps.map fun p => backD L H p.1 p.2) (te S m s2 s3 s4 s5 s6 (.im (.int ((n : Nat) : Int))) (.im (.int ((d : Nat) : Int))) s9 s10 s11 s12 s13 s14 s15 s16 s17 s18 s19 s20 s21)
  | [], s11, s12, s13, hc, h => h s11 s12 s13
  | (r, s) :: ps, s11, s12, s13, hc, h => by
    refine ⟨rfl, rfl, ?_⟩
    show bkB rc _ (te S m s2 s3 s4 s5 s6 (.im (.int (n : Int))) (.im (.int (d : Int))) s9 s10 (.im (.str (rdS r))) (.im (.str (rdS s))) (.im (.bool (Cond L H r s))) s14 s15 s16 s17 s18 s19 s20 s21)
    have hc1 : ∀ P : D → Nat → Prop, P (.bool (Cond L H r s)) 0 → rc [.d (chD (two n d r s))] 0 P := hc (r, s) (List.mem_cons_self ..)
    have tl := bk_loop ps (.im (.str (rdS r))) (.im (.str (rdS s))) (.im (.bool (Cond L H r s))) (fun p hp => hc p (List.mem_cons_of_mem _ hp)) h
    exact bk_row hc1 tl
def prs : List (Ro × Ro) := [(.nr, .nr), (.dn, .up), (.up, .dn), (.dn, .dn), (.up, .up), (.dn, .nr), (.up, .nr)]
theorem backs_prs (L H : Nat) : backs L H = prs.map fun p => backD L H p.1 p.2 := rfl
theorem prs_ok : ∀ p ∈ prs, p.1 = .nr → p.2 = .nr := by
  intro p hp
  have : p = (.nr, .nr) ∨ p = (.dn, .up) ∨ p = (.up, .dn) ∨ p = (.dn, .dn) ∨ p = (.up, .up) ∨ p = (.dn, .nr) ∨ p = (.up, .nr) := by simpa [prs] using hp
  rcases this with rfl | rfl | rfl | rfl | rfl | rfl | rfl <;> intro z <;> first | rfl | cases z
theorem t5_ok {rb rc : SpD} {n d L H : Nat} (hb : ∀ P : D → Nat → Prop, P (.list (backs L H)) 0 → rb [.d (.int L), .d (.int H)] 0 P) (hc : ∀ p ∈ prs, ∀ P : D → Nat → Prop, P (.bool (Cond L H p.1 p.2)) 0 → rc [.d (chD (two n d p.1 p.2))] 0 P)
    (h : ∀ s11 s12 s13, E.nx (te S m s2 s3 s4 s5 s6 (.im (.int ((n : Nat) : Int))) (.im (.int ((d : Nat) : Int))) (.im (.int ((L : Nat) : Int))) (.im (.int ((H : Nat) : Int))) s11 s12 s13 s14 s15 s16 s17 s18 s19 s20 s21)) : t5 rb rc E (te S m s2 s3 s4 s5 s6 (.im (.int ((n : Nat) : Int))) (.im (.int ((d : Nat) : Int))) (.im (.int ((L : Nat) : Int))) (.im (.int ((H : Nat) : Int))) s11 s12 s13 s14 s15 s16 s17 s18 s19 s20 s21) := by
  refine ⟨rfl, rfl, hb _ ?_⟩
  show forL _ _ _ (backs L H) _
  rw [backs_prs]
  exact bk_loop prs _ _ _ hc h
theorem t7_ok {rk rp rs rm rf : SpD} {K k L H : Nat} (t : ∀ r, Tells rk rp rs rm rf K k L H r) (k1 : 1 ≤ K) (hK : K ≤ 20) (hH : H ≤ 60) (hm : m + 27 < 1029000)
    (h : ∀ (m' : Nat) (s6 s13 s14 s15 s16 s17 s18 s19 s20 s21 : Sl), m' ≤ m + 27 → E.nx (te S m' s2 s3 s4 (.im (.int (K : Int))) s6 (.im (.int ((L * k : Nat) : Int))) (.im (.int ((H * k : Nat) : Int))) (.im (.int ((L : Nat) : Int))) (.im (.int ((H : Nat) : Int))) s11 s12 s13 s14 s15 s16 s17 s18 s19 s20 s21)) : t7 rk rp rs rm rf E (te S m s2 s3 s4 (.im (.int (K : Int))) s6 (.im (.int ((L * k : Nat) : Int))) (.im (.int ((H * k : Nat) : Int))) (.im (.int ((L : Nat) : Int))) (.im (.int ((H : Nat) : Int))) s11 s12 s13 s14 s15 s16 s17 s18 s19 s20 s21) := by
  refine ⟨(by show 3 ≤ 1000000; omega), ?_⟩
  exact words_loop t k1 hK hH [.dn, .up, .nr] m _ _ _ _ _ _ _ _ _ _ hm h
end
end Q80
namespace Q80
open PySem L2 DL
def turnB (rd rb rc rk rp rs rm rf : SpD) : SM := sSeq t0 (sSeq t1 (sSeq (t2 rd) (sSeq t3 (sSeq t4 (sSeq (t5 rb rc) (sSeq t6 (t7 rk rp rs rm rf)))))))
structure Has (rd rb rc rk rp rs rm rf : SpD) : Prop where
  d : ∀ (a b : Nat) (P : D → Nat → Prop), P (.int ((Nat.gcd a b : Nat) : Int)) 0 → rd [.d (.int a), .d (.int b)] 0 P
  b : ∀ (L H : Nat) (P : D → Nat → Prop), P (.list (backs L H)) 0 → rb [.d (.int L), .d (.int H)] 0 P
  c : ∀ (L H k : Nat), Lo L H → 1 ≤ k → L * k ≤ 60 → H * k ≤ 60 → ∀ p ∈ prs, ∀ P : D → Nat → Prop, P (.bool (Cond L H p.1 p.2)) 0 → rc [.d (chD (two (L * k) (H * k) p.1 p.2))] 0 P
  t : ∀ (L H k K : Nat), Lo L H → 1 ≤ k → L * k ≤ 60 → H * k ≤ 60 → Kp L H K → ∀ r, Tells rk rp rs rm rf K k L H r
theorem has_all : Has r__law_divisor r__law_backs r_comes_back r_least_kept r_period r__law_short r_moved r_moved_file := by
  refine ⟨fun a b P h => d_divisor h, fun L H P h => d_backs h, fun L H k o hk hL hH p hp P h => ?_, fun L H k K o hk hL hH kp r => tells o hk hL hH kp⟩
  have l1 := o.l
  have h1 := o.h
  have aL : L * 1 ≤ L * k := Nat.mul_le_mul_left _ hk
  have aH : H * 1 ≤ H * k := Nat.mul_le_mul_left _ hk
  exact d_back o hk (prs_ok p hp) (gc_two (by omega) hL (by omega) hH) h
theorem lo_of {a b : Nat} (a1 : 1 ≤ a) (a2 : a ≤ 20) (b1 : 1 ≤ b) (b2 : b ≤ 20) : Lo (a / Nat.gcd a b) (b / Nat.gcd a b) ∧ 1 ≤ Nat.gcd a b ∧ Nat.gcd a b ≤ 20 ∧ a / Nat.gcd a b ≤ 20 ∧ b / Nat.gcd a b ≤ 20 := by
  have g : 0 < Nat.gcd a b := Nat.gcd_pos_of_pos_left _ a1
  have ga : Nat.gcd a b ≤ a := Nat.le_of_dvd a1 (Nat.gcd_dvd_left a b)
  have gb : Nat.gcd a b ≤ b := Nat.le_of_dvd b1 (Nat.gcd_dvd_right a b)
  refine ⟨⟨Nat.div_pos ga g, Nat.div_pos gb g, Nat.coprime_div_gcd_div_gcd g⟩, g, by omega, Nat.le_trans (Nat.div_le_self _ _) a2, Nat.le_trans (Nat.div_le_self _ _) b2⟩
theorem kp_of {L H : Nat} (o : Lo L H) (hH : H ≤ 20) : ∃ K, Kp L H K ∧ K ≤ 20 := by
  have l1 := o.l
  have h1 := o.h
  have e := Nat.div_add_mod (H + L - 1) L
  have r := Nat.mod_lt (H + L - 1) l1
  generalize hK : (H + L - 1) / L = K at e
  have k1 : 1 ≤ K := by
    rw [← hK]
    exact Nat.div_pos (by omega) l1
  have hz : L * 1 ≤ L * K := Nat.mul_le_mul_left _ k1
  have lo : L * (K - 1) < H := by
    rw [Nat.mul_sub, Nat.mul_one]
    omega
  have a : 1 * (K - 1) ≤ L * (K - 1) := Nat.mul_le_mul_right _ l1
  exact ⟨K, ⟨k1, lo, by omega⟩, by omega⟩
theorem turn_ok {rd rb rc rk rp rs rm rf : SpD} (hs : Has rd rb rc rk rp rs rm rf) {S : D} {m : Nat} {s2 s3 s4 s5 s6 s7 s8 s9 s10 s11 s12 s13 s14 s15 s16 s17 s18 s19 s20 s21 : Sl} {E : DE} (hm : m + 40 < 1029000) (h : ∀ m' s3 s4 s5 s6 s7 s8 s9 s10 s11 s12 s13 s14 s15 s16 s17 s18 s19 s20 s21, m' ≤ m + 40 → E.nx (te S m' s2 s3 s4 s5 s6 s7 s8 s9 s10 s11 s12 s13 s14 s15 s16 s17 s18 s19 s20 s21)) :
    turnB rd rb rc rk rp rs rm rf E (te S m s2 s3 s4 s5 s6 s7 s8 s9 s10 s11 s12 s13 s14 s15 s16 s17 s18 s19 s20 s21) := by
  refine seqAny (t0_ok (by omega) fun k k1 k3 => ?_)
  refine seqAny (t1_ok (by omega) fun a b a1 a2 b1 b2 => ?_)
  obtain ⟨o, g1, g2, l20, h20⟩ := lo_of a1 a2 b1 b2
  refine seqAny (t2_ok (hs.d a b) ?_)
  refine seqAny (t3_ok g1 g2 ?_)
  generalize a / Nat.gcd a b = L at o l20 ⊢
  generalize b / Nat.gcd a b = H at o h20 ⊢
  have hL : L * k ≤ 60 := Nat.mul_le_mul l20 k3
  have hH : H * k ≤ 60 := Nat.mul_le_mul h20 k3
  obtain ⟨K, kp, k20⟩ := kp_of o h20
  refine seqAny (t4_ok k3 ?_)
  refine seqAny (t5_ok (hs.b L H) (hs.c L H k o k1 hL hH) fun s11 s12 s13 => ?_)
  have L60 : L ≤ 60 := by omega
  have H60 : H ≤ 60 := by omega
  refine seqAny (t6_ok o L60 kp ?_)
  have m1 : m + 1 + 1 + 1 + 27 < 1029000 := by omega
  refine t7_ok (hs.t L H k K o k1 hL hH kp) kp.k1 k20 H60 m1 fun m' s6 s13 s14 s15 s16 s17 s18 s19 s20 s21 hm' => ?_
  have m2 : m' ≤ m + 40 := by omega
  exact h _ _ _ _ _ _ _ _ _ _ _ _ _ _ _ _ _ _ _ _ m2
theorem law_loop {rd rb rc rk rp rs rm rf : SpD} (hs : Has rd rb rc rk rp rs rm rf) {S : D} {E : DE} : ∀ (ds : List D) (m : Nat) (s2 s3 s4 s5 s6 s7 s8 s9 s10 s11 s12 s13 s14 s15 s16 s17 s18 s19 s20 s21 : Sl), m + 40 * ds.length + 40 < 1029000 →
    (∀ m' s2 s3 s4 s5 s6 s7 s8 s9 s10 s11 s12 s13 s14 s15 s16 s17 s18 s19 s20 s21, E.nx (te S m' s2 s3 s4 s5 s6 s7 s8 s9 s10 s11 s12 s13 s14 s15 s16 s17 s18 s19 s20 s21)) →
    forL (gN 2) (turnB rd rb rc rk rp rs rm rf) E ds (te S m s2 s3 s4 s5 s6 s7 s8 s9 s10 s11 s12 s13 s14 s15 s16 s17 s18 s19 s20 s21)
  | [], m, s2, s3, s4, s5, s6, s7, s8, s9, s10, s11, s12, s13, s14, s15, s16, s17, s18, s19, s20, s21, hm, h => h m s2 s3 s4 s5 s6 s7 s8 s9 s10 s11 s12 s13 s14 s15 s16 s17 s18 s19 s20 s21
  | d :: ds, m, s2, s3, s4, s5, s6, s7, s8, s9, s10, s11, s12, s13, s14, s15, s16, s17, s18, s19, s20, s21, hm, h => by
    rw [List.length_cons] at hm
    refine turn_ok (E := ⟨forL (gN 2) (turnB rd rb rc rk rp rs rm rf) E ds, E.rt, E.nx, forL (gN 2) (turnB rd rb rc rk rp rs rm rf) E ds⟩) hs (by omega) fun m' s3 s4 s5 s6 s7 s8 s9 s10 s11 s12 s13 s14 s15 s16 s17 s18 s19 s20 s21 hm' => ?_
    exact law_loop hs ds m' _ _ _ _ _ _ _ _ _ _ _ _ _ _ _ _ _ _ _ _ (by omega) h
theorem law_says : ∀ ns : List Int, ns.length ≤ 63 → lawSays ns := by
  intro ns hl
  have e : ((ns.map PyData.int).length : Int) = ns.length := by rw [List.length_map]
  refine ⟨trivial, ?_⟩
  show (_ ∧ _) ∧ forL _ _ _ (rgD 0 (2 + min 4 ((ns.map PyData.int).length : Int))) _
  rw [e]
  refine ⟨⟨by omega, by omega⟩, ?_⟩
  have el : (rgD 0 (2 + min 4 (ns.length : Int))).length = (2 + min 4 (ns.length : Int)).toNat := by simp [rgD]
  refine law_loop (S := .list (ns.map PyData.int)) has_all _ 0 _ _ _ _ _ _ _ _ _ _ _ _ _ _ _ _ _ _ _ _ (by omega) ?_
  intro m' s2 s3 s4 s5 s6 s7 s8 s9 s10 s11 s12 s13 s14 s15 s16 s17 s18 s19 s20 s21
  exact rfl
end Q80
open PySem PyProof.Rows PySem.W in
set_option maxRecDepth 100100 in
set_option maxHeartbeats 0 in
theorem PySem.Challenge.cw_captionhouse_k80_whole_rates_there_and_b_holds : PySem.Challenge.rw_captionhouse_k80_whole_rates_there_and_b.Holds := by
  w_on
  o_law
  refine HandSHeadRun.head_any (r := Q80.hdR) (q := Q80.hdQ) (H := Q80.hdH) (ob := fun s => Q80.hdA.map (HandSHeadRun.getT s)) (M := 20000) (loose := Q80.hdN) (kwd := []) (fun s => congrArg (fun g => Q80.hdA.map g) (funext fun b => HandSHeadRun.getT_eq s b)) (by kernel_rfl) (fun s => by kernel_rfl) Q80.hdRun (by rfl) (by rfl) (by rfl) (by rfl) (by first | assumption | decide +kernel) (by decide +kernel) ⟨rfl, rfl, rfl, rfl, rfl, by decide +kernel⟩ ?hw ?hc
  (case hw => w_witness2)
  k_fill
  refine DL.walkG (l := PySem.Challenge.rw_captionhouse_k80_whole_rates_there_and_b) (n := 63) (k := 8) (x := "_law_script") (sp := fun w => Q80.spLawG (_)) rfl (by decide) rfl ⟨rfl, by decide, by decide⟩ (fun w h Y => PySem.W.kIn_of Y) ?F (fun w H a ns hl sq => ⟨a, ns, rfl, sq, hl, fun _ => rfl⟩)
  case F =>
    intro w gl fa h KX G hgl
    refine' Q80.all_mk KX G hgl ?a0 ?l0 ?c0 ?k0 ?a1 ?l1 ?c1 ?k1 ?a2 ?l2 ?c2 ?k2 ?a3 ?l3 ?c3 ?k3 ?a4 ?l4 ?c4 ?k4 ?a5 ?l5 ?c5 ?k5 ?a6 ?l6 ?c6 ?k6 ?a7 ?l7 ?c7 ?k7 ?a8 ?l8 ?c8 ?k8 ?a9 ?l9 ?c9 ?k9 ?a10 ?l10 ?c10 ?k10 ?a11 ?l11 ?c11 ?k11 ?a12 ?l12 ?c12 ?k12 ?a13 ?l13 ?c13 ?k13 ?a14 ?l14 ?c14 ?k14 ?a15 ?l15 ?c15 ?k15 ?a16 ?l16 ?c16 ?k16 ?a17 ?l17 ?c17 ?k17 ?a18 ?l18 ?c18 ?k18 ?a19 ?l19 ?c19 ?k19 ?a20 ?l20 ?c20 ?k20 ?a21 ?l21 ?c21 ?k21 ?a22 ?l22 ?c22 ?k22 ?a23 ?l23 ?c23 ?k23 ?a24 ?l24 ?c24 ?k24 ?a25 ?l25 ?c25 ?k25 ?a26 ?l26 ?c26 ?k26 ?a27 ?l27 ?c27 ?k27 ?a28 ?l28 ?c28 ?k28 ?a29 ?l29 ?c29 ?k29 ?z_abs ?z_all ?z_any ?z_bool ?z_enumerate ?z_int ?z_isinstance ?z_len ?z_list ?z_max ?z_min ?z_ord ?z_range ?z_repr ?z_str ?z_tuple ?z_zip ?v_LOWEST_OF_LINES ?v_MOST_CUES ?v_MOST_FRAME ?v_MOST_LINES ?v_MOST_OF_STEP ?v_MOST_PRODUCT ?v_MOST_SIGNS ?v_MOST_STEPS ?v_PERCENT ?v_ROUNDINGS ?w_ROUNDINGS ?v_TILDE Q80.law_says
    (case a0 => k_is)
    (case l0 => k_is)
    (case c0 => k_is)
    (case k0 => k_is)
    (case a1 => k_is)
    (case l1 => k_is)
    (case c1 => k_is)
    (case k1 => k_is)
    (case a2 => k_is)
    (case l2 => k_is)
    (case c2 => k_is)
    (case k2 => k_is)
    (case a3 => k_is)
    (case l3 => k_is)
    (case c3 => k_is)
    (case k3 => k_is)
    (case a4 => k_is)
    (case l4 => k_is)
    (case c4 => k_is)
    (case k4 => k_is)
    (case a5 => k_is)
    (case l5 => k_is)
    (case c5 => k_is)
    (case k5 => k_is)
    (case a6 => k_is)
    (case l6 => k_is)
    (case c6 => k_is)
    (case k6 => k_is)
    (case a7 => k_is)
    (case l7 => k_is)
    (case c7 => k_is)
    (case k7 => k_is)
    (case a8 => k_is)
    (case l8 => k_is)
    (case c8 => k_is)
    (case k8 => k_is)
    (case a9 => k_is)
    (case l9 => k_is)
    (case c9 => k_is)
    (case k9 => k_is)
    (case a10 => k_is)
    (case l10 => k_is)
    (case c10 => k_is)
    (case k10 => k_is)
    (case a11 => k_is)
    (case l11 => k_is)
    (case c11 => k_is)
    (case k11 => k_is)
    (case a12 => k_is)
    (case l12 => k_is)
    (case c12 => k_is)
    (case k12 => k_is)
    (case a13 => k_is)
    (case l13 => k_is)
    (case c13 => k_is)
    (case k13 => k_is)
    (case a14 => k_is)
    (case l14 => k_is)
    (case c14 => k_is)
    (case k14 => k_is)
    (case a15 => k_is)
    (case l15 => k_is)
    (case c15 => k_is)
    (case k15 => k_is)
    (case a16 => k_is)
    (case l16 => k_is)
    (case c16 => k_is)
    (case k16 => k_is)
    (case a17 => k_is)
    (case l17 => k_is)
    (case c17 => k_is)
    (case k17 => k_is)
    (case a18 => k_is)
    (case l18 => k_is)
    (case c18 => k_is)
    (case k18 => k_is)
    (case a19 => k_is)
    (case l19 => k_is)
    (case c19 => k_is)
    (case k19 => k_is)
    (case a20 => k_is)
    (case l20 => k_is)
    (case c20 => k_is)
    (case k20 => k_is)
    (case a21 => k_is)
    (case l21 => k_is)
    (case c21 => k_is)
    (case k21 => k_is)
    (case a22 => k_is)
    (case l22 => k_is)
    (case c22 => k_is)
    (case k22 => k_is)
    (case a23 => k_is)
    (case l23 => k_is)
    (case c23 => k_is)
    (case k23 => k_is)
    (case a24 => k_is)
    (case l24 => k_is)
    (case c24 => k_is)
    (case k24 => k_is)
    (case a25 => k_is)
    (case l25 => k_is)
    (case c25 => k_is)
    (case k25 => k_is)
    (case a26 => k_is)
    (case l26 => k_is)
    (case c26 => k_is)
    (case k26 => k_is)
    (case a27 => k_is)
    (case l27 => k_is)
    (case c27 => k_is)
    (case k27 => k_is)
    (case a28 => k_is)
    (case l28 => k_is)
    (case c28 => k_is)
    (case k28 => k_is)
    (case a29 => k_is)
    (case l29 => k_is)
    (case c29 => k_is)
    (case k29 => k_is)
    (case z_abs => k_is)
    (case z_all => k_is)
    (case z_any => k_is)
    (case z_bool => k_is)
    (case z_enumerate => k_is)
    (case z_int => k_is)
    (case z_isinstance => k_is)
    (case z_len => k_is)
    (case z_list => k_is)
    (case z_max => k_is)
    (case z_min => k_is)
    (case z_ord => k_is)
    (case z_range => k_is)
    (case z_repr => k_is)
    (case z_str => k_is)
    (case z_tuple => k_is)
    (case z_zip => k_is)
    (case v_LOWEST_OF_LINES => k_is)
    (case v_MOST_CUES => k_is)
    (case v_MOST_FRAME => k_is)
    (case v_MOST_LINES => k_is)
    (case v_MOST_OF_STEP => k_is)
    (case v_MOST_PRODUCT => k_is)
    (case v_MOST_SIGNS => k_is)
    (case v_MOST_STEPS => k_is)
    (case v_PERCENT => k_is)
    (case v_ROUNDINGS => k_is)
    (case w_ROUNDINGS => k_is)
    (case v_TILDE => k_is)

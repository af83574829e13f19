import PyProof.Rows.All
import Wide.All
import OpenK.AllK
import Wide.FinOn
import HandS.ForMost
import HandS.Flow
import HandS.IsInst
import HandS.Walk
import HandS.Zip
import HandS.Conv
import HandS.Wide
import HandS.TupAny
import HandS.Style
import HandS.SortInts
import KE.GoesMore
import HandS.Deep
import HandS.Text
import HandS.Strs
import HandS.SetBool
import HandS.Comp
import HandS.Gcd
import KE.DataMinMax
import KE.KTupSum
import KE.KMathGC
import HandS.EndBits
import HandS.ExcInit
import HandS.TryOnly
import HandS.WordsExc
import KE.GoesEnum
import HandS.ExcField
import HandS.StrMore
import HandS.TupMul
import HandS.Star
import HandS.Defaults
import PyProof.TupleOfStr
import HandS.FStr
import HandS.TryMany
import KE.KDictKeyed
import PyProof.ListStr
import KE.KDictZip
import KE.GoesZip
import HandS.ListItems
import PyProof.Rows.SetFrom
import HandS.SetKeys
import HandS.DictComp
import HandS.NoneIn
import HandS.Dict
import HandS.Flt
import KE.SortData
import HandS.TupSets
import HandS.Head0
import HandS.Head1
import HandS.Head2
import KE.KStateDown
import PySem.Challenge.RW_captionhouse_k84_whole_cues_put_off
set_option Elab.async false
set_option linter.all false
set_option maxRecDepth 100000
set_option maxHeartbeats 3900000
namespace Q84
open PySem.Calls PySem PyProof.Rows PySem.W
abbrev hdR : OpenRow := OpenLaw.row PySem.Challenge.rw_captionhouse_k84_whole_cues_put_off
def hdQ : Program := view hdR.prog [41]
def hdN0 : List PySem.Str := [Str.ofString "MOST_SIGNS", Str.ofString "TILDE", Str.ofString "PERCENT", Str.ofString "is_integer", Str.ofString "is_within", Str.ofString "is_tuple", Str.ofString "is_sign", Str.ofString "has_signs", Str.ofString "BadSize", Str.ofString "BadCues", Str.ofString "MOST_ROWS", Str.ofString "MOST_COLUMNS", Str.ofString "need_screen", Str.ofString "MOST_LINES", Str.ofString "LOWEST_OF_LINES", Str.ofString "is_text", Str.ofString "_is_line", Str.ofString "MOST_SENDABLE", Str.ofString "LAST_FRAME", Str.ofString "send_paper", Str.ofString "put_off", Str.ofString "_need_cues", Str.ofString "_is_sendable", Str.ofString "_has_room", Str.ofString "_load_of", Str.ofString "_free_frames", Str.ofString "_first_short", Str.ofString "_stream_of", Str.ofString "_law_mix", Str.ofString "_law_begun", Str.ofString "_law_draw", Str.ofString "_law_cues", Str.ofString "_law_load", Str.ofString "_law_room", Str.ofString "_law_put_off"]
def hdN : List PySem.Str := hdN0
section
local macro_rules
  | `(tactic| o_head $t:term) => `(tactic| (have hk := $t; assumption))
set_option maxRecDepth 100001 in
set_option maxHeartbeats 0 in
theorem hd0 (h : hdR.Holds) : hdR.Holds := by k_head
end
def hdP : Params := by constructor <;> exact default
noncomputable def hdA : List Addr := (hd0.heap_1 hdP).map (·.1)
theorem hdE : ∀ P, hdA = (hd0.heap_1 P).map (·.1) := fun _ => by kernel_rfl
noncomputable abbrev hdH : Hook := kHook hd0.heap_1 hdA hdE
set_option maxRecDepth 100001 in
set_option maxHeartbeats 0 in
theorem hdRun (w : World) : HandSHeadRun.RunEq hdR hdQ hdH (fun s => hdA.map (HandSHeadRun.getT s)) 20000 hdN w := by
  intro os
  kernel_rfl
end Q84
namespace DL
open PySem L2
abbrev D := PyData
def KD : Key → D
  | .inl i => .int i
  | .inr x => .str x
mutual
/-- the value v is the datum d, in what stands at H -/
inductive At (K : PySem.W.Frag) (H : Hp) : V → D → Prop
  | non : At K H .non .none
  | bl (b : Bool) : At K H (.bl b) (.bool b)
  | int (i : Int) : At K H (.int i) (.int i)
  | str (x : Str) : At K H (.str x) (.str x)
  | lst {a : Addr} {xs : List V} {ds : List D} : SqL K H a xs → AtAll K H xs ds → At K H (.ref a) (.list ds)
  | tup {a : Addr} {xs : List V} {ds : List D} : SqT K H a xs → AtAll K H xs ds → At K H (.ref a) (.tuple ds)
  | dk {a : Addr} {ks : List Key} {xs : List V} {ds : List D} : Rd H a (.dK (ks.zip xs)) → ks ≠ [] → ks.length = xs.length → AtAll K H xs ds → At K H (.ref a) (.dict ((ks.map KD).zip ds))
  | dt {a : Addr} {ks : List (List Key)} {xs : List V} {ds : List D} : H a = some (.dT (ks.zip xs)) → ks.length = xs.length → AtAll K H xs ds → At K H (.ref a) (.dict ((ks.map fun k => PyData.tuple (k.map KD)).zip ds))
inductive AtAll (K : PySem.W.Frag) (H : Hp) : List V → List D → Prop
  | nil : AtAll K H [] []
  | cons {v : V} {vs : List V} {d : D} {ds : List D} : At K H v d → AtAll K H vs ds → AtAll K H (v :: vs) (d :: ds)
end
def Ex (G G' : Hp) : Prop := ∀ a o, G a = some o → G' a = some o
theorem Ex.refl (G : Hp) : Ex G G := fun _ _ h => h
theorem Ex.trans {G G1 G2 : Hp} (a : Ex G G1) (b : Ex G1 G2) : Ex G G2 := fun x o h => b x o (a x o h)
theorem Ex.new {G : Hp} {p : Addr} {o : HO} (h : G p = none) : Ex G (upd G p o) := fun a u e => by
  rw [upd_ne (ne_of_none e h)]
  exact e
theorem Ex.rd {H H' : Hp} {a : Addr} {u : HO} (e : Ex H H') (h : Rd H a u) : Rd H' a u := by
  rcases h with h | ⟨o, h⟩
  · exact Or.inl (e a _ h)
  · exact Or.inr ⟨o, e a _ h⟩
theorem Ex.sl {K : PySem.W.Frag} {H H' : Hp} {a : Addr} {xs : List V} (e : Ex H H') (h : SqL K H a xs) : SqL K H' a xs := by
  rcases h with h | h
  · exact Or.inl (e.rd h)
  · exact Or.inr h
theorem Ex.st {K : PySem.W.Frag} {H H' : Hp} {a : Addr} {xs : List V} (e : Ex H H') (h : SqT K H a xs) : SqT K H' a xs := by
  rcases h with h | h
  · exact Or.inl (e.rd h)
  · exact Or.inr h
theorem At.mono {K : PySem.W.Frag} {H H' : Hp} (e : Ex H H') {v : V} {d : D} (h : At K H v d) : At K H' v d := by
  refine At.rec (motive_1 := fun v d _ => At K H' v d) (motive_2 := fun vs ds _ => AtAll K H' vs ds) ?_ ?_ ?_ ?_ ?_ ?_ ?_ ?_ ?_ ?_ h
  · exact .non
  · exact fun b => .bl b
  · exact fun i => .int i
  · exact fun x => .str x
  · exact fun s _ i => .lst (e.sl s) i
  · exact fun s _ i => .tup (e.st s) i
  · exact fun s n l _ i => .dk (e.rd s) n l i
  · exact fun s l _ i => .dt (e _ _ s) l i
  · exact .nil
  · exact fun _ _ i j => .cons i j
theorem AtAll.mono {K : PySem.W.Frag} {H H' : Hp} (e : Ex H H') : ∀ {vs : List V} {ds : List D}, AtAll K H vs ds → AtAll K H' vs ds
  | _, _, .nil => .nil
  | _, _, .cons h t => .cons (h.mono e) (AtAll.mono e t)
section
variable {K : PySem.W.Frag} {H : Hp}
theorem AtAll.length : ∀ {vs : List V} {ds : List D}, AtAll K H vs ds → vs.length = ds.length
  | _, _, .nil => rfl
  | _, _, .cons _ t => congrArg (· + 1) t.length
theorem AtAll.append : ∀ {vs ws : List V} {ds es : List D}, AtAll K H vs ds → AtAll K H ws es → AtAll K H (vs ++ ws) (ds ++ es)
  | _, _, _, _, .nil, s => s
  | _, _, _, _, .cons r t, s => .cons r (t.append s)
theorem AtAll.take : ∀ {vs : List V} {ds : List D} (n : Nat), AtAll K H vs ds → AtAll K H (vs.take n) (ds.take n)
  | _, _, 0, _ => by simpa using AtAll.nil
  | _, _, _ + 1, .nil => .nil
  | _, _, n + 1, .cons r t => .cons r (t.take n)
theorem AtAll.drop : ∀ {vs : List V} {ds : List D} (n : Nat), AtAll K H vs ds → AtAll K H (vs.drop n) (ds.drop n)
  | _, _, 0, r => r
  | _, _, _ + 1, .nil => .nil
  | _, _, n + 1, .cons _ t => t.drop n
theorem AtAll.get : ∀ {vs : List V} {ds : List D} {i : Nat} {d : D}, AtAll K H vs ds → ds[i]? = some d → ∃ v, vs[i]? = some v ∧ At K H v d
  | _, _, _, _, .nil, e => (by simp at e)
  | _, _, 0, _, .cons r _, e => (by simp at e; subst e; exact ⟨_, rfl, r⟩)
  | _, _, i + 1, d, .cons _ t, e => by
    obtain ⟨v, h1, h2⟩ := t.get (i := i) (d := d) (by simpa using e)
    exact ⟨v, by simpa using h1, h2⟩
theorem AtAll.set {x : V} {d : D} (r : At K H x d) : ∀ {vs : List V} {ds : List D} (i : Nat), AtAll K H vs ds → AtAll K H (vs.set i x) (ds.set i d)
  | _, _, _, .nil => .nil
  | _, _, 0, .cons _ t => (.cons r t)
  | _, _, i + 1, .cons q t => .cons q (AtAll.set r i t)
theorem AtAll.dropLast {vs : List V} {ds : List D} (h : AtAll K H vs ds) : AtAll K H vs.dropLast ds.dropLast := by
  rw [List.dropLast_eq_take, List.dropLast_eq_take, h.length]
  exact h.take _
theorem AtAll.ints : ∀ {vs : List V} {ns : List Int}, AtAll K H vs (ns.map PyData.int) → vs = ns.map V.int
  | _, [], .nil => rfl
  | _, n :: ns, .cons r t => by cases r; rw [t.ints]; rfl
theorem AtAll.bools : ∀ {vs : List V} {ns : List Bool}, AtAll K H vs (ns.map PyData.bool) → vs = ns.map V.bl
  | _, [], .nil => rfl
  | _, n :: ns, .cons r t => by cases r; rw [t.bools]; rfl
theorem AtAll.strs : ∀ {vs : List V} {ns : List Str}, AtAll K H vs (ns.map PyData.str) → vs = ns.map V.str
  | _, [], .nil => rfl
  | _, n :: ns, .cons r t => by cases r; rw [t.strs]; rfl
theorem AtAll.ofInts : ∀ (ns : List Int), AtAll K H (ns.map V.int) (ns.map PyData.int)
  | [] => .nil
  | n :: ns => .cons (.int n) (AtAll.ofInts ns)
end
mutual
def nod : D → Bool
  | .list xs => nodAll xs
  | .tuple xs => nodAll xs
  | .dict _ => false
  | _ => true
def nodAll : List D → Bool
  | [] => true
  | x :: xs => nod x && nodAll xs
end
theorem At.dp {K : PySem.W.Frag} {H : Hp} {v : V} {d : D} (h : At K H v d) : nod d = true → Dp K H v d := by
  refine At.rec (motive_1 := fun v d _ => nod d = true → Dp K H v d) (motive_2 := fun vs ds _ => nodAll ds = true → DpAll K H vs ds) ?_ ?_ ?_ ?_ ?_ ?_ ?_ ?_ ?_ ?_ h
  · exact fun _ => .non
  · exact fun b _ => .bl b
  · exact fun i _ => .int i
  · exact fun x _ => .str x
  · exact fun s _ i e => .lst s (i (by simpa [nod] using e))
  · exact fun s _ i e => .tup s (i (by simpa [nod] using e))
  · exact fun _ _ _ _ _ e => by simp [nod] at e
  · exact fun _ _ _ _ e => by simp [nod] at e
  · exact fun _ => .nil
  · exact fun _ _ i j e => by
      simp only [nodAll, Bool.and_eq_true] at e
      exact .cons (i e.1) (j e.2)
end DL
namespace DL
open PySem L2
def Foot : Option Addr → Hp → Addr → Prop
  | none, _, _ => False
  | some q, H, a => a = q ∨ ∃ kvs k, H q = some (.dK kvs) ∧ (k, V.ref a) ∈ kvs
theorem Foot.eqv {p : Option Addr} {H H' : Hp} (h : ∀ q, p = some q → H' q = H q) (a : Addr) : Foot p H' a ↔ Foot p H a := by
  cases p with
  | none => exact Iff.rfl
  | some q =>
    have e := h q rfl
    show (a = q ∨ ∃ kvs k, H' q = some (.dK kvs) ∧ (k, V.ref a) ∈ kvs) ↔ (a = q ∨ ∃ kvs k, H q = some (.dK kvs) ∧ (k, V.ref a) ∈ kvs)
    rw [e]
structure Orc where
  I : Addr → Hp → Prop
  cnt : Addr → Hp → Nat
  al : ∀ q H a, I q H → Foot (some q) H a → H a ≠ none
  st : ∀ q H H', I q H → (∀ a, Foot (some q) H a → H' a = H a) → I q H'
  sc : ∀ q H H', I q H → (∀ a, Foot (some q) H a → H' a = H a) → cnt q H' = cnt q H
/-- no source of numbers -/
def Orc.nil : Orc := ⟨fun _ _ => False, fun _ _ => 0, fun _ _ _ h => h.elim, fun _ _ _ h => h.elim, fun _ _ _ h => h.elim⟩
/-- from F0 (known to stay) and H0 (all) to F and H -/
structure World (R : Orc) (p : Option Addr) (F0 H0 F H : Hp) : Prop where
  ff : Ex F0 F
  fh : Ex F H
  kp : ∀ a o, H0 a = some o → ¬ Foot p H0 a → H a = some o ∧ ¬ Foot p H a
  dom : ∀ a, H0 a ≠ none → H a ≠ none
  fn : ∀ a, H0 a ≠ none → F0 a = none → F a = none
  ft : ∀ a, F a ≠ none → ¬ Foot p H a
  or : ∀ q, p = some q → R.I q H
theorem World.start {R : Orc} {p : Option Addr} {F H : Hp} (fh : Ex F H) (ft : ∀ a, F a ≠ none → ¬ Foot p H a) (or : ∀ q, p = some q → R.I q H) : World R p F H F H :=
  ⟨Ex.refl F, fh, fun _ _ h f => ⟨h, f⟩, fun _ h => h, fun _ _ h => h, ft, or⟩
theorem World.here {R : Orc} {p : Option Addr} {F0 H0 F H : Hp} (w : World R p F0 H0 F H) : World R p F H F H := World.start w.fh w.ft w.or
theorem World.trans {R : Orc} {p : Option Addr} {F0 H0 F H F' H' : Hp} (w : World R p F0 H0 F H) (v : World R p F H F' H') : World R p F0 H0 F' H' := by
  refine ⟨w.ff.trans v.ff, v.fh, fun a o h f => ?_, fun a h => v.dom a (w.dom a h), fun a h f => v.fn a (w.dom a h) (w.fn a h f), v.ft, v.or⟩
  obtain ⟨h1, f1⟩ := w.kp a o h f
  exact v.kp a o h1 f1
theorem World.ofNone {R : Orc} {p : Option Addr} {F0 H0 F H F' H' : Hp} (w : World R p F0 H0 F H) (v : World R none F H F' H') : World R p F H F' H' := by
  have all : ∀ a, H a ≠ none → H' a = H a := fun a h => by
    cases e : H a with
    | none => exact absurd e h
    | some o => exact (v.kp a o e (fun z => z)).1
  have al : ∀ a, Foot p H a → H a ≠ none := fun a h => by
    cases p with
    | none => exact h.elim
    | some q => exact R.al q H a (w.or q rfl) h
  have hq : ∀ q, p = some q → H' q = H q := fun q e => all q (al q (by subst e; exact .inl rfl))
  have ff : ∀ a, Foot p H' a ↔ Foot p H a := Foot.eqv hq
  refine ⟨v.ff, v.fh, fun a o h f => ⟨(v.kp a o h (fun z => z)).1, fun z => f ((ff a).mp z)⟩, v.dom, v.fn, fun a h z => ?_, fun q e => ?_⟩
  · have z' := (ff a).mp z
    cases e : F a with
    | some o => exact w.ft a (by rw [e]; exact Option.some_ne_none o) z'
    | none => exact h (v.fn a (al a z') e)
  · subst e
    exact R.st q H H' (w.or q rfl) fun a h => all a (al a h)
theorem World.foot_al {R : Orc} {p : Option Addr} {F0 H0 F H : Hp} (w : World R p F0 H0 F H) {a : Addr} (h : Foot p H a) : H a ≠ none := by
  cases p with
  | none => exact h.elim
  | some q => exact R.al q H a (w.or q rfl) h
/-- a new object that is known from then on -/
theorem World.newF {R : Orc} {p : Option Addr} {F0 H0 F H : Hp} (w : World R p F0 H0 F H) {q : Addr} (o : HO) (hq : H q = none) : World R none F H (upd F q o) (upd H q o) := by
  refine ⟨?_, ?_, ?_, ?_, ?_, fun _ _ z => z, fun _ e => nomatch e⟩
  · intro a u e
    have : a ≠ q := fun z => by
      have := w.fh a u e
      rw [z, hq] at this
      cases this
    rw [upd_ne this]
    exact e
  · intro a u e
    by_cases h : a = q
    · subst h
      rw [upd_same] at e ⊢
      exact e
    · rw [upd_ne h] at e ⊢
      exact w.fh a u e
  · exact fun a u e _ => ⟨Ex.new hq a u e, fun z => z⟩
  · intro a h
    by_cases e : a = q
    · subst e
      exact absurd hq h
    · rw [upd_ne e]
      exact h
  · intro a h e
    by_cases z : a = q
    · subst z
      exact absurd hq h
    · rw [upd_ne z]
      exact e
/-- a new object that may change -/
theorem World.newO {R : Orc} {p : Option Addr} {F0 H0 F H : Hp} (w : World R p F0 H0 F H) {q : Addr} (o : HO) (hq : H q = none) : World R none F H F (upd H q o) := by
  refine ⟨Ex.refl F, fun a u e => Ex.new hq a u (w.fh a u e), fun a u e _ => ⟨Ex.new hq a u e, fun z => z⟩, fun a h => ?_, fun _ _ e => e, fun _ _ z => z, fun _ e => nomatch e⟩
  by_cases e : a = q
  · subst e
    exact absurd hq h
  · rw [upd_ne e]
    exact h
inductive Sl where
  | no | im (d : D) | ow (d : D) | ora (n : Nat)
structure Cn where
  K : PySem.W.Frag
  R : Orc
  p : Option Addr
  F0 : Hp
  H0 : Hp
/-- an object on the side: a datum's, or just this one -/
inductive XO where
  | d (d : D) | o (o : HO)
instance : Coe D XO := ⟨XO.d⟩
abbrev XX := List (Addr × XO)
/-- a list or dict that nobody else holds -/
def OwnO (K : PySem.W.Frag) (F H : Hp) (a : Addr) : D → Prop
  | .list ds => ∃ vs, H a = some (.lst vs) ∧ AtAll K F vs ds
  | .dict kd => (∃ (ks : List Key) (vs : List V) (ds : List D), kd = (ks.map KD).zip ds ∧ ks ≠ [] ∧ ks.length = vs.length ∧ H a = some (.dK (ks.zip vs)) ∧ AtAll K F vs ds) ∨
      ∃ (ks : List (List Key)) (vs : List V) (ds : List D), kd = (ks.map fun k => PyData.tuple (k.map KD)).zip ds ∧ ks.length = vs.length ∧ H a = some (.dT (ks.zip vs)) ∧ AtAll K F vs ds
  | _ => False
def OwnO.mono {K : PySem.W.Frag} {F F' H H' : Hp} {a : Addr} (e : Ex F F') (h : H' a = H a) : ∀ {d : D}, OwnO K F H a d → OwnO K F' H' a d
  | .list ds, ⟨vs, h1, h2⟩ => ⟨vs, h.trans h1, h2.mono e⟩
  | .dict kd, .inl ⟨ks, vs, ds, h0, hn, hl, h1, h2⟩ => .inl ⟨ks, vs, ds, h0, hn, hl, h.trans h1, h2.mono e⟩
  | .dict kd, .inr ⟨ks, vs, ds, h0, hl, h1, h2⟩ => .inr ⟨ks, vs, ds, h0, hl, h.trans h1, h2.mono e⟩
theorem OwnO.at {K : PySem.W.Frag} {F H : Hp} {a : Addr} : ∀ {d : D}, OwnO K F H a d → ∃ o, H a = some o ∧ ∀ F', Ex F F' → F' a = some o → At K F' (.ref a) d
  | .list ds, ⟨vs, h1, h2⟩ => ⟨_, h1, fun F' e h => .lst (.inl (.inl h)) (h2.mono e)⟩
  | .dict kd, .inl ⟨ks, vs, ds, h0, hn, hl, h1, h2⟩ => ⟨_, h1, fun F' e h => by subst h0; exact .dk (.inl h) hn hl (h2.mono e)⟩
  | .dict kd, .inr ⟨ks, vs, ds, h0, hl, h1, h2⟩ => ⟨_, h1, fun F' e h => by subst h0; exact .dt h hl (h2.mono e)⟩
def OwnX (K : PySem.W.Frag) (F H : Hp) (a : Addr) : XO → Prop
  | .d d => OwnO K F H a d
  | .o o => H a = some o
theorem OwnX.mono {K : PySem.W.Frag} {F F' H H' : Hp} {a : Addr} (e : Ex F F') (h : H' a = H a) : ∀ {x : XO}, OwnX K F H a x → OwnX K F' H' a x
  | .d _, z => OwnO.mono e h z
  | .o _, z => h.trans z
theorem OwnX.some {K : PySem.W.Frag} {F H : Hp} {a : Addr} : ∀ {x : XO}, OwnX K F H a x → ∃ o, H a = some o
  | .d _, z => let ⟨o, h, _⟩ := OwnO.at z; ⟨o, h⟩
  | .o o, z => ⟨o, z⟩
theorem OwnX.at {K : PySem.W.Frag} {F H : Hp} {a : Addr} {d : D} (h : OwnX K F H a (.d d)) : ∃ o, H a = Option.some o ∧ ∀ F', Ex F F' → F' a = Option.some o → At K F' (.ref a) d := OwnO.at h
/-- as it stands at a, the address being younger than the entry -/
structure Own (c : Cn) (F H : Hp) (a : Addr) (d : XO) : Prop where
  o : OwnX c.K F H a d
  f : F a = none
  y : c.H0 a = none
  n : ¬ Foot c.p H a
structure Slots (c : Cn) (F H : Hp) (σ : L2.St) (ρ : List Sl) (xx : XX) : Prop where
  len : ρ.length = σ.length
  im : ∀ (i : Nat) (d : D), ρ[i]? = some (.im d) → ∃ v, σ[i]? = some (some v) ∧ At c.K F v d
  ow : ∀ (i : Nat) (d : D), ρ[i]? = some (.ow d) → ∃ a, σ[i]? = some (some (.ref a)) ∧ Own c F H a d
  dj : ∀ (i j : Nat) (d e : D) (a : Addr), ρ[i]? = some (.ow d) → ρ[j]? = some (.ow e) → σ[i]? = some (some (.ref a)) → σ[j]? = some (some (.ref a)) → i = j
  or : ∀ (i n : Nat), ρ[i]? = some (.ora n) → ∃ q, c.p = some q ∧ σ[i]? = some (some (.ref q)) ∧ c.R.cnt q H ≤ n
  ou : ∀ (i j m n : Nat), ρ[i]? = some (.ora m) → ρ[j]? = some (.ora n) → i = j
  ex : ∀ p ∈ xx, Own c F H p.1 p.2 ∧ ∀ (i : Nat) (e : D), ρ[i]? = some (.ow e) → σ[i]? ≠ some (some (.ref p.1))
  xd : (xx.map (·.1)).Nodup
structure Rel (c : Cn) (F H : Hp) (σ : L2.St) (ρ : List Sl) (xx : XX) : Prop where
  w : World c.R c.p c.F0 c.H0 F H
  s : Slots c F H σ ρ xx
theorem Own.step {c : Cn} {F H F' H' : Hp} {a : Addr} {d : XO} (h : Own c F H a d) (v : World c.R c.p F H F' H') : Own c F' H' a d := by
  obtain ⟨o, ho⟩ := h.o.some
  obtain ⟨h1, h2⟩ := v.kp a o ho h.n
  exact ⟨h.o.mono v.ff (h1.trans ho.symm), v.fn a (by rw [ho]; exact Option.some_ne_none o) h.f, h.y, h2⟩
theorem Slots.step {c : Cn} {F H F' H' : Hp} {σ : L2.St} {ρ : List Sl} {xx : XX} (s : Slots c F H σ ρ xx) (v : World c.R c.p F H F' H') (hq : ∀ q, c.p = some q → c.R.cnt q H' ≤ c.R.cnt q H) : Slots c F' H' σ ρ xx := by
  refine ⟨s.len, fun i d e => ?_, fun i d e => ?_, s.dj, fun i n e => ?_, s.ou, fun p hp => ⟨(s.ex p hp).1.step v, (s.ex p hp).2⟩, s.xd⟩
  · obtain ⟨u, h1, h2⟩ := s.im i d e
    exact ⟨u, h1, h2.mono v.ff⟩
  · obtain ⟨a, h1, h2⟩ := s.ow i d e
    exact ⟨a, h1, h2.step v⟩
  · obtain ⟨q, h1, h2, h3⟩ := s.or i n e
    exact ⟨q, h1, h2, Nat.le_trans (hq q h1) h3⟩
theorem Rel.step {c : Cn} {F H F' H' : Hp} {σ : L2.St} {ρ : List Sl} {xx : XX} (r : Rel c F H σ ρ xx) (v : World c.R c.p F H F' H') (hq : ∀ q, c.p = some q → c.R.cnt q H' ≤ c.R.cnt q H) : Rel c F' H' σ ρ xx := ⟨r.w.trans v, r.s.step v hq⟩
theorem Rel.stepN {c : Cn} {F H F' H' : Hp} {σ : L2.St} {ρ : List Sl} {xx : XX} (r : Rel c F H σ ρ xx) (v : World c.R none F H F' H') : Rel c F' H' σ ρ xx := r.step (r.w.ofNone v) fun q e => by
  refine Nat.le_of_eq (c.R.sc q H H' (r.w.or q e) fun a ha => ?_)
  have al := c.R.al q H a (r.w.or q e) ha
  cases z : H a with
  | none => exact absurd z al
  | some o => exact (v.kp a o z fun y => y).1
theorem ora_back {ρ : List Sl} {k : Nat} {x : Sl} (hx : ∀ m, x ≠ .ora m) {i m : Nat} (q : (ρ.set k x)[i]? = some (.ora m)) : ρ[i]? = some (.ora m) := by
  rw [List.getElem?_set] at q
  by_cases z : k = i
  · rw [if_pos z] at q
    split at q
    · exact absurd (Option.some.inj q) (hx m)
    · cases q
  · rw [if_neg z] at q
    exact q
theorem ou_set {ρ : List Sl} {k : Nat} {x : Sl} (hx : ∀ m, x ≠ .ora m) (h : ∀ (i j m n : Nat), ρ[i]? = some (.ora m) → ρ[j]? = some (.ora n) → i = j) : ∀ (i j m n : Nat), (ρ.set k x)[i]? = some (.ora m) → (ρ.set k x)[j]? = some (.ora n) → i = j :=
  fun i j m n a b => h i j m n (ora_back hx a) (ora_back hx b)
theorem Rel.apart {c : Cn} {F H : Hp} {σ : L2.St} {ρ : List Sl} {xx : XX} (r : Rel c F H σ ρ xx) {a : Addr} {o : HO} (n : ¬ Foot c.p H a) : ∀ (i n : Nat), ρ[i]? = some (.ora n) → ∃ q, c.p = some q ∧ σ[i]? = some (some (.ref q)) ∧ c.R.cnt q (upd H a o) ≤ n := by
  intro i m e
  obtain ⟨q, h1, h2, h3⟩ := r.s.or i m e
  refine ⟨q, h1, h2, ?_⟩
  rw [c.R.sc q H _ (r.w.or q h1) fun b hb => ?_]
  · exact h3
  · rw [upd_ne]
    intro z
    subst z
    exact n (by rw [h1]; exact hb)
/-- an own object becomes known -/
theorem Rel.freeze {c : Cn} {F H : Hp} {σ : L2.St} {ρ : List Sl} {xx : XX} (r : Rel c F H σ ρ xx) {i : Nat} {d : D} (e : ρ[i]? = some (.ow d)) :
    ∃ F' v, σ[i]? = some (some v) ∧ Ex F F' ∧ At c.K F' v d ∧ Rel c F' H σ (ρ.set i (.im d)) xx := by
  obtain ⟨a, h1, h2⟩ := r.s.ow i d e
  obtain ⟨o, ho, at_⟩ := h2.o.at
  have ef : Ex F (upd F a o) := Ex.new h2.f
  have hi : i < ρ.length := (List.getElem?_eq_some_iff.mp e).1
  refine ⟨upd F a o, .ref a, h1, ef, at_ _ ef upd_same, ⟨?_, ?_⟩⟩
  · refine ⟨r.w.ff.trans ef, fun b u q => ?_, r.w.kp, r.w.dom, fun b h f => ?_, fun b h => ?_, r.w.or⟩
    · by_cases z : b = a
      · subst z
        rw [upd_same] at q
        cases q
        exact ho
      · rw [upd_ne z] at q
        exact r.w.fh b u q
    · by_cases z : b = a
      · subst z
        exact absurd h2.y h
      · rw [upd_ne z]
        exact r.w.fn b h f
    · by_cases z : b = a
      · subst z
        exact h2.n
      · rw [upd_ne z] at h
        exact r.w.ft b h
  · refine ⟨by simpa using r.s.len, fun j x q => ?_, fun j x q => ?_, fun j k x y b q1 q2 s1 s2 => ?_, fun j n q => r.s.or j n (ora_back (by intro m z; cases z) q), ou_set (by intro m z; cases z) r.s.ou, fun p hp => ?_, r.s.xd⟩
    · rw [List.getElem?_set] at q
      by_cases z : i = j
      · subst z
        rw [if_pos rfl, if_pos hi] at q
        cases q
        exact ⟨.ref a, h1, at_ _ ef upd_same⟩
      · rw [if_neg z] at q
        obtain ⟨v, g1, g2⟩ := r.s.im j x q
        exact ⟨v, g1, g2.mono ef⟩
    · rw [List.getElem?_set] at q
      by_cases z : i = j
      · subst z
        rw [if_pos rfl, if_pos hi] at q
        cases q
      · rw [if_neg z] at q
        obtain ⟨b, g1, g2⟩ := r.s.ow j x q
        have hb : b ≠ a := fun zz => by
          subst zz
          exact z (r.s.dj i j d x b e q h1 g1)
        exact ⟨b, g1, ⟨g2.o.mono ef rfl, by rw [upd_ne hb]; exact g2.f, g2.y, g2.n⟩⟩
    · rw [List.getElem?_set] at q1 q2
      by_cases z : i = j
      · subst z
        rw [if_pos rfl, if_pos hi] at q1
        cases q1
      · rw [if_neg z] at q1
        by_cases z2 : i = k
        · subst z2
          rw [if_pos rfl, if_pos hi] at q2
          cases q2
        · rw [if_neg z2] at q2
          exact r.s.dj j k x y b q1 q2 s1 s2
    · obtain ⟨g2, gn⟩ := r.s.ex p hp
      have hb : p.1 ≠ a := fun zz => gn i d e (by rw [zz]; exact h1)
      refine ⟨⟨g2.o.mono ef rfl, by rw [upd_ne hb]; exact g2.f, g2.y, g2.n⟩, fun j x q => ?_⟩
      rw [List.getElem?_set] at q
      by_cases z : i = j
      · subst z
        rw [if_pos rfl, if_pos hi] at q
        cases q
      · rw [if_neg z] at q
        exact gn j x q
/-- an own object changes -/
theorem Rel.mut {c : Cn} {F H : Hp} {σ : L2.St} {ρ : List Sl} {xx : XX} (r : Rel c F H σ ρ xx) {i : Nat} {d d' : D} {a : Addr} {o : HO} (e : ρ[i]? = some (.ow d)) (h1 : σ[i]? = some (some (.ref a)))
    (hn : OwnO c.K F (upd H a o) a d') : Rel c F (upd H a o) σ (ρ.set i (.ow d')) xx := by
  obtain ⟨a', h1', h2⟩ := r.s.ow i d e
  rw [h1] at h1'
  cases h1'
  obtain ⟨o0, ho, _⟩ := h2.o.at
  have hi : i < ρ.length := (List.getElem?_eq_some_iff.mp e).1
  have hq : ∀ q, c.p = some q → upd H a o q = H q := fun q ep => by
    rw [upd_ne]
    intro z
    subst z
    exact h2.n (by rw [ep]; exact .inl rfl)
  have ff : ∀ b, Foot c.p (upd H a o) b ↔ Foot c.p H b := Foot.eqv hq
  refine ⟨⟨r.w.ff, fun b u q => ?_, fun b u q f => ?_, fun b h => ?_, r.w.fn, fun b h z => r.w.ft b h ((ff b).mp z), fun q ep => ?_⟩, ?_⟩
  · rw [upd_ne (fun z => by subst z; rw [h2.f] at q; cases q)]
    exact r.w.fh b u q
  · obtain ⟨g1, g2⟩ := r.w.kp b u q f
    refine ⟨?_, fun z => g2 ((ff b).mp z)⟩
    rw [upd_ne (fun z => by subst z; rw [h2.y] at q; cases q)]
    exact g1
  · by_cases z : b = a
    · subst z
      rw [upd_same]
      exact Option.some_ne_none o
    · rw [upd_ne z]
      exact r.w.dom b h
  · refine c.R.st q H _ (r.w.or q ep) fun b hb => ?_
    rw [upd_ne]
    intro z
    subst z
    exact h2.n (by rw [ep]; exact hb)
  · refine ⟨by simpa using r.s.len, fun j x q => ?_, fun j x q => ?_, fun j k x y b q1 q2 s1 s2 => ?_, fun j n q => r.apart h2.n j n (ora_back (by intro m z; cases z) q), ou_set (by intro m z; cases z) r.s.ou, fun p hp => ?_, r.s.xd⟩
    · rw [List.getElem?_set] at q
      by_cases z : i = j
      · subst z
        rw [if_pos rfl, if_pos hi] at q
        cases q
      · rw [if_neg z] at q
        exact r.s.im j x q
    · rw [List.getElem?_set] at q
      by_cases z : i = j
      · subst z
        rw [if_pos rfl, if_pos hi] at q
        cases q
        exact ⟨a, h1, ⟨hn, h2.f, h2.y, fun z => h2.n ((ff a).mp z)⟩⟩
      · rw [if_neg z] at q
        obtain ⟨b, g1, g2⟩ := r.s.ow j x q
        have hb : b ≠ a := fun zz => by
          subst zz
          exact z (r.s.dj i j d x b e q h1 g1)
        exact ⟨b, g1, ⟨g2.o.mono (Ex.refl F) (upd_ne hb), g2.f, g2.y, fun z => g2.n ((ff b).mp z)⟩⟩
    · have back : ∀ (k : Nat) (y : D), (ρ.set i (.ow d'))[k]? = some (.ow y) → ∃ y', ρ[k]? = some (.ow y') := fun k y q => by
        rw [List.getElem?_set] at q
        by_cases z : i = k
        · subst z
          exact ⟨d, e⟩
        · rw [if_neg z] at q
          exact ⟨y, q⟩
      obtain ⟨x', q1'⟩ := back j x q1
      obtain ⟨y', q2'⟩ := back k y q2
      exact r.s.dj j k x' y' b q1' q2' s1 s2
    · obtain ⟨g2, gn⟩ := r.s.ex p hp
      have hb : p.1 ≠ a := fun zz => gn i d e (by rw [zz]; exact h1)
      refine ⟨⟨g2.o.mono (Ex.refl F) (upd_ne hb), g2.f, g2.y, fun z => g2.n ((ff p.1).mp z)⟩, fun j x q => ?_⟩
      rw [List.getElem?_set] at q
      by_cases z : i = j
      · subst z
        exact gn i d e
      · rw [if_neg z] at q
        exact gn j x q
/-- a new object, held by nobody -/
structure Fresh (c : Cn) (F H : Hp) (σ : L2.St) (ρ : List Sl) (xx : XX) (a : Addr) (d : XO) : Prop where
  own : Own c F H a d
  ne : ∀ (i : Nat) (e : D), ρ[i]? = some (.ow e) → σ[i]? ≠ some (some (.ref a))
  nx : ∀ p ∈ xx, p.1 ≠ a
theorem set_lt {α : Type} {ρ : List α} {i j : Nat} {x y : α} (h : (ρ.set i x)[j]? = some y) : (i = j ∧ i < ρ.length ∧ x = y) ∨ (i ≠ j ∧ ρ[j]? = some y) := by
  rw [List.getElem?_set] at h
  by_cases z : i = j
  · rw [if_pos z] at h
    by_cases hl : i < ρ.length
    · rw [if_pos hl] at h
      exact .inl ⟨z, hl, Option.some.inj h⟩
    · rw [if_neg hl] at h
      cases h
  · rw [if_neg z] at h
    exact .inr ⟨z, h⟩
theorem get_set_ne {α : Type} {ρ : List α} {i j : Nat} {x : α} (h : i ≠ j) : (ρ.set i x)[j]? = ρ[j]? := by rw [List.getElem?_set, if_neg h]
theorem get_set_eq {α : Type} {ρ : List α} {i : Nat} {x : α} (h : i < ρ.length) : (ρ.set i x)[i]? = some x := by rw [List.getElem?_set, if_pos rfl, if_pos h]
theorem Slots.put {c : Cn} {F H : Hp} {σ : L2.St} {ρ : List Sl} {xx : XX} (s : Slots c F H σ ρ xx) {v : V} {x : Sl} (i : Nat)
    (him : ∀ d, x = .im d → At c.K F v d) (how : ∀ d, x = .ow d → ∃ a, v = .ref a ∧ Fresh c F H σ ρ xx a d) (hor : ∀ n, x ≠ .ora n) : Slots c F H (σ.set i (some v)) (ρ.set i x) xx := by
  refine ⟨by simpa using s.len, fun j d q => ?_, fun j d q => ?_, fun j k d e b q1 q2 s1 s2 => ?_, fun j n q => ?_, ou_set hor s.ou, fun p hp => ⟨(s.ex p hp).1, fun j d q => ?_⟩, s.xd⟩
  · rcases set_lt q with ⟨rfl, hl, e⟩ | ⟨z, q⟩
    · exact ⟨v, get_set_eq (by rw [← s.len]; exact hl), him d e⟩
    · obtain ⟨u, g1, g2⟩ := s.im j d q
      exact ⟨u, by rw [get_set_ne z]; exact g1, g2⟩
  · rcases set_lt q with ⟨rfl, hl, e⟩ | ⟨z, q⟩
    · obtain ⟨a, ev, fr⟩ := how d e
      subst ev
      exact ⟨a, get_set_eq (by rw [← s.len]; exact hl), fr.own⟩
    · obtain ⟨u, g1, g2⟩ := s.ow j d q
      exact ⟨u, by rw [get_set_ne z]; exact g1, g2⟩
  · rcases set_lt q1 with ⟨rfl, hl, e1⟩ | ⟨z, q1⟩
    · rcases set_lt q2 with ⟨rfl, _, _⟩ | ⟨z2, q2⟩
      · rfl
      · exfalso
        obtain ⟨a, ev, fr⟩ := how d e1
        rw [get_set_eq (by rw [← s.len]; exact hl)] at s1
        rw [get_set_ne z2] at s2
        cases s1
        cases ev
        exact fr.ne k e q2 s2
    · rcases set_lt q2 with ⟨rfl, hl, e2⟩ | ⟨z2, q2⟩
      · exfalso
        obtain ⟨a, ev, fr⟩ := how e e2
        rw [get_set_eq (by rw [← s.len]; exact hl)] at s2
        rw [get_set_ne z] at s1
        cases s2
        cases ev
        exact fr.ne j d q1 s1
      · rw [get_set_ne z] at s1
        rw [get_set_ne z2] at s2
        exact s.dj j k d e b q1 q2 s1 s2
  · rcases set_lt q with ⟨rfl, hl, e⟩ | ⟨z, q⟩
    · exact absurd e (hor n)
    · obtain ⟨u, g1, g2, g3⟩ := s.or j n q
      exact ⟨u, g1, by rw [get_set_ne z]; exact g2, g3⟩
  · rcases set_lt q with ⟨rfl, hl, e⟩ | ⟨z, q⟩
    · obtain ⟨a, ev, fr⟩ := how d e
      subst ev
      rw [get_set_eq (by rw [← s.len]; exact hl)]
      intro zz
      cases zz
      exact fr.nx p hp rfl
    · rw [get_set_ne z]
      exact (s.ex p hp).2 j d q
theorem Rel.putI {c : Cn} {F H : Hp} {σ : L2.St} {ρ : List Sl} {xx : XX} (r : Rel c F H σ ρ xx) {v : V} {d : D} (i : Nat) (h : At c.K F v d) : Rel c F H (σ.set i (some v)) (ρ.set i (.im d)) xx :=
  ⟨r.w, r.s.put i (fun _ e => by cases e; exact h) (fun _ e => by cases e) (by intro m z; cases z)⟩
theorem Rel.putO {c : Cn} {F H : Hp} {σ : L2.St} {ρ : List Sl} {xx : XX} (r : Rel c F H σ ρ xx) {a : Addr} {d : D} (i : Nat) (h : Fresh c F H σ ρ xx a d) : Rel c F H (σ.set i (some (.ref a))) (ρ.set i (.ow d)) xx :=
  ⟨r.w, r.s.put i (fun _ e => by cases e) (fun _ e => by cases e; exact ⟨a, rfl, h⟩) (by intro m z; cases z)⟩
/-- what an own slot holds becomes known, as a value -/
theorem Fresh.freeze {c : Cn} {F H : Hp} {σ : L2.St} {ρ : List Sl} {xx : XX} {a : Addr} {d : D} (r : Rel c F H σ ρ xx) (h : Fresh c F H σ ρ xx a d) : ∃ F', Ex F F' ∧ At c.K F' (.ref a) d ∧ Rel c F' H σ ρ xx := by
  obtain ⟨o, ho, at_⟩ := h.own.o.at
  have ef : Ex F (upd F a o) := Ex.new h.own.f
  refine ⟨upd F a o, ef, at_ _ ef upd_same, ⟨⟨r.w.ff.trans ef, fun b u q => ?_, r.w.kp, r.w.dom, fun b g f => ?_, fun b g => ?_, r.w.or⟩, ⟨r.s.len, fun j x q => ?_, fun j x q => ?_, r.s.dj, r.s.or, r.s.ou, fun p hp => ?_, r.s.xd⟩⟩⟩
  · by_cases z : b = a
    · subst z
      rw [upd_same] at q
      cases q
      exact ho
    · rw [upd_ne z] at q
      exact r.w.fh b u q
  · by_cases z : b = a
    · subst z
      exact absurd h.own.y g
    · rw [upd_ne z]
      exact r.w.fn b g f
  · by_cases z : b = a
    · subst z
      exact h.own.n
    · rw [upd_ne z] at g
      exact r.w.ft b g
  · obtain ⟨v, g1, g2⟩ := r.s.im j x q
    exact ⟨v, g1, g2.mono ef⟩
  · obtain ⟨b, g1, g2⟩ := r.s.ow j x q
    have hb : b ≠ a := fun zz => by
      subst zz
      exact h.ne j x q g1
    exact ⟨b, g1, ⟨g2.o.mono ef rfl, by rw [upd_ne hb]; exact g2.f, g2.y, g2.n⟩⟩
  · obtain ⟨g2, gn⟩ := r.s.ex p hp
    exact ⟨⟨g2.o.mono ef rfl, by rw [upd_ne (h.nx p hp)]; exact g2.f, g2.y, g2.n⟩, gn⟩
theorem Fresh.new {c : Cn} {F H : Hp} {σ : L2.St} {ρ : List Sl} {xx : XX} (r : Rel c F H σ ρ xx) {q : Addr} {o : HO} {d : XO} (hq : H q = none) (h : OwnX c.K F (upd H q o) q d) :
    Rel c F (upd H q o) σ ρ xx ∧ Fresh c F (upd H q o) σ ρ xx q d := by
  have w := r.w.newO o hq
  refine ⟨r.stepN w, ⟨⟨h, ?_, ?_, fun z => ?_⟩, fun i e q1 q2 => ?_, fun p hp z => ?_⟩⟩
  · cases e : F q with
    | none => rfl
    | some u =>
      have := r.w.fh q u e
      rw [hq] at this
      cases this
  · cases e : c.H0 q with
    | none => rfl
    | some u => exact absurd hq (r.w.dom q (by rw [e]; exact Option.some_ne_none u))
  · have e : ∀ u, c.p = some u → upd H q o u = H u := fun u ep => by
      rw [upd_ne]
      intro zz
      subst zz
      exact r.w.foot_al (a := u) (by rw [ep]; exact .inl rfl) hq
    exact r.w.foot_al ((Foot.eqv e q).mp z) hq
  · obtain ⟨a, g1, g2⟩ := r.s.ow i e q1
    rw [q2] at g1
    cases g1
    obtain ⟨u, hu⟩ := g2.o.some
    rw [hq] at hu
    cases hu
  · obtain ⟨u, hu⟩ := (r.s.ex p hp).1.o.some
    rw [z, hq] at hu
    cases hu
/-- one more object on the side, and off again -/
theorem Rel.pushX {c : Cn} {F H : Hp} {σ : L2.St} {ρ : List Sl} {xx : XX} {a : Addr} {d : XO} (r : Rel c F H σ ρ xx) (h : Fresh c F H σ ρ xx a d) : Rel c F H σ ρ ((a, d) :: xx) := by
  refine ⟨r.w, ⟨r.s.len, r.s.im, r.s.ow, r.s.dj, r.s.or, r.s.ou, fun p hp => ?_, ?_⟩⟩
  · (rcases List.mem_cons.mp hp with rfl | hp)
    · exact ⟨h.own, h.ne⟩
    · exact r.s.ex p hp
  · rw [List.map_cons, List.nodup_cons]
    refine ⟨fun z => ?_, r.s.xd⟩
    obtain ⟨p, hp, e⟩ := List.mem_map.mp z
    exact h.nx p hp e
theorem Rel.popX {c : Cn} {F H : Hp} {σ : L2.St} {ρ : List Sl} {xx : XX} {a : Addr} {d : XO} (r : Rel c F H σ ρ ((a, d) :: xx)) : Rel c F H σ ρ xx ∧ Fresh c F H σ ρ xx a d := by
  have hx := r.s.xd
  rw [List.map_cons, List.nodup_cons] at hx
  have h0 := r.s.ex (a, d) (List.mem_cons_self ..)
  exact ⟨⟨r.w, ⟨r.s.len, r.s.im, r.s.ow, r.s.dj, r.s.or, r.s.ou, fun p hp => r.s.ex p (List.mem_cons_of_mem _ hp), hx.2⟩⟩, ⟨h0.1, h0.2, fun p hp e => hx.1 (List.mem_map.mpr ⟨p, hp, e⟩)⟩⟩
theorem Rel.mutX {c : Cn} {F H : Hp} {σ : L2.St} {ρ : List Sl} {xx : XX} {a : Addr} {d d' : XO} {o : HO} (r : Rel c F H σ ρ ((a, d) :: xx)) (hn : OwnX c.K F (upd H a o) a d') : Rel c F (upd H a o) σ ρ ((a, d') :: xx) := by
  obtain ⟨r0, h2⟩ := r.popX
  have hq : ∀ q, c.p = some q → upd H a o q = H q := fun q ep => by
    rw [upd_ne]
    intro z
    subst z
    exact h2.own.n (by rw [ep]; exact .inl rfl)
  have ff : ∀ b, Foot c.p (upd H a o) b ↔ Foot c.p H b := Foot.eqv hq
  have r1 : Rel c F (upd H a o) σ ρ xx := by
    refine ⟨⟨r0.w.ff, fun b u q => ?_, fun b u q f => ?_, fun b h => ?_, r0.w.fn, fun b h z => r0.w.ft b h ((ff b).mp z), fun q ep => ?_⟩, ⟨r0.s.len, r0.s.im, fun i x q => ?_, r0.s.dj, r0.apart h2.own.n, r0.s.ou, fun p hp => ?_, r0.s.xd⟩⟩
    · rw [upd_ne (fun z => by subst z; rw [h2.own.f] at q; cases q)]
      exact r0.w.fh b u q
    · obtain ⟨g1, g2⟩ := r0.w.kp b u q f
      refine ⟨?_, fun z => g2 ((ff b).mp z)⟩
      rw [upd_ne (fun z => by subst z; rw [h2.own.y] at q; cases q)]
      exact g1
    · by_cases z : b = a
      · subst z
        rw [upd_same]
        exact Option.some_ne_none o
      · rw [upd_ne z]
        exact r0.w.dom b h
    · refine c.R.st q H _ (r0.w.or q ep) fun b hb => ?_
      rw [upd_ne]
      intro z
      subst z
      exact h2.own.n (by rw [ep]; exact hb)
    · obtain ⟨b, g1, g2⟩ := r0.s.ow i x q
      have hb : b ≠ a := fun zz => by
        subst zz
        exact h2.ne i x q g1
      exact ⟨b, g1, ⟨g2.o.mono (Ex.refl F) (upd_ne hb), g2.f, g2.y, fun z => g2.n ((ff b).mp z)⟩⟩
    · obtain ⟨g2, gn⟩ := r0.s.ex p hp
      exact ⟨⟨g2.o.mono (Ex.refl F) (upd_ne (h2.nx p hp)), g2.f, g2.y, fun z => g2.n ((ff p.1).mp z)⟩, gn⟩
  exact r1.pushX ⟨⟨hn, h2.own.f, h2.own.y, fun z => h2.own.n ((ff a).mp z)⟩, h2.ne, h2.nx⟩
theorem Rel.newF {c : Cn} {F H : Hp} {σ : L2.St} {ρ : List Sl} {xx : XX} (r : Rel c F H σ ρ xx) {q : Addr} (o : HO) (hq : H q = none) : Rel c (upd F q o) (upd H q o) σ ρ xx := r.stepN (r.w.newF o hq)
theorem Rel.efF {c : Cn} {F H : Hp} {σ : L2.St} {ρ : List Sl} {xx : XX} (r : Rel c F H σ ρ xx) {q : Addr} (o : HO) (hq : H q = none) : Ex F (upd F q o) := (r.w.newF o hq).ff
end DL
namespace DL
open PySem L2
/-- the count of a source behind a call of a def that draws -/
theorem Rel.drew {c : Cn} {F H F' H' : Hp} {σ : L2.St} {ρ : List Sl} {xx : XX} (r : Rel c F H σ ρ xx) (v : World c.R c.p F H F' H') {i m n : Nat} (e : ρ[i]? = some (.ora m)) (hn : ∀ q, c.p = some q → c.R.cnt q H' ≤ n) : Rel c F' H' σ (ρ.set i (.ora n)) xx := by
  have nr : ∀ {j : Nat} {x : Sl}, (ρ.set i (.ora n))[j]? = some x → (∀ k, x ≠ .ora k) → ρ[j]? = some x := by
    intro j x q hx
    rcases set_lt q with ⟨_, _, z⟩ | ⟨_, q⟩
    · exact absurd z.symm (hx n)
    · exact q
  refine ⟨r.w.trans v, ⟨by simpa using r.s.len, fun j d q => ?_, fun j d q => ?_, fun j k d e' b q1 q2 => ?_, fun j k q => ?_, fun j k a b q1 q2 => ?_, fun p hp => ⟨(r.s.ex p hp).1.step v, fun j d q => (r.s.ex p hp).2 j d (nr q fun _ z => by cases z)⟩, r.s.xd⟩⟩
  · obtain ⟨u, h1, h2⟩ := r.s.im j d (nr q fun _ z => by cases z)
    exact ⟨u, h1, h2.mono v.ff⟩
  · obtain ⟨a, h1, h2⟩ := r.s.ow j d (nr q fun _ z => by cases z)
    exact ⟨a, h1, h2.step v⟩
  · exact r.s.dj j k d e' b (nr q1 fun _ z => by cases z) (nr q2 fun _ z => by cases z)
  · rcases set_lt q with ⟨z, _, y⟩ | ⟨z, q⟩
    · subst z
      cases y
      obtain ⟨p, h1, h2, _⟩ := r.s.or i m e
      exact ⟨p, h1, h2, hn p h1⟩
    · exact absurd (r.s.ou i j m k e q) z
  · have one : ∀ {j a : Nat}, (ρ.set i (.ora n))[j]? = some (.ora a) → i = j := by
      intro j a q
      rcases set_lt q with ⟨z, _, _⟩ | ⟨_, q⟩
      · exact z
      · exact r.s.ou i j m a e q
    exact (one q1).symm.trans (one q2)
end DL
namespace DL
open PySem L2
abbrev Env := List Sl
abbrev DM := Env → (D → Env → Prop) → Prop
abbrev BM := Env → (Bool → Env → Prop) → Prop
inductive Ar where
  | d (x : D) | ora
abbrev LM := Env → (List D → Env → Prop) → Prop
abbrev AM := Env → (List Ar → Env → Prop) → Prop
/-- a value, or what stands in a slot by the time it is wanted -/
inductive Hd where
  | val (d : D) | slot (i : Nat)
abbrev HM := Env → (Hd → Env → Prop) → Prop
def see (ρ : Env) (h : Hd) (k : D → Prop) : Prop := match h with
  | .val d => k d
  | .slot i => match ρ[i]? with
    | some (.im d) => k d
    | some (.ow d) => k d
    | _ => False
def HdAt (c : Cn) (F : Hp) (σ : L2.St) : Hd → V → Prop
  | .val d, v => At c.K F v d
  | .slot i, v => σ[i]? = some (some v)
def tD (c : Cn) (f : DM) : TE := fun σ H Q => ∃ F ρ xx P, Rel c F H σ ρ xx ∧ f ρ P ∧ ∀ d ρ' v F' H', P d ρ' → Ex F F' → Rel c F' H' σ ρ' xx → At c.K F' v d → Q v H'
/-- a new object, held by nobody -/
def tN (c : Cn) (f : DM) : TE := fun σ H Q => ∃ F ρ xx P, Rel c F H σ ρ xx ∧ f ρ P ∧ ∀ d ρ' a F' H', P d ρ' → Ex F F' → Rel c F' H' σ ρ' xx → Fresh c F' H' σ ρ' xx a d → Q (.ref a) H'
def tH (c : Cn) (f : HM) : TE := fun σ H Q => ∃ F ρ xx P, Rel c F H σ ρ xx ∧ f ρ P ∧ ∀ d ρ' v F' H', P d ρ' → Ex F F' → Rel c F' H' σ ρ' xx → HdAt c F' σ d v → Q v H'
def tT (c : Cn) (f : BM) : TT := fun σ H Q => ∃ F ρ xx P, Rel c F H σ ρ xx ∧ f ρ P ∧ ∀ b ρ' F' H', P b ρ' → Ex F F' → Rel c F' H' σ ρ' xx → Q b H'
def tL (c : Cn) (f : LM) : TA := fun σ H Q => ∃ F ρ xx P, Rel c F H σ ρ xx ∧ f ρ P ∧ ∀ ds ρ' vs F' H', P ds ρ' → Ex F F' → Rel c F' H' σ ρ' xx → AtAll c.K F' vs ds → Q vs H'
def ArAt (c : Cn) (F : Hp) : V → Ar → Prop
  | v, .d x => At c.K F v x
  | v, .ora => ∃ q, c.p = some q ∧ v = .ref q
def tAr (c : Cn) (f : AM) : TA := fun σ H Q => ∃ F ρ xx P, Rel c F H σ ρ xx ∧ f ρ P ∧ ∀ ds ρ' vs F' H', P ds ρ' → Ex F F' → Rel c F' H' σ ρ' xx → Paired (ArAt c F') vs ds → Q vs H'
theorem PE.to {X : Cx} {e : Expr} {t t' : TE} (h : PE X e t) (w : ∀ σ H Q, t' σ H Q → t σ H Q) : PE X e t' := ⟨fun pins s σ H Q I q => h.run pins s σ H Q I (w σ H Q q)⟩
theorem PT.to {X : Cx} {e : Expr} {t t' : TT} (h : PT X e t) (w : ∀ σ H Q, t' σ H Q → t σ H Q) : PT X e t' := ⟨fun pins s σ H Q I q => h.run pins s σ H Q I (w σ H Q q)⟩
theorem PA.to {X : Cx} {e : List Expr} {t t' : TA} (h : PA X e t) (w : ∀ σ H Q, t' σ H Q → t σ H Q) : PA X e t' := ⟨fun pos pins s σ H Q I q => h.run pos pins s σ H Q I (w σ H Q q)⟩
/-- what is to be read of a value: known, or the own object of a slot -/
def Bo (c : Cn) (F H : Hp) (v : V) (d : D) : Prop := At c.K F v d ∨ ∃ a, v = .ref a ∧ OwnO c.K F H a d
theorem Bo.at {c : Cn} {F H : Hp} {v : V} {d : D} (e : Ex F H) (h : Bo c F H v d) : At c.K H v d := by
  rcases h with h | ⟨a, rfl, h⟩
  · exact h.mono e
  · obtain ⟨o, ho, k⟩ := h.at
    exact k H e ho
theorem see_bo {c : Cn} {F H : Hp} {σ : L2.St} {ρ : Env} {xx : XX} (r : Rel c F H σ ρ xx) {h : Hd} {v : V} (hv : HdAt c F σ h v) {k : D → Prop} (hs : see ρ h k) : ∃ d, Bo c F H v d ∧ k d := by
  cases h with
  | val d => exact ⟨d, .inl hv, hs⟩
  | slot i =>
    unfold see at hs
    have hv' : σ[i]? = some (some v) := hv
    simp only at hs
    split at hs
    · rename_i d e
      obtain ⟨u, g1, g2⟩ := r.s.im i d e
      rw [hv'] at g1
      cases g1
      exact ⟨d, .inl g2, hs⟩
    · rename_i d e
      obtain ⟨u, g1, g2⟩ := r.s.ow i d e
      rw [hv'] at g1
      cases g1
      exact ⟨d, .inr ⟨u, rfl, g2.o⟩, hs⟩
    · exact hs.elim
theorem HdAt.mono {c : Cn} {F F' : Hp} (e : Ex F F') {σ : L2.St} {h : Hd} {v : V} (x : HdAt c F σ h v) : HdAt c F' σ h v := by
  cases h with
  | val d => exact At.mono e x
  | slot i => exact x
section
variable {X : Cx} {c : Cn} {e a b : Expr} {pos : Pos}
def dC (d : D) : DM := fun ρ P => P d ρ
theorem de_c {t : V} {d : D} (h : PE X e (tC t)) (hd : ∀ F, At c.K F t d) : PE X e (tD c (dC d)) := PE.to h fun σ H Q ⟨F, ρ, xx, P, r, q, k⟩ => k d ρ t F H q (Ex.refl F) r (hd F)
theorem de_int {i : Int} {j : Nat} : PE X (.Constant (.int i) j pos) (tD c (dC (.int i))) := de_c pe_int fun _ => .int i
theorem de_bl {i : Bool} {j : Nat} : PE X (.Constant (.bool i) j pos) (tD c (dC (.bool i))) := de_c pe_bl fun _ => .bl i
theorem de_non {j : Nat} : PE X (.Constant .none j pos) (tD c (dC .none)) := de_c pe_non fun _ => .non
theorem de_str {x : Str} {j : Nat} : PE X (.Constant (.str x) j pos) (tD c (dC (.str x))) := de_c pe_str fun _ => .str x
/-- a name of the module that holds a number, a text -/
theorem de_gint {x : Str} {i : Int} (hg : Gl X x) (hm : ∃ t, X.mg x = some (.int i t)) (hd : (x == ("__debug__" : Str)) = false := by decide) : PE X (.Name x pos) (tD c (dC (.int i))) := by
  obtain ⟨t, hm⟩ := hm
  exact de_c (pe_glob (v := .int i) hg hm ⟨t, rfl⟩ hd) fun _ => .int i
/-- the slot's value, which is known from then on -/
def dV (i : Nat) : DM := fun ρ P => match ρ[i]? with
  | some (.im d) => P d ρ
  | some (.ow d) => P d (ρ.set i (.im d))
  | _ => False
theorem de_v {i : Nat} (h : PE X e (tVar i)) : PE X e (tD c (dV i)) := PE.to h fun σ H Q ⟨F, ρ, xx, P, r, q, k⟩ => by
  unfold dV at q
  split at q
  · rename_i d e
    obtain ⟨v, g1, g2⟩ := r.s.im i d e
    exact ⟨v, g1, k d ρ v F H q (Ex.refl F) r g2⟩
  · rename_i d e
    obtain ⟨F', v, g1, g2, g3, g4⟩ := r.freeze e
    exact ⟨v, g1, k d _ v F' H q g2 g4 g3⟩
  · exact q.elim
def hS (i : Nat) : HM := fun ρ P => (match ρ[i]? with
  | some (.im _) => True
  | some (.ow _) => True
  | _ => False) ∧ P (.slot i) ρ
theorem dh_v {i : Nat} (h : PE X e (tVar i)) : PE X e (tH c (hS i)) := PE.to h fun σ H Q ⟨F, ρ, xx, P, r, ⟨q0, q⟩, k⟩ => by
  split at q0
  · rename_i d e
    obtain ⟨v, g1, g2⟩ := r.s.im i d e
    exact ⟨v, g1, k _ ρ v F H q (Ex.refl F) r g1⟩
  · rename_i d e
    obtain ⟨v, g1, g2⟩ := r.s.ow i d e
    exact ⟨.ref v, g1, k _ ρ _ F H q (Ex.refl F) r g1⟩
  · exact q0.elim
def hV (f : DM) : HM := fun ρ P => f ρ fun d ρ' => P (.val d) ρ'
theorem dh_of {f : DM} (h : PE X e (tD c f)) : PE X e (tH c (hV f)) := PE.to h fun σ H Q ⟨F, ρ, xx, P, r, q, k⟩ => ⟨F, ρ, xx, _, r, q, fun d ρ' v F' H' p e r' at_ => k (.val d) ρ' v F' H' p e r' at_⟩
theorem de_n {f : DM} (h : PE X e (tN c f)) : PE X e (tD c f) := PE.to h fun σ H Q ⟨F, ρ, xx, P, r, q, k⟩ => ⟨F, ρ, xx, P, r, q, fun d ρ' a F' H' p e r' fr => by
  obtain ⟨F2, e2, at_, r2⟩ := fr.freeze r'
  exact k d ρ' (.ref a) F2 H' p (e.trans e2) r2 at_⟩
abbrev G2 := D → D → (D → Prop) → Prop
/-- f does on values what g tells of data -/
def Sem2 (X : Cx) (c : Cn) (f : Value → Value → Sem Value) (g : G2) : Prop := ∃ r : R2, OpR X f r ∧ ∀ (F H : Hp) (σ : L2.St) (ρ : Env) (xx : XX) (x y : D) (vx vy : V) (P : D → Prop) (Q : VK), Rel c F H σ ρ xx → Bo c F H vx x → Bo c F H vy y → g x y P →
  (∀ z v F' H', P z → Ex F F' → Rel c F' H' σ ρ xx → At c.K F' v z → Q v H') → r vx vy H Q
def d2 (g : G2) (fa fb : HM) : DM := fun ρ P => fa ρ fun x ρ1 => fb ρ1 fun y ρ2 => see ρ2 x fun dx => see ρ2 y fun dy => g dx dy fun z => P z ρ2
theorem d2_use {r : R2} {g : G2} {fa fb : HM} {ta tb : TE} (hr : ∀ (F H : Hp) (σ : L2.St) (ρ : Env) (xx : XX) (x y : D) (vx vy : V) (P : D → Prop) (Q : VK), Rel c F H σ ρ xx → Bo c F H vx x → Bo c F H vy y → g x y P →
    (∀ z v F' H', P z → Ex F F' → Rel c F' H' σ ρ xx → At c.K F' v z → Q v H') → r vx vy H Q) (ea : ta = tH c fa) (eb : tb = tH c fb) : ∀ σ H Q, tD c (d2 g fa fb) σ H Q → tOp r ta tb σ H Q := by
  rintro σ H Q ⟨F, ρ, xx, P, rel, q, k⟩
  subst ea eb
  refine ⟨F, ρ, xx, _, rel, q, fun x ρ1 v F1 H1 q1 e1 r1 h1 => ?_⟩
  refine ⟨F1, ρ1, xx, _, r1, q1, fun y ρ2 u F2 H2 q2 e2 r2 h2 => ?_⟩
  obtain ⟨dx, bx, q2⟩ := see_bo r2 (h1.mono e2) q2
  obtain ⟨dy, by_, q2⟩ := see_bo r2 h2 q2
  exact hr F2 H2 σ ρ2 xx dx dy v u _ Q r2 bx by_ q2 fun z w F' H' pz ez rz az => k z ρ2 w F' H' pz ((e1.trans e2).trans ez) rz az
theorem de_bin {op : Operator} {g : G2} {fa fb : HM} (hs : Sem2 X c (binaryOp op) g) (ha : PE X a (tH c fa)) (hb : PE X b (tH c fb)) : PE X (.BinOp a op b pos) (tD c (d2 g fa fb)) := by
  obtain ⟨r, ho, hr⟩ := hs
  exact PE.to (pe_op ho ha hb) (d2_use hr rfl rfl)
theorem de_cmp {op : CmpOp} {g : G2} {fa fb : HM} (hs : Sem2 X c (compareOp op) g) (ha : PE X a (tH c fa)) (hb : PE X b (tH c fb)) (hm : behindInMarks op b = false) : PE X (.Compare a [op] [b] pos) (tD c (d2 g fa fb)) := by
  obtain ⟨r, ho, hr⟩ := hs
  exact PE.to (pe_cmpR ho ha hb hm) (d2_use hr rfl rfl)
/-- a test: what is a bool -/
def bD (f : DM) : BM := fun ρ P => f ρ fun d ρ' => match d with
  | .bool b => P b ρ'
  | _ => False
theorem bD_use {f : DM} {t : TE} (et : t = tD c f) : ∀ σ H Q, tT c (bD f) σ H Q → (t σ H fun x H' => ∃ k, x = .bl k ∧ Q k H') := by
  rintro σ H Q ⟨F, ρ, xx, P, rel, q, k⟩
  subst et
  refine ⟨F, ρ, xx, _, rel, q, fun d ρ' v F' H' p e r at_ => ?_⟩
  cases d <;> first | exact p.elim | (cases at_; exact ⟨_, rfl, k _ ρ' F' H' p e r⟩)
theorem dt_cmp {op : CmpOp} {g : G2} {fa fb : HM} (hs : Sem2 X c (compareOp op) g) (ha : PE X a (tH c fa)) (hb : PE X b (tH c fb)) (hm : behindInMarks op b = false) : PT X (.Compare a [op] [b] pos) (tT c (bD (d2 g fa fb))) := by
  obtain ⟨r, ho, hr⟩ := hs
  refine PT.to (pt_cmpR ho ha hb hm) fun σ H Q h => d2_use hr rfl rfl σ H _ ?_
  exact bD_use rfl σ H Q h
/-- a < b < e -/
def dChain (g g' : G2) (fa fb fc : HM) : DM := fun ρ P => fa ρ fun x ρ1 => fb ρ1 fun y ρ2 => see ρ2 x fun dx => see ρ2 y fun dy => g dx dy fun z => match z with
  | .bool true => fc ρ2 fun w ρ3 => see ρ3 y fun dy' => see ρ3 w fun dw => g' dy' dw fun z' => P z' ρ3
  | .bool false => P (.bool false) ρ2
  | _ => False
theorem dChain_use {r r' : R2} {g g' : G2} {fa fb fc : HM} {ta tb tc : TE} (hr : ∀ (F H : Hp) (σ : L2.St) (ρ : Env) (xx : XX) (x y : D) (vx vy : V) (P : D → Prop) (Q : VK), Rel c F H σ ρ xx → Bo c F H vx x → Bo c F H vy y → g x y P →
    (∀ z v F' H', P z → Ex F F' → Rel c F' H' σ ρ xx → At c.K F' v z → Q v H') → r vx vy H Q)
    (hr' : ∀ (F H : Hp) (σ : L2.St) (ρ : Env) (xx : XX) (x y : D) (vx vy : V) (P : D → Prop) (Q : VK), Rel c F H σ ρ xx → Bo c F H vx x → Bo c F H vy y → g' x y P →
    (∀ z v F' H', P z → Ex F F' → Rel c F' H' σ ρ xx → At c.K F' v z → Q v H') → r' vx vy H Q) (ea : ta = tH c fa) (eb : tb = tH c fb) (ec : tc = tH c fc) : ∀ σ H Q, tD c (dChain g g' fa fb fc) σ H Q → tChain r r' ta tb tc σ H Q := by
  rintro σ H Q ⟨F, ρ, xx, P, rel, q, k⟩
  subst ea eb ec
  refine ⟨F, ρ, xx, _, rel, q, fun x ρ1 v F1 H1 q1 e1 r1 h1 => ?_⟩
  refine ⟨F1, ρ1, xx, _, r1, q1, fun y ρ2 u F2 H2 q2 e2 r2 h2 => ?_⟩
  obtain ⟨dx, bx, q2⟩ := see_bo r2 (h1.mono e2) q2
  obtain ⟨dy, by_, q2⟩ := see_bo r2 h2 q2
  refine hr F2 H2 σ ρ2 xx dx dy v u _ _ r2 bx by_ q2 fun z w F' H' pz ez rz az => ?_
  split at pz
  · cases az
    refine ⟨true, rfl, ?_⟩
    rw [if_pos rfl]
    refine ⟨F', ρ2, xx, _, rz, pz, fun t ρ3 s F3 H3 q3 e3 r3 h3 => ?_⟩
    obtain ⟨dy', by', q3⟩ := see_bo r3 (h2.mono (ez.trans e3)) q3
    obtain ⟨dw, bw, q3⟩ := see_bo r3 h3 q3
    exact hr' F3 H3 σ ρ3 xx dy' dw u s _ Q r3 by' bw q3 fun z' w' F4 H4 p4 e4 r4 a4 => k z' ρ3 w' F4 H4 p4 ((((e1.trans e2).trans ez).trans e3).trans e4) r4 a4
  · cases az
    refine ⟨false, rfl, ?_⟩
    (rw [if_neg Bool.false_ne_true])
    exact k _ ρ2 _ F' H' pz ((e1.trans e2).trans ez) rz (.bl false)
  · exact pz.elim
theorem de_chain {e3 : Expr} {op op' : CmpOp} {g g' : G2} {fa fb fc : HM} (hs : Sem2 X c (compareOp op) g) (hs' : Sem2 X c (compareOp op') g') (ha : PE X a (tH c fa)) (hb : PE X b (tH c fb)) (hc : PE X e3 (tH c fc)) (hm : lastMarks [op, op'] [b, e3] = false) :
    PE X (.Compare a [op, op'] [b, e3] pos) (tD c (dChain g g' fa fb fc)) := by
  obtain ⟨r, ho, hr⟩ := hs
  obtain ⟨r', ho', hr'⟩ := hs'
  exact PE.to (pe_chain ho ho' ha hb hc hm) (dChain_use hr hr' rfl rfl rfl)
theorem dt_chain {e3 : Expr} {op op' : CmpOp} {g g' : G2} {fa fb fc : HM} (hs : Sem2 X c (compareOp op) g) (hs' : Sem2 X c (compareOp op') g') (ha : PE X a (tH c fa)) (hb : PE X b (tH c fb)) (hc : PE X e3 (tH c fc)) (hm : lastMarks [op, op'] [b, e3] = false) :
    PT X (.Compare a [op, op'] [b, e3] pos) (tT c (bD (dChain g g' fa fb fc))) := by
  obtain ⟨r, ho, hr⟩ := hs
  obtain ⟨r', ho', hr'⟩ := hs'
  refine PT.to (pt_chain ho ho' ha hb hc hm) fun σ H Q h => dChain_use hr hr' rfl rfl rfl σ H _ (bD_use rfl σ H Q h)
def bAnd (f g : BM) : BM := fun ρ P => f ρ fun b ρ1 => if b = true then g ρ1 P else P false ρ1
def bOr (f g : BM) : BM := fun ρ P => f ρ fun b ρ1 => if b = true then P true ρ1 else g ρ1 P
def bNot (f : BM) : BM := fun ρ P => f ρ fun b ρ1 => P (!b) ρ1
variable {rest : List Expr}
theorem dw_and {f g : BM} (ha : PT X a (tT c f)) (hb : PW X (.BoolOp .And (b :: rest) pos) (tT c g)) : PW X (.BoolOp .And (a :: b :: rest) pos) (tT c (bAnd f g)) := by
  have h := pw_and ha hb
  refine ⟨fun wh pins s σ H Q I q => h.run wh pins s σ H Q I ?_⟩
  obtain ⟨F, ρ, xx, P, rel, q, k⟩ := q
  refine ⟨F, ρ, xx, _, rel, q, fun t ρ1 F1 H1 q1 e1 r1 => ?_⟩
  cases t with
  | true => exact ⟨F1, ρ1, xx, P, r1, q1, fun t' ρ2 F2 H2 q2 e2 r2 => k t' ρ2 F2 H2 q2 (e1.trans e2) r2⟩
  | false => exact k false ρ1 F1 H1 q1 e1 r1
theorem dw_or {f g : BM} (ha : PT X a (tT c f)) (hb : PW X (.BoolOp .Or (b :: rest) pos) (tT c g)) : PW X (.BoolOp .Or (a :: b :: rest) pos) (tT c (bOr f g)) := by
  have h := pw_or ha hb
  refine ⟨fun wh pins s σ H Q I q => h.run wh pins s σ H Q I ?_⟩
  obtain ⟨F, ρ, xx, P, rel, q, k⟩ := q
  refine ⟨F, ρ, xx, _, rel, q, fun t ρ1 F1 H1 q1 e1 r1 => ?_⟩
  cases t with
  | true => exact k true ρ1 F1 H1 q1 e1 r1
  | false => exact ⟨F1, ρ1, xx, P, r1, q1, fun t' ρ2 F2 H2 q2 e2 r2 => k t' ρ2 F2 H2 q2 (e1.trans e2) r2⟩
theorem dt_not {f : BM} (ha : PT X a (tT c f)) : PT X (.UnaryOp .Not a pos) (tT c (bNot f)) :=
  PT.to (pt_not ha) fun σ H Q ⟨F, ρ, xx, P, rel, q, k⟩ => ⟨F, ρ, xx, _, rel, q, fun t ρ1 F1 H1 q1 e1 r1 => k _ ρ1 F1 H1 q1 e1 r1⟩
/-- the same as values, of bools -/
def dAnd (f g : DM) : DM := fun ρ P => f ρ fun d ρ1 => match d with
  | .bool true => g ρ1 P
  | .bool false => P (.bool false) ρ1
  | _ => False
def dOr (f g : DM) : DM := fun ρ P => f ρ fun d ρ1 => match d with
  | .bool true => P (.bool true) ρ1
  | .bool false => g ρ1 P
  | _ => False
def dNot (f : DM) : DM := fun ρ P => f ρ fun d ρ1 => match d with
  | .bool b => P (.bool (!b)) ρ1
  | _ => False
theorem de_and {f g : DM} (ha : PE X a (tD c f)) (hb : PE X (.BoolOp .And (b :: rest) pos) (tD c g)) : PE X (.BoolOp .And (a :: b :: rest) pos) (tD c (dAnd f g)) :=
  PE.to (pe_and ha hb) fun σ H Q ⟨F, ρ, xx, P, rel, q, k⟩ => ⟨F, ρ, xx, _, rel, q, fun d ρ1 v F1 H1 q1 e1 r1 a1 => by
    split at q1
    · cases a1
      exact ⟨true, rfl, F1, ρ1, xx, P, r1, q1, fun t' ρ2 v2 F2 H2 q2 e2 r2 a2 => k t' ρ2 v2 F2 H2 q2 (e1.trans e2) r2 a2⟩
    · cases a1
      exact ⟨false, rfl, k _ ρ1 _ F1 H1 q1 e1 r1 (.bl false)⟩
    · exact q1.elim⟩
theorem de_not {f : DM} (ha : PE X a (tD c f)) : PE X (.UnaryOp .Not a pos) (tD c (dNot f)) :=
  PE.to (pe_not ha) fun σ H Q ⟨F, ρ, xx, P, rel, q, k⟩ => ⟨F, ρ, xx, _, rel, q, fun d ρ1 v F1 H1 q1 e1 r1 a1 => by
    cases d <;> first | exact q1.elim | (cases a1; exact ⟨_, rfl, k _ ρ1 _ F1 H1 q1 e1 r1 (.bl _)⟩)⟩
def dIf (t : BM) (f g : DM) : DM := fun ρ P => t ρ fun b ρ1 => if b = true then f ρ1 P else g ρ1 P
theorem de_if {e3 : Expr} {t : BM} {f g : DM} (hc : PT X e3 (tT c t)) (ha : PE X a (tD c f)) (hb : PE X b (tD c g)) : PE X (.IfExp e3 a b pos) (tD c (dIf t f g)) :=
  PE.to (pe_ifExp hc ha hb) fun σ H Q ⟨F, ρ, xx, P, rel, q, k⟩ => ⟨F, ρ, xx, _, rel, q, fun d ρ1 F1 H1 q1 e1 r1 => by
    cases d with
    | true => exact ⟨F1, ρ1, xx, P, r1, q1, fun t' ρ2 v2 F2 H2 q2 e2 r2 a2 => k t' ρ2 v2 F2 H2 q2 (e1.trans e2) r2 a2⟩
    | false => exact ⟨F1, ρ1, xx, P, r1, q1, fun t' ρ2 v2 F2 H2 q2 e2 r2 a2 => k t' ρ2 v2 F2 H2 q2 (e1.trans e2) r2 a2⟩⟩
/-- by truth -/
def truD : D → Bool
  | .none => false
  | .bool b => b
  | .int i => i != 0
  | .str x => x.length != 0
  | .list xs => !xs.isEmpty
  | .tuple xs => !xs.isEmpty
  | .dict xs => !xs.isEmpty
def lNil : LM := fun ρ P => P [] ρ
def lCons (f : DM) (g : LM) : LM := fun ρ P => f ρ fun d ρ1 => g ρ1 fun ds ρ2 => P (d :: ds) ρ2
theorem dl_nil : PA X [] (tL c lNil) := PA.to pa_nil fun σ H Q ⟨F, ρ, xx, P, rel, q, k⟩ => k [] ρ [] F H q (Ex.refl F) rel .nil
theorem dl_cons {es : List Expr} {f : DM} {g : LM} (ha : PE X e (tD c f)) (hr : PA X es (tL c g)) (hs : starEach (e :: es) X.env = (false, eval e X.env) :: starEach es X.env := by rfl) : PA X (e :: es) (tL c (lCons f g)) :=
  PA.to (pa_cons ha hr hs) fun σ H Q ⟨F, ρ, xx, P, rel, q, k⟩ => ⟨F, ρ, xx, _, rel, q, fun d ρ1 v F1 H1 q1 e1 r1 a1 => ⟨F1, ρ1, xx, _, r1, q1, fun ds ρ2 vs F2 H2 q2 e2 r2 a2 =>
    k (d :: ds) ρ2 (v :: vs) F2 H2 q2 (e1.trans e2) r2 (.cons (a1.mono e2) a2)⟩⟩
def dTup (f : LM) : DM := fun ρ P => f ρ fun ds ρ1 => ds.length ≤ 1000000 ∧ P (.tuple ds) ρ1
def dLst (f : LM) : DM := fun ρ P => f ρ fun ds ρ1 => ds.length ≤ 1000000 ∧ P (.list ds) ρ1
theorem sz {n : Nat} (h : n ≤ 1000000) : n ≤ sizeLine := Nat.le_trans h (by rw [sizeLine_eq]; decide)
theorem szl {n : Nat} (h : n ≤ 1000000) : n < sizeLine := Nat.lt_of_le_of_lt h (by rw [sizeLine_eq]; decide)
theorem de_tup {es : List Expr} {x1 : Nat} {f : LM} (h : PA X es (tL c f)) : PE X (.Tuple es x1 pos) (tD c (dTup f)) :=
  PE.to (pe_tup h) fun σ H Q ⟨F, ρ, xx, P, rel, q, k⟩ => ⟨F, ρ, xx, _, rel, q, fun ds ρ1 vs F1 H1 q1 e1 r1 a1 => ⟨sz (by rw [a1.length]; exact q1.1), fun p hp => by
    have e2 := r1.efF (.tup vs) hp
    exact k _ ρ1 _ _ _ q1.2 (e1.trans e2) (r1.newF _ hp) (.tup (.inl (.inl upd_same)) (a1.mono e2))⟩⟩
theorem dn_lst {es : List Expr} {f : LM} (h : PA X es (tL c f)) : PE X (.List es pos) (tN c (dLst f)) :=
  PE.to (pe_lst h) fun σ H Q ⟨F, ρ, xx, P, rel, q, k⟩ => ⟨F, ρ, xx, _, rel, q, fun ds ρ1 vs F1 H1 q1 e1 r1 a1 => ⟨sz (by rw [a1.length]; exact q1.1), fun p hp => by
    obtain ⟨r2, fr⟩ := Fresh.new (o := .lst vs) (d := .d <| .list ds) r1 hp ⟨vs, upd_same, a1⟩
    exact k _ ρ1 _ _ _ q1.2 e1 r2 fr⟩⟩
/-- arguments of a call of an own def: the source of numbers may be among them -/
def aNil : AM := fun ρ P => P [] ρ
def aCons (f : DM) (g : AM) : AM := fun ρ P => f ρ fun d ρ1 => g ρ1 fun ds ρ2 => P (.d d :: ds) ρ2
def aOra (i : Nat) (g : AM) : AM := fun ρ P => (match ρ[i]? with
  | some (.ora _) => True
  | _ => False) ∧ g ρ fun ds ρ2 => P (.ora :: ds) ρ2
theorem ArAt.mono {F F' : Hp} (e : Ex F F') {v : V} {x : Ar} (h : ArAt c F v x) : ArAt c F' v x := by
  cases x with
  | d x => exact At.mono e h
  | ora => exact h
theorem da_nil : PA X [] (tAr c aNil) := PA.to pa_nil fun σ H Q ⟨F, ρ, xx, P, rel, q, k⟩ => k [] ρ [] F H q (Ex.refl F) rel .nil
theorem da_cons {es : List Expr} {f : DM} {g : AM} (ha : PE X e (tD c f)) (hr : PA X es (tAr c g)) (hs : starEach (e :: es) X.env = (false, eval e X.env) :: starEach es X.env := by rfl) : PA X (e :: es) (tAr c (aCons f g)) :=
  PA.to (pa_cons ha hr hs) fun σ H Q ⟨F, ρ, xx, P, rel, q, k⟩ => ⟨F, ρ, xx, _, rel, q, fun d ρ1 v F1 H1 q1 e1 r1 a1 => ⟨F1, ρ1, xx, _, r1, q1, fun ds ρ2 vs F2 H2 q2 e2 r2 a2 =>
    k (.d d :: ds) ρ2 (v :: vs) F2 H2 q2 (e1.trans e2) r2 (.cons (show ArAt c F2 v (.d d) from a1.mono e2) a2)⟩⟩
theorem da_ora {es : List Expr} {i : Nat} {g : AM} (ha : PE X e (tVar i)) (hr : PA X es (tAr c g)) (hs : starEach (e :: es) X.env = (false, eval e X.env) :: starEach es X.env := by rfl) : PA X (e :: es) (tAr c (aOra i g)) :=
  PA.to (pa_cons ha hr hs) fun σ H Q ⟨F, ρ, xx, P, rel, ⟨q0, q⟩, k⟩ => by
    split at q0
    · rename_i e0
      obtain ⟨p, h1, h2, _⟩ := rel.s.or i _ e0
      exact ⟨.ref p, h2, F, ρ, xx, _, rel, q, fun ds ρ2 vs F2 H2 q2 e2 r2 a2 => k (.ora :: ds) ρ2 (.ref p :: vs) F2 H2 q2 e2 r2 (.cons (show ArAt c F2 (.ref p) .ora from ⟨p, h1, rfl⟩) a2)⟩
    · exact q0.elim
end
end DL
namespace DL
open PySem L2
open PyProof.Rows in
theorem op_catLL {X : Cx} : OpR X (binaryOp .Add) (fun x y H Q => ∃ l b xs zs, x = .ref l ∧ y = .ref b ∧ SqL X.K H l xs ∧ SqL X.K H b zs ∧ xs.length + zs.length ≤ sizeLine ∧ ∀ p, H p = none → Q (.ref p) (upd H p (.lst (xs ++ zs)))) := by
  (intro pins s σ H x y v u Q I rx ry h)
  (obtain ⟨l, b, xs, zs, rfl, rfl, hH, hB, hz, q⟩ := h)
  cases rx
  cases ry
  obtain ⟨its, r, pl, _⟩ := I.list hH
  obtain ⟨its2, r2, pl2, _⟩ := I.list hB
  obtain ⟨⟨cls, dd, data, sl⟩, n, ho, hc, hd0, hd⟩ := id pl
  obtain ⟨⟨cls2, dd2, data2, sl2⟩, n2, ho2, hc2, hd02, hd2⟩ := id pl2
  simp only at hc hd hc2 hd2 hd0 hd02
  subst hc hd hc2 hd2
  have e : its.toArray ++ its2.toArray = (its ++ its2).toArray := by simp
  have h1 := r.length
  have h2 := r2.length
  refine concat_meets ⟨_, ho, rfl⟩ ⟨_, ho2, rfl⟩ noFill_list_add seq_list_add PySem.F.slot_list_add PySem.F.entry_list_add (PySem.F.args_list_add_2 _ _) (list_addW l b its.toArray its2.toArray n n2 dd dd2 sl sl2 (by simp only [List.size_toArray]; omega)) ⟨ho, ho2, ?_⟩
  rw [e]
  (exact ⟨.ref _, _, I.lnew (t' := s.toks) (r.append r2) (by rw [List.length_append]; omega), rfl, q _ I.fresh⟩)
open PyProof.Rows in
theorem op_repA {X : Cx} : OpR X (binaryOp .Mult) (fun x y H Q => ∃ l k xs, x = .ref l ∧ y = .int k ∧ SqL X.K H l xs ∧ -(2 ^ 63) ≤ k ∧ k < 2 ^ 63 ∧ xs.length * k.toNat ≤ sizeLine ∧
    ∀ p, H p = none → Q (.ref p) (upd H p (.lst (List.replicate k.toNat xs).flatten))) := by
  (intro pins s σ H x y v u Q I rx ry h)
  (obtain ⟨l, k, xs, rfl, rfl, hH, h1, h2, hz, q⟩ := h)
  cases rx
  obtain ⟨t, rfl⟩ := ry
  obtain ⟨its, r, pl, _⟩ := I.list hH
  obtain ⟨⟨cls, dd, data, sl⟩, n, ho, hc, hd0, hd⟩ := id pl
  simp only at hc hd hd0
  subst hc hd
  have hl := r.length
  have hsz' : its.toArray.size * k.toNat ≤ 2 ^ 24 := by rw [List.size_toArray, ← hl]; rw [sizeLine_eq] at hz; omega
  refine wpAny_binaryOp_repeat_ref (T := "list") (U := "int") (by decide) ⟨_, ho, rfl⟩ (fun s' => typeIs_int s' k t) noFill_list_mul F.fills_int_mul F.slot_int_rmul repeat_list F.slot_int_index.lookup
    (call_meets F.slot_int_rmul (typeIs_int s k t) F.entry_int_rmul (F.args_int_rmul_2 _ _) (lm_int_rmul_list_any k t l its.toArray n dd sl)
      ⟨ho, rfl, ⟨_, ho, rfl⟩,
        call_meets F.slot_list_mul ⟨_, ho, rfl⟩ F.entry_list_mul (F.args_list_mul_2 _ _)
        (lm_list_mul_any l its.toArray n dd sl k t (by simp [Builtin.List.listFitsIndex]; omega) (by omega) (by simp [Builtin.List.listTooLong, sizeLine]; omega))
        ⟨ho, ?_⟩⟩)
  rw [listMul_foldl_if]
  (exact ⟨.ref _, _, I.lnew (t' := s.toks) (r.rep k.toNat) (by rw [PyProof.Rows.lm_len_rep_flat, Nat.mul_comm]; exact hz), rfl, q _ I.fresh⟩)
section
variable {c : Cn} {F H : Hp} {v : V}
theorem bo_int {i : Int} (h : Bo c F H v (.int i)) : v = .int i := by
  rcases h with h | ⟨a, _, h⟩
  · cases h; rfl
  · exact h.elim
theorem bo_bl {i : Bool} (h : Bo c F H v (.bool i)) : v = .bl i := by
  rcases h with h | ⟨a, _, h⟩
  · cases h; rfl
  · exact h.elim
theorem bo_str {i : Str} (h : Bo c F H v (.str i)) : v = .str i := by
  rcases h with h | ⟨a, _, h⟩
  · cases h; rfl
  · exact h.elim
theorem bo_non (h : Bo c F H v .none) : v = .non := by
  rcases h with h | ⟨a, _, h⟩
  · cases h; rfl
  · exact h.elim
theorem bo_lst {ds : List D} (e : Ex F H) (h : Bo c F H v (.list ds)) : ∃ a xs, v = .ref a ∧ SqL c.K H a xs ∧ AtAll c.K F xs ds := by
  rcases h with h | ⟨a, rfl, vs, h1, h2⟩
  · cases h with
    | lst s t => exact ⟨_, _, rfl, e.sl s, t⟩
  · exact ⟨a, vs, rfl, SqL.of h1, h2⟩
theorem bo_tup {ds : List D} (e : Ex F H) (h : Bo c F H v (.tuple ds)) : ∃ a xs, v = .ref a ∧ SqT c.K F a xs ∧ SqT c.K H a xs ∧ AtAll c.K F xs ds := by
  rcases h with h | ⟨a, rfl, h⟩
  · cases h with
    | tup s t => exact ⟨_, _, rfl, s, e.st s, t⟩
  · exact h.elim
end
def gAdd : G2 := fun x y P => match x, y with
  | .int i, .int j => P (.int (i + j))
  | .str a, .str b => a.length + b.length ≤ 1000000 ∧ P (.str (a ++ b))
  | .list xs, .list ys => xs.length + ys.length ≤ 1000000 ∧ P (.list (xs ++ ys))
  | .tuple xs, .tuple ys => xs.length + ys.length ≤ 1000000 ∧ P (.tuple (xs ++ ys))
  | _, _ => False
def gSub : G2 := fun x y P => match x, y with
  | .int i, .int j => P (.int (i - j))
  | _, _ => False
def gMul : G2 := fun x y P => match x, y with
  | .int i, .int j => ((-(2 ^ 64) < i ∧ i < 2 ^ 64) ∨ (-(2 ^ 64) < j ∧ j < 2 ^ 64)) ∧ P (.int (i * j))
  | .list xs, .int k => (-(2 ^ 63) ≤ k ∧ k < 2 ^ 63) ∧ xs.length * k.toNat ≤ 1000000 ∧ P (.list (List.replicate k.toNat xs).flatten)
  | _, _ => False
def gMod : G2 := fun x y P => match x, y with
  | .int i, .int j => 0 < j ∧ P (.int (i % j))
  | _, _ => False
def gPow : G2 := fun x y P => match x, y with
  | .int i, .int j => (0 ≤ j ∧ j ≤ 1000000 ∧ i.natAbs < 2 ^ 64) ∧ P (.int (i ^ j.toNat))
  | _, _ => False
theorem AtAll.nil_iff {K : PySem.W.Frag} {H : Hp} {vs : List V} {ds : List D} (h : AtAll K H vs ds) : vs = [] ↔ ds = [] := by cases h <;> simp
section
variable {X : Cx} {c : Cn}
theorem sem_add (hK : X.K = c.K) : Sem2 X c (binaryOp .Add) gAdd := by
  refine ⟨_, (op_add.or op_add_str).or (op_catLL.or L2.op_catA), fun F H σ ρ xx x y vx vy P Q r bx by_ g k => ?_⟩
  have e := r.w.fh
  unfold gAdd at g
  split at g
  · cases bo_int bx; cases bo_int by_
    exact .inl (.inl ⟨_, _, rfl, rfl, k _ _ F H g (Ex.refl F) r (.int _)⟩)
  · cases bo_str bx; cases bo_str by_
    exact .inl (.inr ⟨_, _, rfl, rfl, sz g.1, k _ _ F H g.2 (Ex.refl F) r (.str _)⟩)
  · obtain ⟨a, xs, rfl, s1, t1⟩ := bo_lst e bx
    obtain ⟨b, ys, rfl, s2, t2⟩ := bo_lst e by_
    refine .inr (.inl ⟨a, b, xs, ys, rfl, rfl, by rw [hK]; exact s1, by rw [hK]; exact s2, sz (by rw [t1.length, t2.length]; exact g.1), fun p hp => ?_⟩)
    have e2 := r.efF (.lst (xs ++ ys)) hp
    exact k _ _ _ _ g.2 e2 (r.newF _ hp) (.lst (.inl (.inl upd_same)) ((t1.append t2).mono e2))
  · obtain ⟨a, xs, rfl, f1, s1, t1⟩ := bo_tup e bx
    obtain ⟨b, ys, rfl, f2, s2, t2⟩ := bo_tup e by_
    refine .inr (.inr ⟨a, b, xs, ys, rfl, rfl, by rw [hK]; exact s1, by rw [hK]; exact s2, sz (by rw [t1.length, t2.length]; exact g.1), fun z => ?_, fun _ z => ?_, fun _ _ p hp => ?_⟩)
    · refine k _ _ F H g.2 (Ex.refl F) r ?_
      rw [t1.nil_iff.mp z, List.nil_append]
      exact .tup f2 t2
    · refine k _ _ F H g.2 (Ex.refl F) r ?_
      rw [t2.nil_iff.mp z, List.append_nil]
      exact .tup f1 t1
    · have e2 := r.efF (.tup (xs ++ ys)) hp
      exact k _ _ _ _ g.2 e2 (r.newF _ hp) (.tup (.inl (.inl upd_same)) ((t1.append t2).mono e2))
  · exact g.elim
theorem sem_sub : Sem2 X c (binaryOp .Sub) gSub := by
  refine ⟨_, op_sub, fun F H σ ρ xx x y vx vy P Q r bx by_ g k => ?_⟩
  unfold gSub at g
  split at g
  · cases bo_int bx; cases bo_int by_
    exact ⟨_, _, rfl, rfl, k _ _ F H g (Ex.refl F) r (.int _)⟩
  · exact g.elim
theorem AtAll.rep {K : PySem.W.Frag} {H : Hp} {vs : List V} {ds : List D} (h : AtAll K H vs ds) : ∀ n : Nat, AtAll K H (List.replicate n vs).flatten (List.replicate n ds).flatten
  | 0 => .nil
  | n + 1 => by
    (rw [List.replicate_succ, List.replicate_succ, List.flatten_cons, List.flatten_cons])
    exact h.append (AtAll.rep h n)
theorem sem_mul (hK : X.K = c.K) : Sem2 X c (binaryOp .Mult) gMul := by
  refine ⟨_, op_mul.or op_repA, fun F H σ ρ xx x y vx vy P Q r bx by_ g k => ?_⟩
  have e := r.w.fh
  unfold gMul at g
  split at g
  · cases bo_int bx; cases bo_int by_
    exact .inl ⟨_, _, rfl, rfl, g.1, k _ _ F H g.2 (Ex.refl F) r (.int _)⟩
  · obtain ⟨a, xs, rfl, s1, t1⟩ := bo_lst e bx
    cases bo_int by_
    refine .inr ⟨a, _, xs, rfl, rfl, by rw [hK]; exact s1, g.1.1, g.1.2, sz (by rw [t1.length]; exact g.2.1), fun p hp => ?_⟩
    exact k _ _ _ _ g.2.2 (r.efF _ hp) (r.newF _ hp) (.lst (.inl (.inl upd_same)) ((t1.rep _).mono (r.efF _ hp)))
  · exact g.elim
theorem sem_mod : Sem2 X c (binaryOp .Mod) gMod := by
  refine ⟨_, op_mod, fun F H σ ρ xx x y vx vy P Q r bx by_ g k => ?_⟩
  unfold gMod at g
  split at g
  · cases bo_int bx; cases bo_int by_
    exact ⟨_, _, rfl, rfl, g.1, k _ _ F H g.2 (Ex.refl F) r (.int _)⟩
  · exact g.elim
theorem sem_pow : Sem2 X c (binaryOp .Pow) gPow := by
  refine ⟨_, op_pow, fun F H σ ρ xx x y vx vy P Q r bx by_ g k => ?_⟩
  unfold gPow at g
  split at g
  · cases bo_int bx; cases bo_int by_
    exact ⟨_, _, rfl, rfl, g.1, k _ _ F H g.2 (Ex.refl F) r (.int _)⟩
  · exact g.elim
def gCmp (p : Int → Int → Bool) : G2 := fun x y P => match x, y with
  | .int i, .int j => P (.bool (p i j))
  | _, _ => False
theorem sem_cmp {op : CmpOp} {p : Int → Int → Bool} (h : OpR X (compareOp op) (rI0 fun i j => .bl (p i j))) : Sem2 X c (compareOp op) (gCmp p) := by
  refine ⟨_, h, fun F H σ ρ xx x y vx vy P Q r bx by_ g k => ?_⟩
  unfold gCmp at g
  split at g
  · cases bo_int bx; cases bo_int by_
    exact ⟨_, _, rfl, rfl, k _ _ F H g (Ex.refl F) r (.bl _)⟩
  · exact g.elim
abbrev gLt : G2 := gCmp fun i j => decide (i < j)
abbrev gLe : G2 := gCmp fun i j => decide (i ≤ j)
abbrev gGt : G2 := gCmp fun i j => decide (j < i)
abbrev gGe : G2 := gCmp fun i j => decide (j ≤ i)
theorem sem_lt : Sem2 X c (compareOp .Lt) gLt := sem_cmp op_lt
theorem sem_le : Sem2 X c (compareOp .LtE) gLe := sem_cmp op_le
theorem sem_gt : Sem2 X c (compareOp .Gt) gGt := sem_cmp op_gt
theorem sem_ge : Sem2 X c (compareOp .GtE) gGe := sem_cmp op_ge
def isN : D → Bool
  | .none => true
  | _ => false
def gIs : G2 := fun x y P => match y with
  | .none => P (.bool (isN x))
  | _ => False
def gIsNot : G2 := fun x y P => match y with
  | .none => P (.bool (!isN x))
  | _ => False
theorem isN_dec {F H : Hp} {v : V} {d : D} (h : Bo c F H v d) : decide (v = .non) = isN d := by
  rcases h with h | ⟨a, rfl, _⟩
  · cases h <;> rfl
  · cases d <;> first | rfl | (rename_i h; exact h.elim)
theorem sem_is : Sem2 X c (compareOp .Is) gIs := by
  refine ⟨_, op_isN, fun F H σ ρ xx x y vx vy P Q r bx by_ g k => ?_⟩
  unfold gIs at g
  split at g
  · cases bo_non by_
    refine ⟨rfl, ?_⟩
    rw [isN_dec bx]
    exact k _ _ F H g (Ex.refl F) r (.bl _)
  · exact g.elim
theorem sem_isnot : Sem2 X c (compareOp .IsNot) gIsNot := by
  refine ⟨_, op_notN, fun F H σ ρ xx x y vx vy P Q r bx by_ g k => ?_⟩
  unfold gIsNot at g
  split at g
  · cases bo_non by_
    refine ⟨rfl, ?_⟩
    rw [isN_dec bx]
    exact k _ _ F H g (Ex.refl F) r (.bl _)
  · exact g.elim
/-- == of data: texts of signs, no dicts, not too deep -/
def okD (d : D) : Prop := SeqAt.shaped d = true
theorem okD.nod {d : D} (h : okD d) : nod d = true := by
  have h1 : d.canLay0 = true := SeqAt.canLay_of_shaped h
  have all : ∀ d : D, d.canLay0 = true → DL.nod d = true := fun d => by
    refine PyData.rec (motive_1 := fun d => d.canLay0 = true → DL.nod d = true) (motive_2 := fun ds => PyData.canLayAll0 ds = true → DL.nodAll ds = true) (motive_3 := fun _ => True) (motive_4 := fun _ => True) ?_ ?_ ?_ ?_ ?_ ?_ ?_ ?_ ?_ ?_ ?_ ?_ d
    · exact fun _ => rfl
    · exact fun _ _ => rfl
    · exact fun _ _ => rfl
    · exact fun _ _ => rfl
    · exact fun xs ih h => by simp only [DL.nod]; exact ih (by simpa only [PyData.canLay0] using h)
    · exact fun xs ih h => by simp only [DL.nod]; exact ih (by simpa only [PyData.canLay0] using h)
    · exact fun _ _ h => by simp [PyData.canLay0] at h
    · exact fun _ => rfl
    · exact fun x xs i j h => by
        simp only [PyData.canLayAll0, Bool.and_eq_true] at h
        simp only [DL.nodAll, Bool.and_eq_true]
        exact ⟨i h.1, j h.2⟩
    all_goals (intros; trivial)
  exact all d h1
def gEq : G2 := fun x y P => okD x ∧ okD y ∧ P (.bool (PyData.eqv x y))
def gNe : G2 := fun x y P => okD x ∧ okD y ∧ P (.bool (!PyData.eqv x y))
theorem sem_eq (hK : X.K = c.K) (hu : X.A.units + 64 < cLine) : Sem2 X c (compareOp .Eq) gEq := by
  refine ⟨_, op_eqD hu, fun F H σ ρ xx x y vx vy P Q r bx by_ g k => ?_⟩
  have e := r.w.fh
  refine ⟨x, y, by rw [hK]; exact (bx.at e).dp g.1.nod, by rw [hK]; exact (by_.at e).dp g.2.1.nod, g.1, g.2.1, k _ _ F H g.2.2 (Ex.refl F) r (.bl _)⟩
theorem sem_ne (hK : X.K = c.K) (hu : X.A.units + 64 < cLine) : Sem2 X c (compareOp .NotEq) gNe := by
  refine ⟨_, op_neD hu, fun F H σ ρ xx x y vx vy P Q r bx by_ g k => ?_⟩
  have e := r.w.fh
  refine ⟨x, y, by rw [hK]; exact (bx.at e).dp g.1.nod, by rw [hK]; exact (by_.at e).dp g.2.1.nod, g.1, g.2.1, k _ _ F H g.2.2 (Ex.refl F) r (.bl _)⟩
def gIx : G2 := fun x y P => match x, y with
  | .list xs, .int i => ∃ d, atI xs i = some d ∧ P d
  | .tuple xs, .int i => ∃ d, atI xs i = some d ∧ P d
  | .str z, .int i => z.length ≤ 1000000 ∧ ∃ n, atI z.cps.toList i = some n ∧ P (.str ⟨#[n]⟩)
  | _, _ => False
theorem atI_at {K : PySem.W.Frag} {F : Hp} {xs : List V} {ds : List D} (t : AtAll K F xs ds) {i : Int} {d : D} (h : atI ds i = some d) : ∃ v, atI xs i = some v ∧ At K F v d := by
  unfold atI at h ⊢
  rw [t.length]
  cases e : ixN ds.length i with
  | none => (rw [e] at h; cases h)
  | some j =>
    rw [e] at h
    exact t.get h
theorem ix_use (hK : X.K = c.K) : ∀ (F H : Hp) (σ : L2.St) (ρ : Env) (xx : XX) (x y : D) (vx vy : V) (P : D → Prop) (Q : VK), Rel c F H σ ρ xx → Bo c F H vx x → Bo c F H vy y → gIx x y P →
    (∀ z v F' H', P z → Ex F F' → Rel c F' H' σ ρ xx → At c.K F' v z → Q v H') → rIx X.K vx vy H Q := fun F H σ ρ xx x y vx vy P Q r bx by_ g k => by
  have e := r.w.fh
  unfold gIx at g
  split at g
  · obtain ⟨a, xs, rfl, s1, t1⟩ := bo_lst e bx
    cases bo_int by_
    obtain ⟨d, h1, h2⟩ := g
    obtain ⟨u, h3, h4⟩ := atI_at t1 h1
    exact .inl ⟨a, xs, _, u, rfl, rfl, by rw [hK]; exact s1, h3, k _ _ F H h2 (Ex.refl F) r h4⟩
  · obtain ⟨a, xs, rfl, _, s1, t1⟩ := bo_tup e bx
    cases bo_int by_
    obtain ⟨d, h1, h2⟩ := g
    obtain ⟨u, h3, h4⟩ := atI_at t1 h1
    exact .inr (.inl ⟨a, xs, _, u, rfl, rfl, by rw [hK]; exact s1, h3, k _ _ F H h2 (Ex.refl F) r h4⟩)
  · cases bo_str bx; cases bo_int by_
    obtain ⟨hz, n, h1, h2⟩ := g
    exact .inr (.inr ⟨_, _, n, rfl, rfl, sz hz, h1, k _ _ F H h2 (Ex.refl F) r (.str _)⟩)
  · exact g.elim
theorem de_ix {a b : Expr} {pos : Pos} {fa fb : HM} (hK : X.K = c.K) (ha : PE X a (tH c fa)) (hb : PE X b (tH c fb)) (hs : PlainIx b) : PE X (.Subscript a b pos) (tD c (d2 gIx fa fb)) :=
  PE.to (pe_ix ix_seq ha hb hs) (d2_use (ix_use hK) rfl rfl)
abbrev OM := Env → (Option Int → Env → Prop) → Prop
def tOI (c : Cn) (f : OM) : TO := fun σ H Q => ∃ F ρ xx P, Rel c F H σ ρ xx ∧ f ρ P ∧ ∀ o ρ' F' H', P o ρ' → Ex F F' → Rel c F' H' σ ρ' xx → Q o H'
def oNo : OM := fun ρ P => P none ρ
def oI (f : DM) : OM := fun ρ P => f ρ fun d ρ' => match d with
  | .int i => P (some i) ρ'
  | _ => False
theorem PO.to {e : Option Expr} {t t' : TO} (h : PO X e t) (w : ∀ σ H Q, t' σ H Q → t σ H Q) : PO X e t' := ⟨fun pins s σ H Q I q => h.run pins s σ H Q I (w σ H Q q)⟩
theorem do_no : PO X none (tOI c oNo) := PO.to po_none fun σ H Q ⟨F, ρ, xx, P, r, q, k⟩ => k none ρ F H q (Ex.refl F) r
theorem do_i {e : Expr} {f : DM} (h : PE X e (tD c f)) : PO X (some e) (tOI c (oI f)) := PO.to (po_some h) fun σ H Q ⟨F, ρ, xx, P, r, q, k⟩ => ⟨F, ρ, xx, _, r, q, fun d ρ' v F' H' p e r' a => by
  cases d <;> first | exact p.elim | (cases a; exact ⟨_, rfl, k _ ρ' F' H' p e r'⟩)⟩
/-- xs[lo:hi] -/
def cutD (xs : List D) (lo hi : Option Int) : List D := (xs.drop (HT.sIx xs.length 0 lo)).take (HT.sIx xs.length xs.length hi - HT.sIx xs.length 0 lo)
theorem cut_at {K : PySem.W.Frag} {F : Hp} {xs : List V} {ds : List D} (t : AtAll K F xs ds) (lo hi : Option Int) : AtAll K F (cutV xs lo hi) (cutD ds lo hi) := by
  unfold cutV cutD
  rw [t.length]
  exact (t.drop _).take _
def dSl (fa : HM) (fl fu : OM) : DM := fun ρ P => fa ρ fun h ρ1 => fl ρ1 fun lo ρ2 => fu ρ2 fun hi ρ3 => see ρ3 h fun d => match d with
  | .list xs => P (.list (cutD xs lo hi)) ρ3
  | .tuple xs => P (.tuple (cutD xs lo hi)) ρ3
  | .str z => z.length ≤ 1000000 ∧ P (.str (cutS z lo hi)) ρ3
  | _ => False
end
end DL
namespace DL
open PySem L2
section
variable {X : Cx} {c : Cn} {e : Expr} {pos : Pos}
theorem de_sl {lo hi : Option Expr} {p2 : Pos} {fa : HM} {fl fu : OM} (hK : X.K = c.K) (he : PE X e (tH c fa)) (hl : PO X lo (tOI c fl)) (hu : PO X hi (tOI c fu)) : PE X (.Subscript e (.Slice lo hi none p2) pos) (tD c (dSl fa fl fu)) := by
  refine PE.to (pe_slice ((sl_list.or sl_tupA).or sl_str) he hl hu) ?_
  rintro σ H Q ⟨F, ρ, xx, P, rel, q, k⟩
  refine ⟨F, ρ, xx, _, rel, q, fun h ρ1 v F1 H1 q1 e1 r1 h1 => ⟨F1, ρ1, xx, _, r1, q1, fun o ρ2 F2 H2 q2 e2 r2 => ⟨F2, ρ2, xx, _, r2, q2, fun u ρ3 F3 H3 q3 e3 r3 => ?_⟩⟩⟩
  obtain ⟨d, bd, q3⟩ := see_bo r3 (h1.mono (e2.trans e3)) q3
  have ex := r3.w.fh
  split at q3
  · obtain ⟨a, xs, rfl, s1, t1⟩ := bo_lst ex bd
    refine .inl (.inl ⟨a, xs, rfl, by rw [hK]; exact s1, fun p hp => ?_⟩)
    exact k _ ρ3 _ _ _ q3 (((e1.trans e2).trans e3).trans (r3.efF _ hp)) (r3.newF _ hp) (.lst (.inl (.inl upd_same)) ((cut_at t1 o u).mono (r3.efF _ hp)))
  · obtain ⟨a, xs, rfl, f1, s1, t1⟩ := bo_tup ex bd
    refine .inl (.inr ⟨a, xs, rfl, by rw [hK]; exact s1, fun hw => ?_, fun _ p hp => ?_⟩)
    · refine k _ ρ3 _ F3 H3 q3 ((e1.trans e2).trans e3) r3 ?_
      have hc := cut_at t1 o u
      have hz : cutV xs o u = xs := by
        unfold cutV
        rw [hw.1, hw.2]
        simp
      rw [hz] at hc
      exact .tup f1 hc
    · exact k _ ρ3 _ _ _ q3 (((e1.trans e2).trans e3).trans (r3.efF _ hp)) (r3.newF _ hp) (.tup (.inl (.inl upd_same)) ((cut_at t1 o u).mono (r3.efF _ hp)))
  · cases bo_str bd
    exact .inr ⟨_, rfl, sz q3.1, k _ ρ3 _ F3 H3 q3.2 ((e1.trans e2).trans e3) r3 (.str _)⟩
  · exact q3.elim
theorem tru_of {F H : Hp} {v : V} {d : D} (r : Ex F H) (b : Bo c F H v d) (hd : ∀ s, d = .str s → s.length ≤ 1000000) (hn : ∀ kd, d ≠ .dict kd) : TruV c.K v H (truD d) := by
  cases d with
  | none => cases bo_non b; rfl
  | bool x => cases bo_bl b; rfl
  | int i => cases bo_int b; rfl
  | str s =>
    cases bo_str b
    refine ⟨sz (hd s rfl), ?_⟩
    show (s.length != 0) = ((s.length : Int) != 0)
    cases h : s.length with
    | zero => rfl
    | succ n =>
      have h1 : (n + 1 != 0) = true := by simp
      have h2 : (((n + 1 : Nat) : Int) != 0) = true := by simp only [bne_iff_ne, ne_eq]; omega
      rw [h1, h2]
  | list xs =>
    obtain ⟨a, ys, rfl, s1, t1⟩ := bo_lst r b
    refine .inl ⟨ys, s1, ?_⟩
    cases t1 <;> rfl
  | tuple xs =>
    obtain ⟨a, ys, rfl, _, s1, t1⟩ := bo_tup r b
    refine .inr (.inl ⟨ys, s1, ?_⟩)
    cases t1 <;> rfl
  | dict kd => exact absurd rfl (hn kd)
def bTruth (f : HM) : BM := fun ρ P => f ρ fun h ρ1 => see ρ1 h fun d => match d with
  | .str s => s.length ≤ 1000000 ∧ P (truD (.str s)) ρ1
  | .dict _ => False
  | d => P (truD d) ρ1
theorem dt_truth {f : HM} (hK : X.K = c.K) (ha : PE X e (tH c f)) (he : ∀ whole, isTrue e X.env whole = (do let v ← whole; standAt e.pos; holding [v] (truthy v)) := by intro _; rfl) : PT X e (tT c (bTruth f)) := by
  refine PT.to (pt_truth ha he) ?_
  rintro σ H Q ⟨F, ρ, xx, P, rel, q, k⟩
  refine ⟨F, ρ, xx, _, rel, q, fun h ρ1 v F1 H1 q1 e1 r1 h1 => ?_⟩
  obtain ⟨d, bd, q1⟩ := see_bo r1 h1 q1
  rw [hK]
  cases d with
  | str s => exact ⟨_, tru_of r1.w.fh bd (fun t ht => by cases ht; exact q1.1) (fun _ z => by cases z), k _ ρ1 F1 H1 q1.2 e1 r1⟩
  | dict kd => exact q1.elim
  | _ => exact ⟨_, tru_of r1.w.fh bd (fun t ht => by cases ht) (fun _ z => by cases z), k _ ρ1 F1 H1 q1 e1 r1⟩
abbrev HLM := Env → (List Hd → Env → Prop) → Prop
def tHL (c : Cn) (f : HLM) : TA := fun σ H Q => ∃ F ρ xx P, Rel c F H σ ρ xx ∧ f ρ P ∧ ∀ hs ρ' vs F' H', P hs ρ' → Ex F F' → Rel c F' H' σ ρ' xx → Paired (fun v h => HdAt c F' σ h v) vs hs → Q vs H'
def gNil : HLM := fun ρ P => P [] ρ
def gCons (f : HM) (g : HLM) : HLM := fun ρ P => f ρ fun h ρ1 => g ρ1 fun hs ρ2 => P (h :: hs) ρ2
theorem dg_nil : PA X [] (tHL c gNil) := PA.to pa_nil fun σ H Q ⟨F, ρ, xx, P, rel, q, k⟩ => k [] ρ [] F H q (Ex.refl F) rel .nil
theorem dg_cons {es : List Expr} {f : HM} {g : HLM} (ha : PE X e (tH c f)) (hr : PA X es (tHL c g)) (hs : starEach (e :: es) X.env = (false, eval e X.env) :: starEach es X.env := by rfl) : PA X (e :: es) (tHL c (gCons f g)) :=
  PA.to (pa_cons ha hr hs) fun σ H Q ⟨F, ρ, xx, P, rel, q, k⟩ => ⟨F, ρ, xx, _, rel, q, fun d ρ1 v F1 H1 q1 e1 r1 a1 => ⟨F1, ρ1, xx, _, r1, q1, fun ds ρ2 vs F2 H2 q2 e2 r2 a2 =>
    k (d :: ds) ρ2 (v :: vs) F2 H2 q2 (e1.trans e2) r2 (.cons (a1.mono e2) a2)⟩⟩
def seeAll (ρ : Env) : List Hd → (List D → Prop) → Prop
  | [], k => k []
  | h :: hs, k => see ρ h fun d => seeAll ρ hs fun ds => k (d :: ds)
theorem seeAll_bo {F H : Hp} {σ : L2.St} {ρ : Env} {xx : XX} (r : Rel c F H σ ρ xx) : ∀ {vs : List V} {hs : List Hd}, Paired (fun v h => HdAt c F σ h v) vs hs → ∀ {k : List D → Prop}, seeAll ρ hs k → ∃ ds, Paired (Bo c F H) vs ds ∧ k ds
  | _, _, .nil, k, h => ⟨[], .nil, h⟩
  | _, _, .cons h t, k, q => by
    obtain ⟨d, b, q⟩ := see_bo r h q
    obtain ⟨ds, bs, q⟩ := seeAll_bo r t q
    exact ⟨d :: ds, .cons b bs, q⟩
abbrev GC := List D → (D → Prop) → Prop
def SemC (X : Cx) (c : Cn) (f : Value) (g : GC) : Prop := ∃ r : List V → Hp → VK → Prop, CallR X f r ∧ ∀ (F H : Hp) (σ : L2.St) (ρ : Env) (xx : XX) (ds : List D) (vs : List V) (P : D → Prop) (Q : VK), Rel c F H σ ρ xx → Paired (Bo c F H) vs ds → g ds P →
  (∀ z v F' H', P z → Ex F F' → Rel c F' H' σ ρ xx → At c.K F' v z → Q v H') → r vs H Q
def dCB (g : GC) (f : HLM) : DM := fun ρ P => f ρ fun hs ρ1 => seeAll ρ1 hs fun ds => g ds fun z => P z ρ1
theorem dCB_use {f : Value} {g : GC} {fh : HLM} {r : List V → Hp → VK → Prop} (hr : ∀ (F H : Hp) (σ : L2.St) (ρ : Env) (xx : XX) (ds : List D) (vs : List V) (P : D → Prop) (Q : VK), Rel c F H σ ρ xx → Paired (Bo c F H) vs ds → g ds P →
    (∀ z v F' H', P z → Ex F F' → Rel c F' H' σ ρ xx → At c.K F' v z → Q v H') → r vs H Q) : ∀ σ H Q, tD c (dCB g fh) σ H Q → tCB r (tHL c fh) σ H Q := by
  rintro σ H Q ⟨F, ρ, xx, P, rel, q, k⟩
  refine ⟨F, ρ, xx, _, rel, q, fun hs ρ1 vs F1 H1 q1 e1 r1 h1 => ?_⟩
  obtain ⟨ds, bs, q1⟩ := seeAll_bo r1 h1 q1
  exact hr F1 H1 σ ρ1 xx ds vs _ Q r1 bs q1 fun z v F' H' pz ez rz az => k z ρ1 v F' H' pz (e1.trans ez) rz az
variable {x : Str} {p : Pos} {es : List Expr} {fh : HLM} {g : GC}
theorem de_cb {id : String} (hs : SemC X c (.builtin id) g) (hg : Gl X x) (hm : X.mg x = none) (hv : bootBuiltins x = some (.builtin id)) (ha : PA X (e :: es) (tHL c fh)) (hn : x ≠ "__name__" := by decide) (hdb : (x == ("__debug__" : Str)) = false := by decide)
    (he : starEach (e :: es) X.env = (false, eval e X.env) :: starEach es X.env := by rfl) (hpl : (backTo pos (starEach es X.env)).any (·.1) = false := by rfl) : PE X (.Call (.Name x p) (e :: es) [] pos) (tD c (dCB g fh)) := by
  obtain ⟨r, ho, hr⟩ := hs
  exact PE.to (pe_callB ho hg hm hv ha hn hdb he hpl) (dCB_use (f := .none) hr)
theorem de_ct {T : String} (hs : SemC X c (.type T) g) (hg : Gl X x) (hm : X.mg x = none) (hv : bootBuiltins x = some (.type T)) (ha : PA X (e :: es) (tHL c fh)) (hn : x ≠ "__name__" := by decide) (hdb : (x == ("__debug__" : Str)) = false := by decide)
    (he : starEach (e :: es) X.env = (false, eval e X.env) :: starEach es X.env := by rfl) (hpl : (backTo pos (starEach es X.env)).any (·.1) = false := by rfl) : PE X (.Call (.Name x p) (e :: es) [] pos) (tD c (dCB g fh)) := by
  obtain ⟨r, ho, hr⟩ := hs
  exact PE.to (pe_callTy ho hg hm hv ha hn hdb he hpl) (dCB_use (f := .none) hr)
theorem pr1 {R : V → D → Prop} {vs : List V} {d : D} (h : Paired R vs [d]) : ∃ v, vs = [v] ∧ R v d := by
  cases h with
  | cons a t => cases t; exact ⟨_, rfl, a⟩
theorem pr2 {R : V → D → Prop} {vs : List V} {d d' : D} (h : Paired R vs [d, d']) : ∃ v u, vs = [v, u] ∧ R v d ∧ R u d' := by
  cases h with
  | cons a t => cases t with
    | cons b t => cases t; exact ⟨_, _, rfl, a, b⟩
def gLen : GC := fun ds P => match ds with
  | [.list xs] => P (.int xs.length)
  | [.tuple xs] => P (.int xs.length)
  | [.str s] => s.length ≤ 1000000 ∧ P (.int s.length)
  | _ => False
theorem sem_len (hK : X.K = c.K) : SemC X c (.builtin "len") gLen := by
  refine ⟨_, call_len, fun F H σ ρ xx ds vs P Q r bs g k => ?_⟩
  unfold gLen at g
  split at g
  · obtain ⟨v, rfl, b⟩ := pr1 bs
    obtain ⟨a, ys, rfl, s1, t1⟩ := bo_lst r.w.fh b
    exact ⟨_, _, rfl, .inl ⟨ys, by rw [hK]; exact s1, rfl⟩, by rw [t1.length]; exact k _ _ F H g (Ex.refl F) r (.int _)⟩
  · obtain ⟨v, rfl, b⟩ := pr1 bs
    obtain ⟨a, ys, rfl, _, s1, t1⟩ := bo_tup r.w.fh b
    exact ⟨_, _, rfl, .inr ⟨ys, by rw [hK]; exact s1, rfl⟩, by rw [t1.length]; exact k _ _ F H g (Ex.refl F) r (.int _)⟩
  · obtain ⟨v, rfl, b⟩ := pr1 bs
    cases bo_str b
    exact ⟨_, _, rfl, ⟨sz g.1, rfl⟩, k _ _ F H g.2 (Ex.refl F) r (.int _)⟩
  · exact g.elim
def gInt : GC := fun ds P => match ds with
  | [.int i] => P (.int i)
  | [.bool b] => P (.int (if b then 1 else 0))
  | _ => False
theorem sem_int : SemC X c (.type "int") gInt := by
  refine ⟨_, call_int1, fun F H σ ρ xx ds vs P Q r bs g k => ?_⟩
  unfold gInt at g
  split at g
  · obtain ⟨v, rfl, b⟩ := pr1 bs
    cases bo_int b
    exact .inl ⟨_, rfl, k _ _ F H g (Ex.refl F) r (.int _)⟩
  · obtain ⟨v, rfl, b⟩ := pr1 bs
    cases bo_bl b
    exact .inr ⟨_, rfl, k _ _ F H g (Ex.refl F) r (.int _)⟩
  · exact g.elim
/-- a list of numbers, of truths -/
def ofInts : List D → Option (List Int)
  | [] => some []
  | .int i :: ds => (ofInts ds).map (i :: ·)
  | _ :: _ => none
theorem ofInts_eq : ∀ {ds : List D} {ns : List Int}, ofInts ds = some ns → ds = ns.map PyData.int
  | [], ns, h => by cases h; rfl
  | .int i :: ds, ns, h => by
    unfold ofInts at h
    cases e : ofInts ds with
    | none => (rw [e] at h; cases h)
    | some ms =>
      rw [e] at h
      cases h
      rw [ofInts_eq e]
      rfl
  | .none :: _, _, h => nomatch h
  | .bool _ :: _, _, h => nomatch h
  | .str _ :: _, _, h => nomatch h
  | .list _ :: _, _, h => nomatch h
  | .tuple _ :: _, _, h => nomatch h
  | .dict _ :: _, _, h => nomatch h
def ofBools : List D → Option (List Bool)
  | [] => some []
  | .bool i :: ds => (ofBools ds).map (i :: ·)
  | _ :: _ => none
theorem ofBools_eq : ∀ {ds : List D} {ns : List Bool}, ofBools ds = some ns → ds = ns.map PyData.bool
  | [], ns, h => by cases h; rfl
  | .bool i :: ds, ns, h => by
    unfold ofBools at h
    cases e : ofBools ds with
    | none => (rw [e] at h; cases h)
    | some ms =>
      rw [e] at h
      cases h
      rw [ofBools_eq e]
      rfl
  | .none :: _, _, h => nomatch h
  | .int _ :: _, _, h => nomatch h
  | .str _ :: _, _, h => nomatch h
  | .list _ :: _, _, h => nomatch h
  | .tuple _ :: _, _, h => nomatch h
  | .dict _ :: _, _, h => nomatch h
/-- a built-in over one list of numbers -/
def gIL (k : List Int → (D → Prop) → Prop) : GC := fun ds P => match ds with
  | [.list xs] => ∃ ns, ofInts xs = some ns ∧ k ns P
  | _ => False
theorem gil_use {k0 : List Int → (D → Prop) → Prop} {F H : Hp} {σ : L2.St} {ρ : Env} {xx : XX} {ds : List D} {vs : List V} {P : D → Prop} (r : Rel c F H σ ρ xx) (bs : Paired (Bo c F H) vs ds) (g : gIL k0 ds P) : ∃ a ns, vs = [V.ref a] ∧ SqL c.K H a (ns.map V.int) ∧ k0 ns P := by
  unfold gIL at g
  split at g
  · obtain ⟨v, rfl, b⟩ := pr1 bs
    obtain ⟨ns, hn, g⟩ := g
    obtain ⟨a, ys, rfl, s1, t1⟩ := bo_lst r.w.fh b
    rw [ofInts_eq hn] at t1
    rw [t1.ints] at s1
    exact ⟨a, ns, rfl, s1, g⟩
  · exact g.elim
def gMin : GC := fun ds P => match ds with
  | [.int i, .int j] => P (.int (min i j))
  | ds => gIL (fun ns P => ns ≠ [] ∧ ∀ m, m ∈ ns → (∀ y, y ∈ ns → m ≤ y) → P (.int m)) ds P
theorem sem_min (hK : X.K = c.K) (hc : X.calm = true) : SemC X c (.builtin "min") gMin :=
  ⟨_, CallR.or (call_min2 hc) (cr_min hc), fun F H σ ρ xx ds vs P Q r bs g k => by
    unfold gMin at g
    split at g
    · obtain ⟨v, u, rfl, b1, b2⟩ := pr2 bs
      cases bo_int b1; cases bo_int b2
      rename_i i j
      refine .inl ⟨i, j, rfl, ?_⟩
      have e : (if j < i then j else i) = min i j := by split <;> omega
      rw [e]
      exact k _ _ F H g (Ex.refl F) r (.int _)
    · obtain ⟨a, ns, rfl, s1, hne, g⟩ := gil_use r bs g
      exact .inr ⟨a, ns, rfl, by rw [hK]; exact s1, List.length_pos_iff.mpr hne, fun m h1 h2 => k _ _ F H (g m h1 h2) (Ex.refl F) r (.int _)⟩⟩
def gAll : GC := fun ds P => match ds with
  | [.list xs] => ∃ ns, ofBools xs = some ns ∧ P (.bool (ns.all id))
  | _ => False
theorem sem_all (hK : X.K = c.K) (hc : X.calm = true) : SemC X c (.builtin "all") gAll :=
  ⟨_, cr_all hc, fun F H σ ρ xx ds vs P Q r bs g k => by
    unfold gAll at g
    split at g
    · obtain ⟨v, rfl, b⟩ := pr1 bs
      obtain ⟨ns, hn, g⟩ := g
      obtain ⟨a, ys, rfl, s1, t1⟩ := bo_lst r.w.fh b
      rw [ofBools_eq hn] at t1
      rw [t1.bools] at s1
      exact ⟨a, ns, rfl, by rw [hK]; exact s1, k _ _ F H g (Ex.refl F) r (.bl _)⟩
    · exact g.elim⟩
def gTuple : GC := fun ds P => match ds with
  | [.list xs] => P (.tuple xs)
  | [.tuple xs] => P (.tuple xs)
  | _ => False
theorem sem_tuple (hK : X.K = c.K) : SemC X c (.type "tuple") gTuple := by
  refine ⟨_, call_tuple_of, fun F H σ ρ xx ds vs P Q r bs g k => ?_⟩
  unfold gTuple at g
  split at g
  · obtain ⟨v, rfl, b⟩ := pr1 bs
    obtain ⟨a, ys, rfl, s1, t1⟩ := bo_lst r.w.fh b
    exact ⟨a, ys, rfl, .inl ⟨by rw [hK]; exact s1, fun q hq => k _ _ _ _ g (r.efF _ hq) (r.newF _ hq) (.tup (.inl (.inl upd_same)) (t1.mono (r.efF _ hq)))⟩⟩
  · obtain ⟨v, rfl, b⟩ := pr1 bs
    obtain ⟨a, ys, rfl, f1, s1, t1⟩ := bo_tup r.w.fh b
    exact ⟨a, ys, rfl, .inr ⟨by rw [hK]; exact s1, k _ _ F H g (Ex.refl F) r (.tup f1 t1)⟩⟩
  · exact g.elim
def gList : GC := fun ds P => match ds with
  | [.list xs] => P (.list xs)
  | [.tuple xs] => P (.list xs)
  | _ => False
/-- list(..): a new one -/
theorem dn_list (hK : X.K = c.K) (hg : Gl X "list") (hm : X.mg "list" = none) (ha : PA X [e] (tHL c fh)) (he : starEach [e] X.env = (false, eval e X.env) :: starEach [] X.env := by rfl) (hpl : (backTo pos (starEach [] X.env)).any (·.1) = false := by rfl) :
    PE X (.Call (.Name "list" p) [e] [] pos) (tN c (dCB gList fh)) := by
  refine PE.to (pe_callTy call_list_of hg hm (by decide +kernel) ha (by decide) (by decide) he hpl) ?_
  rintro σ H Q ⟨F, ρ, xx, P, rel, q, k⟩
  refine ⟨F, ρ, xx, _, rel, q, fun hs ρ1 vs F1 H1 q1 e1 r1 h1 => ?_⟩
  obtain ⟨ds, bs, q1⟩ := seeAll_bo r1 h1 q1
  unfold gList at q1
  split at q1
  · obtain ⟨v, rfl, b⟩ := pr1 bs
    obtain ⟨a, ys, rfl, s1, t1⟩ := bo_lst r1.w.fh b
    refine ⟨a, ys, rfl, .inl (by rw [hK]; exact s1), fun l hl => ?_⟩
    obtain ⟨r2, fr⟩ := Fresh.new (o := .lst ys) r1 hl (d := .d <| .list _) ⟨ys, upd_same, t1⟩
    exact k _ ρ1 _ _ _ q1 e1 r2 fr
  · obtain ⟨v, rfl, b⟩ := pr1 bs
    obtain ⟨a, ys, rfl, _, s1, t1⟩ := bo_tup r1.w.fh b
    refine ⟨a, ys, rfl, .inr (by rw [hK]; exact s1), fun l hl => ?_⟩
    obtain ⟨r2, fr⟩ := Fresh.new (o := .lst ys) r1 hl (d := .d <| .list _) ⟨ys, upd_same, t1⟩
    exact k _ ρ1 _ _ _ q1 e1 r2 fr
  · exact q1.elim
def gOrd : GC := fun ds P => match ds with
  | [.str s] => s.length = 1 ∧ P (.int (s.cps.getD 0 0 : Nat))
  | _ => False
theorem sem_ord : SemC X c (.builtin "ord") gOrd := by
  refine ⟨_, call_ord, fun F H σ ρ xx ds vs P Q r bs g k => ?_⟩
  unfold gOrd at g
  split at g
  · obtain ⟨v, rfl, b⟩ := pr1 bs
    cases bo_str b
    exact ⟨_, rfl, g.1, k _ _ F H g.2 (Ex.refl F) r (.int _)⟩
  · exact g.elim
end
end DL
namespace DL
open PySem L2
structure DE where
  nx : Env → Prop
  rt : D → Env → Prop
  bk : Env → Prop
  ct : Env → Prop
abbrev SM := DE → Env → Prop
def tS (c : Cn) (g : SM) : TS := fun Z σ H => ∃ F ρ xx E, Rel c F H σ ρ xx ∧ g E ρ ∧ (∀ ρ' σ' F' H', E.nx ρ' → Ex F F' → Rel c F' H' σ' ρ' xx → Z.nx σ' H') ∧ (∀ d v ρ' σ' F' H', E.rt d ρ' → Rel c F' H' σ' ρ' xx → At c.K F' v d → Z.rt v H') ∧
  (∀ ρ' σ' F' H', E.bk ρ' → Ex F F' → Rel c F' H' σ' ρ' xx → Z.bk σ' H') ∧ (∀ ρ' σ' F' H', E.ct ρ' → Ex F F' → Rel c F' H' σ' ρ' xx → Z.ct σ' H')
theorem PS.to {X : Cx} {st : Stmt} {t t' : TS} (h : PS X st t) (w : ∀ Z σ H, t' Z σ H → t Z σ H) : PS X st t' := ⟨fun pins s σ H Z I q => h.run pins s σ H Z I (w Z σ H q)⟩
theorem PSs.to {X : Cx} {st : List Stmt} {t t' : TS} (h : PSs X st t) (w : ∀ Z σ H, t' Z σ H → t Z σ H) : PSs X st t' := ⟨fun pins s σ H Z I q => h.run pins s σ H Z I (w Z σ H q)⟩
section
variable {X : Cx} {c : Cn} {st : Stmt} {rest : List Stmt} {e : Expr} {pos : Pos}
def sSeq (g h : SM) : SM := fun E ρ => g { E with nx := h E } ρ
def sNo : SM := fun E ρ => E.nx ρ
theorem ds_cons {g h : SM} (h1 : PS X st (tS c g)) (h2 : PSs X rest (tS c h)) : PSs X (st :: rest) (tS c (sSeq g h)) :=
  PSs.to (pss_cons h1 h2) fun Z σ H ⟨F, ρ, xx, E, rel, q, n, r, b, t⟩ => ⟨F, ρ, xx, _, rel, q, fun ρ' σ' F' H' p e rel' => ⟨F', ρ', xx, E, rel', p, fun ρ2 σ2 F2 H2 p2 e2 => n ρ2 σ2 F2 H2 p2 (e.trans e2), r,
    fun ρ2 σ2 F2 H2 p2 e2 => b ρ2 σ2 F2 H2 p2 (e.trans e2), fun ρ2 σ2 F2 H2 p2 e2 => t ρ2 σ2 F2 H2 p2 (e.trans e2)⟩, r, b, t⟩
theorem ds_one {g : SM} (h1 : PS X st (tS c g)) : PSs X [st] (tS c g) := pss_one h1
theorem ds_nil : PSs X [] (tS c sNo) := PSs.to pss_nil fun Z σ H ⟨F, ρ, xx, E, rel, q, n, r, b, t⟩ => n ρ σ F H q (Ex.refl F) rel
def sNever : SM := fun _ _ => False
theorem ds_never : PSs X rest (tS c sNever) := PSs.to pss_never fun Z σ H ⟨F, ρ, xx, E, rel, q, n, r, b, t⟩ => q.elim
def sRet (f : DM) : SM := fun E ρ => f ρ fun d ρ1 => E.rt d ρ1
theorem dp_ret {f : DM} (h : PE X e (tD c f)) : PS X (.Return (some e) pos) (tS c (sRet f)) :=
  PS.to (ps_ret h) fun Z σ H ⟨F, ρ, xx, E, rel, q, n, r, b, t⟩ => ⟨F, ρ, xx, _, rel, q, fun d ρ' v F' H' p e r' a => r d v ρ' σ F' H' p r' a⟩
def sRetN : SM := fun E ρ => E.rt .none ρ
def sIf (t : BM) (g h : SM) : SM := fun E ρ => t ρ fun b ρ1 => if b = true then g E ρ1 else h E ρ1
theorem dp_if {t : BM} {a b : List Stmt} {g h : SM} (hc : PT X e (tT c t)) (ha : PSs X a (tS c g)) (hb : PSs X b (tS c h)) : PS X (.If e a b pos) (tS c (sIf t g h)) :=
  PS.to (ps_if hc ha hb) fun Z σ H ⟨F, ρ, xx, E, rel, q, n, r, b, t⟩ => ⟨F, ρ, xx, _, rel, q, fun d ρ1 F1 H1 q1 e1 r1 => by
    have go : ∀ {g : SM}, g E ρ1 → tS c g Z σ H1 := fun q => ⟨F1, ρ1, xx, E, r1, q, fun ρ2 σ2 F2 H2 p2 e2 => n ρ2 σ2 F2 H2 p2 (e1.trans e2), r,
      fun ρ2 σ2 F2 H2 p2 e2 => b ρ2 σ2 F2 H2 p2 (e1.trans e2), fun ρ2 σ2 F2 H2 p2 e2 => t ρ2 σ2 F2 H2 p2 (e1.trans e2)⟩
    cases d with
    | true => exact go q1
    | false => exact go q1⟩
def sExpr (f : DM) : SM := fun E ρ => f ρ fun _ ρ1 => E.nx ρ1
theorem dp_expr {f : DM} (h : PE X e (tD c f)) (hs : swapsWith e none pos.line X.env = pure false := by rfl) : PS X (.Expr e pos) (tS c (sExpr f)) :=
  PS.to (ps_expr h hs) fun Z σ H ⟨F, ρ, xx, E, rel, q, n, r, b, t⟩ => ⟨F, ρ, xx, _, rel, q, fun d ρ' v F' H' p e r' a => n ρ' σ F' H' p e r'⟩
abbrev TM := D → Env → (Env → Prop) → Prop
def Only (js : List Nat) (σ σ' : L2.St) : Prop := ∀ vs : List Nat, (∀ j ∈ js, j ∈ vs) → wipe σ' vs = wipe σ vs
def tG (c : Cn) (js : List Nat) (t : TM) : TG := fun v σ H Q => ∃ F ρ xx d P, Rel c F H σ ρ xx ∧ At c.K F v d ∧ t d ρ P ∧ ∀ ρ' σ' F' H', P ρ' → Only js σ σ' → Ex F F' → Rel c F' H' σ' ρ' xx → Q σ' H'
abbrev TMs := List D → Env → (Env → Prop) → Prop
def tGs (c : Cn) (js : List Nat) (t : TMs) : TGs := fun vs σ H Q => ∃ F ρ xx ds P, Rel c F H σ ρ xx ∧ AtAll c.K F vs ds ∧ t ds ρ P ∧ ∀ ρ' σ' F' H', P ρ' → Only js σ σ' → Ex F F' → Rel c F' H' σ' ρ' xx → Q σ' H'
theorem PG.to {tg : Expr} {t t' : TG} (h : PG X tg t) (w : ∀ v σ H Q, t' v σ H Q → t v σ H Q) : PG X tg t' := ⟨fun pins s σ H v u Q I r q => h.run pins s σ H v u Q I r (w v σ H Q q)⟩
theorem PGs.to {ts : List Expr} {t t' : TGs} (h : PGs X ts t) (w : ∀ v σ H Q, t' v σ H Q → t v σ H Q) : PGs X ts t' := ⟨fun pins s σ H v u Q I r q => h.run pins s σ H v u Q I r (w v σ H Q q)⟩
theorem only_set (i : Nat) (σ : L2.St) (v : V) : Only [i] σ (σ.set i (some v)) := fun vs h => by
  have hi : i ∈ vs := h i (List.mem_singleton.mpr rfl)
  clear h
  induction vs with
  | nil => cases hi
  | cons w ws ih =>
    show (wipe (σ.set i (some v)) ws).set w none = (wipe σ ws).set w none
    by_cases hw : i ∈ ws
    · rw [ih hw]
    · have e : w = i := by
        rcases List.mem_cons.mp hi with h | h
        · exact h.symm
        · exact absurd h hw
      subst e
      have z : ∀ ws : List Nat, wipe (σ.set w (some v)) ws = (wipe σ ws).set w (some v) ∨ w ∈ ws := fun ws => by
        induction ws with
        | nil => exact .inl rfl
        | cons y ys ih2 =>
          by_cases h1 : w = y
          · exact .inr (by rw [h1]; exact List.mem_cons_self ..)
          · rcases ih2 with h2 | h2
            · left
              show (wipe (σ.set w (some v)) ys).set y none = ((wipe σ ys).set y none).set w (some v)
              rw [h2, List.set_comm _ _ h1]
            · exact .inr (List.mem_cons_of_mem _ h2)
      rcases z ws with h2 | h2
      · rw [h2, List.set_set]
      · exact absurd h2 hw
theorem Only.trans {js ks : List Nat} {σ σ' σ'' : L2.St} (a : Only js σ σ') (b : Only ks σ' σ'') : Only (js ++ ks) σ σ'' := fun vs h =>
  (b vs fun j hj => h j (List.mem_append_right _ hj)).trans (a vs fun j hj => h j (List.mem_append_left _ hj))
def gN (i : Nat) : TM := fun d ρ P => P (ρ.set i (.im d))
theorem dg_name {i : Nat} {x : Str} (hN : X.N.Nodup) (hi : X.N[i]? = some x) (hx : Loc X.env.scope x) (hf : X.fn x = true ∨ X.env.scope.names.lookup x = some .local := by first | exact .inl rfl | exact .inr rfl | assumption) : PG X (.Name x pos) (tG c [i] (gN i)) :=
  PG.to (pg_name hN hi hx hf) fun v σ H Q ⟨F, ρ, xx, d, P, rel, a, q, k⟩ => k _ _ F H q (only_set i σ v) (Ex.refl F) (rel.putI i a)
def gNoT : TMs := fun ds ρ P => ds = [] ∧ P ρ
def gConsT (t : TM) (u : TMs) : TMs := fun ds ρ P => match ds with
  | d :: ds => t d ρ fun ρ1 => u ds ρ1 P
  | [] => False
theorem dgs_nil : PGs X [] (tGs c [] gNoT) := PGs.to pgs_nil fun v σ H Q ⟨F, ρ, xx, ds, P, rel, a, ⟨e, q⟩, k⟩ => by
  subst e
  cases a
  exact ⟨rfl, k _ _ F H q (fun _ _ => rfl) (Ex.refl F) rel⟩
theorem dgs_cons {tg : Expr} {ts : List Expr} {js ks : List Nat} {t : TM} {u : TMs} (h1 : PG X tg (tG c js t)) (h2 : PGs X ts (tGs c ks u))
    (hs : (assignEach (tg :: ts) X.env).map (·.2) = assign tg X.env :: (assignEach ts X.env).map (·.2) := by rfl) : PGs X (tg :: ts) (tGs c (js ++ ks) (gConsT t u)) :=
  PGs.to (pgs_cons h1 h2 hs) fun v σ H Q ⟨F, ρ, xx, ds, P, rel, a, q, k⟩ => by
    cases a with
    | nil => exact False.elim q
    | cons a1 a2 => exact ⟨_, _, rfl, F, ρ, xx, _, _, rel, a1, q, fun ρ1 σ1 F1 H1 q1 o1 e1 r1 => ⟨F1, ρ1, xx, _, P, r1, a2.mono e1, q1, fun ρ2 σ2 F2 H2 q2 o2 e2 r2 => k ρ2 σ2 F2 H2 q2 (o1.trans o2) (e1.trans e2) r2⟩⟩
def gTupT (n : Nat) (t : TMs) : TM := fun d ρ P => match d with
  | .tuple ds => ds.length = n ∧ t ds ρ P
  | _ => False
theorem dg_tup {es : List Expr} {k : Nat} {js : List Nat} {t : TMs} {n : Nat} (hK : X.K = c.K) (hc : X.calm = true) (h : PGs X es (tGs c js t))
    (hn : (assignEach es X.env).length = n := by rfl) (hst : (assignEach es X.env).findIdx? (·.1) = none := by rfl) : PG X (.Tuple es k pos) (tG c js (gTupT n t)) :=
  PG.to (pg_tup hc h hn hst) fun v σ H Q ⟨F, ρ, xx, d, P, rel, a, q, k⟩ => by
    cases a with
    | tup s1 a1 => exact ⟨_, _, rfl, by rw [hK]; exact rel.w.fh.st s1, by rw [a1.length]; exact q.1, F, ρ, xx, _, P, rel, a1, q.2, k⟩
    | _ => exact False.elim q
def sAsg (f : DM) (t : TM) : SM := fun E ρ => f ρ fun d ρ1 => t d ρ1 E.nx
theorem dp_asg {tg : Expr} {f : DM} {js : List Nat} {t : TM} (he : PE X e (tD c f)) (hg : PG X tg (tG c js t)) (hs : swapsWithSole [tg] e pos.line X.env = pure false := by rfl) (hw : swappedStores [tg] e X.env = pure none := by rfl)
    (h1 : (assignEach [tg] X.env).map (·.2) = [assign tg X.env] := by rfl) : PS X (.Assign [tg] e pos) (tS c (sAsg f t)) :=
  PS.to (ps_asg he hg hs hw h1) fun Z σ H ⟨F, ρ, xx, E, rel, q, n, r, b, t⟩ => ⟨F, ρ, xx, _, rel, q, fun d ρ' v F' H' p e r' a => ⟨F', ρ', xx, d, _, r', a, p, fun ρ2 σ2 F2 H2 p2 _ e2 r2 => n ρ2 σ2 F2 H2 p2 (e.trans e2) r2⟩⟩
def sSet (i : Nat) (f : DM) : SM := fun E ρ => f ρ fun d ρ1 => E.nx (ρ1.set i (.im d))
def sSetN (i : Nat) (f : DM) : SM := fun E ρ => f ρ fun d ρ1 => E.nx (ρ1.set i (.ow d))
theorem set_use {i : Nat} {f : DM} {te : TE} (et : te = tD c f) : ∀ Z σ H, tS c (sSet i f) Z σ H → tAsg te (gName i) Z σ H := by
  subst et
  exact fun Z σ H ⟨F, ρ, xx, E, rel, q, n, r, b, t⟩ => ⟨F, ρ, xx, _, rel, q, fun d ρ' v F' H' p e r' a => n _ _ F' H' p e (r'.putI i a)⟩
theorem setN_use {i : Nat} {f : DM} {te : TE} (et : te = tN c f) : ∀ Z σ H, tS c (sSetN i f) Z σ H → tAsg te (gName i) Z σ H := by
  subst et
  exact fun Z σ H ⟨F, ρ, xx, E, rel, q, n, r, b, t⟩ => ⟨F, ρ, xx, _, rel, q, fun d ρ' v F' H' p e r' a => n _ _ F' H' p e (r'.putO i a)⟩
variable {x : Str} {i : Nat} {pos' : Pos}
theorem dp_set {f : DM} (hN : X.N.Nodup) (hi : X.N[i]? = some x) (hx : Loc X.env.scope x) (he : PE X e (tD c f)) (hs : swapsWith e (some (.Name x pos')) pos.line X.env = pure false := by rfl)
    (hf : X.fn x = true ∨ X.env.scope.names.lookup x = some .local := by first | exact .inl rfl | exact .inr rfl | assumption) : PS X (.Assign [.Name x pos'] e pos) (tS c (sSet i f)) := PS.to (ps_set hN hi hx he hs hf) (set_use rfl)
theorem dp_setN {f : DM} (hN : X.N.Nodup) (hi : X.N[i]? = some x) (hx : Loc X.env.scope x) (he : PE X e (tN c f)) (hs : swapsWith e (some (.Name x pos')) pos.line X.env = pure false := by rfl)
    (hf : X.fn x = true ∨ X.env.scope.names.lookup x = some .local := by first | exact .inl rfl | exact .inr rfl | assumption) : PS X (.Assign [.Name x pos'] e pos) (tS c (sSetN i f)) := PS.to (ps_set hN hi hx he hs hf) (setN_use rfl)
/-- a, b = x, y -/
def sPar (i j : Nat) (f : LM) : SM := fun E ρ => f ρ fun ds ρ1 => match ds with
  | [a, b] => E.nx ((ρ1.set i (.im a)).set j (.im b))
  | _ => False
theorem dp_par {j : Nat} {y : Str} {a b : Expr} {f : LM} {px py pt : Pos} {kt k2 : Nat} {pt2 : Pos} (hc : X.calm = true) (hN : X.N.Nodup) (hi : X.N[i]? = some x) (hj : X.N[j]? = some y) (hij : i ≠ j)
    (hx : X.env.scope.names.lookup x = some .local) (hy : X.env.scope.names.lookup y = some .local) (ha : PA X [a, b] (tL c f))
    (hw : (swappedStores [.Tuple [.Name x px, .Name y py] kt pt] (.Tuple [a, b] k2 pt2) X.env = pure (some [x, y])))
    (hs : swapsWithSole [.Tuple [.Name x px, .Name y py] kt pt] (.Tuple [a, b] k2 pt2) pos.line X.env = pure false
      := by rfl) :
    PS X (.Assign [.Tuple [.Name x px, .Name y py] kt pt] (.Tuple [a, b] k2 pt2) pos) (tS c (sPar i j f)) :=
  PS.to (ps_par hc hN hi hj hij hx hy ha hw hs) fun Z σ H ⟨F, ρ, xx, E, rel, q, n, r, bb, t⟩ => ⟨F, ρ, xx, _, rel, q, fun ds ρ' vs F' H' p e r' a => by
    split at p
    · cases a with
      | cons a1 a2 => cases a2 with
        | cons a2 a3 =>
          cases a3
          exact ⟨_, _, rfl, n _ _ F' H' p e ((r'.putI i a1).putI j a2)⟩
    · exact p.elim⟩
/-- x += e -/
def sAug (i : Nat) (g : G2) (f : HM) : SM := fun E ρ => (match ρ[i]? with
  | some (.im _) => True
  | _ => False) ∧ f ρ fun h ρ1 => match ρ1[i]? with
  | some (.im d) => see ρ1 h fun dy => g d dy fun z => E.nx (ρ1.set i (.im z))
  | _ => False
def ipG (r : R2) : TIp := fun x y H Q => r x y H Q
theorem dp_aug {op : Operator} {g : G2} {f : HM} (hN : X.N.Nodup) (hi : X.N[i]? = some x) (hx : Loc X.env.scope x) (he : PE X e (tH c f)) (hs : Sem2 X c (inplaceOp op) g)
    (hf : X.fn x = true ∨ X.env.scope.names.lookup x = some .local := by first | exact .inl rfl | exact .inr rfl | assumption) : PS X (.AugAssign (.Name x pos') op e pos) (tS c (sAug i g f)) := by
  obtain ⟨r, ho, hr⟩ := hs
  refine PS.to (ps_aug (ti := ipG r) hN hi hx he ho hf) ?_
  rintro Z σ H ⟨F, ρ, xx, E, rel, ⟨q0, q⟩, n, rr, b, t⟩
  split at q0
  · rename_i d e0
    obtain ⟨v, g1, g2⟩ := rel.s.im i d e0
    refine ⟨v, g1, F, ρ, xx, _, rel, q, fun h ρ1 u F1 H1 q1 e1 r1 h1 => ?_⟩
    split at q1
    · rename_i d1 e2
      obtain ⟨v', g1', g2'⟩ := r1.s.im i d1 e2
      rw [g1] at g1'
      cases g1'
      obtain ⟨dy, by_, q1⟩ := see_bo r1 h1 q1
      exact hr F1 H1 σ ρ1 xx d1 dy v u _ _ r1 (.inl g2') by_ q1 fun z w F2 H2 pz ez rz az => n _ _ F2 H2 pz (e1.trans ez) (rz.putI i az)
    · exact q1.elim
  · exact q0.elim
abbrev IM := Env → (List D → Env → Prop) → Prop
def ItOk (c : Cn) (J : It) (ds : List D) (F : Hp) : Prop := ∀ (i : Nat) (F' H : Hp) (σ : L2.St) (ρ : Env) (xx : XX), Ex F F' → Rel c F' H σ ρ xx →
  (∀ d, ds[i]? = some d → J.go i H ∧ ∀ x H', J.yld i H x H' → ∃ F2, Ex F' F2 ∧ Rel c F2 H' σ ρ xx ∧ At c.K F2 x d) ∧ (ds.length = i → J.stop i H)
def tI (c : Cn) (f : IM) : TI := fun σ H R => ∃ F ρ xx P, Rel c F H σ ρ xx ∧ f ρ P ∧ ∀ ds ρ' J F' H', P ds ρ' → Ex F F' → Rel c F' H' σ ρ' xx → ItOk c J ds F' → R J H'
theorem PI.to {tg iter : Expr} {t t' : TI} (h : PI X tg iter t) (w : ∀ σ H Q, t' σ H Q → t σ H Q) : PI X tg iter t' := ⟨fun pins s σ H Q I q => h.run pins s σ H Q I (w σ H Q q)⟩
def forL (t : TM) (body : SM) (E : DE) : List D → Env → Prop
  | [], ρ => E.nx ρ
  | d :: ds, ρ => t d ρ fun ρ1 => body ⟨forL t body E ds, E.rt, E.nx, forL t body E ds⟩ ρ1
def sFor (f : IM) (t : TM) (body : SM) : SM := fun E ρ => f ρ fun ds ρ1 => forL t body E ds ρ1
theorem dp_for {tg iter : Expr} {body : List Stmt} {f : IM} {js : List Nat} {t : TM} {g : SM} (hp : PassesOwn (model X.prog X.w) X.A X.env X.xe) (hc : X.calm = true) (hi : PI X tg iter (tI c f)) (hg : PG X tg (tG c js t)) (hb : PSs X body (tS c g))
    (hs : ∀ x, foldedSetIterable iter X.env x = pure x := by intro _; rfl) : PS X (.For tg iter body [] pos) (tS c (sFor f t g)) := by
  refine PS.to (ps_for hp hc hi hg hb hs) ?_
  rintro Z σ H ⟨F, ρ, xx, E, rel, q, n, r, b, ct⟩
  refine ⟨F, ρ, xx, _, rel, q, fun ds ρ1 J F1 H1 q1 e1 r1 ok => ?_⟩
  refine ⟨fun i m σ' H' => ∃ F' ρ', Ex F1 F' ∧ Rel c F' H' σ' ρ' xx ∧ m = ds.length - i ∧ i ≤ ds.length ∧ forL t g E (ds.drop i) ρ', ⟨ds.length, F1, ρ1, Ex.refl F1, r1, by omega, Nat.zero_le _, by rw [List.drop_zero]; exact q1⟩, ?_⟩
  rintro i m σ' H' ⟨F', ρ', e2, r2, rfl, hi, q2⟩
  obtain ⟨o1, o2⟩ := ok i F' H' σ' ρ' xx e2 r2
  by_cases hlt : i < ds.length
  · have hd : ds[i]? = some ds[i] := List.getElem?_eq_getElem hlt
    obtain ⟨go, yl⟩ := o1 _ hd
    rw [List.drop_eq_getElem_cons hlt] at q2
    have q2 : t ds[i] ρ' fun ρ1 => g ⟨forL t g E (ds.drop (i + 1)), E.rt, E.nx, forL t g E (ds.drop (i + 1))⟩ ρ1 := q2
    refine .inr ⟨go, fun σ2 H2 => ∃ F2 ρ2, Ex F1 F2 ∧ Rel c F2 H2 σ2 ρ2 xx ∧ forL t g E (ds.drop (i + 1)) ρ2, fun σ2 H2 ⟨F2, ρ2, a1, a2, a3⟩ => ⟨ds.length - (i + 1), by omega, F2, ρ2, a1, a2, rfl, by omega, a3⟩, fun v H2 y => ?_⟩
    obtain ⟨F2, e3, r3, a3⟩ := yl v H2 y
    refine ⟨F2, ρ', xx, _, _, r3, a3, q2, fun ρ4 σ4 F4 H4 q4 _ e4 r4 => ?_⟩
    exact ⟨F4, ρ4, xx, _, r4, q4, fun ρ5 σ5 F5 H5 q5 e5 r5 => ⟨F5, ρ5, ((e2.trans e3).trans e4).trans e5, r5, q5⟩, r, fun ρ5 σ5 F5 H5 q5 e5 r5 => n ρ5 σ5 F5 H5 q5 ((((e1.trans e2).trans e3).trans e4).trans e5) r5, fun ρ5 σ5 F5 H5 q5 e5 r5 => ⟨F5, ρ5, ((e2.trans e3).trans e4).trans e5, r5, q5⟩⟩
  · have e : i = ds.length := by omega
    subst e
    rw [List.drop_length] at q2
    exact .inl ⟨o2 rfl, n ρ' σ' F' H' q2 (e1.trans e2) r2⟩
theorem itOk_list {a : Addr} {F : Hp} {ds : List D} {ys : List V} {K : PySem.W.Frag} (hK : K = c.K) (s : SqL c.K F a ys) (t : AtAll c.K F ys ds) : ItOk c (Itl K a) ds F := by
  subst hK
  intro i F' H σ ρ xx e r
  have sq := r.w.fh.sl (e.sl s)
  refine ⟨fun d hd => ?_, fun hl => ⟨ys, sq, by rw [t.length]; exact Nat.le_of_eq hl⟩⟩
  obtain ⟨v, hv, av⟩ := t.get hd
  refine ⟨⟨ys, v, sq, hv⟩, fun x H' ⟨eh, y⟩ => ?_⟩
  subst eh
  have := y ys sq
  rw [hv] at this
  cases this
  exact ⟨F', Ex.refl _, r, av.mono e⟩
theorem itOk_tup {a : Addr} {F : Hp} {ds : List D} {ys : List V} {K : PySem.W.Frag} (hK : K = c.K) (s : SqT c.K F a ys) (t : AtAll c.K F ys ds) : ItOk c (Itt K a) ds F := by
  subst hK
  intro i F' H σ ρ xx e r
  have sq := r.w.fh.st (e.st s)
  refine ⟨fun d hd => ?_, fun hl => ⟨ys, sq, by rw [t.length]; exact Nat.le_of_eq hl⟩⟩
  obtain ⟨v, hv, av⟩ := t.get hd
  refine ⟨⟨ys, v, sq, hv⟩, fun x H' ⟨eh, y⟩ => ?_⟩
  subst eh
  have := y ys sq
  rw [hv] at this
  cases this
  exact ⟨F', Ex.refl _, r, av.mono e⟩
/-- an iterator over a list, a tuple, a text: by what the value is -/
def iAny (K : PySem.W.Frag) (tl : TE) : TI := fun σ H R => tl σ H fun x H1 => (∃ a, x = .ref a ∧ (((∃ xs, SqL K H1 a xs) ∧ R (Itl K a) H1) ∨ ((∃ xs, SqT K H1 a xs) ∧ R (Itt K a) H1))) ∨ ∃ z, x = .str z ∧ R (Its z) H1
theorem pi_any {tg l : Expr} {tl : TE} (hl : PE X l tl) : PI X tg l (iAny X.K tl) := by
  (refine ⟨fun pins s σ H R I h => ?_⟩)
  refine thn (hl.run pins s σ H _ I h) fun v s1 ⟨x, H1, I1, r1, q⟩ => ?_
  have fin : ∀ b, b ∈ [s1.heap.objs.size] → FpOk X pins H1 b := fun b hb => by
    obtain rfl := List.mem_singleton.mp hb
    (exact I1.fpOk (Nat.le_refl _) (I1.hok.fresh (Nat.le_refl _)))
  rcases q with ⟨a, ex, q⟩ | ⟨z, ex, q⟩
  · subst ex
    cases r1
    rcases q with ⟨⟨xs, hs⟩, q⟩ | ⟨⟨xs, hs⟩, q⟩
    · obtain ⟨its, rv, pl, hz⟩ := I1.list hs
      exact wpAny_pyIter_list pl.isList ⟨_, [s1.heap.objs.size], _, _, H1, rfl, I1.kept (t' := s1.toks) fun b o q => Heap.get?_push_of_some _ q, turn_list a _,
        ⟨_, Heap.get?_push_size _ rfl, rfl, rfl⟩, fin, q⟩
    · obtain ⟨its, rv, pl, hz⟩ := I1.tuple hs
      exact wpAny_pyIter_tuple (show s1.heap.IsTuple a its.toArray from pl) ⟨_, [s1.heap.objs.size], _, _, H1, rfl, I1.kept (t' := s1.toks) fun b o q => Heap.get?_push_of_some _ q, turn_tuple a _,
        ⟨_, Heap.get?_push_size _ rfl, rfl, rfl⟩, fin, q⟩
  · subst ex
    obtain ⟨t, rfl⟩ := r1
    cases ha : z.cps.all (· < 128)
    · exact wpAny_pyIter_wide ha (pi_one (tk := s1.toks) I1 _ (turn_str _ z t "str_iterator" (.inr rfl)) ⟨_, Heap.get?_push_size _ rfl, rfl, rfl⟩ q)
    · exact wpAny_pyIter_ascii ha (pi_one (tk := s1.toks) I1 _ (turn_str _ z t "str_ascii_iterator" (.inl rfl)) ⟨_, Heap.get?_push_size _ rfl, rfl, rfl⟩ q)
def signs (z : Str) : List D := z.cps.toList.map fun n => .str ⟨#[n]⟩
theorem itOk_str {z : Str} {F : Hp} : ItOk c (Its z) (signs z) F := by
  intro i F' H σ ρ xx e r
  refine ⟨fun d hd => ?_, fun hl => ?_⟩
  · unfold signs at hd
    rw [List.getElem?_map] at hd
    cases hn : z.cps.toList[i]? with
    | none => rw [hn] at hd; cases hd
    | some n =>
      rw [hn] at hd
      cases hd
      have hi : z.cps[i]? = some n := by simpa using hn
      refine ⟨?_, fun x H' ⟨eh, m, y, ev⟩ => ?_⟩
      · have := (Array.getElem?_eq_some_iff.mp hi).1
        exact this
      · subst eh ev
        rw [hi] at y
        cases y
        exact ⟨F', Ex.refl _, r, .str _⟩
  · unfold signs at hl
    rw [List.length_map, Array.length_toList] at hl
    exact Nat.le_of_eq hl
def iSeq (f : DM) : IM := fun ρ P => f ρ fun d ρ1 => match d with
  | .list ds => P ds ρ1
  | .tuple ds => P ds ρ1
  | .str z => P (signs z) ρ1
  | _ => False
theorem di_seq {tg l : Expr} {f : DM} (hK : X.K = c.K) (hl : PE X l (tD c f)) : PI X tg l (tI c (iSeq f)) := by
  refine PI.to (pi_any hl) ?_
  rintro σ H R ⟨F, ρ, xx, P, rel, q, k⟩
  refine ⟨F, ρ, xx, _, rel, q, fun d ρ1 v F1 H1 q1 e1 r1 a1 => ?_⟩
  split at q1
  · cases a1 with
    | lst s1 t1 => exact .inl ⟨_, rfl, .inl ⟨⟨_, by rw [hK]; exact r1.w.fh.sl s1⟩, k _ ρ1 _ F1 H1 q1 e1 r1 (itOk_list hK s1 t1)⟩⟩
  · cases a1 with
    | tup s1 t1 => exact .inl ⟨_, rfl, .inr ⟨⟨_, by rw [hK]; exact r1.w.fh.st s1⟩, k _ ρ1 _ F1 H1 q1 e1 r1 (itOk_tup hK s1 t1)⟩⟩
  · cases a1
    exact .inr ⟨_, rfl, k _ ρ1 _ F1 H1 q1 e1 r1 itOk_str⟩
  · exact q1.elim
/-- range(n), range(a, b) -/
def rgD (lo hi : Int) : List D := (List.range (hi - lo).toNat).map fun i => .int (lo + (i : Nat))
theorem itOk_range {lo : Int} {n : Nat} {F : Hp} : ItOk c (Itr lo n) ((List.range n).map fun i => .int (lo + (i : Nat))) F := by
  intro i F' H σ ρ xx e r
  refine ⟨fun d hd => ?_, fun hl => show n ≤ i by simp at hl; omega⟩
  rw [List.getElem?_map] at hd
  cases hn : (List.range n)[i]? with
  | none => rw [hn] at hd; cases hd
  | some j =>
    rw [hn] at hd
    cases hd
    obtain ⟨hi, ej⟩ := List.getElem?_eq_some_iff.mp hn
    rw [List.getElem_range] at ej
    subst ej
    refine ⟨show i < n by simpa using hi, fun x H' ⟨eh, y⟩ => ?_⟩
    subst eh y
    exact ⟨F', Ex.refl _, r, .int _⟩
def iRange1 (f : LM) : IM := fun ρ P => f ρ fun ds ρ1 => match ds with
  | [.int n] => (-(2 ^ 62) ≤ n ∧ n < 2 ^ 62) ∧ P (rgD 0 n) ρ1
  | _ => False
theorem di_range1 {tg a : Expr} {f : LM} {p : Pos} (hg : Gl X "range") (hm : X.mg "range" = none) (ha : PA X [a] (tL c f)) (hs : starEach [a] X.env = [(false, eval a X.env)] := by rfl) : PI X tg (.Call (.Name "range" p) [a] [] pos) (tI c (iRange1 f)) := by
  refine PI.to (pi_range1 hg hm ha hs) ?_
  rintro σ H R ⟨F, ρ, xx, P, rel, q, k⟩
  refine ⟨F, ρ, xx, _, rel, q, fun ds ρ1 vs F1 H1 q1 e1 r1 a1 => ?_⟩
  split at q1
  · rename_i n
    cases a1 with
    | cons a b =>
      cases b
      cases a
      have hr : rgD 0 n = (List.range n.toNat).map fun i => PyData.int (0 + (i : Nat)) := by
        unfold rgD
        rw [Int.sub_zero]
      rw [hr] at q1
      exact ⟨n, rfl, q1.1.1, q1.1.2, k _ ρ1 _ F1 H1 q1.2 e1 r1 itOk_range⟩
  · exact q1.elim
/-- while -/
def sWhile (t : BM) (body : SM) : SM := fun E ρ => ∃ W : Nat → Env → Prop, (∃ m, W m ρ) ∧ ∀ m ρ, W m ρ → t ρ fun b ρ1 => if b = true then body ⟨fun ρ' => ∃ m', m' < m ∧ W m' ρ', E.rt, E.nx, fun ρ' => ∃ m', m' < m ∧ W m' ρ'⟩ ρ1 else E.nx ρ1
theorem dp_while {t : BM} {body : List Stmt} {g : SM} (hp : PassesOwn (model X.prog X.w) X.A X.env X.xe) (hc : PT X e (tT c t)) (hb : PSs X body (tS c g)) : PS X (.While e body [] pos) (tS c (sWhile t g)) := by
  refine PS.to (ps_while hp hc hb) ?_
  rintro Z σ H ⟨F, ρ, xx, E, rel, ⟨W, ⟨m0, w0⟩, turn⟩, n, r, b, ct⟩
  refine ⟨fun m σ' H' => ∃ F' ρ', Ex F F' ∧ Rel c F' H' σ' ρ' xx ∧ W m ρ', ⟨m0, F, ρ, Ex.refl F, rel, w0⟩, ?_⟩
  rintro m σ' H' ⟨F', ρ', e1, r1, w1⟩
  refine ⟨F', ρ', xx, _, r1, turn m ρ' w1, fun bb ρ2 F2 H2 q2 e2 r2 => ?_⟩
  cases bb with
  | true =>
    refine ⟨fun σ3 H3 => ∃ F3 ρ3, Ex F F3 ∧ Rel c F3 H3 σ3 ρ3 xx ∧ ∃ m', m' < m ∧ W m' ρ3, fun σ3 H3 ⟨F3, ρ3, a1, a2, m', a3, a4⟩ => ⟨m', a3, F3, ρ3, a1, a2, a4⟩, ?_⟩
    exact ⟨F2, ρ2, xx, _, r2, q2, fun ρ3 σ3 F3 H3 q3 e3 r3 => ⟨F3, ρ3, (e1.trans e2).trans e3, r3, q3⟩, r, fun ρ3 σ3 F3 H3 q3 e3 r3 => n ρ3 σ3 F3 H3 q3 ((e1.trans e2).trans e3) r3, fun ρ3 σ3 F3 H3 q3 e3 r3 => ⟨F3, ρ3, (e1.trans e2).trans e3, r3, q3⟩⟩
  | false => exact n ρ2 σ' F2 H2 q2 (e1.trans e2) r2
end
end DL
namespace DL
open PySem L2
section
open PyProof.Rows
variable {prog : Program} {w : PySem.World} {A : Around} {E : Value → Shared → Prop} {s : Shared}
/-- enumerate(v), where iter(v) begins with the object o -/
theorem enum_one {v : Value} {o : Obj} {Z : Heap → Prop} {Q : Value → Shared → Prop} (B : Begins v o Z) (f : Z s.heap)
    (h : ∀ h2 : Heap, h2.get? s.heap.objs.size = some o → IsEnum h2 (s.heap.objs.size + 1) s.heap.objs.size 0 .none → (∀ b z, s.heap.get? b = some z → h2.get? b = some z) → Q (.ref (s.heap.objs.size + 1)) { s with heap := h2 }) :
    wpAny (model prog w) A (call (.type "enumerate") [v]) Q E s := by
  have new : Meets (Builtin.«enumerate.__new__» ⟨[.type "enumerate", v], []⟩) (fun _ R s1 => Z s1.heap ∧ R (.ok (.ret (.ref (s1.heap.push o).objs.size))) { s1 with heap := (s1.heap.push o).push { cls := .type "enumerate", data := .fields #[.none, .bool false, .ref s1.heap.objs.size, rawInt 0, .none, .none] } }) := by
    refine .of_wp fun prog w A R s1 z => ?_
    have begins : ∀ {A' : Around} {E : Value → Shared → Prop} {Q : Value → Shared → Prop}, Q (.ref s1.heap.objs.size) { s1 with heap := s1.heap.push o } → wpAny (model prog w) A' (pyIter v) Q E s1 := fun q => B.iter prog w _ _ s1 _ z.1 q
    have isa := sub_enumerate
    have fin := z.2
    clear z
    cases s1
    wp_walk using begins
    apply wpAny_stack_any
    intro st
    apply wpAny_pure
    split
    case _ c _ _ _ _ _ =>
      rcases c == Value.type "enumerate" with _ | _ <;> (wp_walk using begins) <;> exact ⟨_, rfl, fin⟩
    case _ =>
      wp_walk using begins
      exact ⟨_, rfl, fin⟩
  have at1 : (s.heap.push o).objs.size = s.heap.objs.size + 1 := Heap.size_push ..
  refine callType_new F.called_enumerate (by decide) (F.typeCall_enumerate_1 v) (F.newCall_enumerate_1 v) (F.args_object_init_2 · v) F.entry_enumerate_new new ?_
  rw [at1]
  have made := Heap.get?_push_size (s.heap.push o) (o := { cls := .type "enumerate", data := .fields #[.none, .bool false, .ref s.heap.objs.size, rawInt 0, .none, .none] }) rfl
  rw [at1] at made
  exact ⟨f, ⟨_, made, rfl⟩, h _ (Heap.get?_push_of_some _ (Heap.get?_push_size _ B.free)) made fun b z q => Heap.get?_push_of_some _ (Heap.get?_push_of_some _ q)⟩
/-- where an enumerate over the tuple a stands: e the enumerate, it the tuple's iterator -/
structure EnT (a e it : Addr) (i : Nat) (h : Heap) : Prop where
  en : ∃ old, IsEnum h e it ((i : Nat) : Int) old
  ti : h.IsTupleIter it a i
  e_it : e ≠ it
  a_it : a ≠ it
  a_e : a ≠ e
theorem EnT.move {a e it : Addr} {i : Nat} {h h' : Heap} (x : EnT a e it i h) (ke : ∀ o, h.get? e = some o → h'.get? e = some o) (ki : ∀ o, h.get? it = some o → h'.get? it = some o) : EnT a e it i h' :=
  ⟨x.en.imp fun _ q => ke _ q, x.ti.at ki, x.e_it, x.a_it, x.a_e⟩
/-- its next item, over the heap alone -/
theorem EnT.step {a e it : Addr} {i : Nat} {its : List Value} {u : Value} {R : Shared → Prop} {elts : List Expr} {kk : Nat} {tpos : Pos} (x : EnT a e it i s.heap) (calm : A.in1.handled = none) (p : s.heap.IsTuple a its.toArray) (hu : its[i]? = some u)
    (h : ∀ (h2 : Heap) (tk : Nat), EnT a e it (i + 1) h2 → h2.get? s.heap.objs.size = some { cls := .type "tuple", data := .seq #[.int i tk, u] } → (∀ b o, b ≠ e → b ≠ it → s.heap.get? b = some o → h2.get? b = some o) → R { s with heap := h2, toks := tk + 1 }) :
    wpAny (model prog w) A (pyNext (.ref e)) (fun r s1 => r = some (.ref s.heap.objs.size) ∧ wpAny (model prog w) A (letOwnedTupleGo (.Tuple elts kk tpos) (.ref e) (.ref s.heap.objs.size)) (fun _ s2 => R s2) E s1) E s := by
  obtain ⟨⟨old, en⟩, ti, n1, n2, n3⟩ := x
  have new : s.heap.objs.size ≠ e := Nat.ne_of_gt (Heap.lt_size en)
  have few : i < its.toArray.size := (List.getElem?_eq_some_iff.mp hu).1
  refine wpAny_pyNext_enum_itemD (Draws.tuple (prog := prog) (w := w) calm it a n2 its.toArray) en ⟨ti, p⟩ few n1 (List.not_mem_cons_of_ne_of_not_mem n1 (List.not_mem_cons_of_ne_of_not_mem (Ne.symm n3) List.not_mem_nil)) ?_
  rintro y h1 tk hy own st1 tup - kept
  have : y = u := Option.some.inj (Eq.trans (by simpa using hy.symm) hu)
  subst this
  refine ⟨rfl, wpAny_letOwnedTupleGo_enum (s := { s with heap := h1, toks := tk + 1 }) own fun h2 en2 sb => h h2 tk ⟨⟨_, by rw [Int.natCast_succ]; exact en2⟩, st1.1.at fun o q => (sb.2 it (Ne.symm n1)).trans q, n1, n2, n3⟩ ((sb.2 _ new).trans tup) ?_⟩
  exact fun b o be bi q => (sb.2 b be).trans (kept b o be bi q)
end
/-- each item of a sequence with its number, in a new pair -/
def numbered (S : Hp → List V → Prop) : It where
  go i H := ∃ xs x, S H xs ∧ xs[i]? = some x
  yld i H v H' := ∃ T x, v = .ref T ∧ H T = none ∧ H' = upd H T (.tup [.int (i : Nat), x]) ∧ ∀ xs, S H xs → xs[i]? = some x
  stop i H := ∃ xs, S H xs ∧ xs.length = i
abbrev IteT (K : PySem.W.Frag) (a : Addr) : It := numbered fun H xs => SqT K H a xs
open PyProof.Rows in
theorem turn_enumT {P : Program} {w : PySem.World} {K : PySem.W.Frag} {elts : List Expr} {kk : Nat} {tpos : Pos} (a e it : Addr) : Turn P w K (.Tuple elts kk tpos) (IteT K a) [e, it] e (EnT a e it) := by
  have two : ∀ {p : Addr → Prop}, p e → p it → ∀ b ∈ [e, it], p b := fun pe pi => List.forall_mem_cons.mpr ⟨pe, List.forall_mem_cons.mpr ⟨pi, fun _ z => nomatch z⟩⟩
  constructor
  · exact List.mem_cons_self
  · rintro i h ⟨⟨old, en⟩, ⟨o, ho, -, hd⟩, -⟩
    exact two ⟨_, en, fun v q => nomatch q⟩ ⟨o, ho, fun v q => by rw [hd] at q; exact nomatch q⟩
  · exact fun i h h' x k => x.move (k e List.mem_cons_self) (k it (List.mem_cons_of_mem _ List.mem_cons_self))
  · rintro X rfl rfl rfl calm i pins s σ H E I away x ⟨xs, y, sq, hy⟩
    obtain ⟨its, rv, p, -⟩ := I.tuple sq
    obtain ⟨u, hu, ru⟩ := rv.get hy
    have le : e < s.heap.objs.size := x.en.elim fun _ q => Heap.lt_size q
    have li : it < s.heap.objs.size := x.ti.elim fun _ q => Heap.lt_size q.1
    refine wpAny_mono (x.step (R := fun s2 => ∃ y' H', Inv X pins σ H' s2 ∧ RelV y' (.ref s.heap.objs.size) ∧ (IteT X.K a).yld i H y' H' ∧ EnT a e it (i + 1) s2.heap ∧ ∀ b ∈ [e, it], H' b = none) (I.ok.hd calm) p hu ?_) (fun r s1 q => ⟨_, q⟩) fun _ _ q => q
    intro h2 tk x2 tup kept
    refine ⟨.ref s.heap.objs.size, upd H s.heap.objs.size (.tup [.int (i : Nat), y]), ?_, rfl, ⟨_, y, rfl, I.hok.fresh (Nat.le_refl _), rfl, fun ys q => by rw [I.tuple_inj q sq]; exact hy⟩, x2, two ?_ ?_⟩
    · refine I.turnedNew (ch := [e, it]) (t' := tk + 1) (fun b ob nb q => kept b ob (fun z => nb (z ▸ List.mem_cons_self)) (fun z => nb (z ▸ List.mem_cons_of_mem _ List.mem_cons_self)) q) away (Nat.le_refl _) ?_
      exact ⟨by show 2 ≤ sizeLine; decide, _, .cons ⟨tk, rfl⟩ (.cons ru .nil), _, tup, rfl, _, rfl⟩
    · exact (upd_ne (Nat.ne_of_lt le)).trans (away e List.mem_cons_self).1
    · exact (upd_ne (Nat.ne_of_lt li)).trans (away it (List.mem_cons_of_mem _ List.mem_cons_self)).1
  · rintro X rfl rfl rfl calm i pins s σ H E I away x ⟨xs, sq, hi⟩
    obtain ⟨its, rv, p, -⟩ := I.tuple sq
    obtain ⟨old, en⟩ := x.en
    have at_end : s.heap.IsTupleIter it a its.toArray.size := by
      have : its.toArray.size = i := by rw [List.size_toArray, ← rv.length, hi]
      rw [this]
      exact x.ti
    obtain ⟨-, f1, f2, f3, f4, f5⟩ := away it (List.mem_cons_of_mem _ List.mem_cons_self)
    have quiet : X.A.in1.handled = none := I.ok.hd calm
    exact wpAny_pyNext_enum_endD (Draws.tuple (prog := X.prog) (w := X.w) quiet it a x.a_it its.toArray) en ⟨at_end, p⟩ fun h2 kept =>
      ⟨rfl, I.turned (t' := s.toks) (fun b o nb q => kept b o nb q) (away it (List.mem_cons_of_mem _ List.mem_cons_self)).1 f1 f3 f4 f5⟩
  · exact fun A i s Q E x q => x.en.elim fun _ en => wpAny_pyIter_enum en q
section
variable {X : Cx} {c : Cn}
/-- enumerate(x), of a list or a tuple -/
def iEnumA (K : PySem.W.Frag) (ta : TA) : TI := fun σ H R => ta σ H fun vs H1 => ∃ a xs, vs = [.ref a] ∧ ((SqL K H1 a xs ∧ R (Ite K a) H1) ∨ (SqT K H1 a xs ∧ R (IteT K a) H1))
open PyProof.Rows in
theorem pi_enumA {e : Expr} {ta : TA} {p pos tpos : Pos} {elts : List Expr} {kk : Nat} (hg : Gl X "enumerate") (hm : X.mg "enumerate" = none) (ha : PA X [e] ta) (hs : starEach [e] X.env = [(false, eval e X.env)] := by rfl) :
    PI X (.Tuple elts kk tpos) (.Call (.Name "enumerate" p) [e] [] pos) (iEnumA X.K ta) := by
  constructor
  intro pins s σ H R I h
  refine Call_ (ld_blt I hg hm boot_enumerate (PyProof.Rows.callWith_type1 (thn (ha.run pos pins s σ H _ I h) ?_) hs rfl))
  rintro us s1 ⟨vs, H1, I1, r1, a, xs, rfl, q⟩
  obtain _ | ⟨r, _ | _⟩ := r1
  cases r
  have new : ∀ b, s1.heap.objs.size ≤ b → FpOk X pins H1 b := fun b le => I1.fpOk le (I1.hok.fresh le)
  have news : ∀ b ∈ [s1.heap.objs.size + 1, s1.heap.objs.size], FpOk X pins H1 b := fun b hb => new b (by
    (simp only [List.mem_cons, List.not_mem_nil, or_false] at hb)
    omega)
  refine q.elim (fun ⟨sq, q⟩ => ?_) fun ⟨sq, q⟩ => ?_
  · obtain ⟨its, -, p1, -⟩ := I1.list sq
    refine enum_one (begins_list a its.toArray) p1.isList fun h2 hi he kept => wpAny_pyIter_enum he ?_
    exact ⟨_, _, _, _, H1, rfl, I1.kept (t' := s1.toks) kept, turn_enum a _ s1.heap.objs.size, ⟨⟨_, he⟩, ⟨_, hi, rfl, rfl⟩, Nat.succ_ne_self _⟩, news, q⟩
  · obtain ⟨its, -, p1, -⟩ := I1.tuple sq
    have lt : a < s1.heap.objs.size := p1.elim fun _ z => Heap.lt_size z.1
    refine enum_one (begins_tuple a its.toArray) p1 fun h2 hi he kept => wpAny_pyIter_enum he ?_
    exact ⟨_, _, _, _, H1, rfl, I1.kept (t' := s1.toks) kept, turn_enumT a _ s1.heap.objs.size, ⟨⟨_, he⟩, ⟨_, hi, rfl, rfl⟩, Nat.succ_ne_self _, Nat.ne_of_lt lt, Nat.ne_of_lt (Nat.lt_succ_of_lt lt)⟩, news, q⟩
def enD (ds : List D) : List D := ds.mapIdx fun i d => .tuple [.int (i : Nat), d]
theorem enD_get {ds : List D} {i : Nat} {d : D} (h : (enD ds)[i]? = some d) : ∃ e, ds[i]? = some e ∧ d = .tuple [.int (i : Nat), e] := by
  unfold enD at h
  rw [List.getElem?_mapIdx] at h
  cases e : ds[i]? with
  | none => (rw [e] at h; cases h)
  | some x => rw [e] at h; cases h; exact ⟨x, rfl, rfl⟩
theorem enD_length (ds : List D) : (enD ds).length = ds.length := by unfold enD; simp
theorem pair_new {F H : Hp} {σ : L2.St} {ρ : Env} {xx : XX} (r : Rel c F H σ ρ xx) {T : Addr} {x y : V} {d e : D} (hT : H T = none) (hx : At c.K F x d) (hy : At c.K F y e) :
    ∃ F2, Ex F F2 ∧ Rel c F2 (upd H T (.tup [x, y])) σ ρ xx ∧ At c.K F2 (.ref T) (.tuple [d, e]) :=
  ⟨_, r.efF _ hT, r.newF _ hT, .tup (.inl (.inl upd_same)) (.cons (hx.mono (r.efF _ hT)) (.cons (hy.mono (r.efF _ hT)) .nil))⟩
theorem itOk_enum {K : PySem.W.Frag} (hK : K = c.K) {a : Addr} {F : Hp} {ds : List D} {ys : List V} (s : SqL c.K F a ys) (t : AtAll c.K F ys ds) : ItOk c (Ite K a) (enD ds) F := by
  subst hK
  intro i F' H σ ρ xx e r
  have sq := r.w.fh.sl (e.sl s)
  refine ⟨fun d hd => ?_, fun hl => ⟨ys, sq, by rw [t.length, ← enD_length]; exact Nat.le_of_eq hl⟩⟩
  obtain ⟨d0, h0, ed⟩ := enD_get hd
  subst ed
  obtain ⟨v, hv, av⟩ := t.get h0
  refine ⟨⟨ys, v, sq, hv⟩, fun x H' ⟨T, y, ex, hT, eh, hy⟩ => ?_⟩
  subst ex eh
  have := hy ys sq
  rw [hv] at this
  cases this
  exact pair_new r hT (.int _) (av.mono e)
theorem itOk_enumT {K : PySem.W.Frag} (hK : K = c.K) {a : Addr} {F : Hp} {ds : List D} {ys : List V} (s : SqT c.K F a ys) (t : AtAll c.K F ys ds) : ItOk c (IteT K a) (enD ds) F := by
  subst hK
  intro i F' H σ ρ xx e r
  have sq := r.w.fh.st (e.st s)
  refine ⟨fun d hd => ?_, fun hl => ⟨ys, sq, by rw [t.length, ← enD_length]; exact hl⟩⟩
  obtain ⟨d0, h0, ed⟩ := enD_get hd
  subst ed
  obtain ⟨v, hv, av⟩ := t.get h0
  refine ⟨⟨ys, v, sq, hv⟩, fun x H' ⟨T, y, ex, hT, eh, hy⟩ => ?_⟩
  subst ex eh
  have := hy ys sq
  rw [hv] at this
  cases this
  exact pair_new r hT (.int _) (av.mono e)
def iEn (f : LM) : IM := fun ρ P => f ρ fun ds ρ1 => match ds with
  | [.list xs] => P (enD xs) ρ1
  | [.tuple xs] => P (enD xs) ρ1
  | _ => False
theorem di_enum {e : Expr} {f : LM} {p pos tpos : Pos} {elts : List Expr} {kk : Nat} (hK : X.K = c.K) (hg : Gl X "enumerate") (hm : X.mg "enumerate" = none) (ha : PA X [e] (tL c f)) (hs : starEach [e] X.env = [(false, eval e X.env)] := by rfl) :
    PI X (.Tuple elts kk tpos) (.Call (.Name "enumerate" p) [e] [] pos) (tI c (iEn f)) := by
  refine PI.to (pi_enumA hg hm ha hs) ?_
  rintro σ H R ⟨F, ρ, xx, P, rel, q, k⟩
  refine ⟨F, ρ, xx, _, rel, q, fun ds ρ1 vs F1 H1 q1 e1 r1 a1 => ?_⟩
  split at q1
  · cases a1 with
    | cons a t =>
      cases t
      cases a with
      | lst s1 t1 => exact ⟨_, _, rfl, .inl ⟨by rw [hK]; exact r1.w.fh.sl s1, k _ ρ1 _ F1 H1 q1 e1 r1 (itOk_enum hK s1 t1)⟩⟩
  · cases a1 with
    | cons a t =>
      cases t
      cases a with
      | tup s1 t1 => exact ⟨_, _, rfl, .inr ⟨by rw [hK]; exact r1.w.fh.st s1, k _ ρ1 _ F1 H1 q1 e1 r1 (itOk_enumT hK s1 t1)⟩⟩
  · exact q1.elim
end
end DL
namespace DL
open PySem L2
section
variable {c : Cn}
def wipeE (ρ : Env) : List Nat → Env
  | [] => ρ
  | v :: vs => (wipeE ρ vs).set v .no
def backE (ρ0 : Env) (ρ : Env) : List Nat → Env
  | [] => ρ
  | v :: vs => backE ρ0 (ρ.set v (ρ0.getD v .no)) vs
def plainS : Sl → Bool
  | .no => true
  | .im _ => true
  | _ => false
def okV (ρ : Env) (vs : List Nat) : Prop := vs.Nodup ∧ ∀ j ∈ vs, plainS (ρ.getD j .no) = true
theorem Slots.forget {F H : Hp} {σ : L2.St} {ρ : Env} {xx : XX} (s : Slots c F H σ ρ xx) (i : Nat) : Slots c F H (σ.set i none) (ρ.set i .no) xx := by
  have sg : ∀ {j : Nat}, i ≠ j → (σ.set i none)[j]? = σ[j]? := fun h => by rw [List.getElem?_set, if_neg h]
  refine ⟨by simpa using s.len, fun j d q => ?_, fun j d q => ?_, fun j k d e b q1 q2 s1 s2 => ?_, fun j n q => ?_, ou_set (by intro m z; cases z) s.ou, fun p hp => ⟨(s.ex p hp).1, fun j d q => ?_⟩, s.xd⟩
  · rcases set_lt q with ⟨_, _, e⟩ | ⟨z, q⟩
    · cases e
    · rw [sg z]
      exact s.im j d q
  · rcases set_lt q with ⟨_, _, e⟩ | ⟨z, q⟩
    · cases e
    · rw [sg z]
      exact s.ow j d q
  · rcases set_lt q1 with ⟨_, _, e⟩ | ⟨z, q1⟩
    · cases e
    · rcases set_lt q2 with ⟨_, _, e⟩ | ⟨z2, q2⟩
      · cases e
      · rw [sg z] at s1
        rw [sg z2] at s2
        exact s.dj j k d _ b q1 q2 s1 s2
  · rcases set_lt q with ⟨_, _, e⟩ | ⟨z, q⟩
    · cases e
    · rw [sg z]
      exact s.or j n q
  · rcases set_lt q with ⟨_, _, e⟩ | ⟨z, q⟩
    · cases e
    · rw [sg z]
      exact (s.ex p hp).2 j d q
theorem Rel.wipe {F H : Hp} {σ : L2.St} {ρ : Env} {xx : XX} (r : Rel c F H σ ρ xx) : ∀ vs : List Nat, Rel c F H (wipe σ vs) (wipeE ρ vs) xx
  | [] => r
  | v :: vs => ⟨r.w, (Rel.wipe r vs).s.forget v⟩
/-- a plain slot comes back -/
theorem Slots.recall {F H : Hp} {σ : L2.St} {ρ : Env} {xx : XX} {i : Nat} {x : Sl} (s : Slots c F H (σ.set i none) ρ xx) (hp : plainS x = true) (hx : ∀ d, x = .im d → ∃ v, σ[i]? = some (some v) ∧ At c.K F v d) : Slots c F H σ (ρ.set i x) xx := by
  have sg : ∀ {j : Nat}, i ≠ j → (σ.set i none)[j]? = σ[j]? := fun h => by rw [List.getElem?_set, if_neg h]
  refine ⟨by simpa using s.len, fun j d q => ?_, fun j d q => ?_, fun j k d e b q1 q2 s1 s2 => ?_, fun j n q => ?_, ou_set (by intro m z; subst z; cases hp) s.ou, fun p hpx => ⟨(s.ex p hpx).1, fun j d q => ?_⟩, s.xd⟩
  · rcases set_lt q with ⟨z, _, e⟩ | ⟨z, q⟩
    · rw [← z]
      exact hx d e
    · rw [← sg z]
      exact s.im j d q
  · rcases set_lt q with ⟨_, _, e⟩ | ⟨z, q⟩
    · subst e
      cases hp
    · rw [← sg z]
      exact s.ow j d q
  · rcases set_lt q1 with ⟨_, _, e⟩ | ⟨z, q1⟩
    · subst e
      cases hp
    · rcases set_lt q2 with ⟨_, _, e⟩ | ⟨z2, q2⟩
      · subst e
        cases hp
      · rw [← sg z] at s1
        rw [← sg z2] at s2
        exact s.dj j k d _ b q1 q2 s1 s2
  · rcases set_lt q with ⟨_, _, e⟩ | ⟨z, q⟩
    · subst e
      cases hp
    · rw [← sg z]
      exact s.or j n q
  · rcases set_lt q with ⟨_, _, e⟩ | ⟨z, q⟩
    · subst e
      cases hp
    · rw [← sg z]
      exact (s.ex p hpx).2 j d q
theorem wipe_get {σ : L2.St} {i : Nat} : ∀ {vs : List Nat}, i ∉ vs → (wipe σ vs)[i]? = σ[i]?
  | [], _ => rfl
  | v :: vs, h => by
    show ((wipe σ vs).set v none)[i]? = σ[i]?
    rw [List.getElem?_set, if_neg (fun z => h (by rw [z]; exact List.mem_cons_self ..)), wipe_get (fun z => h (List.mem_cons_of_mem _ z))]
theorem Rel.back {F H F' H' : Hp} {σ : L2.St} {ρ0 : Env} {xx yy : XX} (r0 : Rel c F H σ ρ0 yy) (e : Ex F F') : ∀ (vs : List Nat) (ρ : Env), okV ρ0 vs → Rel c F' H' (L2.wipe σ vs) ρ xx → Rel c F' H' σ (backE ρ0 ρ vs) xx
  | [], ρ, _, r => r
  | v :: vs, ρ, ok, r => by
    obtain ⟨nd, pl⟩ := ok
    rw [List.nodup_cons] at nd
    have hv := pl v (List.mem_cons_self ..)
    refine Rel.back r0 e vs _ ⟨nd.2, fun j hj => pl j (List.mem_cons_of_mem _ hj)⟩ ⟨r.w, Slots.recall (σ := L2.wipe σ vs) r.s hv fun d ed => ?_⟩
    have g : ρ0[v]? = some (.im d) := by
      rw [List.getD_eq_getElem?_getD] at ed
      cases q : ρ0[v]? with
      | none => rw [q] at ed; cases ed
      | some x => rw [q] at ed; exact congrArg some ed
    obtain ⟨u, h1, h2⟩ := r0.s.im v d g
    exact ⟨u, by rw [wipe_get nd.1]; exact h1, h2.mono e⟩
def lcL (t : TM) (b : BM) (f : DM) (vs : List Nat) (K : List D → Env → Prop) : List D → List D → Env → Prop
  | [], acc, ρ => K acc ρ
  | d :: ds, acc, ρ => t d ρ fun ρ1 => b ρ1 fun k ρ2 => if k = true then f ρ2 fun y ρ3 => lcL t b f vs K ds (acc ++ [y]) (wipeE ρ3 vs) else lcL t b f vs K ds acc (wipeE ρ2 vs)
def dLc (i : IM) (t : TM) (b : BM) (f : DM) (vs : List Nat) : DM := fun ρ P => i ρ fun ds ρ1 => ds.length ≤ 1000000 ∧ okV ρ1 vs ∧ lcL t b f vs (fun acc ρ' => P (.list acc) (backE ρ1 ρ' vs)) ds [] (wipeE ρ1 vs)
theorem lc_use {i : IM} {t : TM} {b : BM} {f : DM} {vs js : List Nat} (hj : ∀ j ∈ js, j ∈ vs) {wi : TI} {g : TG} {tt : TT} {te : TE} (e1 : wi = tI c i) (e2 : g = tG c js t) (e3 : tt = tT c b) (e4 : te = tD c f) :
    ∀ σ H Q, tN c (dLc i t b f vs) σ H Q → tLc wi g tt te vs σ H Q := by
  subst e1 e2 e3 e4
  rintro σ H Q ⟨F, ρ, xx, P, rel, q, k⟩
  refine ⟨F, ρ, xx, _, rel, q, fun ds ρ1 J F1 H1 ⟨hlen, hok, q1⟩ e1 r1 ok A hA => ?_⟩
  obtain ⟨rA, frA⟩ := Fresh.new (o := .lst []) (d := .d (.list [])) r1 hA ⟨[], upd_same, .nil⟩
  refine ⟨fun n m H' => ∃ F' ρ' acc, Ex F1 F' ∧ Rel c F' H' (wipe σ vs) ρ' ((A, .d (.list acc)) :: xx) ∧ m = ds.length - n ∧ n ≤ ds.length ∧ acc.length ≤ n ∧ lcL t b f vs (fun acc ρ' => P (.list acc) (backE ρ1 ρ' vs)) (ds.drop n) acc ρ',
    ⟨ds.length, F1, _, [], Ex.refl F1, (rA.pushX frA).wipe vs, by omega, Nat.zero_le _, Nat.zero_le _, by rw [List.drop_zero]; exact q1⟩, ?_⟩
  rintro n m H' ⟨F', ρ', acc, e2, r2, rfl, hn, ha, q2⟩
  obtain ⟨o1, o2⟩ := ok n F' H' (wipe σ vs) ρ' _ e2 r2
  by_cases hlt : n < ds.length
  · have hd : ds[n]? = some ds[n] := List.getElem?_eq_getElem hlt
    obtain ⟨go, yl⟩ := o1 _ hd
    rw [List.drop_eq_getElem_cons hlt] at q2
    have q2 : t ds[n] ρ' fun ρ2 => b ρ2 fun k ρ3 => if k = true then f ρ3 fun y ρ4 => lcL t b f vs (fun acc ρ' => P (.list acc) (backE ρ1 ρ' vs)) (ds.drop (n + 1)) (acc ++ [y]) (wipeE ρ4 vs) else lcL t b f vs (fun acc ρ' => P (.list acc) (backE ρ1 ρ' vs)) (ds.drop (n + 1)) acc (wipeE ρ3 vs) := q2
    refine .inr ⟨go, fun H2 => ∃ F2 ρ2 acc2, Ex F1 F2 ∧ Rel c F2 H2 (wipe σ vs) ρ2 ((A, .d (.list acc2)) :: xx) ∧ acc2.length ≤ n + 1 ∧ lcL t b f vs (fun acc ρ' => P (.list acc) (backE ρ1 ρ' vs)) (ds.drop (n + 1)) acc2 ρ2,
      fun H2 ⟨F2, ρ2, acc2, a1, a2, a3, a4⟩ => ⟨ds.length - (n + 1), by omega, F2, ρ2, acc2, a1, a2, rfl, by omega, a3, a4⟩, fun v H2 y => ?_⟩
    obtain ⟨F2, e3, r3, a3⟩ := yl v H2 y
    refine ⟨F2, ρ', _, _, _, r3, a3, q2, fun ρ4 σ4 F4 H4 q4 on e4 r4 => ⟨?_, F4, ρ4, _, _, r4, q4, fun bb ρ5 F5 H5 q5 e5 r5 => ?_⟩⟩
    · have h := on vs hj
      rw [h]
      -- wiping twice
      have w2 : ∀ (us : List Nat) (σ : L2.St) (i : Nat), i ∈ us → (wipe σ us).set i none = wipe σ us := fun us => by
        induction us with
        | nil => intro σ i hi; cases hi
        | cons u us ih =>
          intro σ i hi
          show ((wipe σ us).set u none).set i none = (wipe σ us).set u none
          by_cases e : u = i
          · subst e
            rw [List.set_set]
          · rw [List.set_comm _ _ e, ih σ i ((List.mem_cons.mp hi).resolve_left fun z => e z.symm)]
      have w3 : ∀ (us ws : List Nat) (σ : L2.St), (∀ i ∈ us, i ∈ ws) → wipe (wipe σ ws) us = wipe σ ws := fun us => by
        induction us with
        | nil => intro ws σ _; rfl
        | cons u us ih =>
          intro ws σ hs
          show (wipe (wipe σ ws) us).set u none = wipe σ ws
          rw [ih ws σ fun i hi => hs i (List.mem_cons_of_mem _ hi)]
          exact w2 ws σ u (hs u (List.mem_cons_self ..))
      exact w3 vs vs σ fun _ h => h
    · have hw : wipe σ4 vs = wipe σ vs := by
        have h := on vs hj
        rw [h]
        have w2 : ∀ (us : List Nat) (σ : L2.St) (i : Nat), i ∈ us → (wipe σ us).set i none = wipe σ us := fun us => by
          induction us with
          | nil => intro σ i hi; cases hi
          | cons u us ih =>
            intro σ i hi
            show ((wipe σ us).set u none).set i none = (wipe σ us).set u none
            by_cases e : u = i
            · subst e
              rw [List.set_set]
            · rw [List.set_comm _ _ e, ih σ i ((List.mem_cons.mp hi).resolve_left fun z => e z.symm)]
        have w3 : ∀ (us ws : List Nat) (σ : L2.St), (∀ i ∈ us, i ∈ ws) → wipe (wipe σ ws) us = wipe σ ws := fun us => by
          induction us with
          | nil => intro ws σ _; rfl
          | cons u us ih =>
            intro ws σ hs
            show (wipe (wipe σ ws) us).set u none = wipe σ ws
            rw [ih ws σ fun i hi => hs i (List.mem_cons_of_mem _ hi)]
            exact w2 ws σ u (hs u (List.mem_cons_self ..))
        exact w3 vs vs σ fun _ h => h
      cases bb with
      | false =>
        rw [if_neg Bool.false_ne_true] at q5
        show ∃ F' ρ' acc2, _
        refine ⟨F5, wipeE ρ5 vs, acc, ((e2.trans e3).trans e4).trans e5, ?_, by omega, q5⟩
        have := r5.wipe vs
        rw [hw] at this
        exact this
      | true =>
        rw [if_pos rfl] at q5
        show tD c f σ4 H5 _
        refine ⟨F5, ρ5, _, _, r5, q5, fun y ρ6 u F6 H6 q6 e6 r6 a6 => ?_⟩
        obtain ⟨vv, g1, g2⟩ := (r6.s.ex (A, .d (.list acc)) (List.mem_cons_self ..)).1.o
        have r7 := r6.mutX (o := .lst (vv ++ [u])) (d' := .d (.list (acc ++ [y]))) ⟨_, upd_same, g2.append (.cons a6 .nil)⟩
        refine ⟨vv, g1, szl (by rw [g2.length]; omega), F6, wipeE ρ6 vs, acc ++ [y], (((e2.trans e3).trans e4).trans e5).trans e6, ?_, by rw [List.length_append]; simp only [List.length_singleton]; omega, q6⟩
        have := r7.wipe vs
        rw [hw] at this
        exact this
  · have en : n = ds.length := by omega
    subst en
    rw [List.drop_length] at q2
    have q2 : P (.list acc) (backE ρ1 ρ' vs) := q2
    obtain ⟨r5, fr⟩ := (Rel.back r1 e2 vs ρ' hok r2).popX
    exact .inl ⟨o2 rfl, k _ _ A F' H' q2 (e1.trans e2) r5 fr⟩
def bYes : BM := fun ρ P => P true ρ
theorem dts_nil {X : Cx} : PTs X [] (tT c bYes) := ⟨fun pins s σ H Q I ⟨F, ρ, xx, P, rel, q, k⟩ => pts_nil.run pins s σ H Q I (k true ρ F H q (Ex.refl F) rel)⟩
variable {X : Cx} {elt tg iter : Expr} {ifs : List Expr} {scope : Scope} {own : List (Str × Nat)} {pos : Pos} {i : IM} {t : TM} {js : List Nat} {b : BM} {f : DM}
theorem dn_lc (hc : X.calm = true) (hN : X.N.Nodup) (hi : PI X tg iter (tI c i)) (ok : BlkOk X.N X.env.scope scope own) (hj : ∀ j ∈ js, j ∈ own.map (·.2))
    (hg : ∀ (s : Shared) (H : Hp) (C : Addr) (cl : List (Str × Addr)) (fp : List Addr), PG (X.blk s H scope (compEnvC scope cl C X.env) fp) tg (tG c js t)) (ht : ∀ (s : Shared) (H : Hp) (C : Addr) (cl : List (Str × Addr)) (fp : List Addr), PTs (X.blk s H scope (compEnvC scope cl C X.env) fp) ifs (tT c b))
    (he : ∀ (s : Shared) (H : Hp) (C : Addr) (cl : List (Str × Addr)) (fp : List Addr), PE (X.blk s H scope (compEnvC scope cl C X.env) fp) elt (tD c f)) (hs : ∀ x, foldedSetIterable iter X.env x = pure x := by intro _; rfl) :
    PE X (.ListComp elt [⟨tg, iter, ifs, 0⟩] scope pos) (tN c (dLc i t b f (own.map (·.2)))) := PE.to (pe_lc hc hN hi ok hg ht he hs) (lc_use hj rfl rfl rfl rfl)
end
end DL
namespace DL
open PySem L2
structure FnG (pr : Program) (wd : PySem.World) (K : PySem.W.Frag) (gl : Str → Option Value) (bas : Heap) (k : Nat) (f : Addr) (fd : FuncData) (ps : List Str) (sp : Sp) : Prop where
  many : ∀ vs H Q E, sp vs H Q E → vs.length = ps.length
  go : ∀ (A : Around) (out : List PySem.Env) (sh : Shared) (H : Hp) (ar : Args) (us : List Value) (vs : List V) (Q : VK) (E : XK), A.guards = some [] → Room k A →
    Env0 pr wd K gl bas A out sh H → BindsTo sh fd ar (ps.zip us) → Vals vs us → sp vs H Q E → codeAny (model pr wd) A (.call (.ref f) ar) (CR CX0 out pr wd H sh Q E) sh
theorem FnG.more {pr : Program} {wd : PySem.World} {K : PySem.W.Frag} {gl : Str → Option Value} {bas : Heap} {j k : Nat} {f : Addr} {fd : FuncData} {ps : List Str} {sp : Sp} (F : FnG pr wd K gl bas j f fd ps sp) (h : j ≤ k) : FnG pr wd K gl bas k f fd ps sp :=
  ⟨F.many, fun A out sh H ar us vs Q E g r => F.go A out sh H ar us vs Q E g (r.mono h)⟩
theorem FnG.of {pr : Program} {wd : PySem.World} {K : PySem.W.Frag} {gl : Str → Option Value} {bas : Heap} {k : Nat} {f : Addr} {x qual : Str} {st : Stmt} {fd : FuncData} {N ps : List Str} {sp : Sp} (F : L2.Fun K x qual st f fd) (S : FnScope N ps (defScope st))
    (len : (∀ vs H Q E, sp vs H Q E → vs.length = ps.length))
    (body : ∀ (cdv : Value) (A : Around) (out : List PySem.Env) (sh : Shared) (H : Hp) (vs : List V) (Q : VK) (E : XK), A.guards = some [] → Room k (A.deeper (PyProof.Rows.envOfC qual (defScope st) sh.heap.objs.size f cdv)) → sp vs H Q E →
      ∃ t, PSs (cxOf CX0 pr wd K gl bas N qual (defScope st) f cdv A out sh H E).nox (defBody st) t ∧ t { nx := fun _ H' => Q .non H', rt := Q } (start N vs) H) : FnG pr wd K gl bas (k + 1) f fd ps sp := by
  obtain ⟨oc, od, kV, doc, pm, an, cdv, ct, osl, efd, lk, hc⟩ := F.ex
  refine ⟨len, fun A out sh H ar us vs Q E hg room env bnd vals says => ?_⟩
  have heapK : K.In sh.heap := PySem.W.Frag.In.keeps env.mod.kin fun b o e => (env.bs b o e).1
  have noLim : sh.heap.NoLimit := Heap.NoLimit.keeps env.mod.nolimit fun b o e => (env.bs b o e).1
  have kinds : ∀ y ∈ ps.zip us, (defScope st).names.lookup y.1 = some .local ∨ ((defScope st).names.lookup y.1 = some .cell ∧ ((cellsFrom (sh.heap.objs.size + 1) (defScope st).names []).lookup y.1).isSome = true) := by
    rintro ⟨n, v⟩ hy
    exact (S.par n (List.of_mem_zip hy).1).imp id fun q => ⟨q, PySem.W.cellsFrom_some _ _ _ (.inl q)⟩
  rw [efd] at lk bnd
  refine codeAny_call_function room.depth (heapK _ _ lk) rfl S.co S.gen rfl (PySem.W.codeRec_of heapK hc) (bnd _ _ _ _ (wpAny_newFunctionEnv_cells S.kind kinds ?_))
  intro env1 he s1 xc
  subst he
  refine ⟨noLim.keeps xc.toInCall.keep, codeAny_func ?_⟩
  obtain ⟨t, ht, hq⟩ := body cdv A out sh H vs Q E hg (room.deeper _) says
  have inv : Inv (cxOf CX0 pr wd K gl bas N qual (defScope st) f cdv A out sh H E) [] (start N vs) H s1 := inv_start S room.hd env (len _ _ _ _ says) vals xc
  refine wpAny_mono (ht.nox.run [] s1 (start N vs) H _ inv hq) ?_ fun _ _ z => z
  intro fl s2 hs
  cases fl with
  | ret u =>
    (obtain ⟨v, σ', H', J, rv, q⟩ := hs)
    exact ⟨v, H', J.os, J.bare, J.base, J.hok, rv, q⟩
  | next =>
    obtain ⟨σ', H', J, q⟩ := hs
    exact ⟨V.non, H', J.os, J.bare, J.base, J.hok, rfl, q⟩
  | brk => exact (hs.choose_spec.choose_spec.2 : False).elim
  | cont => exact (hs.choose_spec.choose_spec.2 : False).elim
section
variable {X : Cx} {k : Nat} {f : Addr} {fd : FuncData} {ps : List Str} {sp : Sp} {x : Str} {p pos : Pos} {e : Expr} {es : List Expr} {t : TA}
theorem pe_callG (F : FnG X.prog X.w X.K X.mg X.base k f fd ps sp) (hg : X.A.guards = some []) (hr : Room k X.A) (gx : Gl X x) (hm : X.mg x = some (.ref f)) (hk : PySem.W.keepIn X.K (.ref f) = true) (hb : Binds X.K fd ps [])
    (ha : PA X (e :: es) t) (hdb : (x == ("__debug__" : Str)) = false := by decide)
    (he : starEach (e :: es) X.env = (false, eval e X.env) :: starEach es X.env := by rfl)
    (hpl : (backTo pos (starEach es X.env)).any (·.1) = false := by rfl) :
    PE X (.Call (.Name x p) (e :: es) [] pos) (tCall sp [] (fun _ _ _ => False) t) := by
  constructor
  intro pins s σ H Q I h
  refine wpAny_Call_Name_kw (ld_glob I gx hm (PySem.W.callWith_K (h₀ := X.base) I.ok.mod.kin hk (thn (ha.run pos pins s σ H _ I h) ?_) he hpl) hdb)
  rintro us s1 ⟨vs, H1, I1, r, q⟩
  refine ⟨I1.kIn, ?_⟩
  rw [List.append_nil] at q
  have hl : us.length = ps.length := by rw [← r.length]; exact F.many _ _ _ _ q
  have bd := hb s1 us I1.kIn (by rw [List.append_nil]; exact hl)
  rw [List.append_nil] at bd
  refine wpAny_call (codeAny_mono (F.go X.A X.stack s1 H1 ⟨us, []⟩ us vs Q _ hg hr I1.env0 bd r q) ?_)
  intro res s' hq
  match res, hq with
  | .error _, z => exact (z : False).elim
  | .ok (.ret u), z => exact I1.after z
end
/-- what a def says of its arguments and of the count of the source: S as m P: from these some d comes back, the count being m' then, with P d m' -/
abbrev SpD := List Ar → Nat → (D → Nat → Prop) → Prop
/-- the source is passed as the first argument, if at all -/
def oraAt (as : List Ar) : Prop := ∀ i, as[i]? = some Ar.ora → i = 0
def spD (K : PySem.W.Frag) (R : Orc) (n : Nat) (S : SpD) : Sp := fun vs H Q _ => ∃ (q : Option Addr) (F : Hp) (as : List Ar) (m : Nat) (P : D → Nat → Prop), World R q F H F H ∧ Paired (ArAt ⟨K, R, q, F, H⟩ F) vs as ∧ as.length = n ∧ oraAt as ∧ (q = none ∨ as[0]? = some .ora) ∧ (∀ p, q = some p → R.cnt p H ≤ m) ∧ S as m P ∧
  ∀ d m' v F' H', P d m' → World R q F H F' H' → (∀ p, q = some p → R.cnt p H' ≤ m') → At K F' v d → Q v H'
theorem paired_len {α β : Type} {R : α → β → Prop} : ∀ {xs : List α} {ys : List β}, Paired R xs ys → xs.length = ys.length
  | _, _, .nil => rfl
  | _, _, .cons _ t => congrArg Nat.succ (paired_len t)
theorem paired_get {α β : Type} {R : α → β → Prop} : ∀ {xs : List α} {ys : List β} {i : Nat} {y : β}, Paired R xs ys → ys[i]? = some y → ∃ x, xs[i]? = some x ∧ R x y
  | _, _, 0, _, .cons h _, e => by cases e; exact ⟨_, rfl, h⟩
  | _, _, i + 1, _, .cons _ t, e => paired_get (i := i) t e
/-- a call that draws nothing -/
def isD : Ar → Bool
  | .d _ => true
  | .ora => false
def dCall (n : Nat) (S : SpD) (f : AM) : DM := fun ρ P => f ρ fun as ρ1 => as.length = n ∧ as.all isD = true ∧ S as 0 fun d _ => P d ρ1
/-- a call that draws, the source standing in slot i -/
def dCallO (i n : Nat) (S : SpD) (f : AM) : DM := fun ρ P => f ρ fun as ρ1 => as.length = n ∧ as.head?.map isD = some false ∧ as.tail.all isD = true ∧ match ρ1[i]? with
  | some (.ora m) => S as m fun d m' => P d (ρ1.set i (.ora m'))
  | _ => False
theorem all_isD {as : List Ar} (h : as.all isD = true) (i : Nat) : as[i]? ≠ some .ora := fun e => by
  have := List.all_eq_true.mp h _ (List.mem_of_getElem? e)
  cases this
section
variable {X : Cx} {c : Cn} {k : Nat} {f : Addr} {fd : FuncData} {ps : List Str} {S : SpD} {x : Str} {p pos : Pos} {e : Expr} {es : List Expr} {fa : AM} {n : Nat}
theorem de_call (hK : X.K = c.K) (F : FnG X.prog X.w X.K X.mg X.base k f fd ps (spD X.K c.R n S)) (hg : X.A.guards = some []) (hr : Room k X.A) (gx : Gl X x) (hm : X.mg x = some (.ref f)) (hk : PySem.W.keepIn X.K (.ref f) = true) (hb : Binds X.K fd ps [])
    (ha : PA X (e :: es) (tAr c fa)) (hdb : (x == ("__debug__" : Str)) = false := by decide) (he : starEach (e :: es) X.env = (false, eval e X.env) :: starEach es X.env := by rfl) (hpl : (backTo pos (starEach es X.env)).any (·.1) = false := by rfl) :
    PE X (.Call (.Name x p) (e :: es) [] pos) (tD c (dCall n S fa)) := by
  refine PE.to (pe_callG F hg hr gx hm hk hb ha hdb he hpl) ?_
  rintro σ H Q ⟨F0, ρ, xx, P, rel, q, k0⟩
  refine ⟨F0, ρ, xx, _, rel, q, ?_⟩
  rintro as ρ1 vs F1 H1 ⟨hl, hd, hs⟩ e1 r1 pr
  rw [List.append_nil]
  have w0 : World c.R none F1 H1 F1 H1 := World.start r1.w.fh (fun _ _ z => z) fun _ z => nomatch z
  have pr' : Paired (ArAt ⟨X.K, c.R, none, F1, H1⟩ F1) vs as := by
    clear hs hl
    induction pr with
    | nil => exact .nil
    | @cons v a vs' as' h1 h2 ih =>
      (simp only [List.all_cons, Bool.and_eq_true] at hd)
      cases a with
      | d y =>
        refine .cons ?_ (ih hd.2)
        show At X.K F1 v y
        rw [hK]
        exact h1
      | ora => cases hd.1
  refine ⟨none, F1, as, 0, _, w0, pr', hl, fun i z => absurd z (all_isD hd i), .inl rfl, (fun _ z => nomatch z), hs, ?_⟩
  intro d m' v F2 H2 pd wd _ at_
  rw [hK] at at_
  exact k0 d ρ1 v F2 H2 pd (e1.trans wd.ff) (r1.stepN wd) at_
theorem de_callO {i : Nat} (hK : X.K = c.K) (F : FnG X.prog X.w X.K X.mg X.base k f fd ps (spD X.K c.R n S)) (hg : X.A.guards = some []) (hr : Room k X.A) (gx : Gl X x) (hm : X.mg x = some (.ref f)) (hk : PySem.W.keepIn X.K (.ref f) = true) (hb : Binds X.K fd ps [])
    (ha : PA X (e :: es) (tAr c fa)) (hdb : (x == ("__debug__" : Str)) = false := by decide) (he : starEach (e :: es) X.env = (false, eval e X.env) :: starEach es X.env := by rfl) (hpl : (backTo pos (starEach es X.env)).any (·.1) = false := by rfl) :
    PE X (.Call (.Name x p) (e :: es) [] pos) (tD c (dCallO i n S fa)) := by
  refine PE.to (pe_callG F hg hr gx hm hk hb ha hdb he hpl) ?_
  rintro σ H Q ⟨F0, ρ, xx, P, rel, q, k0⟩
  refine ⟨F0, ρ, xx, _, rel, q, ?_⟩
  rintro as ρ1 vs F1 H1 ⟨hl, hh, hd, hs⟩ e1 r1 pr
  rw [List.append_nil]
  split at hs
  · rename_i m em
    obtain ⟨u, h1, h2, h3⟩ := r1.s.or i m em
    have h0 : as[0]? = some Ar.ora := by
      cases as with
      | nil => cases hh
      | cons a t =>
        cases a with
        | d y => cases hh
        | ora => rfl
    refine ⟨c.p, F1, as, m, _, r1.w.here, ?_, hl, fun j z => ?_, .inr h0, fun y z => ?_, hs, ?_⟩
    · rw [hK]
      exact pr
    · cases j with
      | zero => rfl
      | succ j =>
        cases as with
        | nil => cases z
        | cons a t => exact absurd z (all_isD hd j)
    · rw [h1] at z
      cases z
      exact h3
    · intro d m' v F2 H2 pd wd hc at_
      rw [hK] at at_
      exact k0 d _ v F2 H2 pd (e1.trans wd.ff) (r1.drew wd em hc) at_
  · exact hs.elim
end
def arSl (m : Nat) : Ar → Sl
  | .d x => .im x
  | .ora => .ora m
def startE (N : Nat) (as : List Ar) (m : Nat) : Env := as.map (arSl m) ++ List.replicate (N - as.length) .no
theorem rel_start {K : PySem.W.Frag} {R : Orc} {q : Option Addr} {F H : Hp} {vs : List V} {as : List Ar} {N : List Str} {m : Nat} (w : World R q F H F H) (h : Paired (ArAt ⟨K, R, q, F, H⟩ F) vs as) (ho : oraAt as) (hm : ∀ p, q = some p → R.cnt p H ≤ m) : Rel ⟨K, R, q, F, H⟩ F H (start N vs) (startE N.length as m) [] := by
  have hl := paired_len h
  have get : ∀ (i : Nat) (s : Sl), (startE N.length as m)[i]? = some s → s = .no ∨ ∃ a v, as[i]? = some a ∧ vs[i]? = some v ∧ s = arSl m a ∧ (start N vs)[i]? = some (some v) := by
    intro i s e
    unfold startE at e
    unfold L2.start
    by_cases hi : i < as.length
    · rw [List.getElem?_append_left (by simpa using hi), List.getElem?_map] at e
      rw [List.getElem?_append_left (by simpa [hl] using hi), List.getElem?_map]
      have e1 : as[i]? = some as[i] := List.getElem?_eq_getElem hi
      have e2 : vs[i]? = some (vs[i]'(by rw [hl]; exact hi)) := List.getElem?_eq_getElem _
      rw [e1] at e
      cases e
      exact .inr ⟨_, _, e1, e2, rfl, by rw [e2]; rfl⟩
    · rw [List.getElem?_append_right (by simpa using hi), List.getElem?_replicate] at e
      split at e
      · cases e
        exact .inl rfl
      · cases e
  have atOf : ∀ {i : Nat} {a : Ar} {v : V}, as[i]? = some a → vs[i]? = some v → ArAt ⟨K, R, q, F, H⟩ F v a := by
    intro i a v h1 h2
    obtain ⟨v', g1, g2⟩ := paired_get h h1
    rw [h2] at g1
    cases g1
    exact g2
  refine ⟨w, ?_, ?_, ?_, ?_, ?_, ?_, (fun p hp => nomatch hp), List.nodup_nil⟩
  · unfold startE L2.start
    simp [hl]
  · intro i d e
    rcases get i _ e with z | ⟨a, v, g1, g2, g3, g4⟩
    · cases z
    · cases a with
      | d x => cases g3; exact ⟨v, g4, atOf g1 g2⟩
      | ora => cases g3
  · intro i d e
    rcases get i _ e with z | ⟨a, v, g1, g2, g3, g4⟩
    · cases z
    · cases a <;> cases g3
  · intro i j d e b z
    rcases get i _ z with z | ⟨a, v, g1, g2, g3, g4⟩
    · cases z
    · cases a <;> cases g3
  · intro i n e
    rcases get i _ e with z | ⟨a, v, g1, g2, g3, g4⟩
    · cases z
    · cases a with
      | d x => cases g3
      | ora =>
        obtain ⟨q', e1, e2⟩ := atOf g1 g2
        cases g3
        cases e2
        exact ⟨q', e1, g4, hm q' e1⟩
  · have one : ∀ {i n : Nat}, (startE N.length as m)[i]? = some (.ora n) → i = 0 := by
      intro i n e
      rcases get i _ e with z | ⟨a, v, g1, g2, g3, g4⟩
      · cases z
      · cases a with
        | d x => cases g3
        | ora => exact ho i g1
    intro i j a b e1 e2
    exact (one e1).trans (one e2).symm
/-- what a body says, as a promise -/
def raw (g : SM) (N : Nat) : SpD := fun as m P =>
  g ⟨fun (ρ : DL.Env) => match ρ[0]? with
    | some (Sl.ora m') => P .none m'
    | _ => as.head?.map isD ≠ some false ∧ P .none 0,
  fun (d : D) (ρ : DL.Env) => match ρ[0]? with
    | some (Sl.ora m') => P d m'
    | _ => as.head?.map isD ≠ some false ∧ P d 0, fun _ => False, fun _ => False⟩ (startE N as m)
/-- a def by its body in data -/
theorem FnG.data {pr : Program} {wd : PySem.World} {K : PySem.W.Frag} {gl : Str → Option Value} {bas : Heap} {k n : Nat} {f : Addr} {x qual : Str} {st : Stmt} {fd : FuncData} {N ps : List Str} {R : Orc} {g : SM} (F : L2.Fun K x qual st f fd) (Sc : FnScope N ps (defScope st)) (hn : n = ps.length)
    (body : ∀ (cdv : Value) (A : Around) (out : List PySem.Env) (sh : Shared) (H : Hp) (E : XK) (q : Option Addr) (F : Hp), A.guards = some [] → Room k (A.deeper (PyProof.Rows.envOfC qual (defScope st) sh.heap.objs.size f cdv)) →
      PSs (cxOf CX0 pr wd K gl bas N qual (defScope st) f cdv A out sh H E).nox (defBody st) (tS ⟨K, R, q, F, H⟩ g)) : FnG pr wd K gl bas (k + 1) f fd ps (spD K R n (raw g N.length)) := by
  refine FnG.of F Sc (fun vs H Q E ⟨q, F0, as, m, P, w, pa, hl, _⟩ => by rw [paired_len pa, hl, hn]) fun cdv A out sh H vs Q E hg hr ⟨q, F0, as, m, P, w, pa, hl, ho, hq, hm, says, k0⟩ => ?_
  have fin : ∀ (d : D) (v : V) (ρ' : DL.Env) (σ' : L2.St) (F' H' : Hp), (match ρ'[0]? with
      | some (Sl.ora m') => P d m'
      | _ => as.head?.map isD ≠ some false ∧ P d 0) → Rel ⟨K, R, q, F0, H⟩ F' H' σ' ρ' [] → At K F' v d → Q v H' := by
    intro d v ρ' σ' F' H' p r a
    split at p
    · rename_i m' e
      obtain ⟨y, h1, _, h3⟩ := r.s.or 0 m' e
      exact k0 d m' v F' H' p r.w (fun z hz => by
        have hz' : q = some z := hz
        have h1' : q = some y := h1
        rw [hz'] at h1'
        cases h1'
        exact h3) a
    · obtain ⟨p1, p2⟩ := p
      have qn : q = none := hq.resolve_right fun z => p1 (by
        cases as with
        | nil => cases z
        | cons b t => cases z; rfl)
      exact k0 d 0 v F' H' p2 r.w (fun z hz => by rw [qn] at hz; cases hz) a
  refine ⟨_, body cdv A out sh H E q F0 hg hr, F0, _, [], _, rel_start w pa ho hm, says, ?_, ?_, ?_, ?_⟩
  · exact fun ρ' σ' F' H' p e r => fin .none .non ρ' σ' F' H' p r .non
  · exact fun d v ρ' σ' F' H' p r a => fin d v ρ' σ' F' H' p r a
  · exact fun ρ' σ' F' H' p => p.elim
  · exact fun ρ' σ' F' H' p => p.elim
theorem pss_some {X : Cx} {st : List Stmt} {ι : Type} {t : ι → TS} (h : ∀ i, PSs X st (t i)) : PSs X st (fun Z σ H => ∃ i, t i Z σ H) := ⟨fun pins s σ H Z I ⟨i, q⟩ => (h i).run pins s σ H Z I q⟩
end DL
namespace DL
open PySem L2
/-- a def under its name -/
def Cd (pr : Program) (wd : PySem.World) (K : PySem.W.Frag) (gl : Str → Option Value) (bas : Heap) (R : Orc) (k : Nat) (x : Str) (n : Nat) (S : SpD) : Prop :=
  ∃ (f : Addr) (fd : FuncData) (ps : List Str), FnG pr wd K gl bas k f fd ps (spD K R n S) ∧ gl x = some (.ref f) ∧ PySem.W.keepIn K (.ref f) = true ∧ Binds K fd ps []
theorem Cd.more {pr : Program} {wd : PySem.World} {K : PySem.W.Frag} {gl : Str → Option Value} {bas : Heap} {R : Orc} {j k : Nat} {x : Str} {n : Nat} {S : SpD} (C : Cd pr wd K gl bas R j x n S) (h : j ≤ k) : Cd pr wd K gl bas R k x n S := by
  obtain ⟨f, fd, ps, F, a, b, d⟩ := C
  exact ⟨f, fd, ps, F.more h, a, b, d⟩
theorem de_cd {X : Cx} {c : Cn} {k n : Nat} {S : SpD} {x : Str} {p pos : Pos} {e : Expr} {es : List Expr} {fa : AM} (C : Cd X.prog X.w X.K X.mg X.base c.R k x n S) (hK : X.K = c.K) (hg : X.A.guards = some []) (hr : Room k X.A) (gx : Gl X x)
    (ha : PA X (e :: es) (tAr c fa)) (hdb : (x == ("__debug__" : Str)) = false := by decide) (he : starEach (e :: es) X.env = (false, eval e X.env) :: starEach es X.env := by rfl) (hpl : (backTo pos (starEach es X.env)).any (·.1) = false := by rfl) :
    PE X (.Call (.Name x p) (e :: es) [] pos) (tD c (dCall n S fa)) := by
  obtain ⟨f, fd, ps, F, a, b, d⟩ := C
  exact de_call hK F hg hr gx a b d ha hdb he hpl
theorem hu64 {A : Around} {k : Nat} (hr : Room k A) : A.units + 64 < cLine := by have := hr.un; omega
theorem de_cdO {X : Cx} {c : Cn} {k n i : Nat} {S : SpD} {x : Str} {p pos : Pos} {e : Expr} {es : List Expr} {fa : AM} (C : Cd X.prog X.w X.K X.mg X.base c.R k x n S) (hK : X.K = c.K) (hg : X.A.guards = some []) (hr : Room k X.A) (gx : Gl X x)
    (ha : PA X (e :: es) (tAr c fa)) (hdb : (x == ("__debug__" : Str)) = false := by decide) (he : starEach (e :: es) X.env = (false, eval e X.env) :: starEach es X.env := by rfl) (hpl : (backTo pos (starEach es X.env)).any (·.1) = false := by rfl) :
    PE X (.Call (.Name x p) (e :: es) [] pos) (tD c (dCallO i n S fa)) := by
  obtain ⟨f, fd, ps, F, a, b, d⟩ := C
  exact de_callO hK F hg hr gx a b d ha hdb he hpl
end DL
namespace DL
open PySem L2
section
variable {X : Cx} {c : Cn} {e a b : Expr} {pos : Pos}
def tyN : D → String
  | .none => "NoneType"
  | .bool _ => "bool"
  | .int _ => "int"
  | .str _ => "str"
  | .list _ => "list"
  | .tuple _ => "tuple"
  | .dict _ => "dict"
theorem tyx_of {F H : Hp} {v : V} {d : D} (e : Ex F H) (b : Bo c F H v d) : TyX c.K H v (.type (tyN d)) := by
  have a := b.at e
  have sq : ∀ {p : Addr} {o : HO} {T : String}, Rd H p o → (H p = some o → TyX c.K H (.ref p) (.type T)) → (∀ q, H p = some (.frz q o) → TyX c.K H (.ref p) (.type T)) → TyX c.K H (.ref p) (.type T) :=
    fun h k1 k2 => h.elim k1 fun ⟨q, z⟩ => k2 q z
  clear b
  cases a with
  | non => exact .base .non
  | bl b => exact .base (.bl b)
  | int i => exact .base (.int i)
  | str x => exact .base (.str x)
  | lst s t =>
    rcases s with h | ⟨o, its, n, h1, h2, _⟩
    · exact sq h (fun z => .base (.lst z)) fun q z => .base (.frz z)
    · exact .kList h1 h2
  | tup s t =>
    rcases s with h | ⟨o, its, n, h1, h2, _⟩
    · exact sq h (fun z => .base (.tup z)) fun q z => .fTuple z
    · exact .kTuple h1 h2
  | dk r n l t => exact sq r (fun z => .base (.dK z)) fun q z => .fDict z
  | dt r l t => exact .base (.dT r)
def dIsi (T : String) (f : HM) : DM := fun ρ P => f ρ fun h ρ1 => see ρ1 h fun d => ∃ k, kitB (tyN d) T = some k ∧ P (.bool k) ρ1
theorem de_isi {T : String} {y : Str} {p p2 : Pos} {f : HM} (hK : X.K = c.K) (hg : Gl X "isinstance") (hm : X.mg "isinstance" = none) (hy : Gl X y) (hmy : X.mg y = none) (hv : bootBuiltins y = some (.type T)) (ha : PE X e (tH c f))
    (hb : bootBuiltins "isinstance" = some (.builtin "isinstance") := by decide +kernel) (hn : y ≠ "__name__" := by decide) (hd : (y == ("__debug__" : Str)) = false := by decide)
    (s1 : starEach [e, .Name y p2] X.env = (false, eval e X.env) :: starEach [.Name y p2] X.env := by rfl) (s2 : starEach [.Name y p2] X.env = (false, eval (.Name y p2) X.env) :: starEach [] X.env := by rfl) (hpl : (backTo pos (starEach [.Name y p2] X.env)).any (·.1) = false := by rfl) :
    PE X (.Call (.Name "isinstance" p) [e, .Name y p2] [] pos) (tD c (dIsi T f)) := by
  refine PE.to (pe_callB call_isi hg hm hb (pa_cons ha (pa_cons (pe_bltn (v := .ty T) hy hmy hv rfl hn hd) pa_nil s2) s1) (by decide) (by decide) s1 hpl) ?_
  rintro σ H Q ⟨F, ρ, xx, P, rel, q, k⟩
  refine ⟨F, ρ, xx, _, rel, q, fun h ρ1 v F1 H1 q1 e1 r1 h1 => ?_⟩
  obtain ⟨d, bo, b, hk, q2⟩ := see_bo r1 h1 q1
  have ty := tyx_of r1.w.fh bo
  rw [← hK] at ty
  exact ⟨v, .ty T, _, _, b, rfl, .ty T, ty, kit_ty hk, k _ ρ1 _ F1 H1 q2 e1 r1 (.bl b)⟩
def dNeg (f : DM) : DM := fun ρ P => f ρ fun d ρ1 => match d with
  | .int i => P (.int (-i)) ρ1
  | _ => False
theorem de_neg {f : DM} (ha : PE X a (tD c f)) : PE X (.UnaryOp .USub a pos) (tD c (dNeg f)) := PE.to (pe_un un_neg ha) fun σ H Q ⟨F, ρ, xx, P, rel, q, k⟩ => ⟨F, ρ, xx, _, rel, q, fun d ρ1 v F1 H1 q1 e1 r1 a1 => by
  split at q1
  · cases a1
    exact ⟨_, rfl, k _ ρ1 _ F1 H1 q1 e1 r1 (.int _)⟩
  · exact q1.elim⟩
def gIadd : G2 := fun x y P => match x, y with
  | .int i, .int j => P (.int (i + j))
  | _, _ => False
def gIsub : G2 := fun x y P => match x, y with
  | .int i, .int j => P (.int (i - j))
  | _, _ => False
theorem sem_iadd : Sem2 X c (inplaceOp .Add) gIadd := by
  refine ⟨_, iop_add, fun F H σ ρ xx x y vx vy P Q r bx by_ g k => ?_⟩
  unfold gIadd at g
  split at g
  · cases bo_int bx
    cases bo_int by_
    exact ⟨_, _, rfl, rfl, k _ _ F H g (Ex.refl F) r (.int _)⟩
  · exact g.elim
theorem sem_isub : Sem2 X c (inplaceOp .Sub) gIsub := by
  refine ⟨_, iop_sub, fun F H σ ρ xx x y vx vy P Q r bx by_ g k => ?_⟩
  unfold gIsub at g
  split at g
  · cases bo_int bx
    cases bo_int by_
    exact ⟨_, _, rfl, rfl, k _ _ F H g (Ex.refl F) r (.int _)⟩
  · exact g.elim
theorem ref_of_bo {F H : Hp} {v : V} {d : D} (b : Bo c F H v d) : (∃ a, v = .ref a) ∨ (d = .none ∧ v = .non) ∨ (∃ i, d = .int i ∧ v = .int i) ∨ (∃ i, d = .bool i ∧ v = .bl i) ∨ (∃ i, d = .str i ∧ v = .str i) := by
  rcases b with b | ⟨a, rfl, _⟩
  · cases b with
    | non => exact .inr (.inl ⟨rfl, rfl⟩)
    | bl b => exact .inr (.inr (.inr (.inl ⟨_, rfl, rfl⟩)))
    | int i => exact .inr (.inr (.inl ⟨_, rfl, rfl⟩))
    | str x => exact .inr (.inr (.inr (.inr ⟨_, rfl, rfl⟩)))
    | lst s t => exact .inl ⟨_, rfl⟩
    | tup s t => exact .inl ⟨_, rfl⟩
    | dk r n l t => exact .inl ⟨_, rfl⟩
    | dt r l t => exact .inl ⟨_, rfl⟩
  · exact .inl ⟨a, rfl⟩
def rRp (K : PySem.W.Frag) : List V → Hp → VK → Prop := fun vs H Q => ∃ a d, vs = [.ref a] ∧ Dp K H (.ref a) d ∧ nod d = true ∧ d.showable = true ∧ d.depth ≤ 60 ∧ d.shown.length ≤ 1000000 ∧ Q (.str d.shown) H
end
mutual
theorem nod_dict : ∀ d : D, nod d = true → d.hasDict = false
  | .none, _ => by simp [PyData.hasDict]
  | .bool _, _ => by simp [PyData.hasDict]
  | .int _, _ => by simp [PyData.hasDict]
  | .str _, _ => by simp [PyData.hasDict]
  | .list xs, h => by
    simp only [PyData.hasDict]
    exact nod_dictAll xs (by simpa [nod] using h)
  | .tuple xs, h => by
    simp only [PyData.hasDict]
    exact nod_dictAll xs (by simpa [nod] using h)
  | .dict _, h => by simp [nod] at h
theorem nod_dictAll : ∀ ds : List D, nodAll ds = true → PyData.hasDictAll ds = false
  | [], _ => by simp [PyData.hasDictAll]
  | x :: xs, h => by
    simp only [nodAll, Bool.and_eq_true] at h
    simp only [PyData.hasDictAll, Bool.or_eq_false_iff]
    exact ⟨nod_dict x h.1, nod_dictAll xs h.2⟩
end
section
variable {X : Cx} {c : Cn} {e a b : Expr} {pos : Pos}
theorem call_rp (hg : X.A.guards = some []) (hu : X.A.units + 64 < cLine) : CallR X (.builtin "repr") (rRp X.K) := by
  (intro pins s σ H xs us Q I r h)
  obtain ⟨a, d, rfl, hd, h1, h2, h3, h4, q⟩ := h
  obtain ⟨u, rfl, rv⟩ := vals1 r
  cases rv
  obtain ⟨as, rd⟩ := Dp.reads I d _ _ hd rfl
  refine repr_of_reads' rd h2 (PyData.noDict_hsm (nod_dict _ h1)) hg (by omega) (fun _ _ e => e) (fun h' u tk hk => ⟨.str d.shown, H, I.kept hk, ⟨u, rfl⟩, q⟩) (sz h4)
end
end DL
namespace DL
open PySem L2
section
variable {X : Cx} {c : Cn} {e a b : Expr} {pos : Pos}
def ownL (ρ : Env) (i : Nat) (k : List D → Prop) : Prop := match ρ[i]? with
  | some (.ow (.list ds)) => k ds
  | _ => False
theorem ownL_get {F H : Hp} {σ : L2.St} {ρ : Env} {xx : XX} (r : Rel c F H σ ρ xx) {i : Nat} {k : List D → Prop} (h : ownL ρ i k) : ∃ ds p vs, ρ[i]? = some (.ow (.list ds)) ∧ σ[i]? = some (some (.ref p)) ∧ H p = some (.lst vs) ∧ AtAll c.K F vs ds ∧ k ds := by
  unfold ownL at h
  split at h
  · rename_i ds e
    obtain ⟨p, g1, g2⟩ := r.s.ow i _ e
    obtain ⟨vs, h1, h2⟩ := g2.o
    exact ⟨ds, p, vs, e, g1, h1, h2, h⟩
  · exact h.elim
def sApp (i : Nat) (f : DM) : SM := fun E ρ => ownL ρ i (fun _ => True) ∧ f ρ fun d ρ1 => ownL ρ1 i fun ds => ds.length < 1000000 ∧ E.nx (ρ1.set i (.ow (.list (ds ++ [d]))))
theorem app_use {i : Nat} {f : DM} {te : TE} (et : te = tD c f) (hK : X.K = c.K) : ∀ Z σ H, tS c (sApp i f) Z σ H → tDrop (tBM X.K "list" rAppend (tVar i) (tCons te tNil)) Z σ H := by
  subst et
  rintro Z σ H ⟨F, ρ, xx, E, rel, ⟨q0, q⟩, n, rr, b, t⟩
  obtain ⟨ds0, p0, vs0, g1, g2, g3, g4, _⟩ := ownL_get rel q0
  refine ⟨.ref p0, g2, .inl ⟨rfl, vs0, SqL.of g3⟩, F, ρ, xx, _, rel, q, fun d ρ1 v F1 H1 q1 e1 r1 a1 => ?_⟩
  obtain ⟨ds, p, vs, h1, h2, h3, h4, hl, hn⟩ := ownL_get r1 q1
  have ep : p0 = p := by
    rw [g2] at h2
    cases h2
    rfl
  subst ep
  refine ⟨p0, vs, v, rfl, rfl, h3, szl (by rw [h4.length]; omega), ?_⟩
  exact n _ σ F1 _ hn e1 (r1.mut h1 h2 ⟨_, upd_same, h4.append (.cons a1 .nil)⟩)
theorem dp_app {x : Str} {i : Nat} {px apos cpos : Pos} {f : DM} (hK : X.K = c.K) (ho : PE X (.Name x px) (tVar i)) (ha : PE X e (tD c f))
    (hbase : attributeBase (.Name x px) "append" X.env (eval (.Name x px) X.env) = eval (.Name x px) X.env := by rfl)
    (hfew : ((backTo cpos (starEach [e] X.env)).all (fun x => !x.1)
        && (backToKw cpos (keywordEach [] X.env)).all (fun x => x.1.isSome)
      && decide (([e] : List Expr).length + ([] : List Keyword).length
          + (if ([] : List Keyword).isEmpty then 0 else 1) < 30)) = true := by rfl)
    (hline : (apos.endLine == cpos.line) = true := by rfl) (hs : starEach [e] X.env = (false, eval e X.env) :: starEach [] X.env := by rfl) (hplain : (backTo cpos (starEach [] X.env)).any (·.1) = false := by rfl)
    (hsw : swapsWith (.Call (.Attribute (.Name x px) "append" apos) [e] [] cpos) none pos.line X.env = pure false := by rfl) : PS X (.Expr (.Call (.Attribute (.Name x px) "append" apos) [e] [] cpos) pos) (tS c (sApp i f)) :=
  PS.to (ps_expr (pe_bm PySem.F.plainAttrs_list PySem.F.slot_list_append PySem.F.type_list_append mt_append ho (pa_cons ha pa_nil hs) hbase hfew hline hs hplain) hsw) (app_use rfl hK)
def sPut (i : Nat) (fi fe : DM) : SM := fun E ρ => fe ρ fun d ρ1 => ownL ρ1 i (fun _ => True) ∧ fi ρ1 fun k ρ2 => ownL ρ2 i fun ds => match k with
  | .int z => ∃ j, ixN ds.length z = some j ∧ E.nx (ρ2.set i (.ow (.list (ds.set j d))))
  | _ => False
theorem put_use {i : Nat} {fi fe : DM} {te ti : TE} (et : te = tD c fe) (ei : ti = tD c fi) : ∀ Z σ H, tS c (sPut i fi fe) Z σ H → tAsg te (L2.gSub (tVar i) ti rSetL) Z σ H := by
  subst et ei
  rintro Z σ H ⟨F, ρ, xx, E, rel, q, n, rr, b, t⟩
  refine ⟨F, ρ, xx, _, rel, q, fun d ρ1 v F1 H1 ⟨q0, q1⟩ e1 r1 a1 => ?_⟩
  obtain ⟨ds0, p0, vs0, g1, g2, g3, g4, _⟩ := ownL_get r1 q0
  refine ⟨.ref p0, g2, F1, ρ1, xx, _, r1, q1, fun k ρ2 u F2 H2 q2 e2 r2 a2 => ?_⟩
  obtain ⟨ds, p, vs, h1, h2, h3, h4, hk⟩ := ownL_get r2 q2
  have ep : p0 = p := by
    rw [g2] at h2
    cases h2
    rfl
  subst ep
  split at hk
  · rename_i z
    cases a2
    obtain ⟨j, hj, hn⟩ := hk
    refine ⟨p0, vs, z, j, rfl, rfl, h3, by rw [h4.length]; exact hj, ?_⟩
    exact n _ σ F2 _ hn (e1.trans e2) (r2.mut h1 h2 ⟨_, upd_same, h4.set (a1.mono e2) j⟩)
  · exact hk.elim
end
end DL
namespace DL
open PySem L2
section
variable {X : Cx} {c : Cn} {e a b : Expr} {pos : Pos}
theorem dp_put {x : Str} {i : Nat} {ix : Expr} {px tpos : Pos} {fi fe : DM} (ho : PE X (.Name x px) (tVar i)) (hi : PE X ix (tD c fi)) (he : PE X e (tD c fe))
    (hsub : ∀ v, assign (.Subscript (.Name x px) ix tpos) X.env v = (do
      let ov ← holding [v] (eval (.Name x px) X.env)
      let iv ← holding [v, ov] (eval ix X.env)
      standAt tpos
      (holding [v, ov, iv] (setItem ov iv v))
      release [v, ov, iv] []) := by intro _; rfl)
    (hs : swapsWithSole [.Subscript (.Name x px) ix tpos] e pos.line X.env = pure false := by rfl) (hw : swappedStores [.Subscript (.Name x px) ix tpos] e X.env = pure none := by rfl)
    (h1 : (assignEach [.Subscript (.Name x px) ix tpos] X.env).map (·.2) = [assign (.Subscript (.Name x px) ix tpos) X.env] := by rfl) : PS X (.Assign [.Subscript (.Name x px) ix tpos] e pos) (tS c (sPut i fi fe)) :=
  PS.to (ps_asg he (pg_sub ho hi set_list hsub) hs hw h1) (put_use rfl rfl)
def ofStrs : List D → Option (List Str)
  | [] => some []
  | .str x :: r => (ofStrs r).map (x :: ·)
  | _ => none
theorem ofStrs_eq : ∀ {ds : List D} {ns : List Str}, ofStrs ds = some ns → ds = ns.map PyData.str
  | [], ns, h => by cases h; rfl
  | .str x :: r, ns, h => by
    unfold ofStrs at h
    cases e : ofStrs r with
    | none => (rw [e] at h; cases h)
    | some m =>
      rw [e] at h
      cases h
      rw [ofStrs_eq e]
      rfl
  | .none :: _, _, h => by cases h
  | .bool _ :: _, _, h => by cases h
  | .int _ :: _, _, h => by cases h
  | .list _ :: _, _, h => by cases h
  | .tuple _ :: _, _, h => by cases h
  | .dict _ :: _, _, h => by cases h
theorem ofStrs_map : ∀ (ns : List Str), ofStrs (ns.map PyData.str) = some ns
  | [] => rfl
  | n :: r => by
    show (ofStrs (r.map PyData.str)).map (n :: ·) = _
    rw [ofStrs_map r]
    rfl
def dJoin (f g : DM) : DM := fun ρ P => f ρ fun d ρ1 => (∃ z, d = .str z) ∧ g ρ1 fun l ρ2 => ∃ z ds ys, d = .str z ∧ (l = .list ds ∨ l = .tuple ds) ∧ ofStrs ds = some ys ∧ (ys.map (·.length)).sum + ys.length * z.length ≤ 16777216 ∧ P (.str (Txt.join z ys)) ρ2
theorem de_join {o : Expr} {apos : Pos} {f g : DM} (hK : X.K = c.K) (ho : PE X o (tD c f)) (he : PE X e (tD c g)) (hs : starEach [e] X.env = [(false, eval e X.env)] := by rfl) (hbase : attributeBase o "join" X.env (eval o X.env) = eval o X.env := by rfl) (hline : (apos.endLine == pos.line) = true := by rfl) :
    PE X (.Call (.Attribute o "join" apos) [e] [] pos) (tD c (dJoin f g)) := by
  refine PE.to (pe_join ho he hs hbase hline) ?_
  rintro σ H Q ⟨F, ρ, xx, P, rel, q, k⟩
  refine ⟨F, ρ, xx, _, rel, q, fun d ρ1 v F1 H1 ⟨⟨z, hz⟩, q1⟩ e1 r1 a1 => ?_⟩
  subst hz
  cases a1
  refine ⟨⟨z, rfl⟩, F1, ρ1, xx, _, r1, q1, fun l ρ2 u F2 H2 ⟨z', ds, ys, ez, hl, hy, hlen, q2⟩ e2 r2 a2 => ?_⟩
  cases ez
  have hd := ofStrs_eq hy
  subst hd
  rcases hl with hl | hl
  · subst hl
    cases a2 with
    | lst s t =>
      rw [hK]
      have := t.strs
      subst this
      exact ⟨z, _, ys, rfl, rfl, .inl (r2.w.fh.sl s), hlen, k _ ρ2 _ F2 H2 q2 (e1.trans e2) r2 (.str _)⟩
  · subst hl
    cases a2 with
    | tup s t =>
      rw [hK]
      have := t.strs
      subst this
      exact ⟨z, _, ys, rfl, rfl, .inr (r2.w.fh.st s), hlen, k _ ρ2 _ F2 H2 q2 (e1.trans e2) r2 (.str _)⟩
end
end DL
namespace DL
open PySem L2
end DL
namespace DL
open PySem L2
section
variable {X : Cx} {c : Cn}
def gNeS : G2 := fun x y P => match x, y with
  | .str a, .str b => P (.bool (!decide (a = b)))
  | _, _ => False
theorem dec_strs {a b : Str} : decide (V.str a = V.str b) = decide (a = b) := by
  by_cases h : a = b
  · subst h
    simp
  · simp [h]
theorem sem_neS : Sem2 X c (compareOp .NotEq) gNeS := by
  refine ⟨_, op_ne, fun F H σ ρ xx x y vx vy P Q r bx by_ g k => ?_⟩
  unfold gNeS at g
  split at g
  · cases bo_str bx
    cases bo_str by_
    refine ⟨rfl, ?_⟩
    rw [dec_strs]
    exact k _ _ F H g (Ex.refl F) r (.bl _)
  · exact g.elim
end
end DL
namespace DL
open PySem L2 PySem.Spec PyProof.Rows
section
variable {pr : Program} {wd : PySem.World} {A : Around} {cp tg nx src el : Expr} {fs : List Expr} {gens : List Comprehension} {sc0 : Scope} {ps0 : Pos} {l : Nat} {acc : Value} {ce : PySem.Env} {R : Result → Shared → Prop}
abbrev tests (ce : PySem.Env) (fs : List Expr) : Sem Bool := forIn fs true fun q r => if r = true then do let k ← isTrue q ce (eval q ce); pure (ForInStep.yield k) else pure (ForInStep.yield r)
/-- one turn: what is asked where an item comes, and where none -/
def TurnOk (pr : Program) (wd : PySem.World) (A : Around) (ce : PySem.Env) (tg : Expr) (fs : List Expr) (N : Value → Shared → Prop) (stop done : Shared → Prop) (inner : Shared → Prop) (it : Value) (s : Shared) : Prop :=
  wpAny (model pr wd) A (pyNext it) (fun r s1 => match r with
    | none => stop s1
    | some v => wpAny (model pr wd) A (letOwnedTupleGo tg it v) (fun _ s2 => wpAny (model pr wd) A (assign tg ce v) (fun _ s3 =>
        wpAny (model pr wd) A (tests ce fs) (fun k s4 => if k = true then inner s4 else done s4) N s3) N s2) N s1) N s
end
end DL
namespace DL
open PySem L2 PySem.Spec PyProof.Rows
abbrev noE : Value → Shared → Prop := fun _ _ => False
/-- what stands behind a clause's tests -/
abbrev LvU := L2.St → Hp → (Hp → Prop) → Prop
/-- it keeps the block's context, and reaches Nx -/
def InOk (B : Cx) (inner : (Shared → Prop) → Shared → Prop) (t : LvU) (own : List Nat) : Prop := ∀ (pins : List (Addr × Obj)) (s : Shared) (σ : L2.St) (H : Hp) (Nx : Hp → Prop) (done : Shared → Prop), Inv B pins σ H s → t σ H Nx →
  (∀ (σ' : L2.St) (H' : Hp) (s' : Shared), Inv B pins σ' H' s' → (L2.wipe σ own).length = σ'.length → (∀ (j : Nat) v, (L2.wipe σ own)[j]? = some (some v) → σ'[j]? = some (some v)) → Nx H' → done s') → inner done s
/-- a clause's turns -/
abbrev Turns (J : It) (g : TG) (tt : TT) (vs : List Nat) (σ : L2.St) (U : LvU) (Fin : Hp → Prop) (W : Nat → Nat → Hp → Prop) : Prop := ∀ i m H, W i m H →
  (J.stop i H ∧ Fin H) ∨ (J.go i H ∧ ∃ Nx : Hp → Prop, (∀ G, Nx G → ∃ m', m' < m ∧ W (i + 1) m' G) ∧ ∀ x G, J.yld i H x G → g x (L2.wipe σ vs) G fun σ2 H2 => L2.wipe σ2 vs = L2.wipe σ vs ∧ tt σ2 H2 fun b H3 => if b = true then U σ2 H3 Nx else Nx H3)
/-- slots that know what the block's own slots knew -/
structure Knows (σ σ' : L2.St) (vs : List Nat) : Prop where
  l : (L2.wipe σ vs).length = σ'.length
  k : ∀ (j : Nat) v, (L2.wipe σ vs)[j]? = some (some v) → σ'[j]? = some (some v)
theorem wipe_off {σ : L2.St} {i : Nat} : ∀ {vs : List Nat}, i ∉ vs → (L2.wipe σ vs)[i]? = σ[i]?
  | [], _ => rfl
  | v :: vs, h => (List.getElem?_set_ne fun e => h (by rw [e]; exact List.mem_cons_self)).trans (wipe_off fun m => h (List.mem_cons_of_mem _ m))
theorem Knows.of_eq {σ σ' : L2.St} {vs : List Nat} (e : L2.wipe σ' vs = L2.wipe σ vs) : Knows σ σ' vs := ⟨by rw [← e, wipe_length], fun j v q => (L2.wipe_some (show (L2.wipe σ' vs)[j]? = _ from e ▸ q)).1⟩
theorem Knows.within {σ σ1 σ2 : L2.St} {vs own : List Nat} (a : L2.wipe σ1 vs = L2.wipe σ vs) (hv : ∀ i ∈ own, i ∈ vs) (hl : (L2.wipe σ1 own).length = σ2.length) (hk : ∀ (j : Nat) v, (L2.wipe σ1 own)[j]? = some (some v) → σ2[j]? = some (some v)) : Knows σ σ2 vs where
  l := by rw [← a, wipe_length, ← hl, wipe_length]
  k j v q := by
    have z := L2.wipe_some (show (L2.wipe σ1 vs)[j]? = _ from a ▸ q)
    exact hk j v ((wipe_off fun m => z.2 (hv j m)).trans z.1)
section
variable {Y : Cx} {pins : List (Addr × Obj)} {tg : Expr} {fs : List Expr} {g : TG} {tt : TT} {vs own : List Nat} {σ : L2.St} {it : Addr} {fp : List Addr} {tn : Nat → Heap → Prop} {J : It} {W : Nat → Nat → Hp → Prop} {Fin : Hp → Prop} {U : LvU} {act : (Shared → Prop) → Shared → Prop}
theorem wpF {α : Type} {t : Sem α} {Q Q' : α → Shared → Prop} {M : Model} {A : Around} {E : Value → Shared → Prop} {s : Shared} (h : wpAny M A t Q noE s) (q : ∀ a s, Q a s → Q' a s) : wpAny M A t Q' E s := wpAny_mono h q fun _ _ z => z.elim
/-- with no way out by an error -/
theorem wpX {α : Type} {t : Sem α} {Q Q' : α → Shared → Prop} {E : Value → Shared → Prop} {s : Shared} (hx : Y.xe = noE) (h : wpAny (model Y.prog Y.w) Y.A t Q Y.xe s) (q : ∀ a s, Q a s → Q' a s) : wpAny (model Y.prog Y.w) Y.A t Q' E s := wpF (by rw [hx] at h; exact h) q
/-- how things stand ahead of a turn -/
def Ahead (Y : Cx) (pins : List (Addr × Obj)) (σw : L2.St) (fp : List Addr) (tn : Nat → Heap → Prop) (W : Nat → Nat → Hp → Prop) (m : Nat) (s : Shared) : Prop := ∃ i G, Inv Y pins σw G s ∧ tn i s.heap ∧ (∀ b ∈ fp, G b = none) ∧ W i m G
/-- what the iterator stands on was held through a turn, and goes free -/
theorem Ahead.next {σ' : L2.St} {G : Hp} {s7 s : Shared} {i m : Nat} (T : Turn Y.prog Y.w Y.K tg J fp it tn) (I : Inv Y (pins ++ pinsAt fp s7.heap) σ' G s) (kn : Knows σ σ' vs) (st : tn i s7.heap) (w : W i m G) : Ahead Y pins (L2.wipe σ vs) fp tn W m s := by
  have held : ∀ b ∈ fp, ∀ o, s7.heap.get? b = some o → _ := fun b mb o e => I.pin (b, o) (List.mem_append_right _ (List.mem_append_right _ (mem_pinsAt mb e)))
  exact ⟨i, G, I.unpinned.weak kn.l kn.k, T.keep i _ _ st fun b mb o e => (held b mb o e).1, fun b mb => (T.obj i _ st b mb).elim fun o q => (held b mb o q.1).2.1, w⟩
/-- one turn -/
theorem turn_ok {N : Value → Shared → Prop} {stop : Shared → Prop} {n : Nat} {s : Shared} (hx : Y.xe = noE) (hc : Y.calm = true) (T : Turn Y.prog Y.w Y.K tg J fp it tn) (pg : PG Y tg g) (pt : PTs Y fs tt) (hv : ∀ i ∈ own, i ∈ vs)
    (still : ∀ (σ' : L2.St) (G : Hp) (s' : Shared), Inv Y pins σ' G s' → (∀ b ∈ fp, G b = none) → ∀ b ∈ fp, FpOk Y pins G b) (turns : Turns J g tt vs σ U Fin W) (hU : InOk Y act U own)
    (over : ∀ (G : Hp) (s' : Shared), Inv Y pins (L2.wipe σ vs) G s' → Fin G → stop s') (h : Ahead Y pins (L2.wipe σ vs) fp tn W n s) :
    TurnOk Y.prog Y.w Y.A Y.env tg fs N stop (fun s' => ∃ m, m < n ∧ Ahead Y pins (L2.wipe σ vs) fp tn W m s') (act fun s' => ∃ m, m < n ∧ Ahead Y pins (L2.wipe σ vs) fp tn W m s') (.ref it) s := by
  obtain ⟨i, G, I, st, no, w⟩ := h
  have free := still _ G s I no
  rcases turns i n G w with ⟨a, b⟩ | ⟨a, Nx, less, step⟩
  · exact wpF (T.done Y rfl rfl rfl hc i pins s _ G noE I free st a) fun r s' q => q.1 ▸ over G s' q.2 b
  · refine wpF (T.item Y rfl rfl rfl hc i pins s _ G noE I free st a) ?_
    rintro _ s1 ⟨u, rfl, q⟩
    refine wpF q ?_
    rintro _ s2 ⟨x, G2, I2, ru, y, st2, no2⟩
    have go : ∀ (σ' : L2.St) (G' : Hp) (s' : Shared), Inv Y (pins ++ pinsAt fp s2.heap) σ' G' s' → Knows σ σ' vs → Nx G' → ∃ m, m < n ∧ Ahead Y pins (L2.wipe σ vs) fp tn W m s' := fun σ' G' s' I' kn nx =>
      (less G' nx).elim fun m q => ⟨m, q.1, .next T I' kn st2 q.2⟩
    refine wpX hx (pg.run _ s2 _ G2 x u _ (I2.pinned (still _ G2 s2 I2 no2) (T.obj _ _ st2)) ru (step x G2 y)) ?_
    rintro _ s3 ⟨σ3, G3, I3, e3, q3⟩
    refine wpX hx (pt.run _ s3 σ3 G3 _ I3 q3) ?_
    rintro b s4 ⟨G4, I4, q4⟩
    match b, q4 with
    | false, q4 => exact go σ3 G4 s4 I4 (.of_eq e3) q4
    | true, q4 => exact hU _ s4 σ3 G4 Nx _ I4 q4 fun σ' G' s' I' l k nx => go σ' G' s' I' (.within e3 hv l k) nx
end
/-- a block stands open over a new container: what is known within, and what the end gives back -/
structure Opened (X : Cx) (pins : List (Addr × Obj)) (σ : L2.St) (own : List Nat) (Y : Cx) (fp : List Addr) (tn : Nat → Heap → Prop) (C : Addr) (G : Hp) (s : Shared) : Prop where
  inv : Inv Y [] (L2.wipe σ own) G s
  st : tn 0 s.heap
  no : ∀ b ∈ fp, G b = none
  still : ∀ (σ' : L2.St) (G' : Hp) (s' : Shared), Inv Y [] σ' G' s' → (∀ b ∈ fp, G' b = none) → ∀ b ∈ fp, FpOk Y [] G' b
  back : ∀ (σ' : L2.St) (G' : Hp) (s' : Shared), Inv Y [] σ' G' s' → Inv X pins σ G' s' ∧ (∃ m, s'.heap.Ns C m) ∧ FpOk X pins G' C
abbrev heapIn (h : Heap) (scope : Scope) : Heap := pushCells (h.push { cls := .type "dict", data := .dict #[] }) scope.names
abbrev envIn (X : Cx) (h : Heap) (scope : Scope) : PySem.Env := compEnvC scope (cellsFrom (h.objs.size + 1) scope.names (cloFrom X.env.cells scope.names [])) h.objs.size X.env
theorem Opened.of {X : Cx} {pins : List (Addr × Obj)} {σ : L2.St} {H : Hp} {s s3 : Shared} {tg : Expr} {J : It} {fp : List Addr} {it : Addr} {tn : Nat → Heap → Prop} {scope : Scope} {own : List (Str × Nat)} {o : HO} {ob : Obj} (hN : X.N.Nodup) (ok : BlkOk X.N X.env.scope scope own)
    (T : Turn X.prog X.w X.K tg J fp it tn) (st : tn 0 s.heap) (free : ∀ b ∈ fp, FpOk X pins H b) (e3 : s3.heap = s.heap.push ob) (I : Inv X pins σ (upd H s.heap.objs.size o) s3) :
    Opened X pins σ (own.map (·.2)) (X.blk s3 (upd H s.heap.objs.size o) scope (envIn X s3.heap scope) fp) fp tn s3.heap.objs.size (upd H s.heap.objs.size o) { s3 with heap := heapIn s3.heap scope } := by
  have lt : ∀ b ∈ fp, b < s.heap.objs.size := fun b mb => (T.obj 0 _ st b mb).elim fun _ q => Heap.lt_size q.1
  have free3 : ∀ b ∈ fp, FpOk X pins (upd H s.heap.objs.size o) b := fun b mb => ⟨(upd_ne (Nat.ne_of_lt (lt b mb))).trans (free b mb).1, (free b mb).2⟩
  have pushed : ∀ b z, s.heap.get? b = some z → s3.heap.get? b = some z := fun b z q => by rw [e3]; exact Heap.get?_push_of_some _ q
  exact {
    inv := block_start I ok hN fun b mb => ⟨free3 b mb, by rw [e3, Heap.size_push]; exact Nat.lt_succ_of_lt (lt b mb)⟩
    st := T.keep 0 _ _ st fun b _ z q => pushCells_keeps _ _ _ _ (Heap.get?_push_of_some _ (pushed b z q))
    no := fun b mb => (free3 b mb).1
    still := fun σ' G' s' J' n b mb =>
      have away := J'.ok.exf b mb
      ⟨n b mb, away.1, J'.ok.exfs b mb, .inl mb, away.2, fun p hp => (List.not_mem_nil hp).elim⟩
    back := fun σ' G' s' J' => by
      refine ⟨I.call' J'.os J'.base J'.hok J'.bare fun b mb => ?_, J'.loc.elim fun m q => ⟨m, q.1⟩, I.fpOk (Nat.le_refl _) J'.free⟩
      obtain ⟨-, f1, f2, f3, f4, f5⟩ := free3 b mb
      exact ⟨f3, f1, f4, f5⟩ }
end DL
namespace DL
open PySem L2 PySem.Spec PyProof.Rows
end DL
namespace DL
open PySem L2 PySem.Spec PyProof.Rows
end DL
namespace DL
open PySem L2 PySem.Spec PyProof.Rows
end DL
namespace DL
open PySem L2 PySem.Spec PyProof.Rows
end DL
namespace DL
open PySem L2
theorem hd_d {x : D} {as : List Ar} : ((Ar.d x :: as).head?).map isD ≠ some false := by simp [isD]
theorem k_int : kitB "int" "int" = some true := by decide +kernel
theorem k_ib : kitB "int" "bool" = some false := by decide +kernel
theorem k_tt : kitB "tuple" "tuple" = some true := by decide +kernel
theorem k_ss : kitB "str" "str" = some true := by decide +kernel
/-- a comprehension whose items are told by a function -/
theorem lcL_map {t : TM} {f : DM} {vs : List Nat} {K : List D → DL.Env → Prop} {ρ : DL.Env} (g : D → D) : ∀ (ds acc : List D), (∀ d ∈ ds, ∀ Q : D → DL.Env → Prop, (∀ ρ3, wipeE ρ3 vs = ρ → Q (g d) ρ3) → t d ρ fun ρ1 => f ρ1 Q) → K (acc ++ ds.map g) ρ → lcL t bYes f vs K ds acc ρ
  | [], acc, _, hk => by
    show K acc ρ
    simpa using hk
  | d :: ds, acc, h, hk => by
    refine h d (List.mem_cons_self ..) _ fun ρ3 e => ?_
    show lcL t bYes f vs K ds (acc ++ [g d]) (wipeE ρ3 vs)
    rw [e]
    exact lcL_map g ds (acc ++ [g d]) (fun d' hd => h d' (List.mem_cons_of_mem _ hd)) (by simpa using hk)
/-- one whose items are drawn: each asks for at most w numbers -/
theorem lcL_draw {t : TM} {f : DM} {vs : List Nat} {K : List D → DL.Env → Prop} (ρ : Nat → DL.Env) (R : D → Prop) (w B : Nat) : ∀ (ds acc : List D) (n : Nat), n + w * ds.length ≤ B →
    (∀ d ∈ ds, ∀ (n : Nat) (Q : D → DL.Env → Prop), n + w ≤ B → (∀ y n' ρ3, R y → n' ≤ n + w → wipeE ρ3 vs = ρ n' → Q y ρ3) → t d (ρ n) fun ρ1 => f ρ1 Q) →
    (∀ ys n', ys.length = ds.length → (∀ y ∈ ys, R y) → n' ≤ n + w * ds.length → K (acc ++ ys) (ρ n')) → lcL t bYes f vs K ds acc (ρ n)
  | [], acc, n, _, _, hk => by
    have := hk [] n rfl (fun _ z => nomatch z) (by simp)
    show K acc (ρ n)
    simpa using this
  | d :: ds, acc, n, hb, h, hk => by
    have e1 : w * (d :: ds).length = w * ds.length + w := by rw [List.length_cons, Nat.mul_succ]
    rw [e1] at hb
    refine h d (List.mem_cons_self ..) n _ (by omega) fun y n' ρ3 hy hn e => ?_
    show lcL t bYes f vs K ds (acc ++ [y]) (wipeE ρ3 vs)
    rw [e]
    refine lcL_draw ρ R w B ds (acc ++ [y]) n' (by omega) (fun d' hd => h d' (List.mem_cons_of_mem _ hd)) ?_
    intro ys n2 hl hr hn2
    have := hk (y :: ys) n2 (by simp [hl]) (fun z hz => by
      (rcases List.mem_cons.mp hz with rfl | hz)
      · exact hy
      · exact hr z hz) (by omega)
    simpa using this
theorem signs_eq (z : Str) : signs z = z.cps.toList.map fun n => PyData.str ⟨#[n]⟩ := rfl
theorem ofBools_true : ∀ n : Nat, ofBools (List.replicate n (.bool true)) = some (List.replicate n true)
  | 0 => rfl
  | n + 1 => by
    have h := ofBools_true n
    rw [List.replicate_succ, List.replicate_succ]
    show (ofBools (List.replicate n (.bool true))).map (true :: ·) = _
    rw [h]
    rfl
end DL
namespace DL
open PySem L2
mutual
theorem eqv_refl : ∀ d : D, nod d = true → PyData.eqv d d = true
  | .none, _ => (by simp [PyData.eqv])
  | .bool _, _ => (by simp [PyData.eqv])
  | .int _, _ => (by simp [PyData.eqv])
  | .str _, _ => (by simp [PyData.eqv])
  | .list xs, h => by
    simp only [PyData.eqv]
    exact eqv_reflAll xs (by simpa [nod] using h)
  | .tuple xs, h => by
    simp only [PyData.eqv]
    exact eqv_reflAll xs (by simpa [nod] using h)
  | .dict _, h => by simp [nod] at h
theorem eqv_reflAll : ∀ ds : List D, nodAll ds = true → PyData.eqvAll ds ds = true
  | [], _ => rfl
  | x :: xs, h => by
    simp only [nodAll, Bool.and_eq_true] at h
    simp only [PyData.eqvAll, Bool.and_eq_true]
    exact ⟨eqv_refl x h.1, eqv_reflAll xs h.2⟩
end
end DL
namespace DL
open PySem L2
def kC : Key := .inr "cells"
def kL : Key := .inr "left"
def kS : Key := .inr "spot"
structure SrcAt (H : Hp) (q c l : Addr) (cs ls : List Int) (k : Nat) : Prop where
  dq : H q = some (.dK [(kC, .ref c), (kL, .ref l), (kS, .int k)])
  dc : H c = some (.lst (cs.map V.int))
  dl : H l = some (.lst (ls.map V.int))
  ne : c ≠ l
  nc : cs.length ≤ 100
  nl : ls.length ≤ 100
def spotOf : Option HO → Nat
  | some (.dK [_, _, (_, .int k)]) => k.toNat
  | _ => 0
theorem SrcAt.foot {H : Hp} {q c l : Addr} {cs ls : List Int} {k : Nat} (s : SrcAt H q c l cs ls k) {a : Addr} (h : Foot (some q) H a) : a = q ∨ a = c ∨ a = l := by
  rcases h with h | ⟨kvs, y, h1, h2⟩
  · exact .inl h
  · rw [s.dq] at h1
    cases h1
    simp only [List.mem_cons, Prod.mk.injEq, List.not_mem_nil, or_false] at h2
    rcases h2 with ⟨_, h⟩ | ⟨_, h⟩ | ⟨_, h⟩
    · cases h; exact .inr (.inl rfl)
    · cases h; exact .inr (.inr rfl)
    · cases h
theorem SrcAt.fq {H : Hp} {q : Addr} : Foot (some q) H q := .inl rfl
theorem SrcAt.fc {H : Hp} {q c l : Addr} {cs ls : List Int} {k : Nat} (s : SrcAt H q c l cs ls k) : Foot (some q) H c := .inr ⟨_, kC, s.dq, List.mem_cons_self ..⟩
theorem SrcAt.fl {H : Hp} {q c l : Addr} {cs ls : List Int} {k : Nat} (s : SrcAt H q c l cs ls k) : Foot (some q) H l := .inr ⟨_, kL, s.dq, List.mem_cons_of_mem _ (List.mem_cons_self ..)⟩
def srcOrc : Orc where
  I q H := ∃ c l cs ls k, SrcAt H q c l cs ls k
  cnt q H := spotOf (H q)
  al q H a h f := by
    obtain ⟨c, l, cs, ls, k, s⟩ := h
    rcases s.foot f with rfl | rfl | rfl
    · rw [s.dq]; exact Option.some_ne_none _
    · rw [s.dc]; exact Option.some_ne_none _
    · rw [s.dl]; exact Option.some_ne_none _
  st q H H' h e := by
    obtain ⟨c, l, cs, ls, k, s⟩ := h
    exact ⟨c, l, cs, ls, k, ⟨(e q SrcAt.fq).trans s.dq, (e c s.fc).trans s.dc, (e l s.fl).trans s.dl, s.ne, s.nc, s.nl⟩⟩
  sc q H H' h e := by rw [e q SrcAt.fq]
/-- H' is H but for the source, which may have new parts -/
structure Tou (q : Addr) (H H' : Hp) : Prop where
  kp : ∀ a, H a ≠ none → ¬ Foot (some q) H a → H' a = H a
  dom : ∀ a, H a ≠ none → H' a ≠ none
  ft : ∀ a, Foot (some q) H' a → Foot (some q) H a ∨ H a = none
theorem Tou.trans {q : Addr} {H H' H'' : Hp} (a : Tou q H H') (b : Tou q H' H'') : Tou q H H'' := by
  refine ⟨fun x h f => ?_, fun x h => b.dom x (a.dom x h), fun x h => ?_⟩
  · rw [b.kp x (a.dom x h) fun z => (a.ft x z).elim f h, a.kp x h f]
  · rcases b.ft x h with h | h
    · exact a.ft x h
    · refine .inr ?_
      cases z : H x with
      | none => rfl
      | some o => exact absurd h (a.dom x (by rw [z]; exact Option.some_ne_none o))
theorem Tou.world {q : Addr} {F H H' : Hp} (t : Tou q H H') (w : World srcOrc (some q) F H F H) (i : srcOrc.I q H') : World srcOrc (some q) F H F H' := by
  have al : ∀ a, F a ≠ none → H a ≠ none := fun a h z => by
    cases e : F a with
    | none => exact h e
    | some o =>
      have := w.fh a o e
      rw [z] at this
      cases this
  refine ⟨Ex.refl F, fun a o e => ?_, fun a o e f => ⟨?_, fun z => ?_⟩, t.dom, fun _ _ e => e, fun a h z => ?_, fun y e => ?_⟩
  · have h0 : F a ≠ none := by rw [e]; exact Option.some_ne_none o
    rw [t.kp a (al a h0) (w.ft a h0)]
    exact w.fh a o e
  · rw [t.kp a (by rw [e]; exact Option.some_ne_none o) f]
    exact e
  · rcases t.ft a z with z | z
    · exact f z
    · rw [e] at z
      cases z
  · rcases t.ft a z with z | z
    · exact w.ft a h z
    · exact al a h z
  · cases e
    exact i
/-- a new object -/
theorem Tou.new {q p : Addr} {o : HO} {H : Hp} (hp : H p = none) (hq : H q ≠ none) : Tou q H (upd H p o) := by
  have nq : q ≠ p := fun z => hq (by rw [z]; exact hp)
  refine ⟨fun a h _ => upd_ne fun z => h (by rw [z]; exact hp), fun a h => ?_, fun a h => .inl ?_⟩
  · by_cases z : a = p
    · exact absurd (by rw [z]; exact hp) h
    · rw [upd_ne z]
      exact h
  · exact (Foot.eqv (p := some q) (fun y e => by cases e; exact upd_ne nq) a).mp h
theorem SrcAt.new {H : Hp} {q c l p : Addr} {cs ls : List Int} {k : Nat} {o : HO} (s : SrcAt H q c l cs ls k) (hp : H p = none) : SrcAt (upd H p o) q c l cs ls k :=
  ⟨(upd_ne (ne_of_none s.dq hp)).trans s.dq, (upd_ne (ne_of_none s.dc hp)).trans s.dc, (upd_ne (ne_of_none s.dl hp)).trans s.dl, s.ne, s.nc, s.nl⟩
theorem SrcAt.setS {H : Hp} {q c l : Addr} {cs ls : List Int} {k : Nat} (s : SrcAt H q c l cs ls k) (k' : Nat) : SrcAt (upd H q (.dK [(kC, .ref c), (kL, .ref l), (kS, .int k')])) q c l cs ls k' := by
  have qc : c ≠ q := fun e => by have := s.dc; rw [e, s.dq] at this; cases this
  have ql : l ≠ q := fun e => by have := s.dl; rw [e, s.dq] at this; cases this
  exact ⟨upd_same, (upd_ne qc).trans s.dc, (upd_ne ql).trans s.dl, s.ne, s.nc, s.nl⟩
theorem SrcAt.setV {H : Hp} {q c l : Addr} {cs ls : List Int} {k : Nat} (s : SrcAt H q c l cs ls k) (ls' : List Int) (z : ls'.length ≤ 100) : SrcAt (upd H l (.lst (ls'.map V.int))) q c l cs ls' k := by
  have ql : q ≠ l := fun e => by have := s.dl; rw [← e, s.dq] at this; cases this
  exact ⟨(upd_ne ql).trans s.dq, (upd_ne s.ne).trans s.dc, upd_same, s.ne, s.nc, z⟩
/-- a store into the dict, or into its list -/
theorem Tou.putQ {H : Hp} {q c l l' : Addr} {cs ls : List Int} {k : Nat} {v : V} (s : SrcAt H q c l cs ls k) (hl : l' = l ∨ H l' = none) (nv : ∀ a, v ≠ .ref a) : Tou q H (upd H q (.dK [(kC, .ref c), (kL, .ref l'), (kS, v)])) := by
  refine ⟨fun a h f => upd_ne fun z => f (by rw [z]; exact SrcAt.fq), fun a h => ?_, fun a h => ?_⟩
  · by_cases z : a = q
    · rw [z, upd_same]; exact Option.some_ne_none _
    · rw [upd_ne z]; exact h
  · rcases h with h | ⟨kvs, y, h1, h2⟩
    · exact .inl (.inl h)
    · rw [upd_same] at h1
      cases h1
      simp only [List.mem_cons, Prod.mk.injEq, List.not_mem_nil, or_false] at h2
      rcases h2 with ⟨_, h⟩ | ⟨_, h⟩ | ⟨_, h⟩
      · cases h; exact .inl s.fc
      · cases h
        rcases hl with hl | hl
        · rw [hl]; exact .inl s.fl
        · exact .inr hl
      · exact absurd h.symm (nv a)
theorem Tou.putL {H : Hp} {q c l : Addr} {cs ls : List Int} {k : Nat} {o : HO} (s : SrcAt H q c l cs ls k) : Tou q H (upd H l o) := by
  have ql : q ≠ l := fun e => by have := s.dl; rw [← e, s.dq] at this; cases this
  refine ⟨fun a h f => upd_ne fun z => f (by rw [z]; exact s.fl), fun a h => ?_, fun a h => .inl ?_⟩
  · by_cases z : a = l
    · rw [z, upd_same]; exact Option.some_ne_none _
    · rw [upd_ne z]; exact h
  · exact (Foot.eqv (p := some q) (fun y e => by cases e; exact upd_ne ql) a).mp h
theorem SrcAt.spot {H : Hp} {q c l : Addr} {cs ls : List Int} {k : Nat} (s : SrcAt H q c l cs ls k) : srcOrc.cnt q H = k := by
  show spotOf (H q) = k
  rw [s.dq]
  rfl
theorem okD_ints (ns : List Int) : okD (.list (ns.map PyData.int)) := by
  have h1 : ∀ ms : List Int, PyData.canLayAll0 (ms.map PyData.int) = true := fun ms => by
    induction ms with
    | nil => rfl
    | cons m r ih => exact Bool.and_eq_true_iff.mpr ⟨rfl, ih⟩
  have h2 : ∀ ms : List Int, PyData.depthAll (ms.map PyData.int) ≤ 1 := fun ms => by
    induction ms with
    | nil => simp [PyData.depthAll]
    | cons m r ih => simp only [List.map_cons, PyData.depthAll, PyData.depth]; omega
  show SeqAt.shaped _ = true
  unfold SeqAt.shaped
  rw [Bool.and_eq_true_iff]
  refine ⟨h1 ns, decide_eq_true ?_⟩
  simp only [PyData.depth]
  have := h2 ns
  omega
theorem dp_ints {K : PySem.W.Frag} {H : Hp} {a : Addr} {ns : List Int} (h : H a = some (.lst (ns.map V.int))) : Dp K H (.ref a) (.list (ns.map PyData.int)) :=
  (At.lst (.inl (.inl h)) (AtAll.ofInts ns)).dp (okD_ints ns).nod
end DL
namespace DL
open PySem L2
section
variable {H : Hp} {q c l : Addr} {cs ls : List Int} {k : Nat} {σ : L2.St} {Q : VK}
theorem rdC (s : SrcAt H q c l cs ls k) (h0 : σ[0]? = some (some (.ref q))) (h : Q (.ref c) H) : tDGet (tVar 0) (tC (.str "cells")) σ H Q := ⟨_, h0, q, _, rfl, DGet.k (k := kC) s.dq, h⟩
theorem rdL (s : SrcAt H q c l cs ls k) (h0 : σ[0]? = some (some (.ref q))) (h : Q (.ref l) H) : tDGet (tVar 0) (tC (.str "left")) σ H Q := ⟨_, h0, q, _, rfl, DGet.k (k := kL) s.dq, h⟩
theorem rdS (s : SrcAt H q c l cs ls k) (h0 : σ[0]? = some (some (.ref q))) (h : Q (.int k) H) : tDGet (tVar 0) (tC (.str "spot")) σ H Q := ⟨_, h0, q, _, rfl, DGet.k (k := kS) s.dq, h⟩
end
end DL
namespace DL
open PySem L2
def leftLen (q : Addr) (H : Hp) : Nat := match H q with
  | some (.dK [_, (_, .ref l), _]) => (match H l with
    | some (.lst xs) => xs.length
    | _ => 0)
  | _ => 0
theorem SrcAt.len {H : Hp} {q c l : Addr} {cs ls : List Int} {k : Nat} (s : SrcAt H q c l cs ls k) : leftLen q H = ls.length := by
  unfold leftLen
  rw [s.dq]
  simp only
  rw [s.dl]
  simp
section
variable {K : PySem.W.Frag} {q c l : Addr} {cs ls : List Int} {k : Nat} {H H0 : Hp} {σ : L2.St}
theorem put_kS {c l : Addr} {k : Nat} {v : V} : putK [(kC, V.ref c), (kL, V.ref l), (kS, V.int k)] kS v = [(kC, V.ref c), (kL, V.ref l), (kS, v)] := rfl
theorem small3 : 3 < sizeLine := by decide +kernel
end
end DL
namespace DL
open PySem L2
end DL
namespace DL
open PySem L2
end DL
namespace DL
open PySem L2
end DL
namespace DL
open PySem L2
end DL
namespace DL
open PySem L2
section
variable {X : Cx} {c : Cn} {a b : Expr} {pos : Pos}
def sParNI (i j : Nat) (f g : DM) : SM := fun E ρ => f ρ fun d ρ1 => g ρ1 fun d' ρ2 => E.nx ((ρ2.set i (.ow d)).set j (.im d'))
theorem parNI_use {i j : Nat} (hij : i ≠ j) {f g : DM} : ∀ Z σ H, tS c (sParNI i j f g) Z σ H → tPar i j (tCons (tN c f) (tCons (tD c g) tNil)) Z σ H := by
  rintro Z σ H ⟨F, ρ, xx, E, rel, q, n, rr, b, t⟩
  refine ⟨F, ρ, xx, _, rel, q, fun d ρ1 p F1 H1 q1 e1 r1 f1 => ?_⟩
  refine ⟨F1, ρ1, (p, d) :: xx, _, r1.pushX f1, q1, fun d' ρ2 v F2 H2 q2 e2 r2 a2 => ?_⟩
  obtain ⟨r3, f3⟩ := r2.popX
  exact ⟨_, _, rfl, n _ _ F2 H2 q2 (e1.trans e2) ((r3.putO i f3).putI j a2)⟩
theorem dp_parNI {x y : Str} {i j : Nat} {f g : DM} {px py pt : Pos} {kt k2 : Nat} {pt2 : Pos} (hc : X.calm = true) (hN : X.N.Nodup) (hi : X.N[i]? = some x) (hj : X.N[j]? = some y) (hij : i ≠ j)
    (hx : X.env.scope.names.lookup x = some .local) (hy : X.env.scope.names.lookup y = some .local) (ha : PE X a (tN c f)) (hb : PE X b (tD c g))
    (hw : (swappedStores [.Tuple [.Name x px, .Name y py] kt pt] (.Tuple [a, b] k2 pt2) X.env = pure (some [x, y])))
    (hs : swapsWithSole [.Tuple [.Name x px, .Name y py] kt pt] (.Tuple [a, b] k2 pt2) pos.line X.env = pure false := by rfl)
    (s1 : starEach [a, b] X.env = (false, eval a X.env) :: starEach [b] X.env := by rfl) (s2 : starEach [b] X.env = (false, eval b X.env) :: starEach [] X.env := by rfl) :
    PS X (.Assign [.Tuple [.Name x px, .Name y py] kt pt] (.Tuple [a, b] k2 pt2) pos) (tS c (sParNI i j f g)) :=
  PS.to (ps_par hc hN hi hj hij hx hy (pa_cons ha (pa_cons hb pa_nil s2) s1) hw hs) (parNI_use hij)
end
end DL
namespace DL
open PySem L2
end DL
namespace DL
open PySem L2
structure SrcB (H : Hp) (q c l : Addr) (cs ls : List Int) (k : Nat) : Prop extends SrcAt H q c l cs ls k where
  len : ls.length = cs.length
  nz : cs ≠ []
def srcOrcB : Orc where
  I q H := ∃ c l cs ls k, SrcB H q c l cs ls k
  cnt q H := spotOf (H q)
  al q H a h f := by
    obtain ⟨c, l, cs, ls, k, s⟩ := h
    exact srcOrc.al q H a ⟨c, l, cs, ls, k, s.toSrcAt⟩ f
  st q H H' h e := by
    obtain ⟨c, l, cs, ls, k, s⟩ := h
    exact ⟨c, l, cs, ls, k, ⟨⟨(e q SrcAt.fq).trans s.dq, (e c s.fc).trans s.dc, (e l s.fl).trans s.dl, s.ne, s.nc, s.nl⟩, s.len, s.nz⟩⟩
  sc q H H' h e := by rw [e q SrcAt.fq]
theorem SrcB.spot {H : Hp} {q c l : Addr} {cs ls : List Int} {k : Nat} (s : SrcB H q c l cs ls k) : srcOrcB.cnt q H = k := s.toSrcAt.spot
theorem Tou.worldB {q : Addr} {F H H' : Hp} (t : Tou q H H') (w : World srcOrcB (some q) F H F H) (i : srcOrcB.I q H') : World srcOrcB (some q) F H F H' := by
  obtain ⟨c, l, cs, ls, k, s⟩ := i
  have w0 : World srcOrc (some q) F H F H := ⟨w.ff, w.fh, w.kp, w.dom, w.fn, w.ft, fun p e => by
    obtain ⟨c, l, cs, ls, k, s⟩ := w.or p e
    exact ⟨c, l, cs, ls, k, s.toSrcAt⟩⟩
  have w1 := t.world w0 ⟨c, l, cs, ls, k, s.toSrcAt⟩
  exact ⟨w1.ff, w1.fh, w1.kp, w1.dom, w1.fn, w1.ft, fun p e => by
    cases e
    exact ⟨c, l, cs, ls, k, s⟩⟩
def spBegunB (K : PySem.W.Frag) : Sp := fun vs H Q _ => ∃ (a : Addr) (ns : List Int), vs = [.ref a] ∧ SqL K H a (ns.map V.int) ∧ ns.length ≤ 63 ∧
  ∀ q c l cs ls H', (∀ b o, H b = some o → H' b = some o) → H q = none → H c = none → H l = none → SrcB H' q c l cs ls 0 → Q (.ref q) H'
/-- a call that leaves all that stands touches no source -/
theorem Tou.of_world {R : Orc} {q : Addr} {F H F' H' : Hp} (w : World R none F H F' H') (hq : H q ≠ none) : Tou q H H' := by
  have kp : ∀ a, H a ≠ none → H' a = H a := fun a h => by
    cases e : H a with
    | none => exact absurd e h
    | some o => exact (w.kp a o e fun z => z).1
  exact ⟨fun a h _ => kp a h, w.dom, fun a h => .inl ((Foot.eqv (p := some q) (fun y e => by cases e; exact kp q hq) a).mp h)⟩
theorem SrcAt.of_world {R : Orc} {q c l : Addr} {cs ls : List Int} {k : Nat} {F H F' H' : Hp} (s : SrcAt H q c l cs ls k) (w : World R none F H F' H') : SrcAt H' q c l cs ls k := by
  have kp : ∀ a o, H a = some o → H' a = some o := fun a o e => (w.kp a o e fun z => z).1
  exact ⟨kp _ _ s.dq, kp _ _ s.dc, kp _ _ s.dl, s.ne, s.nc, s.nl⟩
section
variable {X : Cx} {c : Cn} {a b : Expr} {pos : Pos}
theorem call_reprB : CallR X (.builtin "repr") (fun xs H Q => ∃ b, xs = [.bl b] ∧ Q (.str (if b then "True" else "False")) H) := by
  (intro pins s σ H xs us Q I r h)
  obtain ⟨b, rfl, q⟩ := h
  obtain ⟨u, rfl, rv⟩ := vals1 r
  cases (show u = Value.bool b from rv)
  exact P.repr_of_bool ⟨.str _, H, I.tok _, ⟨_, by cases b <;> rfl⟩, q⟩
end
end DL
namespace DL
open PySem L2
section
variable {X : Cx} {c : Cn}
theorem call_reprI : CallR X (.builtin "repr") (fun xs H Q => (∃ i : Int, xs = [.int i] ∧ i.natAbs.log2 < 1920 ∧ Q (.str (toString i)) H) ∨ (xs = [.non] ∧ Q (.str "None") H)) := by
  (intro pins s σ H xs us Q I r h)
  rcases h with ⟨i, rfl, hl, q⟩ | ⟨rfl, q⟩
  · obtain ⟨u, rfl, rv⟩ := vals1 r
    obtain ⟨t, rfl⟩ := (show ∃ t, u = Value.int i t from rv)
    exact P.repr_of_int hl ⟨.str _, H, I.tok _, ⟨_, rfl⟩, q⟩
  · obtain ⟨u, rfl, rv⟩ := vals1 r
    cases (show u = Value.none from rv)
    exact P.repr_of_none ⟨.str _, H, I.tok _, ⟨_, rfl⟩, q⟩
end
end DL
namespace DL
open PySem L2
section
variable {X : Cx} {c : Cn} {e a b : Expr} {pos : Pos}
def sExt (i : Nat) (f : DM) : SM := fun E ρ => ownL ρ i (fun _ => True) ∧ f ρ fun d ρ1 => match d with
  | .list es => ownL ρ1 i fun ds => ds.length + es.length ≤ 1000000 ∧ E.nx (ρ1.set i (.ow (.list (ds ++ es))))
  | _ => False
theorem ext_use {i : Nat} {f : DM} {te : TE} (et : te = tN c f) : ∀ Z σ H, tS c (sExt i f) Z σ H → tDrop (tBM X.K "list" rExtend (tVar i) (tCons te tNil)) Z σ H := by
  subst et
  rintro Z σ H ⟨F, ρ, xx, E, rel, ⟨q0, q⟩, n, rr, b, t⟩
  obtain ⟨ds0, p0, vs0, g1, g2, g3, g4, _⟩ := ownL_get rel q0
  refine ⟨.ref p0, g2, .inl ⟨rfl, vs0, SqL.of g3⟩, F, ρ, xx, _, rel, q, fun d ρ1 v F1 H1 q1 e1 r1 f1 => ?_⟩
  split at q1
  · rename_i es
    obtain ⟨ds, p, vs, h1, h2, h3, h4, hl, hn⟩ := ownL_get r1 q1
    have ep : p0 = p := by
      rw [g2] at h2
      cases h2
      rfl
    subst ep
    obtain ⟨us, k1, k2⟩ := f1.own.o
    refine ⟨p0, v, vs, us, rfl, rfl, h3, k1, sz (by rw [h4.length, k2.length]; exact hl), ?_⟩
    exact n _ σ F1 _ hn e1 (r1.mut h1 h2 ⟨_, upd_same, h4.append k2⟩)
  · exact q1.elim
theorem dp_ext {x : Str} {i : Nat} {px apos cpos : Pos} {f : DM} (ho : PE X (.Name x px) (tVar i)) (ha : PE X e (tN c f))
    (hbase : attributeBase (.Name x px) "extend" X.env (eval (.Name x px) X.env) = eval (.Name x px) X.env := by rfl)
    (hfew : ((backTo cpos (starEach [e] X.env)).all (fun x => !x.1)
        && (backToKw cpos (keywordEach [] X.env)).all (fun x => x.1.isSome)
      && decide (([e] : List Expr).length + ([] : List Keyword).length
          + (if ([] : List Keyword).isEmpty then 0 else 1) < 30)) = true := by rfl)
    (hline : (apos.endLine == cpos.line) = true := by rfl) (hs : starEach [e] X.env = (false, eval e X.env) :: starEach [] X.env := by rfl) (hplain : (backTo cpos (starEach [] X.env)).any (·.1) = false := by rfl)
    (hsw : swapsWith (.Call (.Attribute (.Name x px) "extend" apos) [e] [] cpos) none pos.line X.env = pure false := by rfl) : PS X (.Expr (.Call (.Attribute (.Name x px) "extend" apos) [e] [] cpos) pos) (tS c (sExt i f)) :=
  PS.to (ps_expr (pe_bm PySem.F.plainAttrs_list PySem.F.slot_list_extend PySem.F.type_list_extend mt_extend ho (pa_cons ha pa_nil hs) hbase hfew hline hs hplain) hsw) (ext_use rfl)
def dPop (i : Nat) : DM := fun ρ P => ownL ρ i fun ds => match ds[ds.length - 1]? with
  | some d => P d (ρ.set i (.ow (.list ds.dropLast)))
  | none => False
theorem de_pop {x : Str} {i : Nat} {px apos cpos : Pos} (ho : PE X (.Name x px) (tVar i))
    (hbase : attributeBase (.Name x px) "pop" X.env (eval (.Name x px) X.env) = eval (.Name x px) X.env := by rfl)
    (hline : (apos.endLine == cpos.line) = true := by rfl) : PE X (.Call (.Attribute (.Name x px) "pop" apos) [] [] cpos) (tD c (dPop i)) := by
  refine PE.to (pe_bm0 PySem.F.plainAttrs_list PySem.F.slot_list_pop PySem.F.type_list_pop mt_pop ho hbase hline) ?_
  rintro σ H Q ⟨F, ρ, xx, P, rel, q, k⟩
  obtain ⟨ds, p, vs, g1, g2, g3, g4, q⟩ := ownL_get rel q
  split at q
  · rename_i d e
    obtain ⟨v, h1, h2⟩ := g4.get e
    refine ⟨.ref p, g2, .inl ⟨rfl, vs, SqL.of g3⟩, p, vs, v, rfl, rfl, g3, by rw [g4.length]; exact h1, ?_⟩
    exact k d _ v F _ q (Ex.refl F) (rel.mut g1 g2 ⟨_, upd_same, g4.dropLast⟩) h2
  · exact q.elim
theorem AtAll.repN {K : PySem.W.Frag} {H : Hp} {vs : List V} {ds : List D} (h : AtAll K H vs ds) : ∀ n : Nat, AtAll K H (List.replicate n vs).flatten (List.replicate n ds).flatten
  | 0 => .nil
  | n + 1 => by
    (rw [List.replicate_succ, List.replicate_succ, List.flatten_cons, List.flatten_cons])
    exact h.append (AtAll.repN h n)
def dRep (f g : DM) : DM := fun ρ P => f ρ fun l ρ1 => g ρ1 fun k ρ2 => match l, k with
  | .list ds, .int z => -(2 ^ 63) ≤ z ∧ z < 2 ^ 63 ∧ ds.length * z.toNat ≤ 1000000 ∧ P (.list (List.replicate z.toNat ds).flatten) ρ2
  | _, _ => False
theorem dn_rep {f g : DM} (ha : PE X a (tN c f)) (hb : PE X b (tD c g)) : PE X (.BinOp a .Mult b pos) (tN c (dRep f g)) := by
  refine PE.to (pe_op op_rep ha hb) ?_
  rintro σ H Q ⟨F, ρ, xx, P, rel, q, k⟩
  refine ⟨F, ρ, xx, _, rel, q, fun l ρ1 p F1 H1 q1 e1 r1 f1 => ?_⟩
  refine ⟨F1, ρ1, (p, XO.d l) :: xx, _, r1.pushX f1, q1, fun k' ρ2 u F2 H2 q2 e2 r2 a2 => ?_⟩
  split at q2
  · cases a2
    obtain ⟨r3, f3⟩ := r2.popX
    obtain ⟨vs, h1, h2⟩ := f3.own.o
    refine ⟨p, _, vs, rfl, rfl, h1, q2.1, q2.2.1, sz (by rw [h2.length]; exact q2.2.2.1), fun p' hp => ?_⟩
    obtain ⟨r4, f4⟩ := Fresh.new (o := .lst (List.replicate _ vs).flatten) (d := .d (.list _)) r3 hp ⟨_, upd_same, h2.repN _⟩
    exact k _ ρ2 p' F2 _ q2.2.2.2 (e1.trans e2) r4 f4
  · exact q2.elim
def okR : D → Prop
  | .none => True
  | .bool _ => True
  | .int i => i.natAbs.log2 < 1920
  | .list xs => nod (.list xs) = true ∧ (PyData.list xs).showable = true ∧ (PyData.list xs).depth ≤ 60 ∧ (PyData.list xs).shown.length ≤ 1000000
  | .tuple xs => nod (.tuple xs) = true ∧ (PyData.tuple xs).showable = true ∧ (PyData.tuple xs).depth ≤ 60 ∧ (PyData.tuple xs).shown.length ≤ 1000000
  | _ => False
def shA : D → Str
  | .none => "None"
  | .bool b => (if b then "True" else "False")
  | .int i => toString i
  | d => d.shown
def gReprA : GC := fun ds P => match ds with
  | [d] => okR d ∧ P (.str (shA d))
  | _ => False
def rRa (K : PySem.W.Frag) : List V → Hp → VK → Prop := fun vs H Q => rRp K vs H Q ∨ ((∃ i : Int, vs = [.int i] ∧ i.natAbs.log2 < 1920 ∧ Q (.str (toString i)) H) ∨ (vs = [.non] ∧ Q (.str "None") H)) ∨ ∃ b, vs = [.bl b] ∧ Q (.str (if b then "True" else "False")) H
theorem call_ra (hg : X.A.guards = some []) (hu : X.A.units + 64 < cLine) : CallR X (.builtin "repr") (rRa X.K) := by
  (intro pins s σ H xs us Q I r h)
  rcases h with h | h | h
  · exact call_rp hg hu pins s σ H xs us Q I r h
  · exact call_reprI pins s σ H xs us Q I r h
  · exact call_reprB pins s σ H xs us Q I r h
theorem sem_reprA (hK : X.K = c.K) (hg : X.A.guards = some []) (hu : X.A.units + 64 < cLine) : SemC X c (.builtin "repr") gReprA := by
  refine ⟨_, call_ra hg hu, fun F H σ ρ xx ds vs P Q r bs g k => ?_⟩
  have key : ∀ d, ds = [d] → (∀ v, Bo c F H v d → ∃ a, v = .ref a) → (nod d = true ∧ d.showable = true ∧ d.depth ≤ 60 ∧ d.shown.length ≤ 1000000) → P (.str d.shown) → rRp X.K vs H Q := fun d hds hv gd gp => by
    subst hds
    obtain ⟨v, rfl, b⟩ := pr1 bs
    obtain ⟨a, rfl⟩ := hv v b
    obtain ⟨g1, g2, g3, g4⟩ := gd
    have a1 := (b.at r.w.fh).dp g1
    rw [← hK] at a1
    exact ⟨a, d, rfl, a1, g1, g2, g3, g4, k _ _ F H gp (Ex.refl F) r (.str _)⟩
  unfold gReprA at g
  split at g
  · rename_i d
    obtain ⟨g, gp⟩ := g
    cases d with
    | none =>
      obtain ⟨v, rfl, b⟩ := pr1 bs
      have e : v = .non := of_decide_eq_true (isN_dec b)
      subst e
      exact .inr (.inl (.inr ⟨rfl, k _ _ F H gp (Ex.refl F) r (.str _)⟩))
    | bool b =>
      obtain ⟨v, rfl, b⟩ := pr1 bs
      cases bo_bl b
      exact .inr (.inr ⟨_, rfl, k _ _ F H gp (Ex.refl F) r (.str _)⟩)
    | int i =>
      obtain ⟨v, rfl, b⟩ := pr1 bs
      cases bo_int b
      exact .inr (.inl (.inl ⟨_, rfl, g, k _ _ F H gp (Ex.refl F) r (.str _)⟩))
    | list xs =>
      refine .inl (key _ rfl (fun v b => ?_) g gp)
      rcases ref_of_bo b with z | ⟨z, _⟩ | ⟨_, z, _⟩ | ⟨_, z, _⟩ | ⟨_, z, _⟩
      · exact z
      all_goals cases z
    | tuple xs =>
      refine .inl (key _ rfl (fun v b => ?_) g gp)
      rcases ref_of_bo b with z | ⟨z, _⟩ | ⟨_, z, _⟩ | ⟨_, z, _⟩ | ⟨_, z, _⟩
      · exact z
      all_goals cases z
    | str x => exact g.elim
    | dict kd => exact g.elim
  · exact g.elim
end
end DL
namespace DL
open PySem L2 PySem.Spec PyProof.Rows
theorem lawG {pr : Program} {wd : PySem.World} {K : PySem.W.Frag} {gl gb : PySem.Str → Option Value} {k : Nat} {fa a : Addr} {fd : FuncData} {x : PySem.Str} {sp : Sp} {s : Shared} {vs : List Value} {ns : List Int}
    (inK : K.In s.heap) (nsG : s.heap.Ns mainGlobals gl) (nsB : s.heap.Ns builtinsNs gb) (bb : ∀ y : PySem.Str, y ≠ "__name__" → gb y = bootBuiltins y) (lim : s.heap.NoLimit) (gen : s.gens = #[])
    (ha : s.heap.get? a = some { cls := .type "list", data := .seq vs.toArray }) (hi : IntsAre vs ns) (hl : ns.length ≤ sizeLine) (room : Room k callerA)
    (F : ∀ bas : Heap, K.In bas → bas.Ns mainGlobals gl → FnG pr wd K gl bas k fa fd [x] sp) (bind : ∀ (s : Shared) (u : Value), BindsTo s fd ⟨[u], []⟩ [(x, u)])
    (says : ∀ H : Hp, SqL K H a (ns.map V.int) → sp [.ref a] H (fun v _ => v = .bl true) fun _ _ _ => False) :
    codeAny (model pr wd) callerA (.call (.ref fa) ⟨[.ref a], []⟩) (fun r s' => r = .ok (.ret (.bool true)) ∧ OldK s.heap s'.heap ∧ s'.os = s.os ∧ AllBare s'.gens) s := by
  have vals := L2.vals_ints hi
  -- the heap H that the def sees: nothing, or the script alone, which stays as it is
  have run : ∀ (H : Hp), (∀ b o, H b = some o → b = a ∧ ∃ ob xs, o = .frz ob (.lst xs)) → SqL K H a (ns.map V.int) → HOk pr wd H s.heap → (H a ≠ none → K.lookup a = none) →
      codeAny (model pr wd) callerA (.call (.ref fa) ⟨[.ref a], []⟩) (fun r s' => r = .ok (.ret (.bool true)) ∧ OldK s.heap s'.heap ∧ s'.os = s.os ∧ AllBare s'.gens) s := by
    intro H only sq hok notK
    have plain : ∀ {b : Addr} {o : Obj}, s.heap.get? b = some o → (∀ es n, o.data = .dict es n → H b = none) := by
      intro b o e es n ed
      cases z : H b with
      | none => rfl
      | some u =>
        obtain ⟨rfl, _⟩ := only b u z
        rw [ha] at e
        cases e
        exact absurd (ed : Data.seq vs.toArray _ = Data.dict es n) (fun y => by cases y)
    have nsOf : ∀ {b : Addr} {m : PySem.Str → Option Value}, s.heap.Ns b m → (hidT s.heap H).Ns b m := by
      rintro b m ⟨o, es, n, e, ed, r⟩
      exact ⟨o, es, n, hidT_get e (plain e es n ed), ed, r⟩
    have inB : K.In (hidT s.heap H) := by
      intro b o e
      refine hidT_get (inK b o e) ?_
      cases z : H b with
      | none => rfl
      | some u =>
        obtain ⟨rfl, _⟩ := only b u z
        rw [notK (by rw [z]; exact Option.some_ne_none u)] at e
        cases e
    obtain ⟨mc, l1, l2⟩ := lim
    have md : Mod K gl (hidT s.heap H) := ⟨inB, nsOf nsG, ⟨gb, nsOf nsB, bb⟩, ⟨mc, nsOf l1, l2⟩⟩
    have env : Env0 pr wd K gl (hidT s.heap H) callerA [] s H := ⟨rfl, md, fun b o e => of_hidT e, Nat.le_of_eq (hidT_size _ _), trivial, fun b hb => (nomatch hb), hok, .of_eq gen⟩
    refine codeAny_mono ((F _ inB (nsOf nsG)).go callerA [] s H ⟨[.ref a], []⟩ [.ref a] [.ref a] _ _ rfl room env (bind s (.ref a)) (.cons rfl .nil) (says H sq)) ?_
    intro r s' z
    match r, z with
    | .error e, z => exact (z : False).elim
    | .ok (.ret u), ⟨v, H', os, bare, un, hok', rv, q⟩ =>
      have q : v = .bl true := q
      subst q
      cases (show u = Value.bool true from rv)
      refine ⟨rfl, OldK.of_keep ?_, os, bare⟩
      intro b o e
      cases z : H b with
      | none => exact un.keep b o e z (fun y => nomatch y) (by simp)
      | some u =>
        obtain ⟨_, ob, xs, rfl⟩ := only b u z
        obtain ⟨p1, _⟩ := hok b _ z
        obtain ⟨p2, _⟩ := hok' b _ (un.frzs b ob _ z)
        rw [e] at p1
        cases p1
        exact p2
  have len := hi.length
  cases z : K.lookup a with
  | some o =>
    have e := inK a o z
    rw [ha] at e
    cases e
    refine run (fun _ => none) (fun _ _ e => nomatch e) (.inr ⟨_, vs.toArray, _, z, rfl, rfl, rfl, ?_, by simpa using vals⟩) (fun _ _ e => nomatch e) fun e => absurd rfl e
    rw [List.size_toArray, len]
    exact hl
  | none =>
    have at1 : ∀ o, (fun b => if b = a then some (HO.frz { cls := .type "list", data := .seq vs.toArray } (.lst (ns.map V.int))) else none) a = some o → o = HO.frz { cls := .type "list", data := .seq vs.toArray } (.lst (ns.map V.int)) := by
      intro o e
      have e : (if a = a then some (HO.frz { cls := .type "list", data := .seq vs.toArray } (.lst (ns.map V.int))) else none) = some o := e
      rw [if_pos rfl] at e
      exact (Option.some.inj e).symm
    refine run (fun b => if b = a then some (HO.frz { cls := .type "list", data := .seq vs.toArray } (.lst (ns.map V.int))) else none) (fun b o e => ?_) (.inl (.inr ⟨{ cls := .type "list", data := .seq vs.toArray }, if_pos rfl⟩)) (fun b o e => ?_) fun _ => z
    · by_cases h : b = a
      · subst h
        exact ⟨rfl, _, _, at1 o e⟩
      · have e : (if b = a then some (HO.frz { cls := .type "list", data := .seq vs.toArray } (.lst (ns.map V.int))) else none) = some o := e
        rw [if_neg h] at e
        cases e
    · by_cases h : b = a
      · subst h
        rw [at1 o e]
        exact ⟨ha, by rw [List.length_map]; exact hl, vs, _, vals, ha⟩
      · have e : (if b = a then some (HO.frz { cls := .type "list", data := .seq vs.toArray } (.lst (ns.map V.int))) else none) = some o := e
        rw [if_neg h] at e
        cases e
theorem walkG {l : PySem.W.OpenLaw} {n k : Nat} {q : Program} {loose : List PySem.Str} {XP : (PySem.Str → Option Value) → Heap → Prop} {YP : PySem.World → Heap → Prop} {d : DefRec} {K : Params → PySem.W.Frag} {sp : PySem.World → Sp} {x : PySem.Str}
    (hn : l.most = some n) (hn2 : n ≤ sizeLine) (hdf : d.params.defaults = []) (room : Room k callerA) (hY : ∀ (wd : PySem.World) (h : Heap), YP wd h → (K wd.params).In h)
    (F : ∀ (wd : PySem.World) (gl : PySem.Str → Option Value) (fa : Addr) (h : Heap), (K wd.params).In h → h.Ns mainGlobals gl → gl d.name = some (.ref fa) →
      ∃ fd : FuncData, (∀ (s : Shared) (u : Value), BindsTo s fd ⟨[u], []⟩ [(x, u)]) ∧ ∀ bas : Heap, (K wd.params).In bas → bas.Ns mainGlobals gl → FnG l.prog wd (K wd.params) gl bas k fa fd [x] (sp wd))
    (says : ∀ (wd : PySem.World) (H : Hp) (a : Addr) (ns : List Int), ns.length ≤ n → SqL (K wd.params) H a (ns.map V.int) → sp wd [.ref a] H (fun v _ => v = .bl true) fun _ _ _ => False) :
    PySem.W.WalkO q loose XP YP l.row.toRowW d [] (fun f vs => PySem.call f vs)
      := by
  refine Att.attach_callB hn hdf ?_
  intro wd s0 s1 gl gb fa o pm cd doc a vs ns G Y ho hd hcd hgl hobj hints hlen _ hg
  obtain ⟨fd, hb, hF⟩ := F wd gl fa _ (hY wd _ Y) G.T.g hgl
  exact lawG (hY wd _ Y) G.T.g G.T.b G.T.builtins G.T.nolimit hg hobj hints (Nat.le_trans hlen hn2) room hF hb fun H sq => says wd H a ns hlen sq
end DL
namespace DL
open PySem L2
structure FnX (pr : Program) (wd : PySem.World) (K : PySem.W.Frag) (gl : Str → Option Value) (bas : Heap) (k : Nat) (f : Addr) (fd : FuncData) (ps : List Str) (sp : Sp) : Prop where
  many : ∀ vs H Q E, sp vs H Q E → vs.length = ps.length
  go : ∀ (A : Around) (out : List PySem.Env) (sh : Shared) (H : Hp) (ar : Args) (us : List Value) (vs : List V) (Q : VK) (E : XK), A.guards = some [] → Room k A →
    Env0 pr wd K gl bas A out sh H → BindsTo sh fd ar (ps.zip us) → Vals vs us → sp vs H Q E → codeAny (model pr wd) A (.call (.ref f) ar) (CR (L2.CX pr wd) out pr wd H sh Q E) sh
theorem FnX.more {pr : Program} {wd : PySem.World} {K : PySem.W.Frag} {gl : Str → Option Value} {bas : Heap} {j k : Nat} {f : Addr} {fd : FuncData} {ps : List Str} {sp : Sp} (F : FnX pr wd K gl bas j f fd ps sp) (h : j ≤ k) : FnX pr wd K gl bas k f fd ps sp :=
  ⟨F.many, fun A out sh H ar us vs Q E g r => F.go A out sh H ar us vs Q E g (r.mono h)⟩
theorem FnX.of {pr : Program} {wd : PySem.World} {K : PySem.W.Frag} {gl : Str → Option Value} {bas : Heap} {k : Nat} {f : Addr} {x qual : Str} {st : Stmt} {fd : FuncData} {N ps : List Str} {sp : Sp} (F : L2.Fun K x qual st f fd) (S : FnScope N ps (defScope st))
    (len : (∀ vs H Q E, sp vs H Q E → vs.length = ps.length))
    (body : ∀ (cdv : Value) (A : Around) (out : List PySem.Env) (sh : Shared) (H : Hp) (vs : List V) (Q : VK) (E : XK), A.guards = some [] → Room k (A.deeper (PyProof.Rows.envOfC qual (defScope st) sh.heap.objs.size f cdv)) → sp vs H Q E →
      ∃ t, PSs (cxOf (L2.CX pr wd) pr wd K gl bas N qual (defScope st) f cdv A out sh H E) (defBody st) t ∧ t { nx := fun _ H' => Q .non H', rt := Q } (start N vs) H) : FnX pr wd K gl bas (k + 1) f fd ps sp := by
  obtain ⟨oc, od, kV, doc, pm, an, cdv, ct, osl, efd, lk, hc⟩ := F.ex
  refine ⟨len, fun A out sh H ar us vs Q E hg room env bnd vals says => ?_⟩
  have heapK : K.In sh.heap := PySem.W.Frag.In.keeps env.mod.kin fun b o e => (env.bs b o e).1
  have noLim : sh.heap.NoLimit := Heap.NoLimit.keeps env.mod.nolimit fun b o e => (env.bs b o e).1
  have kinds : ∀ y ∈ ps.zip us, (defScope st).names.lookup y.1 = some .local ∨ ((defScope st).names.lookup y.1 = some .cell ∧ ((cellsFrom (sh.heap.objs.size + 1) (defScope st).names []).lookup y.1).isSome = true) := by
    rintro ⟨n, v⟩ hy
    exact (S.par n (List.of_mem_zip hy).1).imp id fun q => ⟨q, PySem.W.cellsFrom_some _ _ _ (.inl q)⟩
  rw [efd] at lk bnd
  refine codeAny_call_function room.depth (heapK _ _ lk) rfl S.co S.gen rfl (PySem.W.codeRec_of heapK hc) (bnd _ _ _ _ (wpAny_newFunctionEnv_cells S.kind kinds ?_))
  intro env1 he s1 xc
  subst he
  refine ⟨noLim.keeps xc.toInCall.keep, codeAny_func ?_⟩
  obtain ⟨t, ht, hq⟩ := body cdv A out sh H vs Q E hg (room.deeper _) says
  have inv : Inv (cxOf (L2.CX pr wd) pr wd K gl bas N qual (defScope st) f cdv A out sh H E) [] (start N vs) H s1 := inv_start S room.hd env (len _ _ _ _ says) vals xc
  refine wpAny_mono (ht.run [] s1 (start N vs) H _ inv hq) ?_ fun _ _ z => z
  intro fl s2 hs
  cases fl with
  | ret u =>
    (obtain ⟨v, σ', H', J, rv, q⟩ := hs)
    exact ⟨v, H', J.os, J.bare, J.base, J.hok, rv, q⟩
  | next =>
    obtain ⟨σ', H', J, q⟩ := hs
    exact ⟨V.non, H', J.os, J.bare, J.base, J.hok, rfl, q⟩
  | brk => exact (hs.choose_spec.choose_spec.2 : False).elim
  | cont => exact (hs.choose_spec.choose_spec.2 : False).elim
structure Exn where
  c : Str
  v : Option (Str × D)
def ExAt (gl : Str → Option Value) (K : PySem.W.Frag) (F H : Hp) (x : Exn) (cls : Value) (d : Option Addr) : Prop :=
  ∃ C, gl x.c = some (.ref C) ∧ cls = .ref C ∧ match x.v with
    | none => d = none
    | some (f, y) => ∃ a v, d = some a ∧ H a = some (.xd [(f, v)]) ∧ At K F v y
abbrev SpX := List Ar → Nat → (D → Nat → Prop) → (Exn → Nat → Prop) → Prop
def spX (K : PySem.W.Frag) (gl : Str → Option Value) (R : Orc) (n : Nat) (S : SpX) : Sp := fun vs H Q E => ∃ (q : Option Addr) (F : Hp) (as : List Ar) (m : Nat) (P : D → Nat → Prop) (PX : Exn → Nat → Prop),
  World R q F H F H ∧ Paired (ArAt ⟨K, R, q, F, H⟩ F) vs as ∧ as.length = n ∧ oraAt as ∧ (q = none ∨ as[0]? = some .ora) ∧ (∀ p, q = some p → R.cnt p H ≤ m) ∧ S as m P PX ∧
  (∀ d m' v F' H', P d m' → World R q F H F' H' → (∀ p, q = some p → R.cnt p H' ≤ m') → At K F' v d → Q v H') ∧
  ∀ x m' cls dd F' H', PX x m' → World R q F H F' H' → (∀ p, q = some p → R.cnt p H' ≤ m') → ExAt gl K F' H' x cls dd → E cls dd H'
/-- the wish of a frame about exceptions -/
def wx (gl : Str → Option Value) (c : Cn) (px : Exn → Env → Prop) : WX := fun cls dd σ H => ∃ F ρ xx x, Rel c F H σ ρ xx ∧ px x ρ ∧ ExAt gl c.K F H x cls dd
def CdX (pr : Program) (wd : PySem.World) (K : PySem.W.Frag) (gl : Str → Option Value) (bas : Heap) (R : Orc) (k : Nat) (x : Str) (n : Nat) (S : SpX) : Prop :=
  ∃ (f : Addr) (fd : FuncData) (ps : List Str), FnX pr wd K gl bas k f fd ps (spX K gl R n S) ∧ gl x = some (.ref f) ∧ PySem.W.keepIn K (.ref f) = true ∧ Binds K fd ps []
theorem CdX.more {pr : Program} {wd : PySem.World} {K : PySem.W.Frag} {gl : Str → Option Value} {bas : Heap} {R : Orc} {j k : Nat} {x : Str} {n : Nat} {S : SpX} (C : CdX pr wd K gl bas R j x n S) (h : j ≤ k) : CdX pr wd K gl bas R k x n S := by
  obtain ⟨f, fd, ps, F, a, b, d⟩ := C
  exact ⟨f, fd, ps, F.more h, a, b, d⟩
/-- what a body says, with its exceptions -/
def rawX (g : (Exn → Env → Prop) → SM) (N : Nat) : SpX := fun as m P PX =>
  g (fun x ρ => match ρ[0]? with
    | some (Sl.ora m') => PX x m'
    | _ => as.head?.map isD ≠ some false ∧ PX x 0)
  ⟨fun (ρ : DL.Env) => match ρ[0]? with
    | some (Sl.ora m') => P .none m'
    | _ => as.head?.map isD ≠ some false ∧ P .none 0,
  fun (d : D) (ρ : DL.Env) => match ρ[0]? with
    | some (Sl.ora m') => P d m'
    | _ => as.head?.map isD ≠ some false ∧ P d 0, fun _ => False, fun _ => False⟩ (startE N as m)
theorem FnX.data {pr : Program} {wd : PySem.World} {K : PySem.W.Frag} {gl : Str → Option Value} {bas : Heap} {k n : Nat} {f : Addr} {x qual : Str} {st : Stmt} {fd : FuncData} {N ps : List Str} {R : Orc} {g : (Exn → Env → Prop) → SM} (F : L2.Fun K x qual st f fd) (Sc : FnScope N ps (defScope st)) (hn : n = ps.length)
    (body : ∀ (cdv : Value) (A : Around) (out : List PySem.Env) (sh : Shared) (H : Hp) (E : XK) (q : Option Addr) (F : Hp) (px : Exn → Env → Prop), A.guards = some [] → Room k (A.deeper (PyProof.Rows.envOfC qual (defScope st) sh.heap.objs.size f cdv)) →
      Takes (cxOf (L2.CX pr wd) pr wd K gl bas N qual (defScope st) f cdv A out sh H E) (wx gl ⟨K, R, q, F, H⟩ px) →
      PSs (cxOf (L2.CX pr wd) pr wd K gl bas N qual (defScope st) f cdv A out sh H E) (defBody st) (tS ⟨K, R, q, F, H⟩ (g px))) : FnX pr wd K gl bas (k + 1) f fd ps (spX K gl R n (rawX g N.length)) := by
  refine FnX.of F Sc (fun vs H Q E ⟨q, F0, as, m, P, PX, w, pa, hl, _⟩ => by rw [paired_len pa, hl, hn]) fun cdv A out sh H vs Q E hg hr ⟨q, F0, as, m, P, PX, w, pa, hl, ho, hq, hm, says, k0, kx⟩ => ?_
  have cnt : ∀ {ρ' : DL.Env} {σ' : L2.St} {F' H' : Hp} {xx : XX} {PP : Nat → Prop}, (match ρ'[0]? with
      | some (Sl.ora m') => PP m'
      | _ => as.head?.map isD ≠ some false ∧ PP 0) → Rel ⟨K, R, q, F0, H⟩ F' H' σ' ρ' xx → ∃ m', PP m' ∧ ∀ z, q = some z → R.cnt z H' ≤ m' := by
    intro ρ' σ' F' H' xx PP p r
    split at p
    · rename_i m' e
      obtain ⟨y, h1, _, h3⟩ := r.s.or 0 m' e
      refine ⟨m', p, fun z hz => ?_⟩
      have h1' : q = some y := h1
      rw [hz] at h1'
      cases h1'
      exact h3
    · obtain ⟨p1, p2⟩ := p
      have qn : q = none := hq.resolve_right fun z => p1 (by
        cases as with
        | nil => cases z
        | cons b t => cases z; rfl)
      exact ⟨0, p2, fun z hz => by rw [qn] at hz; cases hz⟩
  have fin : ∀ (d : D) (v : V) (ρ' : DL.Env) (σ' : L2.St) (F' H' : Hp), (match ρ'[0]? with
      | some (Sl.ora m') => P d m'
      | _ => as.head?.map isD ≠ some false ∧ P d 0) → Rel ⟨K, R, q, F0, H⟩ F' H' σ' ρ' [] → At K F' v d → Q v H' := by
    intro d v ρ' σ' F' H' p r a
    obtain ⟨m', h1, h2⟩ := cnt (PP := P d) p r
    exact k0 d m' v F' H' h1 r.w h2 a
  refine ⟨_, body cdv A out sh H E q F0 (fun x ρ => match ρ[0]? with
    | some (Sl.ora m') => PX x m'
    | _ => as.head?.map isD ≠ some false ∧ PX x 0) hg hr ?_, F0, _, [], _, rel_start w pa ho hm, says, ?_, ?_, ?_, ?_⟩
  · refine (takes_of (E := E) rfl rfl rfl rfl).imp fun cls dd σ H' ⟨F', ρ', xx, x, r, p, a⟩ => ?_
    obtain ⟨m', h1, h2⟩ := cnt (PP := PX x) p r
    exact kx x m' cls dd F' H' h1 r.w h2 a
  · exact fun ρ' σ' F' H' p e r => fin .none .non ρ' σ' F' H' p r .non
  · exact fun d v ρ' σ' F' H' p r a => fin d v ρ' σ' F' H' p r a
  · exact fun ρ' σ' F' H' p => p.elim
  · exact fun ρ' σ' F' H' p => p.elim
theorem Rel.bare {c : Cn} {F H : Hp} {σ : L2.St} {ρ : List Sl} {xx : XX} (r : Rel c F H σ ρ xx) : Rel c F H σ ρ [] :=
  ⟨r.w, ⟨r.s.len, r.s.im, r.s.ow, r.s.dj, r.s.or, r.s.ou, (fun _ hp => nomatch hp), List.nodup_nil⟩⟩
end DL
namespace DL
end DL
namespace DL
open PySem L2
end DL
namespace DL
open PySem PyProof.Rows L2 RZ
/-- how far both are gone -/
structure MixGone (z t u p q a b : Addr) (n : Nat) (h : Heap) : Prop where
  zip : IsZip h z t u .none
  its : IsPair h t (.ref p) (.ref q)
  two : ∃ x y, IsPair h u x y
  fst : h.IsTupleIter p a n
  snd : h.IsListIter q b n
theorem five {z t u p q c : Addr} {P : Addr → Prop} (hc : c ∈ [z, t, u, p, q]) (h1 : P z) (h2 : P t) (h3 : P u) (h4 : P p) (h5 : P q) : P c := by
  simp only [List.mem_cons, List.not_mem_nil, or_false] at hc
  rcases hc with rfl | rfl | rfl | rfl | rfl <;> assumption
theorem MixGone.there {z t u p q a b : Addr} {n : Nat} {h : Heap} (m : MixGone z t u p q a b n h) {c : Addr} (hc : c ∈ [z, t, u, p, q]) :
    ∃ o, h.get? c = some o ∧ ∀ v, o.data ≠ .cell v := by
  obtain ⟨k1, k2, ⟨x, y, k3⟩, ⟨o4, e4, _, f4⟩, ⟨o5, e5, _, f5⟩⟩ := m
  refine five (P := fun c => ∃ o, h.get? c = some o ∧ ∀ v, o.data ≠ .cell v) hc ⟨_, k1, ?_⟩ ⟨_, k2, ?_⟩ ⟨_, k3, ?_⟩ ⟨o4, e4, ?_⟩ ⟨o5, e5, ?_⟩
  · exact fun v e => nomatch e
  · exact fun v e => nomatch e
  · exact fun v e => nomatch e
  · exact fun v e => by
      rw [f4] at e
      cases e
  · exact fun v e => by
      rw [f5] at e
      cases e
theorem MixGone.keep {z t u p q a b : Addr} {n : Nat} {h h' : Heap} (m : MixGone z t u p q a b n h) (k : ∀ c, c ∈ [z, t, u, p, q] → ∀ o, h.get? c = some o → h'.get? c = some o) : MixGone z t u p q a b n h' := by
  obtain ⟨k1, k2, ⟨x, y, k3⟩, k4, k5⟩ := m
  have kz := k z (by simp)
  have kt := k t (by simp)
  have ku := k u (by simp)
  have kp := k p (by simp)
  have kq := k q (by simp)
  exact ⟨kz _ k1, kt _ k2, ⟨x, y, ku _ k3⟩, k4.at kp, k5.at kq⟩
end DL
namespace DL
open PySem L2
end DL
namespace DL
open PySem PyProof.Rows L2
end DL
namespace DL
open PySem PyProof.Rows L2
end DL
namespace DL
open PySem PyProof.Rows L2
def CdD (pr : Program) (wd : PySem.World) (K : PySem.W.Frag) (gl : Str → Option Value) (bas : Heap) (R : Orc) (k : Nat) (x : Str) (n : Nat) (dds : List D) (S : SpD) : Prop :=
  ∃ (f : Addr) (fd : FuncData) (ps : List Str) (ds : List Value) (dvs : List V), FnG pr wd K gl bas k f fd ps (spD K R (n + dds.length) S) ∧ gl x = some (.ref f) ∧ PySem.W.keepIn K (.ref f) = true ∧ Binds K fd ps ds ∧ Vals dvs ds ∧ ∀ F, AtAll K F dvs dds
theorem CdD.more {pr : Program} {wd : PySem.World} {K : PySem.W.Frag} {gl : Str → Option Value} {bas : Heap} {R : Orc} {j k : Nat} {x : Str} {n : Nat} {dds : List D} {S : SpD} (C : CdD pr wd K gl bas R j x n dds S) (h : j ≤ k) : CdD pr wd K gl bas R k x n dds S := by
  obtain ⟨f, fd, ps, ds, dvs, F, a, b, d, e, u⟩ := C
  exact ⟨f, fd, ps, ds, dvs, F.more h, a, b, d, e, u⟩
end DL
namespace DL
open PySem L2
end DL
namespace DL
open PySem L2
section
variable {c : Cn} {F H : Hp} {σ : L2.St} {ρ : DL.Env} {xx yy : XX}
/-- a list of lists at A, its rows at as -/
structure Nest (K : PySem.W.Frag) (F : Hp) (A : Addr) (as : List Addr) (rows : List (List D)) : Prop where
  o : F A = some (.lst (as.map V.ref))
  n : as.length = rows.length
  r : ∀ (k : Nat) (a : Addr) (r : List D), as[k]? = some a → rows[k]? = some r → ∃ vs, F a = some (.lst vs) ∧ AtAll K F vs r
theorem Nest.mono {K : PySem.W.Frag} {F F' : Hp} {A : Addr} {as : List Addr} {rows : List (List D)} (h : Nest K F A as rows) (e : Ex F F') : Nest K F' A as rows :=
  ⟨e _ _ h.o, h.n, fun k a r h1 h2 => let ⟨vs, q1, q2⟩ := h.r k a r h1 h2; ⟨vs, e _ _ q1, q2.mono e⟩⟩
theorem rows_at {K : PySem.W.Frag} {F : Hp} : ∀ (as : List Addr) (rows : List (List D)), as.length = rows.length → (∀ (k : Nat) (a : Addr) (r : List D), as[k]? = some a → rows[k]? = some r → ∃ vs, F a = some (.lst vs) ∧ AtAll K F vs r) → AtAll K F (as.map V.ref) (rows.map PyData.list)
  | [], [], _, _ => .nil
  | [], _ :: _, h, _ => (by simp at h)
  | _ :: _, [], h, _ => (by simp at h)
  | a :: as, r :: rows, h, k => by
    obtain ⟨vs, q1, q2⟩ := k 0 a r rfl rfl
    exact .cons (.lst (.inl (.inl q1)) q2) (rows_at as rows (by simpa using h) fun j a r h1 h2 => k (j + 1) a r h1 h2)
theorem Nest.at {K : PySem.W.Frag} {F : Hp} {A : Addr} {as : List Addr} {rows : List (List D)} (h : Nest K F A as rows) : At K F (.ref A) (.list (rows.map PyData.list)) := .lst (.inl (.inl h.o)) (rows_at as rows h.n h.r)
end
end DL
namespace DL
open PySem L2
section
variable {K : PySem.W.Frag} {R : Orc} {F H : Hp} {v0 vc : V} {i j r w : Int} {s : Str} {rest : List D}
/-- the row at a, and all else -/
structure WI (K : PySem.W.Frag) (R : Orc) (F G Hw : Hp) (a U : Addr) (as : List Addr) (e : DL.Env) (σ : L2.St) (ds : List D) (H' : Hp) : Prop where
  x : ∃ F' us', Ex G F' ∧ Rel ⟨K, R, none, F, Hw⟩ F' H' σ e [(a, .o (.lst us'))] ∧ AtAll K F' us' ds
  u : H' U = some (.lst (as.map V.ref))
theorem WI.row {G Hw H' : Hp} {a U : Addr} {as : List Addr} {e : DL.Env} {σ : L2.St} {ds : List D} (h : WI K R F G Hw a U as e σ ds H') : ∃ us', H' a = some (.lst us') ∧ us'.length = ds.length := by
  obtain ⟨F', us', _, r, at_⟩ := h.x
  exact ⟨us', (r.s.ex (a, .o (.lst us')) (List.mem_cons_self ..)).1.o, at_.length⟩
theorem WI.put {G Hw H' : Hp} {a U : Addr} {as : List Addr} {e : DL.Env} {σ : L2.St} {ds : List D} {F2 : Hp} {us' : List V} {v : V} {d : D} {k : Nat} (hU : a ≠ U) (ef : Ex G F2) (r : Rel ⟨K, R, none, F, Hw⟩ F2 H' σ e [(a, .o (.lst us'))]) (ha : AtAll K F2 us' ds) (hu : H' U = some (.lst (as.map V.ref))) (hv : At K F2 v d) :
    WI K R F G Hw a U as e σ (ds.set k d) (upd H' a (.lst (us'.set k v))) :=
  ⟨⟨F2, us'.set k v, ef, r.mutX (show upd H' a _ a = _ from upd_same), ha.set hv k⟩, by rw [upd_ne (Ne.symm hU)]; exact hu⟩
end
section
variable {K : PySem.W.Frag} {R : Orc} {F H : Hp} {v0 vc : V} {i j r w : Int} {s : Str} {rest : List D} {Hw : Hp} {a U : Addr} {as : List Addr} {x : Option V} {ds : List D} {Z : Ends}
theorem WI.step {G : Hp} {F2 H2 : Hp} {us : List V} {e : DL.Env} {σ : L2.St} (hw : Hw U = some (.lst (as.map V.ref))) (ef : Ex G F2) (r2 : Rel ⟨K, R, none, F, Hw⟩ F2 H2 σ e [(a, .o (.lst us))]) (ha : AtAll K F2 us ds) : WI K R F G Hw a U as e σ ds H2 :=
  ⟨⟨F2, us, ef, r2, ha⟩, (r2.w.kp U _ hw fun z => z).1⟩
end
end DL
namespace DL
open PySem L2
end DL
namespace DL
open PySem L2
end DL
namespace DL
open PySem L2
end DL
namespace DL
open PySem L2 PyProof.Rows
/-- p, of the class cls, has been caught where the slots are σ and the heap is H -/
structure Catch (X : Cx) (pins : List (Addr × Obj)) (p : Addr) (cls : Value) (d : Option Addr) (σ : L2.St) (H : Hp) (s : Shared) : Prop where
  ok : X.Ok
  new : H p = none
  air : ∃ (B : Heap) (sI : Shared), Inv X pins σ H sI ∧ (∀ b o, sI.heap.get? b = some o → b ∉ frs X.stack → B.get? b = some o) ∧ sI.heap.UpToSlots s.heap ∧ s.os = sI.os ∧ AllBare s.gens ∧ HandSPX.FlyingZ B X.stack p (Zc cls d) s.heap
theorem frs_local {X : Cx} (hs : X.stack = X.env :: X.outer) (hf : X.env.frame = some X.env.locals) : frs X.stack = X.env.locals :: X.fs := by
  rw [hs]
  exact List.filterMap_cons_some hf
section
variable {X : Cx} {pins : List (Addr × Obj)} {p : Addr} {cls : Value} {d : Option Addr} {σ : L2.St} {H : Hp} {s : Shared} {D : Ends}
namespace Catch
theorem inv (c : Catch X pins p cls d σ H s) : Inv X pins σ H s := c.air.elim fun _ q => q.elim fun _ ⟨I, nb, up, os, ag, fl⟩ => I.landed nb fl.1 up os ag
/-- it is no frame of the stack, and it is new to the heap ahead -/
theorem out (c : Catch X pins p cls d σ H s) : p ∉ frs X.stack := fun m => by
  obtain ⟨B, sI, I, nb, up, os, ag, fl⟩ := c.air
  obtain ⟨ob, vs, e, _, hd⟩ := fl.there
  obtain ⟨o', o2, e2, q⟩ := fl.2.2.1.mem m
  cases Option.some.inj (e.symm.trans e2)
  exact q vs hd
theorem fresh (c : Catch X pins p cls d σ H s) : X.ex = [] → X.s_0.heap.get? p = none ∧ ∀ q ∈ X.pn ++ pins, q.1 ≠ p := by
  intro hx
  have out := c.out
  obtain ⟨B, sI, I, nb, up, os, ag, fl⟩ := c.air
  have unseen : ∀ o, sI.heap.get? p ≠ some o := fun o e => by
    have z := (nb p o e out).symm.trans fl.2.1
    cases z
  constructor
  · refine Option.eq_none_iff_forall_not_mem.mpr fun o e => ?_
    obtain ⟨o2, q⟩ := I.base.there p o e (by rw [hx]; exact List.not_mem_nil)
    exact unseen o2 q
  · exact fun q m z => unseen q.2 (z ▸ (I.pin q m).1)
/-- the context in which a suite runs -/
theorem held (c : Catch X pins p cls d σ H s) (hs : X.stack = X.env :: X.outer) (hf : X.env.frame = some X.env.locals) : p ≠ X.env.locals ∧ p ∉ X.fs ∧ ∃ ob, s.heap.get? p = some ob ∧ Zc cls d ob ∧ (∃ vs, ob.data = .fields vs) ∧ Inv (X.suite p ((p, ob) :: (X.pn ++ pins))) [] σ H s := by
  have out := c.out
  rw [frs_local hs hf] at out
  obtain ⟨n1, n2⟩ := List.ne_and_not_mem_of_not_mem_cons out
  obtain ⟨B, sI, I, nb, up, os, ag, fl⟩ := id c.air
  obtain ⟨ob, vs, e, z, hd⟩ := fl.there
  exact ⟨n1, n2, ob, e, z, ⟨vs, hd⟩, c.inv.suite e hd c.new n1 n2⟩
/-- a clause's class is read -/
theorem reads {x : Str} {v : Value} {np : Pos} {Q E : Value → Shared → Prop} (c : Catch X pins p cls d σ H s) (hs : X.stack = X.env :: X.outer) (hf : X.env.frame = some X.env.locals) (hc : Names X x v) (q : Q v s) : wpAny (model X.prog X.w) (X.A.mark (some (.ref p))) (eval (.Name x np) X.env) Q E s := by
  obtain ⟨_, _, ob, _, _, _, S⟩ := c.held hs hf
  rcases hc with ⟨g, nd, m | ⟨m, b, nn⟩⟩
  · exact ld_glob (X := X.suite p ((p, ob) :: (X.pn ++ pins))) S g m q nd
  · exact ld_blt (X := X.suite p ((p, ob) :: (X.pn ++ pins))) S g m b q nn nd
end Catch
end
end DL
namespace DL
open PySem L2 PyProof.Rows
end DL
namespace DL
open PySem L2 PyProof.Rows
end DL
namespace DL
open PySem L2
def CdXD (pr : Program) (wd : PySem.World) (K : PySem.W.Frag) (gl : Str → Option Value) (bas : Heap) (R : Orc) (k : Nat) (x : Str) (n : Nat) (dds : List D) (S : SpX) : Prop :=
  ∃ (f : Addr) (fd : FuncData) (ps : List Str) (ds : List Value) (dvs : List V), FnX pr wd K gl bas k f fd ps (spX K gl R (n + dds.length) S) ∧ gl x = some (.ref f) ∧ PySem.W.keepIn K (.ref f) = true ∧ Binds K fd ps ds ∧ Vals dvs ds ∧ ∀ F, AtAll K F dvs dds
theorem CdXD.more {pr : Program} {wd : PySem.World} {K : PySem.W.Frag} {gl : Str → Option Value} {bas : Heap} {R : Orc} {j k : Nat} {x : Str} {n : Nat} {dds : List D} {S : SpX} (C : CdXD pr wd K gl bas R j x n dds S) (h : j ≤ k) : CdXD pr wd K gl bas R k x n dds S := by
  obtain ⟨f, fd, ps, ds, dvs, F, a, b, d, e, u⟩ := C
  exact ⟨f, fd, ps, ds, dvs, F.more h, a, b, d, e, u⟩
end DL
namespace DL
open PySem L2
end DL
namespace DL
open PySem L2 PySem.Spec PyProof.Rows
mutual
def nkD : D → Option NestedKey
  | .none => some .none
  | .int i => some (.num i)
  | .str x => some (.text x)
  | .tuple ds => (nkAll ds).map .tup
  | _ => none
def nkAll : List D → Option (List NestedKey)
  | [] => some []
  | d :: ds => match nkD d, nkAll ds with
    | some k, some ks => some (k :: ks)
    | _, _ => none
end
theorem nkAll_cons {d : D} {ds : List D} {ks : List NestedKey} (h : nkAll (d :: ds) = some ks) : ∃ k ks', nkD d = some k ∧ nkAll ds = some ks' ∧ ks = k :: ks' := by
  unfold nkAll at h
  split at h
  · rename_i k ks' h1 h2
    cases h
    exact ⟨k, ks', h1, h2, rfl⟩
  · cases h
mutual
theorem nk_inj : ∀ (d e : D) (k : NestedKey), nkD d = some k → nkD e = some k → d = e
  | .none, e, k, h1, h2 => by
    cases (show some NestedKey.none = some k from h1)
    cases e with
    | none => rfl
    | bool b => cases (show (none : Option NestedKey) = some _ from h2)
    | int i => cases (show some (NestedKey.num i) = some .none from h2)
    | str x => cases (show some (NestedKey.text x) = some .none from h2)
    | list xs => cases (show (none : Option NestedKey) = some _ from h2)
    | dict xs => cases (show (none : Option NestedKey) = some _ from h2)
    | tuple xs =>
      obtain ⟨ks, _, z⟩ := Option.map_eq_some_iff.mp (show (nkAll xs).map NestedKey.tup = some _ from h2)
      cases z
  | .bool b, e, k, h1, h2 => by cases (show (none : Option NestedKey) = some _ from h1)
  | .list xs, e, k, h1, h2 => by cases (show (none : Option NestedKey) = some _ from h1)
  | .dict xs, e, k, h1, h2 => by cases (show (none : Option NestedKey) = some _ from h1)
  | .int i, e, k, h1, h2 => by
    cases (show some (NestedKey.num i) = some k from h1)
    cases e with
    | none => cases (show some NestedKey.none = some (.num i) from h2)
    | bool b => cases (show (none : Option NestedKey) = some _ from h2)
    | int j => cases (show some (NestedKey.num j) = some (.num i) from h2); rfl
    | str x => cases (show some (NestedKey.text x) = some (.num i) from h2)
    | list xs => cases (show (none : Option NestedKey) = some _ from h2)
    | dict xs => cases (show (none : Option NestedKey) = some _ from h2)
    | tuple xs =>
      obtain ⟨ks, _, z⟩ := Option.map_eq_some_iff.mp (show (nkAll xs).map NestedKey.tup = some _ from h2)
      cases z
  | .str x, e, k, h1, h2 => by
    cases (show some (NestedKey.text x) = some k from h1)
    cases e with
    | none => cases (show some NestedKey.none = some (.text x) from h2)
    | bool b => cases (show (none : Option NestedKey) = some _ from h2)
    | int j => cases (show some (NestedKey.num j) = some (.text x) from h2)
    | str y => cases (show some (NestedKey.text y) = some (.text x) from h2); rfl
    | list xs => cases (show (none : Option NestedKey) = some _ from h2)
    | dict xs => cases (show (none : Option NestedKey) = some _ from h2)
    | tuple xs =>
      obtain ⟨ks, _, z⟩ := Option.map_eq_some_iff.mp (show (nkAll xs).map NestedKey.tup = some _ from h2)
      cases z
  | .tuple xs, e, k, h1, h2 => by
    obtain ⟨ks, h1', rfl⟩ := Option.map_eq_some_iff.mp (show (nkAll xs).map NestedKey.tup = some _ from h1)
    cases e with
    | none => cases (show some NestedKey.none = some (.tup ks) from h2)
    | bool b => cases (show (none : Option NestedKey) = some _ from h2)
    | int j => cases (show some (NestedKey.num j) = some (.tup ks) from h2)
    | str y => cases (show some (NestedKey.text y) = some (.tup ks) from h2)
    | list xs => cases (show (none : Option NestedKey) = some _ from h2)
    | dict xs => cases (show (none : Option NestedKey) = some _ from h2)
    | tuple ys =>
      obtain ⟨ks', h2', z⟩ := Option.map_eq_some_iff.mp (show (nkAll ys).map NestedKey.tup = some _ from h2)
      cases z
      rw [nkAll_inj xs ys ks h1' h2']
theorem nkAll_inj : ∀ (ds es : List D) (ks : List NestedKey), nkAll ds = some ks → nkAll es = some ks → ds = es
  | [], [], _, _, _ => rfl
  | [], e :: es, ks, h1, h2 => by
    obtain ⟨_, _, _, _, rfl⟩ := nkAll_cons h2
    cases (show some ([] : List NestedKey) = some _ from h1)
  | d :: ds, [], ks, h1, h2 => by
    obtain ⟨_, _, _, _, rfl⟩ := nkAll_cons h1
    cases (show some ([] : List NestedKey) = some _ from h2)
  | d :: ds, e :: es, ks, h1, h2 => by
    obtain ⟨k, ks', a1, a2, rfl⟩ := nkAll_cons h1
    obtain ⟨k', ks'', b1, b2, z⟩ := nkAll_cons h2
    cases z
    rw [nk_inj d e k a1 b1, nkAll_inj ds es ks' a2 b2]
end
section
variable {X : Cx} {pins : List (Addr × Obj)} {σ : L2.St} {H F : Hp} {s : Shared}
mutual
theorem nk_is (I : Inv X pins σ H s) (e : Ex F H) : ∀ (d : D) (v : V) (u : Value) (k : NestedKey), At X.K F v d → nkD d = some k → RelV v u → NestedIs s.heap k u
  | .none, v, u, k, a, h, r => by
    cases (show some NestedKey.none = some k from h)
    cases a
    cases (show u = Value.none from r)
    exact .none
  | .bool b, v, u, k, a, h, r => by cases (show (none : Option NestedKey) = some _ from h)
  | .list xs, v, u, k, a, h, r => by cases (show (none : Option NestedKey) = some _ from h)
  | .dict xs, v, u, k, a, h, r => by cases (show (none : Option NestedKey) = some _ from h)
  | .int i, v, u, k, a, h, r => by
    cases (show some (NestedKey.num i) = some k from h)
    cases a
    (obtain ⟨t, rfl⟩ := (show ∃ t, u = Value.int i t from r))
    exact .int i t
  | .str x, v, u, k, a, h, r => by
    cases (show some (NestedKey.text x) = some k from h)
    cases a
    (obtain ⟨t, rfl⟩ := (show ∃ t, u = Value.str x t from r))
    exact .text x t
  | .tuple ds, v, u, k, a, h, r => by
    obtain ⟨ks, h', rfl⟩ := Option.map_eq_some_iff.mp (show (nkAll ds).map NestedKey.tup = some _ from h)
    cases a with
    | tup sq al =>
      rename_i p xs
      cases (show u = Value.ref p from r)
      obtain ⟨its, rv, ⟨o, ho, hc, n, hd⟩, _⟩ := I.tuple (e.st sq)
      exact .tup ho hc hd (nkAll_is I e ds xs its ks al h' rv)
theorem nkAll_is (I : Inv X pins σ H s) (e : Ex F H) : ∀ (ds : List D) (vs : List V) (us : List Value) (ks : List NestedKey), AtAll X.K F vs ds → nkAll ds = some ks → Vals vs us → NestedAll s.heap ks us
  | [], vs, us, ks, a, h, r => by
    cases (show some ([] : List NestedKey) = some _ from h)
    cases a
    cases r
    exact .nil
  | d :: ds, vs, us, ks, a, h, r => by
    obtain ⟨k, ks', h1, h2, rfl⟩ := nkAll_cons h
    cases a with
    | cons ad al =>
      cases r with
      | cons r1 r2 => exact .cons (nk_is I e d _ _ k ad h1 r1) (nkAll_is I e ds _ _ ks' al h2 r2)
end
end
abbrev NE (β : Type) := NestedKey × Addr × β
def ndE (w : PySem.World) (x : NE Value) : DictEntry := ⟨x.1.hash w, .ref x.2.1, x.2.2⟩
def PV : NE V → NE Value → Prop := fun p q => p.1 = q.1 ∧ p.2.1 = q.2.1 ∧ RelV p.2.2 q.2.2
def NDV (w : PySem.World) (a : Addr) (xs : List (NE V)) (h : Heap) : Prop := xs.length ≤ sizeLine ∧ (a == sysModules) = false ∧ ∃ vs, Paired PV xs vs ∧ ∃ o es ep, h.get? a = some o ∧ o.ExactDict ∧ o.data = .dict es ep ∧ es.toList = vs.map (ndE w) ∧ (vs.map (·.1)).Nodup
def NDO (w : PySem.World) (a : Addr) (xs : List (NE V)) : HO := .ext (NDV w a xs)
/-- a datum whose object is a key -/
def KeyAt (K : PySem.W.Frag) (F : Hp) (b : Addr) (k : NestedKey) (d : D) : Prop := At K F (.ref b) d ∧ nkD d = some k ∧ k.depth ≤ 8
def KeysAt (K : PySem.W.Frag) (F : Hp) (xs : List (NE V)) : Prop := ∀ p ∈ xs, ∃ d, KeyAt K F p.2.1 p.1 d
theorem paired_mem {α β : Type} {R : α → β → Prop} : ∀ {xs : List α} {ys : List β} {y : β}, Paired R xs ys → y ∈ ys → ∃ x ∈ xs, R x y
  | _, _, _, .nil, h => nomatch h
  | x :: xs, z :: ys, y, .cons r t, h => by
    (rcases List.mem_cons.mp h with rfl | h)
    · exact ⟨x, List.mem_cons_self .., r⟩
    · obtain ⟨x', m, q⟩ := paired_mem t h
      exact ⟨x', List.mem_cons_of_mem _ m, q⟩
theorem nd_dict {X : Cx} {pins : List (Addr × Obj)} {σ : L2.St} {H F : Hp} {s : Shared} {a : Addr} {xs : List (NE V)} (I : Inv X pins σ H s) (e : Ex F H) (h : H a = some (NDO X.w a xs)) (hk : KeysAt X.K F xs) :
    xs.length ≤ sizeLine ∧ (a == sysModules) = false ∧ ∃ vs, Paired PV xs vs ∧ s.heap.DictOfH (nestedKind X.prog X.w) a vs := by
  obtain ⟨⟨z, hd, vs, pp, o, es, ep, ho, h1, h2, h3, h4⟩, _⟩ := (show ObjOk X.prog X.w H s.heap a (NDO X.w a xs) from I.hok a _ h)
  refine ⟨z, hd, vs, pp, o, es, ep, ho, h1, h2, h3, fun q hq => ?_, h4⟩
  obtain ⟨p, mp, e1, e2, _⟩ := paired_mem pp hq
  obtain ⟨d, a1, a2, a3⟩ := hk p mp
  rw [← e1, ← e2]
  exact ⟨nk_is I e d _ _ _ a1 a2 rfl, a3⟩
def valN (xs : List (NE V)) (k : NestedKey) : Option V := (xs.find? fun p => decide (p.1 = k)).map (·.2.2)
theorem paired_val {k : NestedKey} : ∀ {xs : List (NE V)} {vs : List (NE Value)}, Paired PV xs vs → RelO (valN xs k) ((atKey vs k).map (·.2))
  | _, _, .nil => True.intro
  | p :: ps, q :: qs, .cons ⟨h1, _, h2⟩ t => by
    by_cases e : p.1 = k
    · (have e' : q.1 = k := h1.symm.trans e)
      (have b : atKey (q :: qs) k = some q.2 := by simp [atKey, List.find?_cons, e'])
      have a : valN (p :: ps) k = some p.2.2 := by simp [valN, List.find?_cons, e]
      rw [a, b]
      exact h2
    · (have e' : ¬ q.1 = k := fun z => e (h1.trans z))
      (have b : atKey (q :: qs) k = atKey qs k := by simp [atKey, List.find?_cons, e'])
      have a : valN (p :: ps) k = valN ps k := by simp [valN, List.find?_cons, e]
      rw [a, b]
      exact paired_val t
theorem valN_some {xs : List (NE V)} {k : NestedKey} {v : V} (h : valN xs k = some v) : ∃ p ∈ xs, p.1 = k ∧ p.2.2 = v := by
  obtain ⟨p, hp, rfl⟩ := Option.map_eq_some_iff.mp h
  exact ⟨p, List.mem_of_find?_eq_some hp, by simpa using List.find?_some hp, rfl⟩
def rNotN (K : PySem.W.Frag) (w : PySem.World) : R2 := fun x y H Q => ∃ a b xs k d F, x = .ref b ∧ y = .ref a ∧ H a = some (NDO w a xs) ∧ Ex F H ∧ KeysAt K F xs ∧ KeyAt K F b k d ∧ Q (.bl (!(valN xs k).isSome)) H
section
variable {X : Cx} {od kx vx : PySem.Expr} {pos pos' : Pos} {td ty tv : TE}
theorem nd_room {A : Around} (hu : A.units + 64 < cLine) {P : Program} {w : PySem.World} : (nestedKind P w).room A.in1 := by
  show A.units + 1 + 8 < cLine
  omega
theorem op_notN (hu : X.A.units + 64 < cLine) : OpR X (compareOp .NotIn) (rNotN X.K X.w) := by
  rintro pins s σ H x y v u Q I rx ry ⟨a, b, xs, k, d, F, rfl, rfl, h, ex, hk, ⟨k1, k2, k3⟩, q⟩
  cases (show v = Value.ref b from rx)
  (cases (show u = Value.ref a from ry))
  obtain ⟨z, hd, vs, pp, dd⟩ := nd_dict I ex h hk
  refine wpAny_notIn_heap (nd_room hu) (k := k) ⟨nk_is I ex d _ _ _ k1 k2 rfl, k3⟩ hd dd ?_
  have qq := (paired_val (k := k) pp).isSome_eq
  rw [Option.isSome_map] at qq
  rw [← qq]
  exact ⟨.bl (!(valN xs k).isSome), H, I.tok _, rfl, q⟩
end
end DL
namespace DL
open PySem L2
section
variable {rs : SpD} {c : Cn} {w : PySem.World} {F H : Hp} {v0 v1 v2 : V} {a : Addr} {sc co : D} {ths : List D} {g : D → D}
/-- what the dict tells -/
def ThOk (K : PySem.W.Frag) (F : Hp) (g : D → D) (xs : List (NE V)) : Prop := ∀ p ∈ xs, ∃ d, KeyAt K F p.2.1 p.1 d ∧ At K F p.2.2 (g d)
theorem ThOk.mono {K : PySem.W.Frag} {F' : Hp} {xs : List (NE V)} (e : Ex F F') (h : ThOk K F g xs) : ThOk K F' g xs := fun p hp => let ⟨d, ⟨a, b, c⟩, z⟩ := h p hp; ⟨d, ⟨a.mono e, b, c⟩, z.mono e⟩
theorem ThOk.val {K : PySem.W.Frag} {xs : List (NE V)} {k : NestedKey} {v : V} {d : D} (h : ThOk K F g xs) (e : valN xs k = some v) (hk : nkD d = some k) : At K F v (g d) := by
  obtain ⟨p, mp, rfl, rfl⟩ := valN_some e
  obtain ⟨d', ⟨_, q, _⟩, z⟩ := h p mp
  rw [nk_inj d d' _ hk q]
  exact z
end
end DL
namespace DL
open PySem L2 PySem.Spec PyProof.Rows
end DL
namespace DL
open PySem L2 PySem.Spec PyProof.Rows
end DL
namespace DL
open PySem L2
end DL
namespace DL
open PySem L2
def rgOk (a b : Int) : Prop := -1000000 ≤ a ∧ a ≤ 1000000 ∧ -1000000 ≤ b ∧ b ≤ 1000000
theorem rgOk.ok {a b : Int} (h : rgOk a b) : RgOk a b := by
  obtain ⟨h1, h2, h3, h4⟩ := h
  exact ⟨by omega, by omega, by omega, by omega, by omega⟩
end DL
namespace DL
open PySem L2
end DL
namespace DL.Am
open PySem L2 DL
end DL.Am
namespace DL.Lz
open PySem Sem
section
variable {prog : Program} {w : PySem.World} {A : Around} {E : Value → Shared → Prop} {s : Shared} {z t u p q : Addr} {fa fb : List Addr} {na nb i : Nat} {Pa Pb : Nat → Value → Prop} {Sa Sb : Nat → Heap → Prop}
/-- where a zip stands: its parts, and no pair out or one that is alive -/
structure Zat (z t u p q L : Addr) (Sa Sb : Nat → Heap → Prop) (i : Nat) (h : Heap) : Prop where
  its : IsPair h t (.ref p) (.ref q)
  a : Sa i h
  b : Sb i h
  z : (IsZip h z t u .none ∧ ∃ x y, IsPair h u x y) ∨ ∃ (T : Addr) (f : Bool) (oT : Obj), IsZipHeld h z t u T f ∧ h.get? T = some oT ∧ T ≠ z ∧ T ≠ p ∧ T ≠ q ∧ T ≠ L
theorem Zat.keep {L : Addr} {h h' : Heap} {prog : Program} {w : PySem.World} {A : Around} (S : ZipSep2 z t u p q fa fb) (Da : Draws prog w A p fa na Pa Sa) (Db : Draws prog w A q fb nb Pb Sb) (st : Zat z t u p q L Sa Sb i h) (k : ∀ b o, b ≠ L → h.get? b = some o → h'.get? b = some o) (nz : L ≠ z) (nt : L ≠ t) (nu : L ≠ u) (na' : L ∉ fa) (nb' : L ∉ fb) : Zat z t u p q L Sa Sb i h' := by
  refine ⟨k _ _ (Ne.symm nt) st.its, Da.frame _ _ _ st.a fun b hb o e => k b o (fun x => na' (x ▸ hb)) e, Db.frame _ _ _ st.b fun b hb o e => k b o (fun x => nb' (x ▸ hb)) e, ?_⟩
  rcases st.z with ⟨hz, x0, y0, hu⟩ | ⟨T, f, oT, hz, hT, t1, t2, t3, t4⟩
  · exact .inl ⟨k _ _ (Ne.symm nz) hz, x0, y0, k _ _ (Ne.symm nu) hu⟩
  · exact .inr ⟨T, f, oT, k _ _ (Ne.symm nz) hz, k _ _ t4 hT, t1, t2, t3, t4⟩
end
end DL.Lz
namespace DL.Lz
open PySem PyProof.Rows L2 RZ
end DL.Lz
namespace DL
open PySem L2 PyProof.Rows
end DL
namespace DL.Lz
open PySem Sem PyProof.Rows L2 RZ
abbrev IsZf (h : Heap) (z t u : Addr) (v : Value) (f : Bool) : Prop := h.get? z = some { cls := .type "zip", dict := none, data := .fields #[v, .bool f, .bool false, .ref t, .ref u], slots := #[] }
section
variable {prog : Program} {w : PySem.World} {A : Around} {E : Value → Shared → Prop} {s : Shared} {z t u p q : Addr} {fa fb : List Addr} {na nb i : Nat} {Pa Pb : Nat → Value → Prop} {Sa Sb : Nat → Heap → Prop} {x0 y0 v : Value} {f : Bool}
/-- fresh, or with a pair out of which nothing is known -/
def Zn (z t u : Addr) (h : Heap) : Prop := ∃ v f, IsZf h z t u v f ∧ (v = .none ∨ ∃ T : Addr, v = rawInt T)
end
/-- how far both are gone -/
structure NmGone (z t u p q a b : Addr) (n : Nat) (h : Heap) : Prop where
  zip : Zn z t u h
  its : IsPair h t (.ref p) (.ref q)
  two : ∃ x y, IsPair h u x y
  fst : h.IsTupleIter p a n
  snd : h.IsTupleIter q b n
section
variable {z t u p q a b : Addr} {n : Nat} {h h' : Heap}
theorem NmGone.there (m : NmGone z t u p q a b n h) {c : Addr} (hc : c ∈ [z, t, u, p, q]) : ∃ o, h.get? c = some o ∧ ∀ v, o.data ≠ .cell v := by
  obtain ⟨⟨v1, f1, k1, _⟩, k2, ⟨x, y, k3⟩, ⟨o4, e4, _, f4⟩, ⟨o5, e5, _, f5⟩⟩ := m
  refine five (P := fun c => ∃ o, h.get? c = some o ∧ ∀ v, o.data ≠ .cell v) hc ⟨_, k1, nofun⟩ ⟨_, k2, nofun⟩ ⟨_, k3, nofun⟩ ⟨o4, e4, fun v e => ?_⟩ ⟨o5, e5, fun v e => ?_⟩
  · rw [f4] at e
    cases e
  · rw [f5] at e
    cases e
end
end DL.Lz
namespace DL
open PySem L2 PyProof.Rows
def Zk (H : Hp) (v : V) : Prop := ∃ (a : Addr) (o : Obj) (u : HO), v = .ref a ∧ H a = some (.frz o u) ∧ o.cls = .type "tuple" ∧ o.dict = none
/-- what a def promises that hands out such a tuple -/
def spZ (K : PySem.W.Frag) (R : Orc) (n : Nat) (S : SpD) : Sp := fun vs H Q _ => ∃ (q : Option Addr) (F : Hp) (as : List Ar) (m : Nat) (P : D → Nat → Prop), World R q F H F H ∧ Paired (ArAt ⟨K, R, q, F, H⟩ F) vs as ∧ as.length = n ∧ oraAt as ∧ (q = none ∨ as[0]? = some .ora) ∧ (∀ p, q = some p → R.cnt p H ≤ m) ∧ S as m P ∧
  ∀ d m' v F' H', P d m' → World R q F H F' H' → (∀ p, q = some p → R.cnt p H' ≤ m') → At K F' v d → Zk H' v → Q v H'
def CdZ (pr : Program) (wd : PySem.World) (K : PySem.W.Frag) (gl : Str → Option Value) (bas : Heap) (R : Orc) (k : Nat) (x : Str) (n : Nat) (S : SpD) : Prop :=
  ∃ (f : Addr) (fd : FuncData) (ps : List Str), FnG pr wd K gl bas k f fd ps (spZ K R n S) ∧ gl x = some (.ref f) ∧ PySem.W.keepIn K (.ref f) = true ∧ Binds K fd ps []
section
variable {pr : Program} {wd : PySem.World} {K : PySem.W.Frag} {gl : Str → Option Value} {bas : Heap} {R : Orc} {j k n : Nat} {x : Str} {S : SpD}
theorem CdZ.more (C : CdZ pr wd K gl bas R j x n S) (h : j ≤ k) : CdZ pr wd K gl bas R k x n S := by
  obtain ⟨f, fd, ps, F, rest⟩ := C
  exact ⟨f, fd, ps, F.more h, rest⟩
end
end DL
namespace DL.Ms
open PySem L2 PySem.Spec PyProof.Rows
end DL.Ms
namespace DL
open PySem L2 PySem.Spec PyProof.Rows
end DL
namespace DL
open PySem L2
end DL
namespace DL
open PySem L2
end DL
namespace DL
open PySem L2 PyProof.Rows
abbrev TD := List (List Key × D)
/-- what stands in the heap's dict, entry by entry -/
def TAt (K : PySem.W.Frag) (F : Hp) (kvs : List (List Key × V)) (xs : TD) : Prop := Paired (fun (p : List Key × V) (q : List Key × D) => p.1 = q.1 ∧ At K F p.2 q.2) kvs xs
section
variable {K : PySem.W.Frag} {F F' H : Hp} {a : Addr}
theorem TAt.mono (e : Ex F F') {kvs : List (List Key × V)} {xs : TD} (h : TAt K F kvs xs) : TAt K F' kvs xs := by
  unfold TAt at h ⊢
  induction h with
  | nil => exact .nil
  | cons h t ih => exact .cons ⟨h.1, h.2.mono e⟩ ih
end
end DL
namespace DL
open PySem L2
end DL
namespace DL
open PySem L2
section
variable {X : Cx} {c : Cn}
/-- arguments, some of them slots -/
abbrev Ar2 := Ar ⊕ Nat
abbrev AM2 := Env → (List Ar2 → Env → Prop) → Prop
def A2At (c : Cn) (F : Hp) (σ : L2.St) : V → Ar2 → Prop
  | v, .inl x => ArAt c F v x
  | v, .inr i => σ[i]? = some (some v)
theorem A2At.mono {F F' : Hp} {σ : L2.St} (e : Ex F F') {v : V} {x : Ar2} (h : A2At c F σ v x) : A2At c F' σ v x := by
  cases x with
  | inl x => exact ArAt.mono e h
  | inr i => exact h
variable {e : Expr} {es : List Expr}
variable {k : Nat} {f : Addr} {fd : FuncData} {ps : List Str} {S : SpD} {x : Str} {p pos : Pos} {fa : AM2} {n i : Nat}
end
end DL
namespace DL
open PySem L2
end DL
namespace DL
open PySem L2
end DL
namespace DL
open PySem L2 PyProof.Rows
end DL
namespace Q84
open PySem L2 DL
/-- the law's numbers: some integer below the total -/
def s_next : SpD := fun as m P => ∃ n : Int, as = [.ora, .d (.int n)] ∧ 0 < n ∧ n < 1073741824 ∧ m < 1048576 ∧ ∀ i : Int, 0 ≤ i → i < n → P (.int i) (m + 1)
/-- is_integer(thing), slots 0 thing -/
def g_is_integer : SM := sRet (dAnd (dIsi "int" (hS 0)) (dNot (dIsi "bool" (hS 0))))
def r_is_integer : SpD := raw g_is_integer 1
/-- is_within(thing, least, most), slots 0 thing 1 least 2 most -/
def g_is_within : SM := sRet (dAnd (dCall 1 r_is_integer (aCons (dV 0) (aNil))) (dChain gLe gLe (hS 1) (hS 0) (hS 2)))
def r_is_within : SpD := raw g_is_within 3
/-- is_tuple(thing, least, most), slots 0 thing 1 least 2 most -/
def g_is_tuple : SM := sRet (dAnd (dIsi "tuple" (hS 0)) (dChain gLe gLe (hS 1) (hV (dCB gLen (DL.gCons (hS 0) (DL.gNil)))) (hS 2)))
def r_is_tuple : SpD := raw g_is_tuple 3
/-- is_sign(sign, lowest), slots 0 sign 1 lowest -/
def g_is_sign : SM := sRet (dAnd (dChain gLe gLe (hS 1) (hV (dCB gOrd (DL.gCons (hS 0) (DL.gNil)))) (hV (dC (.int 126)))) (d2 gNe (hV (dCB gOrd (DL.gCons (hS 0) (DL.gNil)))) (hV (dC (.int 37)))))
def r_is_sign : SpD := raw g_is_sign 2
/-- has_signs(thing, lowest), slots 0 thing 1 lowest 2 sign -/
def g_has_signs : SM := sSeq (sIf (bOr (bNot (bTruth (hV (dIsi "str" (hS 0))))) (bNot (bD (dChain gLe gLe (hV (dC (.int 1))) (hV (dCB gLen (DL.gCons (hS 0) (DL.gNil)))) (hV (dC (.int 40))))))) (sRet (dC (.bool false))) (sNo)) (sRet (dCB gAll (DL.gCons (hV (dLc (iSeq (dV 0)) (gN 2) (bYes) (dCall 2 r_is_sign (aCons (dV 2) (aCons (dV 1) (aNil)))) [2])) (DL.gNil))))
def r_has_signs : SpD := raw g_has_signs 3
/-- need_screen(screen), slots 0 screen -/
def g_need_screen : SM := sSeq (sIf (bNot (bAnd (bTruth (hV (dCall 3 r_is_tuple (aCons (dV 0) (aCons (dC (.int 2)) (aCons (dC (.int 2)) (aNil))))))) (bAnd (bTruth (hV (dCall 3 r_is_within (aCons (d2 gIx (hS 0) (hV (dC (.int 0)))) (aCons (dC (.int 1)) (aCons (dC (.int 4)) (aNil))))))) (bTruth (hV (dCall 3 r_is_within (aCons (d2 gIx (hS 0) (hV (dC (.int 1)))) (aCons (dC (.int 1)) (aCons (dC (.int 40)) (aNil)))))))))) (sNever) (sNo)) (sRet (dV 0))
def r_need_screen : SpD := raw g_need_screen 1
/-- _is_line(thing), slots 0 thing -/
def g__is_line : SM := sRet (dAnd (dCall 2 r_has_signs (aCons (dV 0) (aCons (dC (.int 32)) (aNil)))) (dAnd (d2 gNe (hV (d2 gIx (hS 0) (hV (dC (.int 0))))) (hV (dC (.str (" " : Str))))) (d2 gNe (hV (d2 gIx (hS 0) (hV (dNeg (dC (.int 1)))))) (hV (dC (.str (" " : Str)))))))
def r__is_line : SpD := raw g__is_line 1
/-- is_text(thing), slots 0 thing 1 line -/
def g_is_text : SM := sRet (dAnd (dCall 3 r_is_tuple (aCons (dV 0) (aCons (dC (.int 1)) (aCons (dC (.int 4)) (aNil))))) (dCB gAll (DL.gCons (hV (dLc (iSeq (dV 0)) (gN 1) (bYes) (dCall 1 r__is_line (aCons (dV 1) (aNil))) [1])) (DL.gNil))))
def r_is_text : SpD := raw g_is_text 2
/-- _has_room(screen, thing), slots 0 screen 1 thing 2 rows 3 columns 4 line -/
def g__has_room : SM := sSeq (sAsg (dV 0) (gTupT 2 (gConsT (gN 2) (gConsT (gN 3) (gNoT))))) (sRet (dAnd (dCall 1 r_is_text (aCons (dV 1) (aNil))) (dAnd (d2 gLe (hV (dCB gLen (DL.gCons (hS 1) (DL.gNil)))) (hS 2)) (dCB gAll (DL.gCons (hV (dLc (iSeq (dV 1)) (gN 4) (bYes) (d2 gLe (hV (dCB gLen (DL.gCons (hS 4) (DL.gNil)))) (hS 3)) [4])) (DL.gNil))))))
def r__has_room : SpD := raw g__has_room 5
/-- _is_sendable(screen, thing), slots 0 screen 1 thing -/
def g__is_sendable : SM := sSeq (sIf (bOr (bNot (bTruth (hV (dCall 3 r_is_tuple (aCons (dV 1) (aCons (dC (.int 3)) (aCons (dC (.int 3)) (aNil)))))))) (bNot (bTruth (hV (dCall 3 r_is_within (aCons (d2 gIx (hS 1) (hV (dC (.int 0)))) (aCons (dC (.int 0)) (aCons (dC (.int 1999)) (aNil))))))))) (sRet (dC (.bool false))) (sNo)) (sRet (dAnd (dCall 3 r_is_within (aCons (d2 gIx (hS 1) (hV (dC (.int 1)))) (aCons (d2 gAdd (hV (d2 gIx (hS 1) (hV (dC (.int 0))))) (hV (dC (.int 1)))) (aCons (dC (.int 1999)) (aNil))))) (dCall 2 r__has_room (aCons (dV 0) (aCons (d2 gIx (hS 1) (hV (dC (.int 2)))) (aNil))))))
def r__is_sendable : SpD := raw g__is_sendable 2
/-- _need_cues(screen, cues), slots 0 screen 1 cues 2 free 3 number 4 cue -/
def g__need_cues : SM := sSeq (sExpr (dCall 1 r_need_screen (aCons (dV 0) (aNil)))) (sSeq (sIf (bNot (bTruth (hV (dCall 3 r_is_tuple (aCons (dV 1) (aCons (dC (.int 0)) (aCons (dC (.int 200)) (aNil)))))))) (sNever) (sNo)) (sSeq (sSet 2 (dC (.int 0))) (sFor (iEn (lCons (dV 1) (lNil))) (gTupT 2 (gConsT (gN 3) (gConsT (gN 4) (gNoT)))) (sSeq (sIf (bOr (bNot (bTruth (hV (dCall 2 r__is_sendable (aCons (dV 0) (aCons (dV 4) (aNil))))))) (bD (d2 gLt (hV (d2 gIx (hS 4) (hV (dC (.int 0))))) (hS 2)))) (sNever) (sNo)) (sSet 2 (d2 gIx (hS 4) (hV (dC (.int 1)))))))))
def r__need_cues : SpD := raw g__need_cues 5
/-- _free_frames(ahead, start), slots 0 ahead 1 start 2 between -/
def g__free_frames : SM := sSeq (sIf (bD (d2 gIs (hS 0) (hV (dC .none)))) (sRet (dV 1)) (sNo)) (sSeq (sSet 2 (d2 DL.gSub (hV (d2 DL.gSub (hS 1) (hV (d2 gIx (hS 0) (hV (dC (.int 0))))))) (hV (dC (.int 1))))) (sSeq (sIf (bD (d2 gLt (hV (d2 gIx (hS 0) (hV (dC (.int 1))))) (hS 1))) (sRet (d2 DL.gSub (hS 2) (hV (dC (.int 1))))) (sNo)) (sRet (dV 2))))
def r__free_frames : SpD := raw g__free_frames 3
/-- _load_of(text), slots 0 text 1 codes 2 row 3 line 4 sign -/
def g__load_of : SM := sSeq (sSetN 1 (dLst (lCons (dTup (lCons (dC (.str ("hide" : Str))) (lNil))) (lCons (dTup (lCons (dC (.str ("clear" : Str))) (lNil))) (lNil))))) (sSeq (sFor (iEn (lCons (dV 0) (lNil))) (gTupT 2 (gConsT (gN 2) (gConsT (gN 3) (gNoT)))) (sSeq (sApp 1 (dTup (lCons (dC (.str ("at" : Str))) (lCons (dV 2) (lCons (dC (.int 0)) (lNil)))))) (sExt 1 (dLc (iSeq (dV 3)) (gN 4) (bYes) (dTup (lCons (dC (.str ("put" : Str))) (lCons (dV 4) (lNil)))) [4])))) (sRet (dCB gTuple (DL.gCons (hS 1) (DL.gNil)))))
def r__load_of : SpD := raw g__load_of 5
/-- _first_short(cues), slots 0 cues 1 ahead 2 number 3 cue -/
def g__first_short : SM := sSeq (sSet 1 (dC .none)) (sSeq (sFor (iEn (lCons (dV 0) (lNil))) (gTupT 2 (gConsT (gN 2) (gConsT (gN 3) (gNoT)))) (sSeq (sIf (bD (d2 gLt (hV (dCall 2 r__free_frames (aCons (dV 1) (aCons (d2 gIx (hS 3) (hV (dC (.int 0)))) (aNil))))) (hV (dCB gLen (DL.gCons (hV (dCall 1 r__load_of (aCons (d2 gIx (hS 3) (hV (dC (.int 2)))) (aNil)))) (DL.gNil)))))) (sRet (dV 2)) (sNo)) (sSet 1 (dV 3)))) (sRet (dC .none)))
def r__first_short : SpD := raw g__first_short 4
/-- _stream_of(cues), slots 0 cues 1 codes 2 start 3 end 4 _ 5 text 6 left 7 frame 8 code -/
def g__stream_of : SM := sSeq (sIf (bNot (bTruth (hS 0))) (sRet (dTup (lNil))) (sNo)) (sSeq (sSetN 1 (dRep (dLst (lCons (dC .none) (lNil))) (d2 gAdd (hV (d2 gIx (hV (d2 gIx (hS 0) (hV (dNeg (dC (.int 1)))))) (hV (dC (.int 1))))) (hV (dC (.int 1)))))) (sSeq (sFor (iSeq (dV 0)) (gTupT 3 (gConsT (gN 2) (gConsT (gN 3) (gConsT (gN 4) (gNoT))))) (sSeq (sPut 1 (dV 2) (dTup (lCons (dC (.str ("swap" : Str))) (lNil)))) (sPut 1 (dV 3) (dTup (lCons (dC (.str ("wipe" : Str))) (lNil)))))) (sSeq (sFor (iSeq (dV 0)) (gTupT 3 (gConsT (gN 2) (gConsT (gN 4) (gConsT (gN 5) (gNoT))))) (sSeq (sSetN 6 (dCB gList (DL.gCons (hV (dCall 1 r__load_of (aCons (dV 5) (aNil)))) (DL.gNil)))) (sSeq (sSet 7 (d2 DL.gSub (hS 2) (hV (dC (.int 1))))) (sWhile (bTruth (hS 6)) (sSeq (sIf (bD (d2 gIs (hV (d2 gIx (hS 1) (hS 7))) (hV (dC .none)))) (sPut 1 (dV 7) (dPop 6)) (sNo)) (sAug 7 gIsub (hV (dC (.int 1))))))))) (sRet (dCB gTuple (DL.gCons (hV (dLc (iSeq (dV 1)) (gN 8) (bYes) (dIf (bD (d2 gIs (hS 8) (hV (dC .none)))) (dTup (lCons (dC (.str ("idle" : Str))) (lNil))) (dV 8)) [8])) (DL.gNil)))))))
def r__stream_of : SpD := raw g__stream_of 9
/-- send_paper(screen, cues), slots 0 screen 1 cues 2 short -/
def g_send_paper : SM := sSeq (sExpr (dCall 2 r__need_cues (aCons (dV 0) (aCons (dV 1) (aNil))))) (sSeq (sSet 2 (dCall 1 r__first_short (aCons (dV 1) (aNil)))) (sSeq (sIf (bD (d2 gIsNot (hS 2) (hV (dC .none)))) (sRet (dTup (lCons (dC (.str ("short" : Str))) (lCons (dV 2) (lNil))))) (sNo)) (sRet (dTup (lCons (dC (.str ("stream" : Str))) (lCons (dCall 1 r__stream_of (aCons (dV 1) (aNil))) (lNil)))))))
def r_send_paper : SpD := raw g_send_paper 3
/-- put_off(screen, cues), slots 0 screen 1 cues 2 found 3 ahead 4 cue 5 start -/
def g_put_off : SM := sSeq (sExpr (dCall 2 r__need_cues (aCons (dV 0) (aCons (dV 1) (aNil))))) (sSeq (sSetN 2 (dLst (lNil))) (sSeq (sSet 3 (dC .none)) (sSeq (sFor (iSeq (dV 1)) (gN 4) (sSeq (sSet 5 (d2 gIx (hS 4) (hV (dC (.int 0))))) (sSeq (sWhile (bAnd (bD (d2 gLt (hS 5) (hV (d2 gIx (hS 4) (hV (dC (.int 1))))))) (bD (d2 gLt (hV (dCall 2 r__free_frames (aCons (dV 3) (aCons (dV 5) (aNil))))) (hV (dCB gLen (DL.gCons (hV (dCall 1 r__load_of (aCons (d2 gIx (hS 4) (hV (dC (.int 2)))) (aNil)))) (DL.gNil))))))) (sAug 5 gIadd (hV (dC (.int 1))))) (sSeq (sIf (bD (d2 gEq (hS 5) (hV (d2 gIx (hS 4) (hV (dC (.int 1))))))) (sRet (dC .none)) (sNo)) (sSeq (sSet 3 (dTup (lCons (dV 5) (lCons (d2 gIx (hS 4) (hV (dC (.int 1)))) (lCons (d2 gIx (hS 4) (hV (dC (.int 2)))) (lNil)))))) (sApp 2 (dV 3))))))) (sRet (dCB gTuple (DL.gCons (hS 2) (DL.gNil)))))))
def r_put_off : SpD := raw g_put_off 6
/-- _law_mix(_law_cell, _law_spot), slots 0 _law_cell 1 _law_spot 2 _law_first 3 _law_second -/
def g__law_mix : SM := sSeq (sSet 2 (d2 gMod (hV (dCB gInt (DL.gCons (hV (d2 gAdd (hV (d2 gAdd (hV (d2 gMul (hS 0) (hV (dC (.int 40503))))) (hV (d2 gMul (hS 1) (hV (dC (.int 69069))))))) (hV (dC (.int 12345))))) (DL.gNil)))) (hV (dC (.int 2147483647))))) (sSeq (sSet 3 (d2 gMod (hV (dCB gInt (DL.gCons (hV (d2 gAdd (hV (d2 gAdd (hV (d2 gMul (hS 2) (hV (dC (.int 48271))))) (hS 0))) (hS 1))) (DL.gNil)))) (hV (dC (.int 2147483647))))) (sRet (d2 gMod (hV (dCB gInt (DL.gCons (hV (d2 gAdd (hV (d2 gMul (hS 3) (hV (dC (.int 16807))))) (hV (d2 gMul (hV (d2 gMul (hS 1) (hS 1))) (hV (dC (.int 7919))))))) (DL.gNil)))) (hV (dC (.int 2147483647))))))
def r__law_mix : SpD := raw g__law_mix 4
/-- _law_cues(_law_m, _law_rows, _law_columns, _law_many), slots 0 _law_m 1 _law_rows 2 _law_columns 3 _law_many 4 _law_k 5 _law_found 6 _law_spot 7 _law_lines_so 8 _law_again 9 _law_touches 10 _law_begin 11 _law_line 12 _law_n -/
def g__law_cues : SM := sSeq (sParNI 5 6 (dLst (lNil)) (dC (.int 0))) (sSeq (sFor (iRange1 (lCons (dV 3) (lNil))) (gN 4) (sSeq (sSetN 7 (dLst (lNil))) (sSeq (sFor (iRange1 (lCons (d2 gAdd (hV (dC (.int 1))) (hV (dCallO 0 2 s_next (aOra 0 (aCons (dV 1) (aNil)))))) (lNil))) (gN 8) (sSeq (sSet 11 (dJoin (dC (.str ("" : Str))) (dLc (iRange1 (lCons (d2 gAdd (hV (dC (.int 1))) (hV (dCallO 0 2 s_next (aOra 0 (aCons (dV 2) (aNil)))))) (lNil))) (gN 12) (bYes) (d2 gIx (hV (dC (.str ("abc" : Str)))) (hV (dCallO 0 2 s_next (aOra 0 (aCons (dC (.int 3)) (aNil)))))) [12]))) (sApp 7 (dV 11)))) (sSeq (sSet 9 (dAnd (d2 gNe (hS 5) (hV (dLst (lNil)))) (d2 gEq (hV (dCallO 0 2 s_next (aOra 0 (aCons (dC (.int 3)) (aNil))))) (hV (dC (.int 0)))))) (sSeq (sSet 10 (dIf (bTruth (hS 9)) (dV 6) (d2 gAdd (hV (d2 gAdd (hS 6) (hV (dC (.int 1))))) (hV (dCallO 0 2 s_next (aOra 0 (aCons (d2 gAdd (hV (dC (.int 8))) (hV (d2 gMul (hV (dC (.int 4))) (hS 2)))) (aNil)))))))) (sSeq (sSet 6 (d2 gAdd (hV (d2 gAdd (hS 10) (hV (dC (.int 1))))) (hV (dCallO 0 2 s_next (aOra 0 (aCons (d2 gAdd (hV (dC (.int 12))) (hV (d2 gMul (hV (dC (.int 3))) (hS 2)))) (aNil))))))) (sApp 5 (dTup (lCons (dV 10) (lCons (dV 6) (lCons (dCB gTuple (DL.gCons (hS 7) (DL.gNil))) (lNil)))))))))))) (sRet (dCB gTuple (DL.gCons (hS 5) (DL.gNil)))))
def r__law_cues : SpD := raw g__law_cues 13
/-- _law_load(_law_text), slots 0 _law_text 1 _law_found 2 _law_row 3 _law_line 4 _law_sign -/
def g__law_load : SM := sSeq (sSet 1 (dLst (lCons (dTup (lCons (dC (.str ("hide" : Str))) (lNil))) (lCons (dTup (lCons (dC (.str ("clear" : Str))) (lNil))) (lNil))))) (sSeq (sFor (iEn (lCons (dV 0) (lNil))) (gTupT 2 (gConsT (gN 2) (gConsT (gN 3) (gNoT)))) (sSet 1 (d2 gAdd (hV (d2 gAdd (hS 1) (hV (dLst (lCons (dTup (lCons (dC (.str ("at" : Str))) (lCons (dV 2) (lCons (dC (.int 0)) (lNil))))) (lNil)))))) (hV (dLc (iSeq (dV 3)) (gN 4) (bYes) (dTup (lCons (dC (.str ("put" : Str))) (lCons (dV 4) (lNil)))) [4]))))) (sRet (dV 1)))
def r__law_load : SpD := raw g__law_load 5
/-- _law_room(_law_cues_so, _law_k, _law_begin, _law_ahead), slots 0 _law_cues_so 1 _law_k 2 _law_begin 3 _law_ahead 4 _law_wipes -/
def g__law_room : SM := sSeq (sIf (bD (d2 gEq (hS 1) (hV (dC (.int 0))))) (sRet (dV 2)) (sNo)) (sSeq (sSet 4 (dCB gInt (DL.gCons (hV (d2 gLt (hV (d2 gIx (hV (d2 gIx (hS 0) (hV (d2 DL.gSub (hS 1) (hV (dC (.int 1))))))) (hV (dC (.int 1))))) (hS 2))) (DL.gNil)))) (sRet (d2 DL.gSub (hV (d2 DL.gSub (hV (d2 DL.gSub (hS 2) (hS 3))) (hV (dC (.int 1))))) (hS 4))))
def r__law_room : SpD := raw g__law_room 5
/-- _law_put_off(_law_cues_so), slots 0 _law_cues_so 1 _law_found 2 _law_ahead 3 _law_k 4 _law_cue 5 _law_begin 6 _law_need -/
def g__law_put_off : SM := sSeq (sParNI 1 2 (dLst (lNil)) (dC (.int 0))) (sSeq (sFor (iEn (lCons (dV 0) (lNil))) (gTupT 2 (gConsT (gN 3) (gConsT (gN 4) (gNoT)))) (sSeq (sPar 5 6 (lCons (d2 gIx (hS 4) (hV (dC (.int 0)))) (lCons (dCB gLen (DL.gCons (hV (dCall 1 r__law_load (aCons (d2 gIx (hS 4) (hV (dC (.int 2)))) (aNil)))) (DL.gNil))) (lNil)))) (sSeq (sWhile (bAnd (bD (d2 gLt (hS 5) (hV (d2 gIx (hS 4) (hV (dC (.int 1))))))) (bD (d2 gLt (hV (dCall 4 r__law_room (aCons (dV 0) (aCons (dV 3) (aCons (dV 5) (aCons (dV 2) (aNil))))))) (hS 6)))) (sSet 5 (d2 gAdd (hS 5) (hV (dC (.int 1)))))) (sSeq (sIf (bD (d2 gEq (hS 5) (hV (d2 gIx (hS 4) (hV (dC (.int 1))))))) (sRet (dC .none)) (sNo)) (sSeq (sApp 1 (dTup (lCons (dV 5) (lCons (d2 gIx (hS 4) (hV (dC (.int 1)))) (lCons (d2 gIx (hS 4) (hV (dC (.int 2)))) (lNil)))))) (sSet 2 (dV 5))))))) (sRet (dCB gTuple (DL.gCons (hS 1) (DL.gNil)))))
def r__law_put_off : SpD := raw g__law_put_off 7
/-- law behind its first row, slots 0 _law_script 1 _law_m 2 _law_turn 3 _law_size 4 _law_cues_so 5 _law_due 6 _law_told 7 _law_can 8 _law_k 9 _law_cue 10 _law_sooner -/
def g_law : SM := sSeq (sFor (iRange1 (lCons (d2 gAdd (hV (dC (.int 4))) (hV (dCB gMin (DL.gCons (hV (dC (.int 4))) (DL.gCons (hV (dCB gLen (DL.gCons (hS 0) (DL.gNil)))) (DL.gNil)))))) (lNil))) (gN 2) (sSeq (sSet 3 (d2 gIx (hV (dLst (lCons (dTup (lCons (dC (.int 1)) (lCons (dC (.int 4)) (lNil)))) (lCons (dTup (lCons (dC (.int 2)) (lCons (dC (.int 3)) (lNil)))) (lCons (dTup (lCons (dC (.int 2)) (lCons (dC (.int 6)) (lNil)))) (lCons (dTup (lCons (dC (.int 3)) (lCons (dC (.int 4)) (lNil)))) (lCons (dTup (lCons (dC (.int 2)) (lCons (dC (.int 20)) (lNil)))) (lCons (dTup (lCons (dC (.int 4)) (lCons (dC (.int 3)) (lNil)))) (lNil))))))))) (hV (dCallO 1 2 s_next (aOra 1 (aCons (dC (.int 6)) (aNil))))))) (sSeq (sSet 4 (dCallO 1 4 r__law_cues (aOra 1 (aCons (d2 gIx (hS 3) (hV (dC (.int 0)))) (aCons (dCB gMin (DL.gCons (hV (d2 gIx (hS 3) (hV (dC (.int 1))))) (DL.gCons (hV (dC (.int 6))) (DL.gNil)))) (aCons (dCallO 1 2 s_next (aOra 1 (aCons (dC (.int 6)) (aNil)))) (aNil))))))) (sSeq (sSet 5 (dCall 1 r__law_put_off (aCons (dV 4) (aNil)))) (sSeq (sSet 6 (dCall 2 r_put_off (aCons (dV 3) (aCons (dV 4) (aNil))))) (sSeq (sIf (bOr (bD (d2 gNeS (hV (dCB gReprA (DL.gCons (hS 6) (DL.gNil)))) (hV (dCB gReprA (DL.gCons (hS 5) (DL.gNil)))))) (bD (d2 gNeS (hV (dCB gReprA (DL.gCons (hV (dCall 2 r_put_off (aCons (dV 3) (aCons (dV 4) (aNil))))) (DL.gNil)))) (hV (dCB gReprA (DL.gCons (hS 5) (DL.gNil))))))) (sRet (dC (.bool false))) (sNo)) (sSeq (sSet 7 (d2 gEq (hV (d2 gIx (hV (dCall 2 r_send_paper (aCons (dV 3) (aCons (dV 4) (aNil))))) (hV (dC (.int 0))))) (hV (dC (.str ("stream" : Str)))))) (sSeq (sIf (bAnd (bTruth (hS 7)) (bD (d2 gNe (hS 5) (hS 4)))) (sRet (dC (.bool false))) (sNo)) (sIf (bD (d2 gIsNot (hS 5) (hV (dC .none)))) (sSeq (sIf (bOr (bD (d2 gNe (hV (d2 gIx (hV (dCall 2 r_send_paper (aCons (dV 3) (aCons (dV 5) (aNil))))) (hV (dC (.int 0))))) (hV (dC (.str ("stream" : Str)))))) (bD (d2 gNe (hV (dCall 2 r_put_off (aCons (dV 3) (aCons (dV 5) (aNil))))) (hS 5)))) (sRet (dC (.bool false))) (sNo)) (sFor (iEn (lCons (dV 5) (lNil))) (gTupT 2 (gConsT (gN 8) (gConsT (gN 9) (gNoT)))) (sIf (bD (d2 gGt (hV (d2 gIx (hS 9) (hV (dC (.int 0))))) (hV (d2 gIx (hV (d2 gIx (hS 4) (hS 8))) (hV (dC (.int 0))))))) (sSeq (sSet 10 (d2 gAdd (hV (d2 gAdd (hV (dSl (hS 5) (oNo) (oI (dV 8)))) (hV (dTup (lCons (dTup (lCons (d2 DL.gSub (hV (d2 gIx (hS 9) (hV (dC (.int 0))))) (hV (dC (.int 1)))) (lCons (d2 gIx (hS 9) (hV (dC (.int 1)))) (lCons (d2 gIx (hS 9) (hV (dC (.int 2)))) (lNil))))) (lNil)))))) (hV (dSl (hS 5) (oI (d2 gAdd (hS 8) (hV (dC (.int 1))))) (oNo))))) (sIf (bD (d2 gNe (hV (dCall 2 r_send_paper (aCons (dV 3) (aCons (dV 10) (aNil))))) (hV (dTup (lCons (dC (.str ("short" : Str))) (lCons (dV 8) (lNil))))))) (sRet (dC (.bool false))) (sNo))) (sNo)))) (sNo)))))))))) (sRet (dC (.bool true)))
def lawSays (ns : List Int) : Prop := g_law ⟨fun _ => False, fun d _ => d = .bool true, fun _ => False, fun _ => False⟩ [.im (.list (ns.map PyData.int)), .ora 0, .no, .no, .no, .no, .no, .no, .no, .no, .no]
end Q84
namespace Q84
open PySem L2 DL
def topS (i : Nat) : Stmt := PySem.Challenge.pw_captionhouse_k84_whole_cues_put_off.main.body.getD i (.Pass ⟨0, 0, 0, 0⟩)
structure Tx (K : PySem.W.Frag) (gl : Str → Option Value) : Prop where
  n_all : gl "all" = none
  n_bool : gl "bool" = none
  n_enumerate : gl "enumerate" = none
  n_int : gl "int" = none
  n_isinstance : gl "isinstance" = none
  n_len : gl "len" = none
  n_list : gl "list" = none
  n_min : gl "min" = none
  n_ord : gl "ord" = none
  n_range : gl "range" = none
  n_repr : gl "repr" = none
  n_str : gl "str" = none
  n_tuple : gl "tuple" = none
  c_LAST_FRAME : ∃ t, gl "LAST_FRAME" = some (.int 1999 t)
  c_LOWEST_OF_LINES : ∃ t, gl "LOWEST_OF_LINES" = some (.int 32 t)
  c_MOST_COLUMNS : ∃ t, gl "MOST_COLUMNS" = some (.int 40 t)
  c_MOST_LINES : ∃ t, gl "MOST_LINES" = some (.int 4 t)
  c_MOST_ROWS : ∃ t, gl "MOST_ROWS" = some (.int 4 t)
  c_MOST_SENDABLE : ∃ t, gl "MOST_SENDABLE" = some (.int 200 t)
  c_MOST_SIGNS : ∃ t, gl "MOST_SIGNS" = some (.int 40 t)
  c_PERCENT : ∃ t, gl "PERCENT" = some (.int 37 t)
  c_TILDE : ∃ t, gl "TILDE" = some (.int 126 t)
section
variable {pr : Program} {wd : PySem.World} {K : PySem.W.Frag} {gl : Str → Option Value} {bas : Heap} {R : Orc}
abbrev st_is_integer : Stmt := topS 4
def names_is_integer : List Str := ["thing"]
theorem sc_is_integer : FnScope names_is_integer ["thing"] (defScope st_is_integer) := ⟨rfl, rfl, rfl, by decide +kernel, rfl, by decide +kernel, by decide +kernel⟩
theorem ok_is_integer {fa : Addr} {fd : FuncData} (T : Tx K gl) (F : L2.Fun K "is_integer" "is_integer" st_is_integer fa fd) : FnG pr wd K gl bas 1 fa fd ["thing"] (spD K R 1 r_is_integer) := by
  have sc := sc_is_integer
  refine FnG.data (g := g_is_integer) F sc rfl fun cdv A out sh H E q F hg hr => ?_
  exact (ds_one (dp_ret (de_and (de_isi rfl rfl T.n_isinstance rfl T.n_int (by decide +kernel) (dh_v (pv 0))) (pe_one (de_not (de_isi rfl rfl T.n_isinstance rfl T.n_bool (by decide +kernel) (dh_v (pv 0))))))))
abbrev st_is_within : Stmt := topS 5
def names_is_within : List Str := ["thing", "least", "most"]
theorem sc_is_within : FnScope names_is_within ["thing", "least", "most"] (defScope st_is_within) := ⟨rfl, rfl, rfl, by decide +kernel, rfl, by decide +kernel, by decide +kernel⟩
theorem ok_is_within {fa : Addr} {fd : FuncData} (T : Tx K gl) (F : L2.Fun K "is_within" "is_within" st_is_within fa fd) (C_is_integer : Cd pr wd K gl bas R 1 "is_integer" 1 r_is_integer) : FnG pr wd K gl bas 2 fa fd ["thing", "least", "most"] (spD K R 3 r_is_within) := by
  have sc := sc_is_within
  refine FnG.data (g := g_is_within) F sc rfl fun cdv A out sh H E q F hg hr => ?_
  exact (ds_one (dp_ret (de_and (de_cd (C_is_integer.more (by decide)) rfl hg hr rfl (da_cons (de_v (pv 0)) da_nil)) (pe_one (de_chain (sem_le) (sem_le) (dh_v (pv 1)) (dh_v (pv 0)) (dh_v (pv 2)) rfl)))))
abbrev st_is_tuple : Stmt := topS 6
def names_is_tuple : List Str := ["thing", "least", "most"]
theorem sc_is_tuple : FnScope names_is_tuple ["thing", "least", "most"] (defScope st_is_tuple) := ⟨rfl, rfl, rfl, by decide +kernel, rfl, by decide +kernel, by decide +kernel⟩
theorem ok_is_tuple {fa : Addr} {fd : FuncData} (T : Tx K gl) (F : L2.Fun K "is_tuple" "is_tuple" st_is_tuple fa fd) : FnG pr wd K gl bas 1 fa fd ["thing", "least", "most"] (spD K R 3 r_is_tuple) := by
  have sc := sc_is_tuple
  refine FnG.data (g := g_is_tuple) F sc rfl fun cdv A out sh H E q F hg hr => ?_
  exact (ds_one (dp_ret (de_and (de_isi rfl rfl T.n_isinstance rfl T.n_tuple (by decide +kernel) (dh_v (pv 0))) (pe_one (de_chain (sem_le) (sem_le) (dh_v (pv 1)) (dh_of (de_cb (sem_len rfl) rfl T.n_len (by decide +kernel) (dg_cons (dh_v (pv 0)) dg_nil))) (dh_v (pv 2)) rfl)))))
abbrev st_is_sign : Stmt := topS 7
def names_is_sign : List Str := ["sign", "lowest"]
theorem sc_is_sign : FnScope names_is_sign ["sign", "lowest"] (defScope st_is_sign) := ⟨rfl, rfl, rfl, by decide +kernel, rfl, by decide +kernel, by decide +kernel⟩
theorem ok_is_sign {fa : Addr} {fd : FuncData} (T : Tx K gl) (F : L2.Fun K "is_sign" "is_sign" st_is_sign fa fd) : FnG pr wd K gl bas 1 fa fd ["sign", "lowest"] (spD K R 2 r_is_sign) := by
  have sc := sc_is_sign
  refine FnG.data (g := g_is_sign) F sc rfl fun cdv A out sh H E q F hg hr => ?_
  exact (ds_one (dp_ret (de_and (de_chain (sem_le) (sem_le) (dh_v (pv 1)) (dh_of (de_cb (sem_ord) rfl T.n_ord (by decide +kernel) (dg_cons (dh_v (pv 0)) dg_nil))) (dh_of (de_gint rfl T.c_TILDE)) rfl) (pe_one (de_cmp (sem_ne rfl (hu64 hr)) (dh_of (de_cb (sem_ord) rfl T.n_ord (by decide +kernel) (dg_cons (dh_v (pv 0)) dg_nil))) (dh_of (de_gint rfl T.c_PERCENT)) (nomark _))))))
abbrev st_has_signs : Stmt := topS 8
def names_has_signs : List Str := ["thing", "lowest", "sign"]
theorem sc_has_signs : FnScope names_has_signs ["thing", "lowest"] (defScope st_has_signs) := ⟨rfl, rfl, rfl, by decide +kernel, rfl, by decide +kernel, by decide +kernel⟩
theorem ok_has_signs {fa : Addr} {fd : FuncData} (T : Tx K gl) (F : L2.Fun K "has_signs" "has_signs" st_has_signs fa fd) (C_is_sign : Cd pr wd K gl bas R 1 "is_sign" 2 r_is_sign) : FnG pr wd K gl bas 2 fa fd ["thing", "lowest"] (spD K R 2 r_has_signs) := by
  have sc := sc_has_signs
  refine FnG.data (g := g_has_signs) F sc rfl fun cdv A out sh H E q F hg hr => ?_
  exact (ds_cons (dp_if (PW.pt (dw_or (dt_not (dt_truth rfl (dh_of (de_isi rfl rfl T.n_isinstance rfl T.n_str (by decide +kernel) (dh_v (pv 0)))))) (pw_or1 (dt_not (dt_chain (sem_le) (sem_le) (dh_of de_int) (dh_of (de_cb (sem_len rfl) rfl T.n_len (by decide +kernel) (dg_cons (dh_v (pv 0)) dg_nil))) (dh_of (de_gint rfl T.c_MOST_SIGNS)) rfl))))) (ds_one (dp_ret de_bl)) ds_nil)
    (ds_one (dp_ret (de_cb (sem_all rfl rfl) rfl T.n_all (by decide +kernel) (dg_cons (dh_of (de_n (dn_lc (own := [("sign", 2)]) rfl sc.nd (di_seq rfl (de_v (pv 0))) (blkOk_by (own := [("sign", 2)]) (N := names_has_signs) (sc := defScope st_has_signs) (by decide +kernel)) (by decide) (fun _ _ _ _ _ => (dg_name sc.nd (i := 2) rfl (by first | exact Or.inl rfl | exact Or.inr rfl))) (fun _ _ _ _ _ => dts_nil) (fun _ _ _ _ _ => (de_cd (C_is_sign.more (by decide)) rfl hg hr rfl (da_cons (de_v (pv 2)) (da_cons (de_v (pv 1)) da_nil))))))) dg_nil)))))
abbrev st_need_screen : Stmt := topS 15
def names_need_screen : List Str := ["screen"]
theorem sc_need_screen : FnScope names_need_screen ["screen"] (defScope st_need_screen) := ⟨rfl, rfl, rfl, by decide +kernel, rfl, by decide +kernel, by decide +kernel⟩
theorem ok_need_screen {fa : Addr} {fd : FuncData} (T : Tx K gl) (F : L2.Fun K "need_screen" "need_screen" st_need_screen fa fd) (C_is_tuple : Cd pr wd K gl bas R 1 "is_tuple" 3 r_is_tuple) (C_is_within : Cd pr wd K gl bas R 2 "is_within" 3 r_is_within) : FnG pr wd K gl bas 3 fa fd ["screen"] (spD K R 1 r_need_screen) := by
  have sc := sc_need_screen
  refine FnG.data (g := g_need_screen) F sc rfl fun cdv A out sh H E q F hg hr => ?_
  exact (ds_cons (dp_if (dt_not (PW.pt (dw_and (dt_truth rfl (dh_of (de_cd (C_is_tuple.more (by decide)) rfl hg hr rfl (da_cons (de_v (pv 0)) (da_cons de_int (da_cons de_int da_nil)))))) (dw_and (dt_truth rfl (dh_of (de_cd (C_is_within.more (by decide)) rfl hg hr rfl (da_cons (de_ix rfl (dh_v (pv 0)) (dh_of de_int) (fun _ _ => rfl)) (da_cons de_int (da_cons (de_gint rfl T.c_MOST_ROWS) da_nil)))))) (pw_and1 (dt_truth rfl (dh_of (de_cd (C_is_within.more (by decide)) rfl hg hr rfl (da_cons (de_ix rfl (dh_v (pv 0)) (dh_of de_int) (fun _ _ => rfl)) (da_cons de_int (da_cons (de_gint rfl T.c_MOST_COLUMNS) da_nil))))))))))) ds_never ds_nil)
    (ds_one (dp_ret (de_v (pv 0)))))
abbrev st__is_line : Stmt := topS 20
def names__is_line : List Str := ["thing"]
theorem sc__is_line : FnScope names__is_line ["thing"] (defScope st__is_line) := ⟨rfl, rfl, rfl, by decide +kernel, rfl, by decide +kernel, by decide +kernel⟩
theorem ok__is_line {fa : Addr} {fd : FuncData} (T : Tx K gl) (F : L2.Fun K "_is_line" "_is_line" st__is_line fa fd) (C_has_signs : Cd pr wd K gl bas R 2 "has_signs" 2 r_has_signs) : FnG pr wd K gl bas 3 fa fd ["thing"] (spD K R 1 r__is_line) := by
  have sc := sc__is_line
  refine FnG.data (g := g__is_line) F sc rfl fun cdv A out sh H E q F hg hr => ?_
  exact (ds_one (dp_ret (de_and (de_cd (C_has_signs.more (by decide)) rfl hg hr rfl (da_cons (de_v (pv 0)) (da_cons (de_gint rfl T.c_LOWEST_OF_LINES) da_nil))) (de_and (de_cmp (sem_ne rfl (hu64 hr)) (dh_of (de_ix rfl (dh_v (pv 0)) (dh_of de_int) (fun _ _ => rfl))) (dh_of de_str) (nomark _)) (pe_one (de_cmp (sem_ne rfl (hu64 hr)) (dh_of (de_ix rfl (dh_v (pv 0)) (dh_of (de_neg de_int)) (fun _ _ => rfl))) (dh_of de_str) (nomark _)))))))
abbrev st_is_text : Stmt := topS 19
def names_is_text : List Str := ["thing", "line"]
theorem sc_is_text : FnScope names_is_text ["thing"] (defScope st_is_text) := ⟨rfl, rfl, rfl, by decide +kernel, rfl, by decide +kernel, by decide +kernel⟩
theorem ok_is_text {fa : Addr} {fd : FuncData} (T : Tx K gl) (F : L2.Fun K "is_text" "is_text" st_is_text fa fd) (C_is_tuple : Cd pr wd K gl bas R 1 "is_tuple" 3 r_is_tuple) (C__is_line : Cd pr wd K gl bas R 3 "_is_line" 1 r__is_line) : FnG pr wd K gl bas 4 fa fd ["thing"] (spD K R 1 r_is_text) := by
  have sc := sc_is_text
  refine FnG.data (g := g_is_text) F sc rfl fun cdv A out sh H E q F hg hr => ?_
  exact (ds_one (dp_ret (de_and (de_cd (C_is_tuple.more (by decide)) rfl hg hr rfl (da_cons (de_v (pv 0)) (da_cons de_int (da_cons (de_gint rfl T.c_MOST_LINES) da_nil)))) (pe_one (de_cb (sem_all rfl rfl) rfl T.n_all (by decide +kernel) (dg_cons (dh_of (de_n (dn_lc (own := [("line", 1)]) rfl sc.nd (di_seq rfl (de_v (pv 0))) (blkOk_by (own := [("line", 1)]) (N := names_is_text) (sc := defScope st_is_text) (by decide +kernel)) (by decide) (fun _ _ _ _ _ => (dg_name sc.nd (i := 1) rfl (by first | exact Or.inl rfl | exact Or.inr rfl))) (fun _ _ _ _ _ => dts_nil) (fun _ _ _ _ _ => (de_cd (C__is_line.more (by decide)) rfl hg hr rfl (da_cons (de_v (pv 1)) da_nil)))))) dg_nil))))))
abbrev st__has_room : Stmt := topS 28
def names__has_room : List Str := ["screen", "thing", "rows", "columns", "line"]
theorem sc__has_room : FnScope names__has_room ["screen", "thing"] (defScope st__has_room) := ⟨rfl, rfl, rfl, by decide +kernel, rfl, by decide +kernel, by decide +kernel⟩
theorem ok__has_room {fa : Addr} {fd : FuncData} (T : Tx K gl) (F : L2.Fun K "_has_room" "_has_room" st__has_room fa fd) (C_is_text : Cd pr wd K gl bas R 4 "is_text" 1 r_is_text) : FnG pr wd K gl bas 5 fa fd ["screen", "thing"] (spD K R 2 r__has_room) := by
  have sc := sc__has_room
  refine FnG.data (g := g__has_room) F sc rfl fun cdv A out sh H E q F hg hr => ?_
  exact (ds_cons (dp_asg (de_v (pv 0)) (dg_tup rfl rfl (dgs_cons (dg_name sc.nd (i := 2) rfl (by first | exact Or.inl rfl | exact Or.inr rfl)) (dgs_cons (dg_name sc.nd (i := 3) rfl (by first | exact Or.inl rfl | exact Or.inr rfl)) dgs_nil))))
    (ds_one (dp_ret (de_and (de_cd (C_is_text.more (by decide)) rfl hg hr rfl (da_cons (de_v (pv 1)) da_nil)) (de_and (de_cmp (sem_le) (dh_of (de_cb (sem_len rfl) rfl T.n_len (by decide +kernel) (dg_cons (dh_v (pv 1)) dg_nil))) (dh_v (pv 2)) (nomark _)) (pe_one (de_cb (sem_all rfl rfl) rfl T.n_all (by decide +kernel) (dg_cons (dh_of (de_n (dn_lc (own := [("line", 4)]) rfl sc.nd (di_seq rfl (de_v (pv 1))) (blkOk_by (own := [("line", 4)]) (N := names__has_room) (sc := defScope st__has_room) (by decide +kernel)) (by decide) (fun _ _ _ _ _ => (dg_name sc.nd (i := 4) rfl (by first | exact Or.inl rfl | exact Or.inr rfl))) (fun _ _ _ _ _ => dts_nil) (fun _ _ _ _ _ => (de_cmp (sem_le) (dh_of (de_cb (sem_len rfl) rfl T.n_len (by decide +kernel) (dg_cons (dh_v (pv 4)) dg_nil))) (dh_v (pv 3)) (nomark _)))))) dg_nil))))))))
abbrev st__is_sendable : Stmt := topS 27
def names__is_sendable : List Str := ["screen", "thing"]
theorem sc__is_sendable : FnScope names__is_sendable ["screen", "thing"] (defScope st__is_sendable) := ⟨rfl, rfl, rfl, by decide +kernel, rfl, by decide +kernel, by decide +kernel⟩
theorem ok__is_sendable {fa : Addr} {fd : FuncData} (T : Tx K gl) (F : L2.Fun K "_is_sendable" "_is_sendable" st__is_sendable fa fd) (C_is_tuple : Cd pr wd K gl bas R 1 "is_tuple" 3 r_is_tuple) (C_is_within : Cd pr wd K gl bas R 2 "is_within" 3 r_is_within) (C__has_room : Cd pr wd K gl bas R 5 "_has_room" 2 r__has_room) : FnG pr wd K gl bas 6 fa fd ["screen", "thing"] (spD K R 2 r__is_sendable) := by
  have sc := sc__is_sendable
  refine FnG.data (g := g__is_sendable) F sc rfl fun cdv A out sh H E q F hg hr => ?_
  exact (ds_cons (dp_if (PW.pt (dw_or (dt_not (dt_truth rfl (dh_of (de_cd (C_is_tuple.more (by decide)) rfl hg hr rfl (da_cons (de_v (pv 1)) (da_cons de_int (da_cons de_int da_nil))))))) (pw_or1 (dt_not (dt_truth rfl (dh_of (de_cd (C_is_within.more (by decide)) rfl hg hr rfl (da_cons (de_ix rfl (dh_v (pv 1)) (dh_of de_int) (fun _ _ => rfl)) (da_cons de_int (da_cons (de_gint rfl T.c_LAST_FRAME) da_nil)))))))))) (ds_one (dp_ret de_bl)) ds_nil)
    (ds_one (dp_ret (de_and (de_cd (C_is_within.more (by decide)) rfl hg hr rfl (da_cons (de_ix rfl (dh_v (pv 1)) (dh_of de_int) (fun _ _ => rfl)) (da_cons (de_bin (sem_add rfl) (dh_of (de_ix rfl (dh_v (pv 1)) (dh_of de_int) (fun _ _ => rfl))) (dh_of de_int)) (da_cons (de_gint rfl T.c_LAST_FRAME) da_nil)))) (pe_one (de_cd (C__has_room.more (by decide)) rfl hg hr rfl (da_cons (de_v (pv 0)) (da_cons (de_ix rfl (dh_v (pv 1)) (dh_of de_int) (fun _ _ => rfl)) da_nil))))))))
abbrev st__need_cues : Stmt := topS 26
def names__need_cues : List Str := ["screen", "cues", "free", "number", "cue"]
theorem sc__need_cues : FnScope names__need_cues ["screen", "cues"] (defScope st__need_cues) := ⟨rfl, rfl, rfl, by decide +kernel, rfl, by decide +kernel, by decide +kernel⟩
theorem ok__need_cues {fa : Addr} {fd : FuncData} (T : Tx K gl) (F : L2.Fun K "_need_cues" "_need_cues" st__need_cues fa fd) (C_need_screen : Cd pr wd K gl bas R 3 "need_screen" 1 r_need_screen) (C_is_tuple : Cd pr wd K gl bas R 1 "is_tuple" 3 r_is_tuple) (C__is_sendable : Cd pr wd K gl bas R 6 "_is_sendable" 2 r__is_sendable) : FnG pr wd K gl bas 7 fa fd ["screen", "cues"] (spD K R 2 r__need_cues) := by
  have sc := sc__need_cues
  refine FnG.data (g := g__need_cues) F sc rfl fun cdv A out sh H E q F hg hr => ?_
  exact (ds_cons (dp_expr (de_cd (C_need_screen.more (by decide)) rfl hg hr rfl (da_cons (de_v (pv 0)) da_nil)))
    (ds_cons (dp_if (dt_not (dt_truth rfl (dh_of (de_cd (C_is_tuple.more (by decide)) rfl hg hr rfl (da_cons (de_v (pv 1)) (da_cons de_int (da_cons (de_gint rfl T.c_MOST_SENDABLE) da_nil))))))) ds_never ds_nil)
    (ds_cons (dp_set sc.nd (i := 2) rfl (by first | exact Or.inl rfl | exact Or.inr rfl) de_int)
    (ds_one (dp_for PassesOwn.never rfl (di_enum rfl rfl T.n_enumerate (dl_cons (de_v (pv 1)) dl_nil)) (dg_tup rfl rfl (dgs_cons (dg_name sc.nd (i := 3) rfl (by first | exact Or.inl rfl | exact Or.inr rfl)) (dgs_cons (dg_name sc.nd (i := 4) rfl (by first | exact Or.inl rfl | exact Or.inr rfl)) dgs_nil))) (ds_cons (dp_if (PW.pt (dw_or (dt_not (dt_truth rfl (dh_of (de_cd (C__is_sendable.more (by decide)) rfl hg hr rfl (da_cons (de_v (pv 0)) (da_cons (de_v (pv 4)) da_nil)))))) (pw_or1 (dt_cmp (sem_lt) (dh_of (de_ix rfl (dh_v (pv 4)) (dh_of de_int) (fun _ _ => rfl))) (dh_v (pv 2)) (nomark _))))) ds_never ds_nil)
    (ds_one (dp_set sc.nd (i := 2) rfl (by first | exact Or.inl rfl | exact Or.inr rfl) (de_ix rfl (dh_v (pv 4)) (dh_of de_int) (fun _ _ => rfl))))))))))
abbrev st__free_frames : Stmt := topS 30
def names__free_frames : List Str := ["ahead", "start", "between"]
theorem sc__free_frames : FnScope names__free_frames ["ahead", "start"] (defScope st__free_frames) := ⟨rfl, rfl, rfl, by decide +kernel, rfl, by decide +kernel, by decide +kernel⟩
theorem ok__free_frames {fa : Addr} {fd : FuncData} (T : Tx K gl) (F : L2.Fun K "_free_frames" "_free_frames" st__free_frames fa fd) : FnG pr wd K gl bas 1 fa fd ["ahead", "start"] (spD K R 2 r__free_frames) := by
  have sc := sc__free_frames
  refine FnG.data (g := g__free_frames) F sc rfl fun cdv A out sh H E q F hg hr => ?_
  exact (ds_cons (dp_if (dt_cmp (sem_is) (dh_v (pv 0)) (dh_of de_non) (nomark _)) (ds_one (dp_ret (de_v (pv 1)))) ds_nil)
    (ds_cons (dp_set sc.nd (i := 2) rfl (by first | exact Or.inl rfl | exact Or.inr rfl) (de_bin (sem_sub) (dh_of (de_bin (sem_sub) (dh_v (pv 1)) (dh_of (de_ix rfl (dh_v (pv 0)) (dh_of de_int) (fun _ _ => rfl))))) (dh_of de_int)))
    (ds_cons (dp_if (dt_cmp (sem_lt) (dh_of (de_ix rfl (dh_v (pv 0)) (dh_of de_int) (fun _ _ => rfl))) (dh_v (pv 1)) (nomark _)) (ds_one (dp_ret (de_bin (sem_sub) (dh_v (pv 2)) (dh_of de_int)))) ds_nil)
    (ds_one (dp_ret (de_v (pv 2)))))))
abbrev st__load_of : Stmt := topS 29
def names__load_of : List Str := ["text", "codes", "row", "line", "sign"]
theorem sc__load_of : FnScope names__load_of ["text"] (defScope st__load_of) := ⟨rfl, rfl, rfl, by decide +kernel, rfl, by decide +kernel, by decide +kernel⟩
theorem ok__load_of {fa : Addr} {fd : FuncData} (T : Tx K gl) (F : L2.Fun K "_load_of" "_load_of" st__load_of fa fd) : FnG pr wd K gl bas 1 fa fd ["text"] (spD K R 1 r__load_of) := by
  have sc := sc__load_of
  refine FnG.data (g := g__load_of) F sc rfl fun cdv A out sh H E q F hg hr => ?_
  exact (ds_cons (dp_setN sc.nd (i := 1) rfl (by first | exact Or.inl rfl | exact Or.inr rfl) (dn_lst (dl_cons (de_tup (dl_cons de_str dl_nil)) (dl_cons (de_tup (dl_cons de_str dl_nil)) dl_nil))))
    (ds_cons (dp_for PassesOwn.never rfl (di_enum rfl rfl T.n_enumerate (dl_cons (de_v (pv 0)) dl_nil)) (dg_tup rfl rfl (dgs_cons (dg_name sc.nd (i := 2) rfl (by first | exact Or.inl rfl | exact Or.inr rfl)) (dgs_cons (dg_name sc.nd (i := 3) rfl (by first | exact Or.inl rfl | exact Or.inr rfl)) dgs_nil))) (ds_cons (dp_app rfl (pv 1) (de_tup (dl_cons de_str (dl_cons (de_v (pv 2)) (dl_cons de_int dl_nil)))))
    (ds_one (dp_ext (pv 1) (dn_lc (own := [("sign", 4)]) rfl sc.nd (di_seq rfl (de_v (pv 3))) (blkOk_by (own := [("sign", 4)]) (N := names__load_of) (sc := defScope st__load_of) (by decide +kernel)) (by decide) (fun _ _ _ _ _ => (dg_name sc.nd (i := 4) rfl (by first | exact Or.inl rfl | exact Or.inr rfl))) (fun _ _ _ _ _ => dts_nil) (fun _ _ _ _ _ => (de_tup (dl_cons de_str (dl_cons (de_v (pv 4)) dl_nil)))))))))
    (ds_one (dp_ret (de_ct (sem_tuple rfl) rfl T.n_tuple (by decide +kernel) (dg_cons (dh_v (pv 1)) dg_nil))))))
abbrev st__first_short : Stmt := topS 31
def names__first_short : List Str := ["cues", "ahead", "number", "cue"]
theorem sc__first_short : FnScope names__first_short ["cues"] (defScope st__first_short) := ⟨rfl, rfl, rfl, by decide +kernel, rfl, by decide +kernel, by decide +kernel⟩
theorem ok__first_short {fa : Addr} {fd : FuncData} (T : Tx K gl) (F : L2.Fun K "_first_short" "_first_short" st__first_short fa fd) (C__free_frames : Cd pr wd K gl bas R 1 "_free_frames" 2 r__free_frames) (C__load_of : Cd pr wd K gl bas R 1 "_load_of" 1 r__load_of) : FnG pr wd K gl bas 2 fa fd ["cues"] (spD K R 1 r__first_short) := by
  have sc := sc__first_short
  refine FnG.data (g := g__first_short) F sc rfl fun cdv A out sh H E q F hg hr => ?_
  exact (ds_cons (dp_set sc.nd (i := 1) rfl (by first | exact Or.inl rfl | exact Or.inr rfl) de_non)
    (ds_cons (dp_for PassesOwn.never rfl (di_enum rfl rfl T.n_enumerate (dl_cons (de_v (pv 0)) dl_nil)) (dg_tup rfl rfl (dgs_cons (dg_name sc.nd (i := 2) rfl (by first | exact Or.inl rfl | exact Or.inr rfl)) (dgs_cons (dg_name sc.nd (i := 3) rfl (by first | exact Or.inl rfl | exact Or.inr rfl)) dgs_nil))) (ds_cons (dp_if (dt_cmp (sem_lt) (dh_of (de_cd (C__free_frames.more (by decide)) rfl hg hr rfl (da_cons (de_v (pv 1)) (da_cons (de_ix rfl (dh_v (pv 3)) (dh_of de_int) (fun _ _ => rfl)) da_nil)))) (dh_of (de_cb (sem_len rfl) rfl T.n_len (by decide +kernel) (dg_cons (dh_of (de_cd (C__load_of.more (by decide)) rfl hg hr rfl (da_cons (de_ix rfl (dh_v (pv 3)) (dh_of de_int) (fun _ _ => rfl)) da_nil))) dg_nil))) (nomark _)) (ds_one (dp_ret (de_v (pv 2)))) ds_nil)
    (ds_one (dp_set sc.nd (i := 1) rfl (by first | exact Or.inl rfl | exact Or.inr rfl) (de_v (pv 3))))))
    (ds_one (dp_ret de_non))))
abbrev st__stream_of : Stmt := topS 32
def names__stream_of : List Str := ["cues", "codes", "start", "end", "_", "text", "left", "frame", "code"]
theorem sc__stream_of : FnScope names__stream_of ["cues"] (defScope st__stream_of) := ⟨rfl, rfl, rfl, by decide +kernel, rfl, by decide +kernel, by decide +kernel⟩
theorem ok__stream_of {fa : Addr} {fd : FuncData} (T : Tx K gl) (F : L2.Fun K "_stream_of" "_stream_of" st__stream_of fa fd) (C__load_of : Cd pr wd K gl bas R 1 "_load_of" 1 r__load_of) : FnG pr wd K gl bas 2 fa fd ["cues"] (spD K R 1 r__stream_of) := by
  have sc := sc__stream_of
  refine FnG.data (g := g__stream_of) F sc rfl fun cdv A out sh H E q F hg hr => ?_
  exact (ds_cons (dp_if (dt_not (dt_truth rfl (dh_v (pv 0)))) (ds_one (dp_ret (de_tup dl_nil))) ds_nil)
    (ds_cons (dp_setN sc.nd (i := 1) rfl (by first | exact Or.inl rfl | exact Or.inr rfl) (dn_rep (dn_lst (dl_cons de_non dl_nil)) (de_bin (sem_add rfl) (dh_of (de_ix rfl (dh_of (de_ix rfl (dh_v (pv 0)) (dh_of (de_neg de_int)) (fun _ _ => rfl))) (dh_of de_int) (fun _ _ => rfl))) (dh_of de_int))))
    (ds_cons (dp_for PassesOwn.never rfl (di_seq rfl (de_v (pv 0))) (dg_tup rfl rfl (dgs_cons (dg_name sc.nd (i := 2) rfl (by first | exact Or.inl rfl | exact Or.inr rfl)) (dgs_cons (dg_name sc.nd (i := 3) rfl (by first | exact Or.inl rfl | exact Or.inr rfl)) (dgs_cons (dg_name sc.nd (i := 4) rfl (by first | exact Or.inl rfl | exact Or.inr rfl)) dgs_nil)))) (ds_cons (dp_put (pv 1) (de_v (pv 2)) (de_tup (dl_cons de_str dl_nil)))
    (ds_one (dp_put (pv 1) (de_v (pv 3)) (de_tup (dl_cons de_str dl_nil))))))
    (ds_cons (dp_for PassesOwn.never rfl (di_seq rfl (de_v (pv 0))) (dg_tup rfl rfl (dgs_cons (dg_name sc.nd (i := 2) rfl (by first | exact Or.inl rfl | exact Or.inr rfl)) (dgs_cons (dg_name sc.nd (i := 4) rfl (by first | exact Or.inl rfl | exact Or.inr rfl)) (dgs_cons (dg_name sc.nd (i := 5) rfl (by first | exact Or.inl rfl | exact Or.inr rfl)) dgs_nil)))) (ds_cons (dp_setN sc.nd (i := 6) rfl (by first | exact Or.inl rfl | exact Or.inr rfl) (dn_list rfl rfl T.n_list (dg_cons (dh_of (de_cd (C__load_of.more (by decide)) rfl hg hr rfl (da_cons (de_v (pv 5)) da_nil))) dg_nil)))
    (ds_cons (dp_set sc.nd (i := 7) rfl (by first | exact Or.inl rfl | exact Or.inr rfl) (de_bin (sem_sub) (dh_v (pv 2)) (dh_of de_int)))
    (ds_one (dp_while PassesOwn.never (dt_truth rfl (dh_v (pv 6))) (ds_cons (dp_if (dt_cmp (sem_is) (dh_of (de_ix rfl (dh_v (pv 1)) (dh_v (pv 7)) (fun _ _ => rfl))) (dh_of de_non) (nomark _)) (ds_one (dp_put (pv 1) (de_v (pv 7)) (de_pop (pv 6)))) ds_nil)
    (ds_one (dp_aug sc.nd (i := 7) rfl (by first | exact Or.inl rfl | exact Or.inr rfl) (dh_of de_int) sem_isub))))))))
    (ds_one (dp_ret (de_ct (sem_tuple rfl) rfl T.n_tuple (by decide +kernel) (dg_cons (dh_of (de_n (dn_lc (own := [("code", 8)]) rfl sc.nd (di_seq rfl (de_v (pv 1))) (blkOk_by (own := [("code", 8)]) (N := names__stream_of) (sc := defScope st__stream_of) (by decide +kernel)) (by decide) (fun _ _ _ _ _ => (dg_name sc.nd (i := 8) rfl (by first | exact Or.inl rfl | exact Or.inr rfl))) (fun _ _ _ _ _ => dts_nil) (fun _ _ _ _ _ => (de_if (dt_cmp (sem_is) (dh_v (pv 8)) (dh_of de_non) (nomark _)) (de_tup (dl_cons de_str dl_nil)) (de_v (pv 8))))))) dg_nil))))))))
abbrev st_send_paper : Stmt := topS 24
def names_send_paper : List Str := ["screen", "cues", "short"]
theorem sc_send_paper : FnScope names_send_paper ["screen", "cues"] (defScope st_send_paper) := ⟨rfl, rfl, rfl, by decide +kernel, rfl, by decide +kernel, by decide +kernel⟩
theorem ok_send_paper {fa : Addr} {fd : FuncData} (T : Tx K gl) (F : L2.Fun K "send_paper" "send_paper" st_send_paper fa fd) (C__need_cues : Cd pr wd K gl bas R 7 "_need_cues" 2 r__need_cues) (C__first_short : Cd pr wd K gl bas R 2 "_first_short" 1 r__first_short) (C__stream_of : Cd pr wd K gl bas R 2 "_stream_of" 1 r__stream_of) : FnG pr wd K gl bas 8 fa fd ["screen", "cues"] (spD K R 2 r_send_paper) := by
  have sc := sc_send_paper
  refine FnG.data (g := g_send_paper) F sc rfl fun cdv A out sh H E q F hg hr => ?_
  exact (ds_cons (dp_expr (de_cd (C__need_cues.more (by decide)) rfl hg hr rfl (da_cons (de_v (pv 0)) (da_cons (de_v (pv 1)) da_nil))))
    (ds_cons (dp_set sc.nd (i := 2) rfl (by first | exact Or.inl rfl | exact Or.inr rfl) (de_cd (C__first_short.more (by decide)) rfl hg hr rfl (da_cons (de_v (pv 1)) da_nil)))
    (ds_cons (dp_if (dt_cmp (sem_isnot) (dh_v (pv 2)) (dh_of de_non) (nomark _)) (ds_one (dp_ret (de_tup (dl_cons de_str (dl_cons (de_v (pv 2)) dl_nil))))) ds_nil)
    (ds_one (dp_ret (de_tup (dl_cons de_str (dl_cons (de_cd (C__stream_of.more (by decide)) rfl hg hr rfl (da_cons (de_v (pv 1)) da_nil)) dl_nil))))))))
abbrev st_put_off : Stmt := topS 25
def names_put_off : List Str := ["screen", "cues", "found", "ahead", "cue", "start"]
theorem sc_put_off : FnScope names_put_off ["screen", "cues"] (defScope st_put_off) := ⟨rfl, rfl, rfl, by decide +kernel, rfl, by decide +kernel, by decide +kernel⟩
theorem ok_put_off {fa : Addr} {fd : FuncData} (T : Tx K gl) (F : L2.Fun K "put_off" "put_off" st_put_off fa fd) (C__need_cues : Cd pr wd K gl bas R 7 "_need_cues" 2 r__need_cues) (C__free_frames : Cd pr wd K gl bas R 1 "_free_frames" 2 r__free_frames) (C__load_of : Cd pr wd K gl bas R 1 "_load_of" 1 r__load_of) : FnG pr wd K gl bas 8 fa fd ["screen", "cues"] (spD K R 2 r_put_off) := by
  have sc := sc_put_off
  refine FnG.data (g := g_put_off) F sc rfl fun cdv A out sh H E q F hg hr => ?_
  exact (ds_cons (dp_expr (de_cd (C__need_cues.more (by decide)) rfl hg hr rfl (da_cons (de_v (pv 0)) (da_cons (de_v (pv 1)) da_nil))))
    (ds_cons (dp_setN sc.nd (i := 2) rfl (by first | exact Or.inl rfl | exact Or.inr rfl) (dn_lst dl_nil))
    (ds_cons (dp_set sc.nd (i := 3) rfl (by first | exact Or.inl rfl | exact Or.inr rfl) de_non)
    (ds_cons (dp_for PassesOwn.never rfl (di_seq rfl (de_v (pv 1))) (dg_name sc.nd (i := 4) rfl (by first | exact Or.inl rfl | exact Or.inr rfl)) (ds_cons (dp_set sc.nd (i := 5) rfl (by first | exact Or.inl rfl | exact Or.inr rfl) (de_ix rfl (dh_v (pv 4)) (dh_of de_int) (fun _ _ => rfl)))
    (ds_cons (dp_while PassesOwn.never (PW.pt (dw_and (dt_cmp (sem_lt) (dh_v (pv 5)) (dh_of (de_ix rfl (dh_v (pv 4)) (dh_of de_int) (fun _ _ => rfl))) (nomark _)) (pw_and1 (dt_cmp (sem_lt) (dh_of (de_cd (C__free_frames.more (by decide)) rfl hg hr rfl (da_cons (de_v (pv 3)) (da_cons (de_v (pv 5)) da_nil)))) (dh_of (de_cb (sem_len rfl) rfl T.n_len (by decide +kernel) (dg_cons (dh_of (de_cd (C__load_of.more (by decide)) rfl hg hr rfl (da_cons (de_ix rfl (dh_v (pv 4)) (dh_of de_int) (fun _ _ => rfl)) da_nil))) dg_nil))) (nomark _))))) (ds_one (dp_aug sc.nd (i := 5) rfl (by first | exact Or.inl rfl | exact Or.inr rfl) (dh_of de_int) sem_iadd)))
    (ds_cons (dp_if (dt_cmp (sem_eq rfl (hu64 hr)) (dh_v (pv 5)) (dh_of (de_ix rfl (dh_v (pv 4)) (dh_of de_int) (fun _ _ => rfl))) (nomark _)) (ds_one (dp_ret de_non)) ds_nil)
    (ds_cons (dp_set sc.nd (i := 3) rfl (by first | exact Or.inl rfl | exact Or.inr rfl) (de_tup (dl_cons (de_v (pv 5)) (dl_cons (de_ix rfl (dh_v (pv 4)) (dh_of de_int) (fun _ _ => rfl)) (dl_cons (de_ix rfl (dh_v (pv 4)) (dh_of de_int) (fun _ _ => rfl)) dl_nil)))))
    (ds_one (dp_app rfl (pv 2) (de_v (pv 3)))))))))
    (ds_one (dp_ret (de_ct (sem_tuple rfl) rfl T.n_tuple (by decide +kernel) (dg_cons (dh_v (pv 2)) dg_nil))))))))
abbrev st__law_mix : Stmt := topS 34
def names__law_mix : List Str := ["_law_cell", "_law_spot", "_law_first", "_law_second"]
theorem sc__law_mix : FnScope names__law_mix ["_law_cell", "_law_spot"] (defScope st__law_mix) := ⟨rfl, rfl, rfl, by decide +kernel, rfl, by decide +kernel, by decide +kernel⟩
theorem ok__law_mix {fa : Addr} {fd : FuncData} (T : Tx K gl) (F : L2.Fun K "_law_mix" "_law_mix" st__law_mix fa fd) : FnG pr wd K gl bas 1 fa fd ["_law_cell", "_law_spot"] (spD K R 2 r__law_mix) := by
  have sc := sc__law_mix
  refine FnG.data (g := g__law_mix) F sc rfl fun cdv A out sh H E q F hg hr => ?_
  exact (ds_cons (dp_set sc.nd (i := 2) rfl (by first | exact Or.inl rfl | exact Or.inr rfl) (de_bin (sem_mod) (dh_of (de_ct (sem_int) rfl T.n_int (by decide +kernel) (dg_cons (dh_of (de_bin (sem_add rfl) (dh_of (de_bin (sem_add rfl) (dh_of (de_bin (sem_mul rfl) (dh_v (pv 0)) (dh_of de_int))) (dh_of (de_bin (sem_mul rfl) (dh_v (pv 1)) (dh_of de_int))))) (dh_of de_int))) dg_nil))) (dh_of de_int)))
    (ds_cons (dp_set sc.nd (i := 3) rfl (by first | exact Or.inl rfl | exact Or.inr rfl) (de_bin (sem_mod) (dh_of (de_ct (sem_int) rfl T.n_int (by decide +kernel) (dg_cons (dh_of (de_bin (sem_add rfl) (dh_of (de_bin (sem_add rfl) (dh_of (de_bin (sem_mul rfl) (dh_v (pv 2)) (dh_of de_int))) (dh_v (pv 0)))) (dh_v (pv 1)))) dg_nil))) (dh_of de_int)))
    (ds_one (dp_ret (de_bin (sem_mod) (dh_of (de_ct (sem_int) rfl T.n_int (by decide +kernel) (dg_cons (dh_of (de_bin (sem_add rfl) (dh_of (de_bin (sem_mul rfl) (dh_v (pv 3)) (dh_of de_int))) (dh_of (de_bin (sem_mul rfl) (dh_of (de_bin (sem_mul rfl) (dh_v (pv 1)) (dh_v (pv 1)))) (dh_of de_int))))) dg_nil))) (dh_of de_int))))))
abbrev st__law_cues : Stmt := topS 37
def names__law_cues : List Str := ["_law_m", "_law_rows", "_law_columns", "_law_many", "_law_k", "_law_found", "_law_spot", "_law_lines_so", "_law_again", "_law_touches", "_law_begin", "_law_line", "_law_n"]
theorem sc__law_cues : FnScope names__law_cues ["_law_m", "_law_rows", "_law_columns", "_law_many"] (defScope st__law_cues) := ⟨rfl, rfl, rfl, by decide +kernel, rfl, by decide +kernel, by decide +kernel⟩
theorem ok__law_cues {fa : Addr} {fd : FuncData} (T : Tx K gl) (F : L2.Fun K "_law_cues" "_law_cues" st__law_cues fa fd) (C__law_draw : Cd pr wd K gl bas R 2 "_law_draw" 2 s_next) : FnG pr wd K gl bas 3 fa fd ["_law_m", "_law_rows", "_law_columns", "_law_many"] (spD K R 4 r__law_cues) := by
  have sc := sc__law_cues
  refine FnG.data (g := g__law_cues) F sc rfl fun cdv A out sh H E q F hg hr => ?_
  exact (ds_cons (dp_parNI rfl sc.nd (i := 5) (j := 6) rfl rfl (by decide) rfl rfl (dn_lst dl_nil) de_int rfl)
    (ds_cons (dp_for PassesOwn.never rfl (di_range1 rfl T.n_range (dl_cons (de_v (pv 3)) dl_nil)) (dg_name sc.nd (i := 4) rfl (by first | exact Or.inl rfl | exact Or.inr rfl)) (ds_cons (dp_setN sc.nd (i := 7) rfl (by first | exact Or.inl rfl | exact Or.inr rfl) (dn_lst dl_nil))
    (ds_cons (dp_for PassesOwn.never rfl (di_range1 rfl T.n_range (dl_cons (de_bin (sem_add rfl) (dh_of de_int) (dh_of (de_cdO (i := 0) (C__law_draw.more (by decide)) rfl hg hr rfl (da_ora (pv 0) (da_cons (de_v (pv 1)) da_nil))))) dl_nil)) (dg_name sc.nd (i := 8) rfl (by first | exact Or.inl rfl | exact Or.inr rfl)) (ds_cons (dp_set sc.nd (i := 11) rfl (by first | exact Or.inl rfl | exact Or.inr rfl) (de_join rfl de_str (de_n (dn_lc (own := [("_law_n", 12)]) rfl sc.nd (di_range1 rfl T.n_range (dl_cons (de_bin (sem_add rfl) (dh_of de_int) (dh_of (de_cdO (i := 0) (C__law_draw.more (by decide)) rfl hg hr rfl (da_ora (pv 0) (da_cons (de_v (pv 2)) da_nil))))) dl_nil)) (blkOk_by (own := [("_law_n", 12)]) (N := names__law_cues) (sc := defScope st__law_cues) (by decide +kernel)) (by decide) (fun _ _ _ _ _ => (dg_name sc.nd (i := 12) rfl (by first | exact Or.inl rfl | exact Or.inr rfl))) (fun _ _ _ _ _ => dts_nil) (fun _ _ _ _ _ => (de_ix rfl (dh_of de_str) (dh_of (de_cdO (i := 0) (C__law_draw.more (by decide)) rfl hg hr rfl (da_ora (pv 0) (da_cons de_int da_nil)))) (fun _ _ => rfl)))))))
    (ds_one (dp_app rfl (pv 7) (de_v (pv 11))))))
    (ds_cons (dp_set sc.nd (i := 9) rfl (by first | exact Or.inl rfl | exact Or.inr rfl) (de_and (de_cmp (sem_ne rfl (hu64 hr)) (dh_v (pv 5)) (dh_of (de_n (dn_lst dl_nil))) (nomark _)) (pe_one (de_cmp (sem_eq rfl (hu64 hr)) (dh_of (de_cdO (i := 0) (C__law_draw.more (by decide)) rfl hg hr rfl (da_ora (pv 0) (da_cons de_int da_nil)))) (dh_of de_int) (nomark _)))))
    (ds_cons (dp_set sc.nd (i := 10) rfl (by first | exact Or.inl rfl | exact Or.inr rfl) (de_if (dt_truth rfl (dh_v (pv 9))) (de_v (pv 6)) (de_bin (sem_add rfl) (dh_of (de_bin (sem_add rfl) (dh_v (pv 6)) (dh_of de_int))) (dh_of (de_cdO (i := 0) (C__law_draw.more (by decide)) rfl hg hr rfl (da_ora (pv 0) (da_cons (de_bin (sem_add rfl) (dh_of de_int) (dh_of (de_bin (sem_mul rfl) (dh_of de_int) (dh_v (pv 2))))) da_nil)))))))
    (ds_cons (dp_set sc.nd (i := 6) rfl (by first | exact Or.inl rfl | exact Or.inr rfl) (de_bin (sem_add rfl) (dh_of (de_bin (sem_add rfl) (dh_v (pv 10)) (dh_of de_int))) (dh_of (de_cdO (i := 0) (C__law_draw.more (by decide)) rfl hg hr rfl (da_ora (pv 0) (da_cons (de_bin (sem_add rfl) (dh_of de_int) (dh_of (de_bin (sem_mul rfl) (dh_of de_int) (dh_v (pv 2))))) da_nil))))))
    (ds_one (dp_app rfl (pv 5) (de_tup (dl_cons (de_v (pv 10)) (dl_cons (de_v (pv 6)) (dl_cons (de_ct (sem_tuple rfl) rfl T.n_tuple (by decide +kernel) (dg_cons (dh_v (pv 7)) dg_nil)) dl_nil))))))))))))
    (ds_one (dp_ret (de_ct (sem_tuple rfl) rfl T.n_tuple (by decide +kernel) (dg_cons (dh_v (pv 5)) dg_nil))))))
abbrev st__law_load : Stmt := topS 38
def names__law_load : List Str := ["_law_text", "_law_found", "_law_row", "_law_line", "_law_sign"]
theorem sc__law_load : FnScope names__law_load ["_law_text"] (defScope st__law_load) := ⟨rfl, rfl, rfl, by decide +kernel, rfl, by decide +kernel, by decide +kernel⟩
theorem ok__law_load {fa : Addr} {fd : FuncData} (T : Tx K gl) (F : L2.Fun K "_law_load" "_law_load" st__law_load fa fd) : FnG pr wd K gl bas 1 fa fd ["_law_text"] (spD K R 1 r__law_load) := by
  have sc := sc__law_load
  refine FnG.data (g := g__law_load) F sc rfl fun cdv A out sh H E q F hg hr => ?_
  exact (ds_cons (dp_set sc.nd (i := 1) rfl (by first | exact Or.inl rfl | exact Or.inr rfl) (de_n (dn_lst (dl_cons (de_tup (dl_cons de_str dl_nil)) (dl_cons (de_tup (dl_cons de_str dl_nil)) dl_nil)))))
    (ds_cons (dp_for PassesOwn.never rfl (di_enum rfl rfl T.n_enumerate (dl_cons (de_v (pv 0)) dl_nil)) (dg_tup rfl rfl (dgs_cons (dg_name sc.nd (i := 2) rfl (by first | exact Or.inl rfl | exact Or.inr rfl)) (dgs_cons (dg_name sc.nd (i := 3) rfl (by first | exact Or.inl rfl | exact Or.inr rfl)) dgs_nil))) (ds_one (dp_set sc.nd (i := 1) rfl (by first | exact Or.inl rfl | exact Or.inr rfl) (de_bin (sem_add rfl) (dh_of (de_bin (sem_add rfl) (dh_v (pv 1)) (dh_of (de_n (dn_lst (dl_cons (de_tup (dl_cons de_str (dl_cons (de_v (pv 2)) (dl_cons de_int dl_nil)))) dl_nil)))))) (dh_of (de_n (dn_lc (own := [("_law_sign", 4)]) rfl sc.nd (di_seq rfl (de_v (pv 3))) (blkOk_by (own := [("_law_sign", 4)]) (N := names__law_load) (sc := defScope st__law_load) (by decide +kernel)) (by decide) (fun _ _ _ _ _ => (dg_name sc.nd (i := 4) rfl (by first | exact Or.inl rfl | exact Or.inr rfl))) (fun _ _ _ _ _ => dts_nil) (fun _ _ _ _ _ => (de_tup (dl_cons de_str (dl_cons (de_v (pv 4)) dl_nil)))))))))))
    (ds_one (dp_ret (de_v (pv 1))))))
abbrev st__law_room : Stmt := topS 39
def names__law_room : List Str := ["_law_cues_so", "_law_k", "_law_begin", "_law_ahead", "_law_wipes"]
theorem sc__law_room : FnScope names__law_room ["_law_cues_so", "_law_k", "_law_begin", "_law_ahead"] (defScope st__law_room) := ⟨rfl, rfl, rfl, by decide +kernel, rfl, by decide +kernel, by decide +kernel⟩
theorem ok__law_room {fa : Addr} {fd : FuncData} (T : Tx K gl) (F : L2.Fun K "_law_room" "_law_room" st__law_room fa fd) : FnG pr wd K gl bas 1 fa fd ["_law_cues_so", "_law_k", "_law_begin", "_law_ahead"] (spD K R 4 r__law_room) := by
  have sc := sc__law_room
  refine FnG.data (g := g__law_room) F sc rfl fun cdv A out sh H E q F hg hr => ?_
  exact (ds_cons (dp_if (dt_cmp (sem_eq rfl (hu64 hr)) (dh_v (pv 1)) (dh_of de_int) (nomark _)) (ds_one (dp_ret (de_v (pv 2)))) ds_nil)
    (ds_cons (dp_set sc.nd (i := 4) rfl (by first | exact Or.inl rfl | exact Or.inr rfl) (de_ct (sem_int) rfl T.n_int (by decide +kernel) (dg_cons (dh_of (de_cmp (sem_lt) (dh_of (de_ix rfl (dh_of (de_ix rfl (dh_v (pv 0)) (dh_of (de_bin (sem_sub) (dh_v (pv 1)) (dh_of de_int))) (fun _ _ => rfl))) (dh_of de_int) (fun _ _ => rfl))) (dh_v (pv 2)) (nomark _))) dg_nil)))
    (ds_one (dp_ret (de_bin (sem_sub) (dh_of (de_bin (sem_sub) (dh_of (de_bin (sem_sub) (dh_v (pv 2)) (dh_v (pv 3)))) (dh_of de_int))) (dh_v (pv 4)))))))
abbrev st__law_put_off : Stmt := topS 40
def names__law_put_off : List Str := ["_law_cues_so", "_law_found", "_law_ahead", "_law_k", "_law_cue", "_law_begin", "_law_need"]
theorem sc__law_put_off : FnScope names__law_put_off ["_law_cues_so"] (defScope st__law_put_off) := ⟨rfl, rfl, rfl, by decide +kernel, rfl, by decide +kernel, by decide +kernel⟩
theorem ok__law_put_off {fa : Addr} {fd : FuncData} (T : Tx K gl) (F : L2.Fun K "_law_put_off" "_law_put_off" st__law_put_off fa fd) (C__law_load : Cd pr wd K gl bas R 1 "_law_load" 1 r__law_load) (C__law_room : Cd pr wd K gl bas R 1 "_law_room" 4 r__law_room) : FnG pr wd K gl bas 2 fa fd ["_law_cues_so"] (spD K R 1 r__law_put_off) := by
  have sc := sc__law_put_off
  refine FnG.data (g := g__law_put_off) F sc rfl fun cdv A out sh H E q F hg hr => ?_
  exact (ds_cons (dp_parNI rfl sc.nd (i := 1) (j := 2) rfl rfl (by decide) rfl rfl (dn_lst dl_nil) de_int rfl)
    (ds_cons (dp_for PassesOwn.never rfl (di_enum rfl rfl T.n_enumerate (dl_cons (de_v (pv 0)) dl_nil)) (dg_tup rfl rfl (dgs_cons (dg_name sc.nd (i := 3) rfl (by first | exact Or.inl rfl | exact Or.inr rfl)) (dgs_cons (dg_name sc.nd (i := 4) rfl (by first | exact Or.inl rfl | exact Or.inr rfl)) dgs_nil))) (ds_cons (dp_par rfl sc.nd (i := 5) (j := 6) rfl rfl (by decide) rfl rfl (dl_cons (de_ix rfl (dh_v (pv 4)) (dh_of de_int) (fun _ _ => rfl)) (dl_cons (de_cb (sem_len rfl) rfl T.n_len (by decide +kernel) (dg_cons (dh_of (de_cd (C__law_load.more (by decide)) rfl hg hr rfl (da_cons (de_ix rfl (dh_v (pv 4)) (dh_of de_int) (fun _ _ => rfl)) da_nil))) dg_nil)) dl_nil)) rfl)
    (ds_cons (dp_while PassesOwn.never (PW.pt (dw_and (dt_cmp (sem_lt) (dh_v (pv 5)) (dh_of (de_ix rfl (dh_v (pv 4)) (dh_of de_int) (fun _ _ => rfl))) (nomark _)) (pw_and1 (dt_cmp (sem_lt) (dh_of (de_cd (C__law_room.more (by decide)) rfl hg hr rfl (da_cons (de_v (pv 0)) (da_cons (de_v (pv 3)) (da_cons (de_v (pv 5)) (da_cons (de_v (pv 2)) da_nil)))))) (dh_v (pv 6)) (nomark _))))) (ds_one (dp_set sc.nd (i := 5) rfl (by first | exact Or.inl rfl | exact Or.inr rfl) (de_bin (sem_add rfl) (dh_v (pv 5)) (dh_of de_int)))))
    (ds_cons (dp_if (dt_cmp (sem_eq rfl (hu64 hr)) (dh_v (pv 5)) (dh_of (de_ix rfl (dh_v (pv 4)) (dh_of de_int) (fun _ _ => rfl))) (nomark _)) (ds_one (dp_ret de_non)) ds_nil)
    (ds_cons (dp_app rfl (pv 1) (de_tup (dl_cons (de_v (pv 5)) (dl_cons (de_ix rfl (dh_v (pv 4)) (dh_of de_int) (fun _ _ => rfl)) (dl_cons (de_ix rfl (dh_v (pv 4)) (dh_of de_int) (fun _ _ => rfl)) dl_nil)))))
    (ds_one (dp_set sc.nd (i := 2) rfl (by first | exact Or.inl rfl | exact Or.inr rfl) (de_v (pv 5)))))))))
    (ds_one (dp_ret (de_ct (sem_tuple rfl) rfl T.n_tuple (by decide +kernel) (dg_cons (dh_v (pv 1)) dg_nil))))))
abbrev st__law_draw : Stmt := topS 36
def names__law_draw : List Str := ["_law_m", "_law_limit", "_law_spot", "_law_here", "_law_left"]
theorem sc__law_draw : FnScope names__law_draw ["_law_m", "_law_limit"] (defScope st__law_draw) := ⟨rfl, rfl, rfl, by decide +kernel, rfl, by decide +kernel, by decide +kernel⟩
theorem d_mix (c j : Int) (m : Nat) (P : D → Nat → Prop) (j0 : 0 ≤ j) (j1 : j < 2097152) (h : ∀ i : Int, P (.int i) 0) : r__law_mix [.d (.int c), .d (.int j)] m P := by
  have sj : -(2 ^ 64) < j ∧ j < 2 ^ 64 := ⟨by omega, by omega⟩
  refine ⟨trivial, .inr ⟨by decide, by decide⟩, trivial, .inr ⟨by decide, by decide⟩, by decide, ?_⟩
  refine ⟨trivial, .inr ⟨by decide, by decide⟩, trivial, trivial, by decide, ?_⟩
  refine ⟨trivial, .inr ⟨by decide, by decide⟩, trivial, trivial, .inl sj, .inr ⟨by decide, by decide⟩, by decide, hd_d, ?_⟩
  exact h _
theorem ok__law_draw {fa : Addr} {fd : FuncData} (T : Tx K gl) (F : L2.Fun K "_law_draw" "_law_draw" st__law_draw fa fd) (C : Cd pr wd K gl bas srcOrcB 1 "_law_mix" 2 r__law_mix) : FnG pr wd K gl bas 2 fa fd ["_law_m", "_law_limit"] (spD K srcOrcB 2 s_next) := by
  have nd := sc__law_draw.nd
  obtain ⟨fm, fdm, ps, Fm, gm, km, bm⟩ := C
  refine FnG.of F sc__law_draw (fun vs H Q E ⟨q, F0, as, m, P, w, pa, hl, _⟩ => by rw [paired_len pa, hl]; rfl) fun cdv A out sh H vs Q E hg hr ⟨qo, F0, as, m, P, w, pa, hl, ho, hq, hm, ⟨n, eas, n0, n1, m1, kP⟩, k0⟩ => ?_
  subst eas
  obtain ⟨v1, vs, rfl, a1, pa⟩ : ∃ v1 vs', vs = v1 :: vs' ∧ ArAt ⟨K, srcOrcB, qo, F0, H⟩ F0 v1 .ora ∧ Paired (ArAt ⟨K, srcOrcB, qo, F0, H⟩ F0) vs' [.d (.int n)] := by
    cases pa with
    | cons a b => (exact ⟨_, _, rfl, a, b⟩)
  obtain ⟨v2, rfl, a2⟩ : ∃ v2, vs = [v2] ∧ ArAt ⟨K, srcOrcB, qo, F0, H⟩ F0 v2 (.d (.int n)) := by
    cases pa with
    | cons a b => cases b; exact ⟨_, rfl, a⟩
  obtain ⟨q, eq, rfl⟩ := a1
  cases (show qo = some q from eq)
  have e2 : v2 = .int n := by
    have z : At K F0 v2 (.int n) := a2
    cases z
    rfl
  subst e2
  obtain ⟨c, l, cs, ls, k, s0⟩ := w.or q rfl
  have hk : k ≤ m := by have := hm q rfl; rw [s0.spot] at this; exact this
  refine ⟨_, pss_cons (ps_set (i := 2) nd rfl (Or.inl rfl) (pe_dget (hu_of hr) (pv 0) pe_str (fun _ _ => rfl)))
    (pss_cons (ps_dput (hu_of hr) (pv 0) pe_str (pe_op op_add (pv 2) pe_int) rfl)
    (pss_cons (ps_set (i := 3) nd rfl (Or.inl rfl) (pe_op op_mod (pe_callTy call_int1 rfl T.n_int (by decide +kernel) (pa_cons (pv 2) pa_nil)) (pe_callB call_len_seq rfl T.n_len (by decide +kernel) (pa_cons (pe_dget (hu_of hr) (pv 0) pe_str (fun _ _ => rfl)) pa_nil))))
    (pss_cons (ps_set (i := 4) nd rfl (Or.inl rfl) (pe_ix ix_list (pe_dget (hu_of hr) (pv 0) pe_str (fun _ _ => rfl)) (pv 3) (fun _ _ => rfl)))
    (pss_cons (ps_if (pt_cmpR op_gt (pv 4) pe_int (nomark _))
      (pss_cons (ps_asg (pe_op op_fdiv (pv 4) (pv 1)) (pg_sub (pe_dget (hu_of hr) (pv 0) pe_str (fun _ _ => rfl)) (pv 3) set_list))
        (pss_one (ps_ret (pe_op op_mod (pe_callTy call_int1 rfl T.n_int (by decide +kernel) (pa_cons (pv 4) pa_nil)) (pv 1))))) pss_nil)
    (pss_one (ps_ret (pe_op op_mod (pe_callTy call_int1 rfl T.n_int (by decide +kernel) (pa_cons (pe_op op_fdiv (pe_callG Fm hg (hr.mono (by decide)) rfl gm km bm (pa_cons (pe_ix ix_list (pe_dget (hu_of hr) (pv 0) pe_str (fun _ _ => rfl)) (pv 3) (fun _ _ => rfl)) (pa_cons (pv 2) pa_nil))) pe_int) pa_nil)) (pv 1)))))))), ?_⟩
  have fin : ∀ (r : Int) (H' : Hp) (l' : Addr) (ls' : List Int) (k' : Nat), 0 ≤ r → r < n → SrcB H' q c l' cs ls' k' → k' ≤ k + 1 → Tou q H H' → Q (.int r) H' := by
    intro r H' l' ls' k' r0 r1 s' hk' t'
    refine k0 (.int r) (m + 1) _ F0 H' (kP r r0 r1) (t'.worldB w ⟨_, _, _, _, _, s'⟩) (fun p e => ?_) (.int r)
    cases e
    rw [s'.spot]
    omega
  have modn : ∀ x : Int, 0 ≤ x % n ∧ x % n < n := fun x => ⟨Int.emod_nonneg x (by omega), Int.emod_lt_of_pos x n0⟩
  refine rdS s0.toSrcAt rfl ?_
  change L2.gName 2 (V.int (k : Int)) _ H _
  (refine ⟨_, rfl, _, _, rfl, rfl, ?_⟩)
  refine ⟨_, rfl, q, _, rfl, DPut.k (k := kS) s0.dq small3, ?_⟩
  have ek : (k : Int) + 1 = ((k + 1 : Nat) : Int) := by omega
  have s1 : SrcB (upd H q (.dK [(kC, .ref c), (kL, .ref l), (kS, .int ((k : Int) + 1))])) q c l cs ls (k + 1) := by
    rw [ek]
    exact ⟨s0.toSrcAt.setS (k + 1), s0.len, s0.nz⟩
  have t1 : Tou q H (upd H q (.dK [(kC, .ref c), (kL, .ref l), (kS, .int ((k : Int) + 1))])) := Tou.putQ s0.toSrcAt (.inl rfl) (fun _ z => by cases z)
  rw [put_kS]
  generalize upd H q (.dK [(kC, .ref c), (kL, .ref l), (kS, .int ((k : Int) + 1))]) = H1 at s1 t1 ⊢
  refine ⟨_, rfl, .inl ⟨_, rfl, ?_⟩⟩
  refine rdC s1.toSrcAt rfl ?_
  refine ⟨c, _, rfl, .inl (SqL.of s1.dc), ?_⟩
  have cl : 0 < cs.length := List.length_pos_iff.mpr s1.nz
  have k0' : (0 : Int) ≤ (k : Int) := by omega
  have kb : (k : Int) < 2097152 := by omega
  refine ⟨_, _, rfl, rfl, (by rw [List.length_map]; omega), ?_⟩
  have hj : ((k : Int) % (((cs.map V.int).length : Nat) : Int)) = ((k % cs.length : Nat) : Int) := by rw [List.length_map]; exact (Int.natCast_emod k cs.length).symm
  change L2.gName 3 (V.int ((k : Int) % (((cs.map V.int).length : Nat) : Int))) _ H1 _
  rw [hj]
  have jl : k % cs.length < cs.length := Nat.mod_lt _ cl
  generalize k % cs.length = j at jl ⊢
  refine rdL s1.toSrcAt rfl ?_
  have jl2 : j < ls.length := by rw [s1.len]; exact jl
  have el : atI (ls.map V.int) (j : Int) = some (V.int ls[j]) := by
    unfold atI ixN
    rw [if_pos (by omega), if_pos (by rw [List.length_map]; omega)]
    show (ls.map V.int)[j]? = _
    rw [List.getElem?_map, List.getElem?_eq_getElem jl2]
    rfl
  refine ⟨_, rfl, l, _, _, _, rfl, rfl, SqL.of s1.dl, el, ?_⟩
  generalize ls[j] = x
  change L2.gName 4 (V.int x) _ H1 _
  (refine ⟨_, rfl, _, _, rfl, rfl, _, rfl, ?_⟩)
  change if (decide ((0 : Int) < x)) = true then _ else _
  by_cases hx : 0 < x
  · rw [if_pos (decide_eq_true hx)]
    refine ⟨_, rfl, _, rfl, _, _, rfl, rfl, ⟨n0, n1⟩, ?_⟩
    have ix : ixN (ls.map V.int).length (j : Int) = some j := by
      unfold ixN
      rw [if_pos (by omega), if_pos (by rw [List.length_map]; omega)]
      rfl
    refine rdL s1.toSrcAt rfl ⟨_, rfl, l, _, (j : Int), j, rfl, rfl, s1.dl, ix, ?_⟩
    have e1 : ((ls.map V.int).set j (V.int (x / n))) = (ls.set j (x / n)).map V.int := by rw [List.map_set]
    rw [e1]
    have s3 : SrcB (upd H1 l (.lst ((ls.set j (x / n)).map V.int))) q c l cs (ls.set j (x / n)) (k + 1) := ⟨s1.toSrcAt.setV _ (by rw [List.length_set]; exact s1.nl), by rw [List.length_set]; exact s1.len, s1.nz⟩
    refine ⟨_, rfl, .inl ⟨_, rfl, _, rfl, _, _, rfl, rfl, n0, ?_⟩⟩
    exact fin _ _ _ _ _ (modn x).1 (modn x).2 s3 (Nat.le_refl _) (t1.trans (Tou.putL s1.toSrcAt))
  · rw [if_neg (by simpa using hx)]
    have ec : atI (cs.map V.int) (j : Int) = some (V.int cs[j]) := by
      unfold atI ixN
      rw [if_pos (by omega), if_pos (by rw [List.length_map]; omega)]
      show (cs.map V.int)[j]? = _
      rw [List.getElem?_map, List.getElem?_eq_getElem jl]
      rfl
    generalize cs[j] = z at ec
    have fh : Ex F0 H1 := (t1.worldB w ⟨_, _, _, _, _, s1⟩).fh
    refine rdC s1.toSrcAt rfl ⟨_, rfl, c, _, _, _, rfl, rfl, SqL.of s1.dc, ec, _, rfl, ?_⟩
    refine ⟨none, F0, [.d (.int z), .d (.int (k : Int))], 0, fun d _ => ∃ i : Int, d = .int i, World.start fh (fun _ _ z => z) (fun _ z => nomatch z), .cons (show At K F0 (.int z) (.int z) from .int _) (.cons (show At K F0 (.int (k : Int)) (.int (k : Int)) from .int _) .nil), rfl, fun i e => ?_, .inl rfl, (fun _ z => nomatch z), d_mix z k 0 _ k0' kb fun i => ⟨i, rfl⟩, ?_⟩
    · rcases i with _ | _ | i <;> simp at e
    · rintro d m' v F' H' ⟨i, rfl⟩ w' _ at_
      cases at_
      have s3 : SrcB H' q c l cs ls (k + 1) := ⟨s1.toSrcAt.of_world w', s1.len, s1.nz⟩
      have t3 : Tou q H1 H' := Tou.of_world w' (by rw [s1.dq]; exact Option.some_ne_none _)
      refine ⟨_, _, rfl, rfl, ⟨by decide, by decide⟩, .inl ⟨_, rfl, _, rfl, _, _, rfl, rfl, n0, ?_⟩⟩
      exact fin _ _ _ _ _ (modn _).1 (modn _).2 s3 (Nat.le_refl _) (t1.trans t3)
abbrev st__law_begun : Stmt := topS 35
def names__law_begun : List Str := ["_law_script", "_law_some", "_law_cell"]
theorem sc__law_begun : FnScope names__law_begun ["_law_script"] (defScope st__law_begun) := ⟨rfl, rfl, rfl, by decide +kernel, rfl, by decide +kernel, by decide +kernel⟩
theorem pe_some {X : Cx} {e : Expr} {ι : Type} {t : ι → TE} (h : ∀ i, PE X e (t i)) : PE X e (fun σ H Q => ∃ i, t i σ H Q) := ⟨fun pins s σ H Q I ⟨i, q⟩ => (h i).run pins s σ H Q I q⟩
abbrev pickD : DM := dLc (iSeq (dV 1)) (gN 2) (bYes) (dIf (bD (d2 gGe (hS 2) (hV (d2 gPow (hV (dC (.int 10))) (hV (dC (.int 18))))))) (dV 2) (dC (.int 0))) [2]
def pick (x : Int) : Int := if 1000000000000000000 ≤ x then x else 0
theorem pick_data {cs : List Int} (hl : cs.length ≤ 100) {s0 : Sl} : pickD [s0, .im (.list (cs.map PyData.int)), .no] fun d _ => d = .list ((cs.map pick).map PyData.int) := by
  have ew : (10 : Int) ^ (18 : Int).toNat = 1000000000000000000 := by decide
  refine ⟨by rw [List.length_map]; omega, ⟨by simp, fun j hj => by simp at hj; subst hj; rfl⟩, ?_⟩
  refine lcL_map (ρ := [s0, .im (.list (cs.map PyData.int)), .no]) (fun d => match d with
    | .int x => .int (pick x)
    | _ => .none) _ [] ?_ ?_
  · intro d hd Q hQ
    obtain ⟨x, _, rfl⟩ := List.mem_map.mp hd
    have hQ : ∀ ρ3, wipeE ρ3 [2] = [s0, .im (.list (cs.map PyData.int)), .no] → Q (.int (pick x)) ρ3 := hQ
    refine ⟨trivial, ⟨by decide, by decide, by decide⟩, ?_⟩
    show if decide (x ≥ (10 : Int) ^ (18 : Int).toNat) = true then _ else _
    rw [ew]
    unfold pick at hQ
    by_cases hx : 1000000000000000000 ≤ x
    · rw [if_pos (decide_eq_true hx)]
      rw [if_pos hx] at hQ
      exact hQ _ rfl
    · rw [if_neg (by simpa using hx)]
      rw [if_neg hx] at hQ
      exact hQ _ rfl
  · rw [List.nil_append, List.map_map, List.map_map]
    rfl
theorem ok__law_begun {fa : Addr} {fd : FuncData} (T : Tx K gl) (F : L2.Fun K "_law_begun" "_law_begun" st__law_begun fa fd) : FnG pr wd K gl bas 1 fa fd ["_law_script"] (spBegunB K) := by
  have sc := sc__law_begun
  have nd := sc.nd
  refine FnG.of F sc (fun vs H Q E h => ?_) fun cdv A out sh H vs Q E hg hr h => ?_
  · obtain ⟨a, ns, rfl, _⟩ := h
    rfl
  obtain ⟨a, ns, rfl, sq, hl, k⟩ := h
  refine ⟨_, pss_cons (ps_set (i := 1) nd rfl (Or.inl rfl) (pe_ifExp (pt_cmpR (op_neD (hu64 hr)) (pv 0) (pe_lst pa_nil) (nomark _)) (pe_callTy call_list_of rfl T.n_list (by decide +kernel) (pa_cons (pv 0) pa_nil)) (pe_lst (pa_cons pe_int pa_nil))))
    (pss_one (ps_ret (pe_disp (pps_cons pe_str (pv 1) (pps_cons pe_str (pe_some (ι := Hp) (t := fun H2 => tN ⟨K, Orc.nil, none, H2, H2⟩ pickD) fun H2 => (dn_lc (c := ⟨K, Orc.nil, none, H2, H2⟩) (own := [("_law_cell", 2)]) rfl sc.nd (di_seq rfl (de_v (pv 1))) (blkOk_by (own := [("_law_cell", 2)]) (N := names__law_begun) (sc := defScope st__law_begun) (by decide +kernel)) (by decide) (fun _ _ _ _ _ => (dg_name sc.nd (i := 2) rfl (by first | exact Or.inl rfl | exact Or.inr rfl))) (fun _ _ _ _ _ => dts_nil) (fun _ _ _ _ _ => (de_if (dt_cmp (sem_ge) (dh_v (pv 2)) (dh_of (de_bin (sem_pow) (dh_of de_int) (dh_of de_int))) (nomark _)) (de_v (pv 2)) de_int)))) (pps_cons pe_str pe_int pps_nil))) rfl rfl (by decide) (by decide)))), ?_⟩
  have nodI : ∀ ms : List Int, nod (.list (ms.map PyData.int)) = true := fun ms => by
    show nodAll (ms.map PyData.int) = true
    induction ms with
    | nil => rfl
    | cons x ms ih =>
      rw [List.map_cons, nodAll, ih]
      rfl
  refine ⟨_, rfl, Nat.zero_le _, fun p0 hp0 => ?_⟩
  have ex0 : Ex H (upd H p0 (.lst [])) := Ex.new hp0
  have dpA : Dp K (upd H p0 (.lst [])) (.ref a) (.list (ns.map PyData.int)) := (At.lst (ex0.sl sq) (AtAll.ofInts ns)).dp (nodI ns)
  refine ⟨_, _, dpA, dp_ints (ns := []) upd_same, okD_ints ns, okD_ints [], _, rfl, ?_⟩
  have ez : (!PyData.eqv (.list (ns.map PyData.int)) (.list (([] : List Int).map PyData.int))) = decide (ns ≠ []) := by cases ns <;> rfl
  rw [ez]
  generalize upd H p0 (.lst []) = H0 at ex0 dpA ⊢
  have rest : ∀ (p : Addr) (cs : List Int), H0 p = none → cs ≠ [] → cs.length ≤ 100 → tRet (tDisp [(tC (.str "cells"), tVar 1), (tC (.str "left"), fun σ H Q => ∃ H2 : Hp, tN ⟨K, Orc.nil, none, H2, H2⟩ pickD σ H Q), (tC (.str "spot"), tC (.int 0))]) { nx := fun _ H' => Q .non H', rt := Q } ((start names__law_begun [.ref a]).set 1 (some (.ref p))) (upd H0 p (.lst (cs.map V.int))) := by
    intro p cs hp cz cl
    have ex1 : Ex H0 (upd H0 p (.lst (cs.map V.int))) := Ex.new hp
    have h1 : (upd H0 p (.lst (cs.map V.int))) p = some (.lst (cs.map V.int)) := upd_same
    generalize upd H0 p (.lst (cs.map V.int)) = H1 at ex1 h1 ⊢
    intro q hq
    have ex2 : Ex H1 (upd H1 q (.dK [])) := Ex.new hq
    have hqq : (upd H1 q (.dK [])) q = some (.dK []) := upd_same
    generalize upd H1 q (.dK []) = H2 at ex2 hqq ⊢
    have ex02 : Ex H H2 := (ex0.trans ex1).trans ex2
    have w : World Orc.nil none H2 H2 H2 H2 := World.start (Ex.refl H2) (fun _ _ z => z) fun _ z => nomatch z
    have r0 : Rel ⟨K, Orc.nil, none, H2, H2⟩ H2 H2 (start names__law_begun [.ref a]) (startE names__law_begun.length [.d (.list (ns.map PyData.int))] 0) [] :=
      rel_start w (.cons (.lst (ex02.sl sq) (AtAll.ofInts ns)) .nil) (fun i z => by cases i with | zero => rfl | succ i => cases z) fun _ z => nomatch z
    have r1 := r0.putI 1 (v := .ref p) (d := .list (cs.map PyData.int)) (.lst (SqL.of (ex2 _ _ h1)) (AtAll.ofInts cs))
    refine ⟨_, rfl, ?_⟩
    refine ⟨H2, H2, _, [], _, r1, pick_data cl, ?_⟩
    rintro d2 ρ2 a2 F3 H3 rfl e3 r3 f3
    have r4 := r3.pushX f3
    have x2 := r4.s.ex (a2, .d (.list ((cs.map pick).map PyData.int))) (by simp)
    obtain ⟨v2, g2, t2⟩ := x2.1.o
    have q2 := t2.ints
    subst q2
    have hq3 : H3 q = some (.dK []) := r4.w.fh _ _ (e3 _ _ hqq)
    have h13 : H3 p = some (.lst (cs.map V.int)) := r4.w.fh _ _ (e3 _ _ (ex2 _ _ h1))
    refine ⟨hq3, [(kC, .ref p), (kL, .ref a2), (kS, .int 0)], rfl, (by show 3 ≤ 15; omega), ?_⟩
    have none_of : ∀ {A B : Hp} {b : Addr}, Ex A B → B b = none → A b = none := fun {A B b} e z => by
      cases y : A b with
      | none => rfl
      | some o => rw [e b o y] at z; cases z
    have y2 : H2 a2 = none := x2.1.y
    have pq : p ≠ q := fun z => by rw [z, hq] at h1; cases h1
    have aq : a2 ≠ q := fun z => by rw [z, hqq] at y2; cases y2
    have pa : p ≠ a2 := fun z => by rw [← z, ex2 _ _ h1] at y2; cases y2
    refine k q p a2 cs (cs.map pick) _ (fun b o e => ?_) (none_of (ex0.trans ex1) hq) (none_of ex0 hp) (none_of ex02 y2) ⟨⟨?_, ?_, ?_, pa, cl, by rw [List.length_map]; exact cl⟩, List.length_map _, cz⟩
    · have hb : b ≠ q := fun z => by
        have := none_of (ex0.trans ex1) hq
        rw [← z, e] at this
        cases this
      rw [upd_ne hb]
      exact r4.w.fh _ _ (e3 _ _ (ex02 _ _ e))
    · rw [upd_same]
      rfl
    · rw [upd_ne pq]
      exact h13
    · rw [upd_ne aq]
      exact g2
  change if decide (ns ≠ []) = true then _ else _
  by_cases hz : ns = []
  · rw [if_neg (by simpa using hz)]
    refine ⟨(by decide), fun p hp => ?_⟩
    exact rest p [0] hp (by simp) (by simp)
  · rw [if_pos (decide_eq_true hz)]
    refine ⟨_, rfl, a, _, rfl, .inl (ex0.sl sq), fun p hp => ?_⟩
    exact rest p ns hp hz (by omega)
abbrev st_law : Stmt := topS 41
def names_law : List Str := ["_law_script", "_law_m", "_law_turn", "_law_size", "_law_cues_so", "_law_due", "_law_told", "_law_can", "_law_k", "_law_cue", "_law_sooner"]
theorem sc_law : FnScope names_law ["_law_script"] (defScope st_law) := ⟨rfl, rfl, rfl, by decide +kernel, rfl, by decide +kernel, by decide +kernel⟩
theorem noIm (i : Nat) (d : D) : ([.ora 0, .no, .no, .no, .no, .no, .no, .no, .no, .no] : List Sl)[i]? ≠ some (.im d) := by
  intro e
  have := List.mem_of_getElem? e
  simp at this
theorem noOw {ns : List Int} (i : Nat) (d : D) : ([.im (.list (ns.map PyData.int)), .ora 0, .no, .no, .no, .no, .no, .no, .no, .no, .no] : List Sl)[i]? ≠ some (.ow d) := by
  intro e
  have := List.mem_of_getElem? e
  simp at this
theorem oneOra {ns : List Int} (i m : Nat) (e : ([.im (.list (ns.map PyData.int)), .ora 0, .no, .no, .no, .no, .no, .no, .no, .no, .no] : List Sl)[i]? = some (.ora m)) : i = 1 ∧ m = 0 := by
  have hi : i < 11 := by
    have := (List.getElem?_eq_some_iff.mp e).1
    simpa using this
  have : i = 0 ∨ i = 1 ∨ i = 2 ∨ i = 3 ∨ i = 4 ∨ i = 5 ∨ i = 6 ∨ i = 7 ∨ i = 8 ∨ i = 9 ∨ i = 10 := by omega
  rcases this with rfl | rfl | rfl | rfl | rfl | rfl | rfl | rfl | rfl | rfl | rfl <;> simp at e <;> simp [e]
theorem rel_law {K : PySem.W.Frag} {q c l a : Addr} {H H1 : Hp} {cs ls ns : List Int} (w : World srcOrcB (some q) H H1 H H1) (sq : SqL K H a (ns.map V.int)) (s : SrcB H1 q c l cs ls 0) :
    Rel ⟨K, srcOrcB, some q, H, H1⟩ H H1 ((start names_law [.ref a]).set 1 (some (.ref q))) [.im (.list (ns.map PyData.int)), .ora 0, .no, .no, .no, .no, .no, .no, .no, .no, .no] [] := by
  refine ⟨w, ⟨rfl, fun i d e => ?_, fun i d e => ?_, fun i j d e b z => ?_, fun i n e => ?_, fun i j m n e1 e2 => ?_, (fun _ hp => nomatch hp), List.nodup_nil⟩⟩
  · rcases i with _ | i
    · cases e
      exact ⟨_, rfl, .lst sq (AtAll.ofInts ns)⟩
    · exact absurd e (noIm i d)
  · exact absurd e (noOw i d)
  · exact absurd z (noOw i d)
  · obtain ⟨rfl, rfl⟩ := oneOra i n e
    exact ⟨q, rfl, rfl, by rw [s.spot]; exact Nat.le_refl _⟩
  · rw [(oneOra i m e1).1, (oneOra j n e2).1]
def spLawG (K : PySem.W.Frag) : Sp := fun vs H Q _ => ∃ (a : Addr) (ns : List Int), vs = [.ref a] ∧ SqL K H a (ns.map V.int) ∧ ns.length ≤ 63 ∧ ∀ H', Q (.bl true) H'
theorem ok_law {fa fb : Addr} {fd fdb : FuncData} (T : Tx K gl) (F : L2.Fun K "law" "law" st_law fa fd) (Fb : FnG pr wd K gl bas 1 fb fdb ["_law_script"] (spBegunB K)) (gb : gl "_law_begun" = some (.ref fb)) (kb : PySem.W.keepIn K (.ref fb) = true) (bb : Binds K fdb ["_law_script"] []) (C__law_draw : Cd pr wd K gl bas srcOrcB 2 "_law_draw" 2 s_next) (C__law_cues : Cd pr wd K gl bas srcOrcB 3 "_law_cues" 4 r__law_cues) (C__law_put_off : Cd pr wd K gl bas srcOrcB 2 "_law_put_off" 1 r__law_put_off) (C_put_off : Cd pr wd K gl bas srcOrcB 8 "put_off" 2 r_put_off) (C_send_paper : Cd pr wd K gl bas srcOrcB 8 "send_paper" 2 r_send_paper)
    (says : ∀ ns : List Int, ns.length ≤ 63 → lawSays ns) : FnG pr wd K gl bas 9 fa fd ["_law_script"] (spLawG K) := by
  have sc := sc_law
  refine FnG.of F sc (fun vs H Q E h => ?_) fun cdv A out sh H vs Q E hg hr h => ?_
  · obtain ⟨a, ns, rfl, _⟩ := h
    rfl
  obtain ⟨a, ns, rfl, sq, hl, k⟩ := h
  refine ⟨_, pss_cons (ps_set (i := 1) sc.nd rfl (by first | exact Or.inl rfl | exact Or.inr rfl) (pe_callG Fb hg (hr.mono (by decide)) rfl gb kb bb (pa_cons (pv 0) pa_nil)))
    (pss_some (ι := Option Addr × Hp × Hp) (t := fun i => tS ⟨K, srcOrcB, i.1, i.2.1, i.2.2⟩ g_law) fun ⟨qo, F0, H0⟩ => ?_), ?_⟩
  · exact (ds_cons (dp_for PassesOwn.never rfl (di_range1 rfl T.n_range (dl_cons (de_bin (sem_add rfl) (dh_of de_int) (dh_of (de_cb (sem_min rfl rfl) rfl T.n_min (by decide +kernel) (dg_cons (dh_of de_int) (dg_cons (dh_of (de_cb (sem_len rfl) rfl T.n_len (by decide +kernel) (dg_cons (dh_v (pv 0)) dg_nil))) dg_nil))))) dl_nil)) (dg_name sc.nd (i := 2) rfl (by first | exact Or.inl rfl | exact Or.inr rfl)) (ds_cons (dp_set sc.nd (i := 3) rfl (by first | exact Or.inl rfl | exact Or.inr rfl) (de_ix rfl (dh_of (de_n (dn_lst (dl_cons (de_tup (dl_cons de_int (dl_cons de_int dl_nil))) (dl_cons (de_tup (dl_cons de_int (dl_cons de_int dl_nil))) (dl_cons (de_tup (dl_cons de_int (dl_cons de_int dl_nil))) (dl_cons (de_tup (dl_cons de_int (dl_cons de_int dl_nil))) (dl_cons (de_tup (dl_cons de_int (dl_cons de_int dl_nil))) (dl_cons (de_tup (dl_cons de_int (dl_cons de_int dl_nil))) dl_nil))))))))) (dh_of (de_cdO (i := 1) (C__law_draw.more (by decide)) rfl hg hr rfl (da_ora (pv 1) (da_cons de_int da_nil)))) (fun _ _ => rfl)))
    (ds_cons (dp_set sc.nd (i := 4) rfl (by first | exact Or.inl rfl | exact Or.inr rfl) (de_cdO (i := 1) (C__law_cues.more (by decide)) rfl hg hr rfl (da_ora (pv 1) (da_cons (de_ix rfl (dh_v (pv 3)) (dh_of de_int) (fun _ _ => rfl)) (da_cons (de_cb (sem_min rfl rfl) rfl T.n_min (by decide +kernel) (dg_cons (dh_of (de_ix rfl (dh_v (pv 3)) (dh_of de_int) (fun _ _ => rfl))) (dg_cons (dh_of de_int) dg_nil))) (da_cons (de_cdO (i := 1) (C__law_draw.more (by decide)) rfl hg hr rfl (da_ora (pv 1) (da_cons de_int da_nil))) da_nil))))))
    (ds_cons (dp_set sc.nd (i := 5) rfl (by first | exact Or.inl rfl | exact Or.inr rfl) (de_cd (C__law_put_off.more (by decide)) rfl hg hr rfl (da_cons (de_v (pv 4)) da_nil)))
    (ds_cons (dp_set sc.nd (i := 6) rfl (by first | exact Or.inl rfl | exact Or.inr rfl) (de_cd (C_put_off.more (by decide)) rfl hg hr rfl (da_cons (de_v (pv 3)) (da_cons (de_v (pv 4)) da_nil))))
    (ds_cons (dp_if (PW.pt (dw_or (dt_cmp (sem_neS) (dh_of (de_cb (sem_reprA rfl hg (hu64 hr)) rfl T.n_repr (by decide +kernel) (dg_cons (dh_v (pv 6)) dg_nil))) (dh_of (de_cb (sem_reprA rfl hg (hu64 hr)) rfl T.n_repr (by decide +kernel) (dg_cons (dh_v (pv 5)) dg_nil))) (nomark _)) (pw_or1 (dt_cmp (sem_neS) (dh_of (de_cb (sem_reprA rfl hg (hu64 hr)) rfl T.n_repr (by decide +kernel) (dg_cons (dh_of (de_cd (C_put_off.more (by decide)) rfl hg hr rfl (da_cons (de_v (pv 3)) (da_cons (de_v (pv 4)) da_nil)))) dg_nil))) (dh_of (de_cb (sem_reprA rfl hg (hu64 hr)) rfl T.n_repr (by decide +kernel) (dg_cons (dh_v (pv 5)) dg_nil))) (nomark _))))) (ds_one (dp_ret de_bl)) ds_nil)
    (ds_cons (dp_set sc.nd (i := 7) rfl (by first | exact Or.inl rfl | exact Or.inr rfl) (de_cmp (sem_eq rfl (hu64 hr)) (dh_of (de_ix rfl (dh_of (de_cd (C_send_paper.more (by decide)) rfl hg hr rfl (da_cons (de_v (pv 3)) (da_cons (de_v (pv 4)) da_nil)))) (dh_of de_int) (fun _ _ => rfl))) (dh_of de_str) (nomark _)))
    (ds_cons (dp_if (PW.pt (dw_and (dt_truth rfl (dh_v (pv 7))) (pw_and1 (dt_cmp (sem_ne rfl (hu64 hr)) (dh_v (pv 5)) (dh_v (pv 4)) (nomark _))))) (ds_one (dp_ret de_bl)) ds_nil)
    (ds_one (dp_if (dt_cmp (sem_isnot) (dh_v (pv 5)) (dh_of de_non) (nomark _)) (ds_cons (dp_if (PW.pt (dw_or (dt_cmp (sem_ne rfl (hu64 hr)) (dh_of (de_ix rfl (dh_of (de_cd (C_send_paper.more (by decide)) rfl hg hr rfl (da_cons (de_v (pv 3)) (da_cons (de_v (pv 5)) da_nil)))) (dh_of de_int) (fun _ _ => rfl))) (dh_of de_str) (nomark _)) (pw_or1 (dt_cmp (sem_ne rfl (hu64 hr)) (dh_of (de_cd (C_put_off.more (by decide)) rfl hg hr rfl (da_cons (de_v (pv 3)) (da_cons (de_v (pv 5)) da_nil)))) (dh_v (pv 5)) (nomark _))))) (ds_one (dp_ret de_bl)) ds_nil)
    (ds_one (dp_for PassesOwn.never rfl (di_enum rfl rfl T.n_enumerate (dl_cons (de_v (pv 5)) dl_nil)) (dg_tup rfl rfl (dgs_cons (dg_name sc.nd (i := 8) rfl (by first | exact Or.inl rfl | exact Or.inr rfl)) (dgs_cons (dg_name sc.nd (i := 9) rfl (by first | exact Or.inl rfl | exact Or.inr rfl)) dgs_nil))) (ds_one (dp_if (dt_cmp (sem_gt) (dh_of (de_ix rfl (dh_v (pv 9)) (dh_of de_int) (fun _ _ => rfl))) (dh_of (de_ix rfl (dh_of (de_ix rfl (dh_v (pv 4)) (dh_v (pv 8)) (fun _ _ => rfl))) (dh_of de_int) (fun _ _ => rfl))) (nomark _)) (ds_cons (dp_set sc.nd (i := 10) rfl (by first | exact Or.inl rfl | exact Or.inr rfl) (de_bin (sem_add rfl) (dh_of (de_bin (sem_add rfl) (dh_of (de_sl rfl (dh_v (pv 5)) do_no (do_i (de_v (pv 8))))) (dh_of (de_tup (dl_cons (de_tup (dl_cons (de_bin (sem_sub) (dh_of (de_ix rfl (dh_v (pv 9)) (dh_of de_int) (fun _ _ => rfl))) (dh_of de_int)) (dl_cons (de_ix rfl (dh_v (pv 9)) (dh_of de_int) (fun _ _ => rfl)) (dl_cons (de_ix rfl (dh_v (pv 9)) (dh_of de_int) (fun _ _ => rfl)) dl_nil)))) dl_nil))))) (dh_of (de_sl rfl (dh_v (pv 5)) (do_i (de_bin (sem_add rfl) (dh_v (pv 8)) (dh_of de_int))) do_no))))
    (ds_one (dp_if (dt_cmp (sem_ne rfl (hu64 hr)) (dh_of (de_cd (C_send_paper.more (by decide)) rfl hg hr rfl (da_cons (de_v (pv 3)) (da_cons (de_v (pv 10)) da_nil)))) (dh_of (de_tup (dl_cons de_str (dl_cons (de_v (pv 8)) dl_nil)))) (nomark _)) (ds_one (dp_ret de_bl)) ds_nil))) ds_nil))))) ds_nil))))))))))
    (ds_one (dp_ret de_bl)))
  refine ⟨.ref a, rfl, a, ns, rfl, sq, hl, fun q c l cs ls H1 ex hq hc hL s => ⟨(some q, H, H1), H, _, [], _, ?_, says ns hl, ?_, ?_, ?_, ?_⟩⟩
  · have w : World srcOrcB (some q) H H1 H H1 := by
      refine World.start ex (fun b hb z => ?_) fun p e => ?_
      · rcases s.foot z with rfl | rfl | rfl
        · exact hb hq
        · exact hb hc
        · exact hb hL
      · cases e
        exact ⟨_, _, _, _, _, s⟩
    exact rel_law w sq s
  · exact fun _ _ _ _ z => z.elim
  · rintro d v ρ' σ' F' H' rfl _ at_
    cases at_
    exact k _
  · exact fun _ _ _ _ z => z.elim
  · exact fun _ _ _ _ z => z.elim
end
end Q84
namespace Q84
open PySem L2 DL
open PySem.W (nsIn keepIn codeIn fnOf)
theorem all_mk {l : PySem.W.OpenLaw} {wd : PySem.World} {K : PySem.W.Frag} {h : Heap} {gl : Str → Option Value} {fa : Addr} (X : K.In h) (G : h.Ns mainGlobals gl) (hfa : gl "law" = some (.ref fa))
    {f0 : Addr} {od0 an0 : Option Addr} {sl0 : Array (Option Value)} {oc0 kV0 dc0 pm0 cd0 ct0 : Value}
    (a0 : nsIn K mainGlobals "is_integer" = some (some (.ref f0))) (l0 : K.lookup f0 = some ⟨oc0, od0, .func (fnOf "is_integer" "is_integer" (defArgs st_is_integer) (defBody st_is_integer) (defScope st_is_integer) .none kV0 dc0 pm0 an0 cd0 ct0), sl0⟩) (c0 : codeIn K cd0 "is_integer" = true) (k0 : keepIn K (.ref f0) = true)
    {f1 : Addr} {od1 an1 : Option Addr} {sl1 : Array (Option Value)} {oc1 kV1 dc1 pm1 cd1 ct1 : Value}
    (a1 : nsIn K mainGlobals "is_within" = some (some (.ref f1))) (l1 : K.lookup f1 = some ⟨oc1, od1, .func (fnOf "is_within" "is_within" (defArgs st_is_within) (defBody st_is_within) (defScope st_is_within) .none kV1 dc1 pm1 an1 cd1 ct1), sl1⟩) (c1 : codeIn K cd1 "is_within" = true) (k1 : keepIn K (.ref f1) = true)
    {f2 : Addr} {od2 an2 : Option Addr} {sl2 : Array (Option Value)} {oc2 kV2 dc2 pm2 cd2 ct2 : Value}
    (a2 : nsIn K mainGlobals "is_tuple" = some (some (.ref f2))) (l2 : K.lookup f2 = some ⟨oc2, od2, .func (fnOf "is_tuple" "is_tuple" (defArgs st_is_tuple) (defBody st_is_tuple) (defScope st_is_tuple) .none kV2 dc2 pm2 an2 cd2 ct2), sl2⟩) (c2 : codeIn K cd2 "is_tuple" = true) (k2 : keepIn K (.ref f2) = true)
    {f3 : Addr} {od3 an3 : Option Addr} {sl3 : Array (Option Value)} {oc3 kV3 dc3 pm3 cd3 ct3 : Value}
    (a3 : nsIn K mainGlobals "is_sign" = some (some (.ref f3))) (l3 : K.lookup f3 = some ⟨oc3, od3, .func (fnOf "is_sign" "is_sign" (defArgs st_is_sign) (defBody st_is_sign) (defScope st_is_sign) .none kV3 dc3 pm3 an3 cd3 ct3), sl3⟩) (c3 : codeIn K cd3 "is_sign" = true) (k3 : keepIn K (.ref f3) = true)
    {f4 : Addr} {od4 an4 : Option Addr} {sl4 : Array (Option Value)} {oc4 kV4 dc4 pm4 cd4 ct4 : Value}
    (a4 : nsIn K mainGlobals "has_signs" = some (some (.ref f4))) (l4 : K.lookup f4 = some ⟨oc4, od4, .func (fnOf "has_signs" "has_signs" (defArgs st_has_signs) (defBody st_has_signs) (defScope st_has_signs) .none kV4 dc4 pm4 an4 cd4 ct4), sl4⟩) (c4 : codeIn K cd4 "has_signs" = true) (k4 : keepIn K (.ref f4) = true)
    {f5 : Addr} {od5 an5 : Option Addr} {sl5 : Array (Option Value)} {oc5 kV5 dc5 pm5 cd5 ct5 : Value}
    (a5 : nsIn K mainGlobals "need_screen" = some (some (.ref f5))) (l5 : K.lookup f5 = some ⟨oc5, od5, .func (fnOf "need_screen" "need_screen" (defArgs st_need_screen) (defBody st_need_screen) (defScope st_need_screen) .none kV5 dc5 pm5 an5 cd5 ct5), sl5⟩) (c5 : codeIn K cd5 "need_screen" = true) (k5 : keepIn K (.ref f5) = true)
    {f6 : Addr} {od6 an6 : Option Addr} {sl6 : Array (Option Value)} {oc6 kV6 dc6 pm6 cd6 ct6 : Value}
    (a6 : nsIn K mainGlobals "_is_line" = some (some (.ref f6))) (l6 : K.lookup f6 = some ⟨oc6, od6, .func (fnOf "_is_line" "_is_line" (defArgs st__is_line) (defBody st__is_line) (defScope st__is_line) .none kV6 dc6 pm6 an6 cd6 ct6), sl6⟩) (c6 : codeIn K cd6 "_is_line" = true) (k6 : keepIn K (.ref f6) = true)
    {f7 : Addr} {od7 an7 : Option Addr} {sl7 : Array (Option Value)} {oc7 kV7 dc7 pm7 cd7 ct7 : Value}
    (a7 : nsIn K mainGlobals "is_text" = some (some (.ref f7))) (l7 : K.lookup f7 = some ⟨oc7, od7, .func (fnOf "is_text" "is_text" (defArgs st_is_text) (defBody st_is_text) (defScope st_is_text) .none kV7 dc7 pm7 an7 cd7 ct7), sl7⟩) (c7 : codeIn K cd7 "is_text" = true) (k7 : keepIn K (.ref f7) = true)
    {f8 : Addr} {od8 an8 : Option Addr} {sl8 : Array (Option Value)} {oc8 kV8 dc8 pm8 cd8 ct8 : Value}
    (a8 : nsIn K mainGlobals "_has_room" = some (some (.ref f8))) (l8 : K.lookup f8 = some ⟨oc8, od8, .func (fnOf "_has_room" "_has_room" (defArgs st__has_room) (defBody st__has_room) (defScope st__has_room) .none kV8 dc8 pm8 an8 cd8 ct8), sl8⟩) (c8 : codeIn K cd8 "_has_room" = true) (k8 : keepIn K (.ref f8) = true)
    {f9 : Addr} {od9 an9 : Option Addr} {sl9 : Array (Option Value)} {oc9 kV9 dc9 pm9 cd9 ct9 : Value}
    (a9 : nsIn K mainGlobals "_is_sendable" = some (some (.ref f9))) (l9 : K.lookup f9 = some ⟨oc9, od9, .func (fnOf "_is_sendable" "_is_sendable" (defArgs st__is_sendable) (defBody st__is_sendable) (defScope st__is_sendable) .none kV9 dc9 pm9 an9 cd9 ct9), sl9⟩) (c9 : codeIn K cd9 "_is_sendable" = true) (k9 : keepIn K (.ref f9) = true)
    {f10 : Addr} {od10 an10 : Option Addr} {sl10 : Array (Option Value)} {oc10 kV10 dc10 pm10 cd10 ct10 : Value}
    (a10 : nsIn K mainGlobals "_need_cues" = some (some (.ref f10))) (l10 : K.lookup f10 = some ⟨oc10, od10, .func (fnOf "_need_cues" "_need_cues" (defArgs st__need_cues) (defBody st__need_cues) (defScope st__need_cues) .none kV10 dc10 pm10 an10 cd10 ct10), sl10⟩) (c10 : codeIn K cd10 "_need_cues" = true) (k10 : keepIn K (.ref f10) = true)
    {f11 : Addr} {od11 an11 : Option Addr} {sl11 : Array (Option Value)} {oc11 kV11 dc11 pm11 cd11 ct11 : Value}
    (a11 : nsIn K mainGlobals "_free_frames" = some (some (.ref f11))) (l11 : K.lookup f11 = some ⟨oc11, od11, .func (fnOf "_free_frames" "_free_frames" (defArgs st__free_frames) (defBody st__free_frames) (defScope st__free_frames) .none kV11 dc11 pm11 an11 cd11 ct11), sl11⟩) (c11 : codeIn K cd11 "_free_frames" = true) (k11 : keepIn K (.ref f11) = true)
    {f12 : Addr} {od12 an12 : Option Addr} {sl12 : Array (Option Value)} {oc12 kV12 dc12 pm12 cd12 ct12 : Value}
    (a12 : nsIn K mainGlobals "_load_of" = some (some (.ref f12))) (l12 : K.lookup f12 = some ⟨oc12, od12, .func (fnOf "_load_of" "_load_of" (defArgs st__load_of) (defBody st__load_of) (defScope st__load_of) .none kV12 dc12 pm12 an12 cd12 ct12), sl12⟩) (c12 : codeIn K cd12 "_load_of" = true) (k12 : keepIn K (.ref f12) = true)
    {f13 : Addr} {od13 an13 : Option Addr} {sl13 : Array (Option Value)} {oc13 kV13 dc13 pm13 cd13 ct13 : Value}
    (a13 : nsIn K mainGlobals "_first_short" = some (some (.ref f13))) (l13 : K.lookup f13 = some ⟨oc13, od13, .func (fnOf "_first_short" "_first_short" (defArgs st__first_short) (defBody st__first_short) (defScope st__first_short) .none kV13 dc13 pm13 an13 cd13 ct13), sl13⟩) (c13 : codeIn K cd13 "_first_short" = true) (k13 : keepIn K (.ref f13) = true)
    {f14 : Addr} {od14 an14 : Option Addr} {sl14 : Array (Option Value)} {oc14 kV14 dc14 pm14 cd14 ct14 : Value}
    (a14 : nsIn K mainGlobals "_stream_of" = some (some (.ref f14))) (l14 : K.lookup f14 = some ⟨oc14, od14, .func (fnOf "_stream_of" "_stream_of" (defArgs st__stream_of) (defBody st__stream_of) (defScope st__stream_of) .none kV14 dc14 pm14 an14 cd14 ct14), sl14⟩) (c14 : codeIn K cd14 "_stream_of" = true) (k14 : keepIn K (.ref f14) = true)
    {f15 : Addr} {od15 an15 : Option Addr} {sl15 : Array (Option Value)} {oc15 kV15 dc15 pm15 cd15 ct15 : Value}
    (a15 : nsIn K mainGlobals "send_paper" = some (some (.ref f15))) (l15 : K.lookup f15 = some ⟨oc15, od15, .func (fnOf "send_paper" "send_paper" (defArgs st_send_paper) (defBody st_send_paper) (defScope st_send_paper) .none kV15 dc15 pm15 an15 cd15 ct15), sl15⟩) (c15 : codeIn K cd15 "send_paper" = true) (k15 : keepIn K (.ref f15) = true)
    {f16 : Addr} {od16 an16 : Option Addr} {sl16 : Array (Option Value)} {oc16 kV16 dc16 pm16 cd16 ct16 : Value}
    (a16 : nsIn K mainGlobals "put_off" = some (some (.ref f16))) (l16 : K.lookup f16 = some ⟨oc16, od16, .func (fnOf "put_off" "put_off" (defArgs st_put_off) (defBody st_put_off) (defScope st_put_off) .none kV16 dc16 pm16 an16 cd16 ct16), sl16⟩) (c16 : codeIn K cd16 "put_off" = true) (k16 : keepIn K (.ref f16) = true)
    {f17 : Addr} {od17 an17 : Option Addr} {sl17 : Array (Option Value)} {oc17 kV17 dc17 pm17 cd17 ct17 : Value}
    (a17 : nsIn K mainGlobals "_law_mix" = some (some (.ref f17))) (l17 : K.lookup f17 = some ⟨oc17, od17, .func (fnOf "_law_mix" "_law_mix" (defArgs st__law_mix) (defBody st__law_mix) (defScope st__law_mix) .none kV17 dc17 pm17 an17 cd17 ct17), sl17⟩) (c17 : codeIn K cd17 "_law_mix" = true) (k17 : keepIn K (.ref f17) = true)
    {f18 : Addr} {od18 an18 : Option Addr} {sl18 : Array (Option Value)} {oc18 kV18 dc18 pm18 cd18 ct18 : Value}
    (a18 : nsIn K mainGlobals "_law_cues" = some (some (.ref f18))) (l18 : K.lookup f18 = some ⟨oc18, od18, .func (fnOf "_law_cues" "_law_cues" (defArgs st__law_cues) (defBody st__law_cues) (defScope st__law_cues) .none kV18 dc18 pm18 an18 cd18 ct18), sl18⟩) (c18 : codeIn K cd18 "_law_cues" = true) (k18 : keepIn K (.ref f18) = true)
    {f19 : Addr} {od19 an19 : Option Addr} {sl19 : Array (Option Value)} {oc19 kV19 dc19 pm19 cd19 ct19 : Value}
    (a19 : nsIn K mainGlobals "_law_load" = some (some (.ref f19))) (l19 : K.lookup f19 = some ⟨oc19, od19, .func (fnOf "_law_load" "_law_load" (defArgs st__law_load) (defBody st__law_load) (defScope st__law_load) .none kV19 dc19 pm19 an19 cd19 ct19), sl19⟩) (c19 : codeIn K cd19 "_law_load" = true) (k19 : keepIn K (.ref f19) = true)
    {f20 : Addr} {od20 an20 : Option Addr} {sl20 : Array (Option Value)} {oc20 kV20 dc20 pm20 cd20 ct20 : Value}
    (a20 : nsIn K mainGlobals "_law_room" = some (some (.ref f20))) (l20 : K.lookup f20 = some ⟨oc20, od20, .func (fnOf "_law_room" "_law_room" (defArgs st__law_room) (defBody st__law_room) (defScope st__law_room) .none kV20 dc20 pm20 an20 cd20 ct20), sl20⟩) (c20 : codeIn K cd20 "_law_room" = true) (k20 : keepIn K (.ref f20) = true)
    {f21 : Addr} {od21 an21 : Option Addr} {sl21 : Array (Option Value)} {oc21 kV21 dc21 pm21 cd21 ct21 : Value}
    (a21 : nsIn K mainGlobals "_law_put_off" = some (some (.ref f21))) (l21 : K.lookup f21 = some ⟨oc21, od21, .func (fnOf "_law_put_off" "_law_put_off" (defArgs st__law_put_off) (defBody st__law_put_off) (defScope st__law_put_off) .none kV21 dc21 pm21 an21 cd21 ct21), sl21⟩) (c21 : codeIn K cd21 "_law_put_off" = true) (k21 : keepIn K (.ref f21) = true)
    {f22 : Addr} {od22 an22 : Option Addr} {sl22 : Array (Option Value)} {oc22 kV22 dc22 pm22 cd22 ct22 : Value}
    (a22 : nsIn K mainGlobals "_law_draw" = some (some (.ref f22))) (l22 : K.lookup f22 = some ⟨oc22, od22, .func (fnOf "_law_draw" "_law_draw" (defArgs st__law_draw) (defBody st__law_draw) (defScope st__law_draw) .none kV22 dc22 pm22 an22 cd22 ct22), sl22⟩) (c22 : codeIn K cd22 "_law_draw" = true) (k22 : keepIn K (.ref f22) = true)
    {f23 : Addr} {od23 an23 : Option Addr} {sl23 : Array (Option Value)} {oc23 kV23 dc23 pm23 cd23 ct23 : Value}
    (a23 : nsIn K mainGlobals "_law_begun" = some (some (.ref f23))) (l23 : K.lookup f23 = some ⟨oc23, od23, .func (fnOf "_law_begun" "_law_begun" (defArgs st__law_begun) (defBody st__law_begun) (defScope st__law_begun) .none kV23 dc23 pm23 an23 cd23 ct23), sl23⟩) (c23 : codeIn K cd23 "_law_begun" = true) (k23 : keepIn K (.ref f23) = true)
    {f24 : Addr} {od24 an24 : Option Addr} {sl24 : Array (Option Value)} {oc24 kV24 dc24 pm24 cd24 ct24 : Value}
    (a24 : nsIn K mainGlobals "law" = some (some (.ref f24))) (l24 : K.lookup f24 = some ⟨oc24, od24, .func (fnOf "law" "law" (defArgs st_law) (defBody st_law) (defScope st_law) .none kV24 dc24 pm24 an24 cd24 ct24), sl24⟩) (c24 : codeIn K cd24 "law" = true) (k24 : keepIn K (.ref f24) = true)
    (z_all : nsIn K mainGlobals "all" = some none)
    (z_bool : nsIn K mainGlobals "bool" = some none)
    (z_enumerate : nsIn K mainGlobals "enumerate" = some none)
    (z_int : nsIn K mainGlobals "int" = some none)
    (z_isinstance : nsIn K mainGlobals "isinstance" = some none)
    (z_len : nsIn K mainGlobals "len" = some none)
    (z_list : nsIn K mainGlobals "list" = some none)
    (z_min : nsIn K mainGlobals "min" = some none)
    (z_ord : nsIn K mainGlobals "ord" = some none)
    (z_range : nsIn K mainGlobals "range" = some none)
    (z_repr : nsIn K mainGlobals "repr" = some none)
    (z_str : nsIn K mainGlobals "str" = some none)
    (z_tuple : nsIn K mainGlobals "tuple" = some none)
    {t_LAST_FRAME : Tok} (v_LAST_FRAME : nsIn K mainGlobals "LAST_FRAME" = some (some (.int 1999 t_LAST_FRAME)))
    {t_LOWEST_OF_LINES : Tok} (v_LOWEST_OF_LINES : nsIn K mainGlobals "LOWEST_OF_LINES" = some (some (.int 32 t_LOWEST_OF_LINES)))
    {t_MOST_COLUMNS : Tok} (v_MOST_COLUMNS : nsIn K mainGlobals "MOST_COLUMNS" = some (some (.int 40 t_MOST_COLUMNS)))
    {t_MOST_LINES : Tok} (v_MOST_LINES : nsIn K mainGlobals "MOST_LINES" = some (some (.int 4 t_MOST_LINES)))
    {t_MOST_ROWS : Tok} (v_MOST_ROWS : nsIn K mainGlobals "MOST_ROWS" = some (some (.int 4 t_MOST_ROWS)))
    {t_MOST_SENDABLE : Tok} (v_MOST_SENDABLE : nsIn K mainGlobals "MOST_SENDABLE" = some (some (.int 200 t_MOST_SENDABLE)))
    {t_MOST_SIGNS : Tok} (v_MOST_SIGNS : nsIn K mainGlobals "MOST_SIGNS" = some (some (.int 40 t_MOST_SIGNS)))
    {t_PERCENT : Tok} (v_PERCENT : nsIn K mainGlobals "PERCENT" = some (some (.int 37 t_PERCENT)))
    {t_TILDE : Tok} (v_TILDE : nsIn K mainGlobals "TILDE" = some (some (.int 126 t_TILDE)))
    (says : ∀ ns : List Int, ns.length ≤ 63 → lawSays ns) :
    ∃ fd : FuncData, (∀ (s : Shared) (v : Value), BindsTo s fd ⟨[v], []⟩ [("_law_script", v)]) ∧ ∀ bas : Heap, K.In bas → bas.Ns mainGlobals gl → FnG l.prog wd K gl bas 9 fa fd ["_law_script"] (spLawG K) := by
  have e := hfa.symm.trans (PySem.W.mg_of X G a24)
  cases e
  have T : Tx K gl := ⟨PySem.W.mg_none_of X G z_all, PySem.W.mg_none_of X G z_bool, PySem.W.mg_none_of X G z_enumerate, PySem.W.mg_none_of X G z_int, PySem.W.mg_none_of X G z_isinstance, PySem.W.mg_none_of X G z_len, PySem.W.mg_none_of X G z_list, PySem.W.mg_none_of X G z_min, PySem.W.mg_none_of X G z_ord, PySem.W.mg_none_of X G z_range, PySem.W.mg_none_of X G z_repr, PySem.W.mg_none_of X G z_str, PySem.W.mg_none_of X G z_tuple, ⟨_, PySem.W.mg_of X G v_LAST_FRAME⟩, ⟨_, PySem.W.mg_of X G v_LOWEST_OF_LINES⟩, ⟨_, PySem.W.mg_of X G v_MOST_COLUMNS⟩, ⟨_, PySem.W.mg_of X G v_MOST_LINES⟩, ⟨_, PySem.W.mg_of X G v_MOST_ROWS⟩, ⟨_, PySem.W.mg_of X G v_MOST_SENDABLE⟩, ⟨_, PySem.W.mg_of X G v_MOST_SIGNS⟩, ⟨_, PySem.W.mg_of X G v_PERCENT⟩, ⟨_, PySem.W.mg_of X G v_TILDE⟩⟩
  have F0 := fun_mk (st := st_is_integer) l0 c0 k0
  have b0 := F0.binds (ps := ["thing"]) fun _ _ _ _ _ _ us hl => match us, hl with | [_], _ => rfl
  have F1 := fun_mk (st := st_is_within) l1 c1 k1
  have b1 := F1.binds (ps := ["thing", "least", "most"]) fun _ _ _ _ _ _ us hl => match us, hl with | [_, _, _], _ => rfl
  have F2 := fun_mk (st := st_is_tuple) l2 c2 k2
  have b2 := F2.binds (ps := ["thing", "least", "most"]) fun _ _ _ _ _ _ us hl => match us, hl with | [_, _, _], _ => rfl
  have F3 := fun_mk (st := st_is_sign) l3 c3 k3
  have b3 := F3.binds (ps := ["sign", "lowest"]) fun _ _ _ _ _ _ us hl => match us, hl with | [_, _], _ => rfl
  have F4 := fun_mk (st := st_has_signs) l4 c4 k4
  have b4 := F4.binds (ps := ["thing", "lowest"]) fun _ _ _ _ _ _ us hl => match us, hl with | [_, _], _ => rfl
  have F5 := fun_mk (st := st_need_screen) l5 c5 k5
  have b5 := F5.binds (ps := ["screen"]) fun _ _ _ _ _ _ us hl => match us, hl with | [_], _ => rfl
  have F6 := fun_mk (st := st__is_line) l6 c6 k6
  have b6 := F6.binds (ps := ["thing"]) fun _ _ _ _ _ _ us hl => match us, hl with | [_], _ => rfl
  have F7 := fun_mk (st := st_is_text) l7 c7 k7
  have b7 := F7.binds (ps := ["thing"]) fun _ _ _ _ _ _ us hl => match us, hl with | [_], _ => rfl
  have F8 := fun_mk (st := st__has_room) l8 c8 k8
  have b8 := F8.binds (ps := ["screen", "thing"]) fun _ _ _ _ _ _ us hl => match us, hl with | [_, _], _ => rfl
  have F9 := fun_mk (st := st__is_sendable) l9 c9 k9
  have b9 := F9.binds (ps := ["screen", "thing"]) fun _ _ _ _ _ _ us hl => match us, hl with | [_, _], _ => rfl
  have F10 := fun_mk (st := st__need_cues) l10 c10 k10
  have b10 := F10.binds (ps := ["screen", "cues"]) fun _ _ _ _ _ _ us hl => match us, hl with | [_, _], _ => rfl
  have F11 := fun_mk (st := st__free_frames) l11 c11 k11
  have b11 := F11.binds (ps := ["ahead", "start"]) fun _ _ _ _ _ _ us hl => match us, hl with | [_, _], _ => rfl
  have F12 := fun_mk (st := st__load_of) l12 c12 k12
  have b12 := F12.binds (ps := ["text"]) fun _ _ _ _ _ _ us hl => match us, hl with | [_], _ => rfl
  have F13 := fun_mk (st := st__first_short) l13 c13 k13
  have b13 := F13.binds (ps := ["cues"]) fun _ _ _ _ _ _ us hl => match us, hl with | [_], _ => rfl
  have F14 := fun_mk (st := st__stream_of) l14 c14 k14
  have b14 := F14.binds (ps := ["cues"]) fun _ _ _ _ _ _ us hl => match us, hl with | [_], _ => rfl
  have F15 := fun_mk (st := st_send_paper) l15 c15 k15
  have b15 := F15.binds (ps := ["screen", "cues"]) fun _ _ _ _ _ _ us hl => match us, hl with | [_, _], _ => rfl
  have F16 := fun_mk (st := st_put_off) l16 c16 k16
  have b16 := F16.binds (ps := ["screen", "cues"]) fun _ _ _ _ _ _ us hl => match us, hl with | [_, _], _ => rfl
  have F17 := fun_mk (st := st__law_mix) l17 c17 k17
  have b17 := F17.binds (ps := ["_law_cell", "_law_spot"]) fun _ _ _ _ _ _ us hl => match us, hl with | [_, _], _ => rfl
  have F18 := fun_mk (st := st__law_cues) l18 c18 k18
  have b18 := F18.binds (ps := ["_law_m", "_law_rows", "_law_columns", "_law_many"]) fun _ _ _ _ _ _ us hl => match us, hl with | [_, _, _, _], _ => rfl
  have F19 := fun_mk (st := st__law_load) l19 c19 k19
  have b19 := F19.binds (ps := ["_law_text"]) fun _ _ _ _ _ _ us hl => match us, hl with | [_], _ => rfl
  have F20 := fun_mk (st := st__law_room) l20 c20 k20
  have b20 := F20.binds (ps := ["_law_cues_so", "_law_k", "_law_begin", "_law_ahead"]) fun _ _ _ _ _ _ us hl => match us, hl with | [_, _, _, _], _ => rfl
  have F21 := fun_mk (st := st__law_put_off) l21 c21 k21
  have b21 := F21.binds (ps := ["_law_cues_so"]) fun _ _ _ _ _ _ us hl => match us, hl with | [_], _ => rfl
  have F22 := fun_mk (st := st__law_draw) l22 c22 k22
  have b22 := F22.binds (ps := ["_law_m", "_law_limit"]) fun _ _ _ _ _ _ us hl => match us, hl with | [_, _], _ => rfl
  have F23 := fun_mk (st := st__law_begun) l23 c23 k23
  have b23 := F23.binds (ps := ["_law_script"]) fun _ _ _ _ _ _ us hl => match us, hl with | [_], _ => rfl
  have F24 := fun_mk (st := st_law) l24 c24 k24
  have b24 := F24.binds (ps := ["_law_script"]) fun _ _ _ _ _ _ us hl => match us, hl with | [_], _ => rfl
  refine ⟨fnOf "law" "law" (defArgs st_law) (defBody st_law) (defScope st_law) .none kV24 dc24 pm24 an24 cd24 ct24, fun s v => .of_eq rfl, fun bas _ _ => ?_⟩
  have C__law_mix : Cd l.prog wd K gl bas srcOrcB 1 "_law_mix" 2 r__law_mix := ⟨_, _, _, ok__law_mix T F17, PySem.W.mg_of X G a17, k17, b17⟩
  have C__law_draw : Cd l.prog wd K gl bas srcOrcB 2 "_law_draw" 2 s_next := ⟨_, _, _, ok__law_draw T F22 C__law_mix, PySem.W.mg_of X G a22, k22, b22⟩
  have C_is_integer : Cd l.prog wd K gl bas srcOrcB 1 "is_integer" 1 r_is_integer := ⟨_, _, _, ok_is_integer T F0, PySem.W.mg_of X G a0, k0, b0⟩
  have C_is_within : Cd l.prog wd K gl bas srcOrcB 2 "is_within" 3 r_is_within := ⟨_, _, _, ok_is_within T F1 C_is_integer, PySem.W.mg_of X G a1, k1, b1⟩
  have C_is_tuple : Cd l.prog wd K gl bas srcOrcB 1 "is_tuple" 3 r_is_tuple := ⟨_, _, _, ok_is_tuple T F2, PySem.W.mg_of X G a2, k2, b2⟩
  have C_is_sign : Cd l.prog wd K gl bas srcOrcB 1 "is_sign" 2 r_is_sign := ⟨_, _, _, ok_is_sign T F3, PySem.W.mg_of X G a3, k3, b3⟩
  have C_has_signs : Cd l.prog wd K gl bas srcOrcB 2 "has_signs" 2 r_has_signs := ⟨_, _, _, ok_has_signs T F4 C_is_sign, PySem.W.mg_of X G a4, k4, b4⟩
  have C_need_screen : Cd l.prog wd K gl bas srcOrcB 3 "need_screen" 1 r_need_screen := ⟨_, _, _, ok_need_screen T F5 C_is_tuple C_is_within, PySem.W.mg_of X G a5, k5, b5⟩
  have C__is_line : Cd l.prog wd K gl bas srcOrcB 3 "_is_line" 1 r__is_line := ⟨_, _, _, ok__is_line T F6 C_has_signs, PySem.W.mg_of X G a6, k6, b6⟩
  have C_is_text : Cd l.prog wd K gl bas srcOrcB 4 "is_text" 1 r_is_text := ⟨_, _, _, ok_is_text T F7 C_is_tuple C__is_line, PySem.W.mg_of X G a7, k7, b7⟩
  have C__has_room : Cd l.prog wd K gl bas srcOrcB 5 "_has_room" 2 r__has_room := ⟨_, _, _, ok__has_room T F8 C_is_text, PySem.W.mg_of X G a8, k8, b8⟩
  have C__is_sendable : Cd l.prog wd K gl bas srcOrcB 6 "_is_sendable" 2 r__is_sendable := ⟨_, _, _, ok__is_sendable T F9 C_is_tuple C_is_within C__has_room, PySem.W.mg_of X G a9, k9, b9⟩
  have C__need_cues : Cd l.prog wd K gl bas srcOrcB 7 "_need_cues" 2 r__need_cues := ⟨_, _, _, ok__need_cues T F10 C_need_screen C_is_tuple C__is_sendable, PySem.W.mg_of X G a10, k10, b10⟩
  have C__free_frames : Cd l.prog wd K gl bas srcOrcB 1 "_free_frames" 2 r__free_frames := ⟨_, _, _, ok__free_frames T F11, PySem.W.mg_of X G a11, k11, b11⟩
  have C__load_of : Cd l.prog wd K gl bas srcOrcB 1 "_load_of" 1 r__load_of := ⟨_, _, _, ok__load_of T F12, PySem.W.mg_of X G a12, k12, b12⟩
  have C__first_short : Cd l.prog wd K gl bas srcOrcB 2 "_first_short" 1 r__first_short := ⟨_, _, _, ok__first_short T F13 C__free_frames C__load_of, PySem.W.mg_of X G a13, k13, b13⟩
  have C__stream_of : Cd l.prog wd K gl bas srcOrcB 2 "_stream_of" 1 r__stream_of := ⟨_, _, _, ok__stream_of T F14 C__load_of, PySem.W.mg_of X G a14, k14, b14⟩
  have C_send_paper : Cd l.prog wd K gl bas srcOrcB 8 "send_paper" 2 r_send_paper := ⟨_, _, _, ok_send_paper T F15 C__need_cues C__first_short C__stream_of, PySem.W.mg_of X G a15, k15, b15⟩
  have C_put_off : Cd l.prog wd K gl bas srcOrcB 8 "put_off" 2 r_put_off := ⟨_, _, _, ok_put_off T F16 C__need_cues C__free_frames C__load_of, PySem.W.mg_of X G a16, k16, b16⟩
  have C__law_cues : Cd l.prog wd K gl bas srcOrcB 3 "_law_cues" 4 r__law_cues := ⟨_, _, _, ok__law_cues T F18 C__law_draw, PySem.W.mg_of X G a18, k18, b18⟩
  have C__law_load : Cd l.prog wd K gl bas srcOrcB 1 "_law_load" 1 r__law_load := ⟨_, _, _, ok__law_load T F19, PySem.W.mg_of X G a19, k19, b19⟩
  have C__law_room : Cd l.prog wd K gl bas srcOrcB 1 "_law_room" 4 r__law_room := ⟨_, _, _, ok__law_room T F20, PySem.W.mg_of X G a20, k20, b20⟩
  have C__law_put_off : Cd l.prog wd K gl bas srcOrcB 2 "_law_put_off" 1 r__law_put_off := ⟨_, _, _, ok__law_put_off T F21 C__law_load C__law_room, PySem.W.mg_of X G a21, k21, b21⟩
  exact ok_law T F24 (ok__law_begun T F23) (PySem.W.mg_of X G a23) k23 b23 C__law_draw C__law_cues C__law_put_off C_put_off C_send_paper says
end Q84
namespace Q84
open PySem L2 DL
structure Cu where
  b : Int
  e : Int
  t : List Str
def need (t : List Str) : Nat := 2 + (t.map fun z => 1 + z.length).sum
def fr : Option Cu → Int → Int
  | none, s => s
  | some a, s => if a.e < s then s - a.b - 1 - 1 else s - a.b - 1
def up (a : Option Cu) (n : Int) : Nat → Int → Int
  | 0, s => s
  | k + 1, s => if fr a s < n then up a n k (s + 1) else s
theorem up_ge (a : Option Cu) (n : Int) : ∀ (k : Nat) (s : Int), s ≤ up a n k s ∧ up a n k s ≤ s + k
  | 0, s => by
    show s ≤ s ∧ s ≤ s + ((0 : Nat) : Int)
    omega
  | k + 1, s => by
    unfold up
    split
    · have := up_ge a n k (s + 1)
      omega
    · omega
theorem up_fr (a : Option Cu) (n : Int) : ∀ (k : Nat) (s : Int), up a n k s < s + k → n ≤ fr a (up a n k s)
  | 0, s, h => by
    have h : s < s + ((0 : Nat) : Int) := h
    omega
  | k + 1, s, h => by
    unfold up at h ⊢
    split
    · rename_i z
      rw [if_pos z] at h
      exact up_fr a n k (s + 1) (by omega)
    · omega
theorem up_lt (a : Option Cu) (n : Int) : ∀ (k : Nat) (s x : Int), s ≤ x → x < up a n k s → fr a x < n
  | 0, s, x, h1, h2 => by
    have h2 : x < s := h2
    omega
  | k + 1, s, x, h1, h2 => by
    unfold up at h2
    split at h2
    · rename_i z
      by_cases e : x = s
      · subst e; exact z
      · exact up_lt a n k (s + 1) x (by omega) h2
    · omega
def sAt (a : Option Cu) (c : Cu) : Int := up a (need c.t) (c.e - c.b).toNat c.b
def put (a : Option Cu) (c : Cu) : Option Cu := if sAt a c = c.e then none else some ⟨sAt a c, c.e, c.t⟩
def puts : Option Cu → List Cu → Option (List Cu)
  | _, [] => some []
  | a, c :: cs => match put a c with
    | none => none
    | some x => (puts (some x) cs).map (x :: ·)
def short : Option Cu → Nat → List Cu → Option Nat
  | _, _, [] => none
  | a, k, c :: cs => if fr a c.b < need c.t then some k else short (some c) (k + 1) cs
/-- the cues stand one behind the other, from lo on -/
def GL : Int → List Cu → Prop
  | _, [] => True
  | lo, c :: cs => lo ≤ c.b ∧ c.b < c.e ∧ GL c.e cs
def Bt (c x : Cu) : Prop := x.e = c.e ∧ x.t = c.t ∧ c.b ≤ x.b ∧ x.b < c.e
def Bts : List Cu → List Cu → Prop
  | [], [] => True
  | c :: cs, x :: xs => Bt c x ∧ Bts cs xs
  | _, _ => False
theorem put_of {a : Option Cu} {c x : Cu} (h : c.b < c.e) (e : put a c = some x) : Bt c x ∧ (need x.t : Int) ≤ fr a x.b ∧ ∀ s, c.b ≤ s → s < x.b → fr a s < need x.t := by
  unfold put at e
  split at e
  · cases e
  · rename_i z
    cases e
    have h1 := up_ge a (need c.t) (c.e - c.b).toNat c.b
    have h2 : c.b + ((c.e - c.b).toNat : Int) = c.e := by omega
    rw [h2] at h1
    have h3 : sAt a c < c.e := by
      have : sAt a c ≤ c.e := h1.2
      omega
    refine ⟨⟨rfl, rfl, h1.1, h3⟩, ?_, fun s s1 s2 => up_lt a (need c.t) _ c.b s s1 s2⟩
    exact up_fr a (need c.t) _ c.b (by rw [h2]; exact h3)
theorem puts_bts : ∀ (cs ds : List Cu) (a : Option Cu) (lo : Int), GL lo cs → puts a cs = some ds → Bts cs ds
  | [], ds, a, lo, _, e => by cases e; trivial
  | c :: cs, ds, a, lo, g, e => by
    unfold puts at e
    cases hp : put a c with
    | none => rw [hp] at e; cases e
    | some x =>
      rw [hp] at e
      cases hq : puts (some x) cs with
      | none => simp [hq] at e
      | some xs =>
        simp [hq] at e
        subst e
        exact ⟨(put_of g.2.1 hp).1, puts_bts cs xs (some x) c.e g.2.2 hq⟩
theorem bts_gl : ∀ {cs ds : List Cu} {lo : Int}, GL lo cs → Bts cs ds → GL lo ds
  | [], [], _, _, _ => trivial
  | c :: cs, x :: xs, lo, g, b => by
    obtain ⟨⟨b1, b2, b3, b4⟩, bs⟩ := b
    refine ⟨by have := g.1; omega, by omega, ?_⟩
    rw [b1]
    exact bts_gl g.2.2 bs
  | [], _ :: _, _, _, b => b.elim
  | _ :: _, [], _, _, b => b.elim
theorem puts_short : ∀ (cs ds : List Cu) (a : Option Cu) (lo : Int) (k : Nat), GL lo cs → puts a cs = some ds → short a k ds = none
  | [], ds, a, lo, k, _, e => by cases e; rfl
  | c :: cs, ds, a, lo, k, g, e => by
    unfold puts at e
    cases hp : put a c with
    | none => rw [hp] at e; cases e
    | some x =>
      rw [hp] at e
      cases hq : puts (some x) cs with
      | none => simp [hq] at e
      | some xs =>
        simp [hq] at e
        subst e
        unfold short
        rw [if_neg (by have := (put_of g.2.1 hp).2.1; omega)]
        exact puts_short cs xs (some x) c.e (k + 1) g.2.2 hq
theorem can_puts : ∀ (cs : List Cu) (a : Option Cu) (lo : Int) (k : Nat), GL lo cs → short a k cs = none → puts a cs = some cs
  | [], a, lo, k, _, _ => rfl
  | c :: cs, a, lo, k, g, e => by
    unfold short at e
    split at e
    · cases e
    · rename_i z
      have hs : sAt a c = c.b := by
        unfold sAt
        have hk : (c.e - c.b).toNat = ((c.e - c.b).toNat - 1) + 1 := by have := g.2.1; omega
        rw [hk]
        unfold up
        rw [if_neg z]
      have hp : put a c = some c := by
        unfold put
        rw [hs, if_neg (by have := g.2.1; omega)]
      unfold puts
      rw [hp]
      show (puts (some c) cs).map (c :: ·) = _
      rw [can_puts cs (some c) c.e (k + 1) g.2.2 e]
      rfl
theorem sooner_short : ∀ (cs ds : List Cu) (a : Option Cu) (lo : Int) (k i : Nat) (c x : Cu), GL lo cs → puts a cs = some ds → cs[i]? = some c → ds[i]? = some x → c.b < x.b → short a k (ds.set i ⟨x.b - 1, x.e, x.t⟩) = some (k + i)
  | [], ds, a, lo, k, i, c, x, _, _, h, _, _ => by cases h
  | c :: cs, ds, a, lo, k, i, c', x', g, e, h1, h2, hl => by
    unfold puts at e
    cases hp : put a c with
    | none => rw [hp] at e; cases e
    | some x =>
      rw [hp] at e
      cases hq : puts (some x) cs with
      | none => simp [hq] at e
      | some xs =>
        simp [hq] at e
        subst e
        have hx := put_of g.2.1 hp
        cases i with
        | zero =>
          cases h1
          cases h2
          show (if fr a (x'.b - 1) < need x'.t then some k else _) = some (k + 0)
          rw [if_pos (hx.2.2 _ (by omega) (by omega))]
          rfl
        | succ i =>
          show short a k (x :: xs.set i ⟨x'.b - 1, x'.e, x'.t⟩) = _
          unfold short
          rw [if_neg (by have := hx.2.1; omega)]
          have := sooner_short cs xs (some x) c.e (k + 1) i c' x' g.2.2 hq (by simpa using h1) (by simpa using h2) hl
          rw [this]
          congr 1
          omega
theorem bts_len : ∀ {cs ds : List Cu}, Bts cs ds → ds.length = cs.length
  | [], [], _ => rfl
  | c :: cs, x :: xs, b => by rw [List.length_cons, List.length_cons, bts_len b.2]
  | [], _ :: _, b => b.elim
  | _ :: _, [], b => b.elim
theorem bts_get : ∀ {cs ds : List Cu} {i : Nat} {x : Cu}, Bts cs ds → ds[i]? = some x → ∃ c, cs[i]? = some c ∧ Bt c x
  | [], [], _, _, _, h => by cases h
  | c :: cs, y :: ys, 0, x, b, h => by
    cases h
    exact ⟨c, rfl, b.1⟩
  | c :: cs, y :: ys, i + 1, x, b, h => by
    obtain ⟨c', h1, h2⟩ := bts_get b.2 (show ys[i]? = some x by simpa using h)
    exact ⟨c', by simpa using h1, h2⟩
  | [], _ :: _, _, _, b, _ => b.elim
  | _ :: _, [], _, _, b, _ => b.elim
theorem bts_set : ∀ {cs ds : List Cu} {i : Nat} {c y : Cu}, Bts cs ds → cs[i]? = some c → Bt c y → Bts cs (ds.set i y)
  | [], [], _, _, _, _, h, _ => by cases h
  | c :: cs, x :: xs, 0, c', y, b, h, q => by
    cases h
    exact ⟨q, b.2⟩
  | c :: cs, x :: xs, i + 1, c', y, b, h, q => ⟨b.1, bts_set b.2 (by simpa using h) q⟩
  | [], _ :: _, _, _, _, b, _, _ => b.elim
  | _ :: _, [], _, _, _, b, _, _ => b.elim
def nn (cs : List D) (p : Nat) : Bool := match cs[p]? with
  | some d => isN d
  | none => false
def cnt (cs : List D) (lo : Nat) : Nat → Nat
  | 0 => 0
  | f + 1 => cnt cs lo f + (if decide (lo ≤ f) && nn cs f then 1 else 0)
theorem cnt_set {cs : List D} {lo g : Nat} {x : D} : ∀ f : Nat, f ≤ g → cnt (cs.set g x) lo f = cnt cs lo f
  | 0, _ => rfl
  | f + 1, h => by
    unfold cnt
    rw [cnt_set f (by omega)]
    have e : nn (cs.set g x) f = nn cs f := by
      unfold nn
      rw [List.getElem?_set_ne (by omega)]
    rw [e]
theorem cnt_ge {cs : List D} {lo : Nat} {q : Int} : ∀ f : Nat, (∀ p : Nat, lo ≤ p → p < f → (p : Int) ≠ q → nn cs p = true) → (f : Int) - lo ≤ cnt cs lo f + (if (lo : Int) ≤ q ∧ q < f then 1 else 0)
  | 0, _ => by
    show ((0 : Nat) : Int) - lo ≤ ((0 : Nat) : Int) + _
    split <;> omega
  | f + 1, h => by
    have ih := cnt_ge (cs := cs) (lo := lo) (q := q) f fun p h1 h2 h3 => h p h1 (by omega) h3
    unfold cnt
    by_cases hl : lo ≤ f
    · by_cases e : (f : Int) = q
      · rw [if_neg (show ¬ ((lo : Int) ≤ q ∧ q < f) by omega)] at ih
        rw [if_pos (show (lo : Int) ≤ q ∧ q < ((f + 1 : Nat) : Int) by omega)]
        split <;> omega
      · have hn := h f hl (by omega) e
        rw [if_pos (by rw [hn]; simpa using hl)]
        by_cases z : (lo : Int) ≤ q ∧ q < f
        · rw [if_pos z] at ih
          rw [if_pos (by omega)]
          omega
        · rw [if_neg z] at ih
          rw [if_neg (by omega)]
          omega
    · split <;> split <;> omega
end Q84
namespace Q84
open PySem L2 DL
theorem d_is_integer {i : Int} {m : Nat} {P : D → Nat → Prop} (h : P (.bool true) 0) : r_is_integer [.d (.int i)] m P := by
  refine ⟨trivial, true, k_int, trivial, false, k_ib, ?_⟩
  exact ⟨hd_d, h⟩
theorem d_is_within {i a b : Int} {m : Nat} {P : D → Nat → Prop} (h : P (.bool (decide (a ≤ i) && decide (i ≤ b))) 0) : r_is_within [.d (.int i), .d (.int a), .d (.int b)] m P := by
  refine ⟨rfl, rfl, d_is_integer ?_⟩
  by_cases e : a ≤ i
  · rw [decide_eq_true e, Bool.true_and] at h
    simp [raw, startE, arSl, sSeq, sIf, sRet, sRetN, sNo, sSet, sSetN, sExpr, sAsg, dCall, dCallO, aCons, aNil, aOra, dV, hS, hV, dC, d2, see, seeAll, dCB, DL.gCons, DL.gNil, dChain, bD, bAnd, bOr, bNot, dAnd, dOr, dNot, dNeg, dIf, dIsi, bTruth, truD, lCons, lNil, dTup, dLst, isD, gCmp, gAdd, DL.gSub, gIs, gIsNot, gLen, gN, gTupT, gConsT, gNoT, ownL, dSl, oI, oNo, e, h]
  · rw [decide_eq_false e, Bool.false_and] at h
    simp [raw, startE, arSl, sSeq, sIf, sRet, sRetN, sNo, sSet, sSetN, sExpr, sAsg, dCall, dCallO, aCons, aNil, aOra, dV, hS, hV, dC, d2, see, seeAll, dCB, DL.gCons, DL.gNil, dChain, bD, bAnd, bOr, bNot, dAnd, dOr, dNot, dNeg, dIf, dIsi, bTruth, truD, lCons, lNil, dTup, dLst, isD, gCmp, gAdd, DL.gSub, gIs, gIsNot, gLen, gN, gTupT, gConsT, gNoT, ownL, dSl, oI, oNo, e, h]
theorem d_is_tuple {ds : List D} {a b : Int} {m : Nat} {P : D → Nat → Prop} (h : P (.bool (decide (a ≤ ds.length) && decide ((ds.length : Int) ≤ b))) 0) : r_is_tuple [.d (.tuple ds), .d (.int a), .d (.int b)] m P := by
  refine ⟨trivial, true, k_tt, ?_⟩
  by_cases e : a ≤ (ds.length : Int)
  · rw [decide_eq_true e, Bool.true_and] at h
    simp [raw, startE, arSl, sSeq, sIf, sRet, sRetN, sNo, sSet, sSetN, sExpr, sAsg, dCall, dCallO, aCons, aNil, aOra, dV, hS, hV, dC, d2, see, seeAll, dCB, DL.gCons, DL.gNil, dChain, bD, bAnd, bOr, bNot, dAnd, dOr, dNot, dNeg, dIf, dIsi, bTruth, truD, lCons, lNil, dTup, dLst, isD, gCmp, gAdd, DL.gSub, gIs, gIsNot, gLen, gN, gTupT, gConsT, gNoT, ownL, dSl, oI, oNo, e, h]
  · rw [decide_eq_false e, Bool.false_and] at h
    simp [raw, startE, arSl, sSeq, sIf, sRet, sRetN, sNo, sSet, sSetN, sExpr, sAsg, dCall, dCallO, aCons, aNil, aOra, dV, hS, hV, dC, d2, see, seeAll, dCB, DL.gCons, DL.gNil, dChain, bD, bAnd, bOr, bNot, dAnd, dOr, dNot, dNeg, dIf, dIsi, bTruth, truD, lCons, lNil, dTup, dLst, isD, gCmp, gAdd, DL.gSub, gIs, gIsNot, gLen, gN, gTupT, gConsT, gNoT, ownL, dSl, oI, oNo, e, h]
structure OkStr (z : Str) : Prop where
  l1 : 1 ≤ z.cps.toList.length
  l2 : z.cps.toList.length ≤ 40
  ok : ∀ c ∈ z.cps.toList, 33 ≤ c ∧ c ≤ 126 ∧ c ≠ 37
theorem len_eq (z : Str) : z.length = z.cps.toList.length := by
  show z.cps.size = _
  rw [Array.length_toList]
theorem d_is_sign {c : Nat} {m : Nat} {P : D → Nat → Prop} (h1 : 33 ≤ c) (h2 : c ≤ 126) (h3 : c ≠ 37) (h : P (.bool true) 0) : r_is_sign [.d (.str ⟨#[c]⟩), .d (.int 32)] m P := by
  have a1 : (32 : Int) ≤ (c : Int) := by omega
  have a2 : (c : Int) ≤ 126 := by omega
  have a3 : ((c : Int) == 37) = false := by
    have : (c : Int) ≠ 37 := by omega
    simpa using this
  have o1 : okD (.int (c : Int)) := rfl
  have o2 : okD (.int 37) := rfl
  simp [r_is_sign, g_is_sign, raw, startE, arSl, sSeq, sIf, sRet, sRetN, sNo, sSet, sSetN, sExpr, sAsg, dCall, dCallO, aCons, aNil, aOra, dV, hS, hV, dC, d2, see, seeAll, dCB, DL.gCons, DL.gNil, dChain, bD, bAnd, bOr, bNot, dAnd, dOr, dNot, dNeg, dIf, dIsi, bTruth, truD, lCons, lNil, dTup, dLst, isD, gCmp, gAdd, DL.gSub, gIs, gIsNot, gLen, gN, gTupT, gConsT, gNoT, ownL, dSl, oI, oNo, gOrd, gNe, a1, a2, o1, o2, PyData.eqv, a3, h]
  rfl
theorem d_has_signs {z : Str} {m : Nat} {P : D → Nat → Prop} (o : OkStr z) (h : P (.bool true) 0) : r_has_signs [.d (.str z), .d (.int 32)] m P := by
  have l1 := o.l1
  have l2 := o.l2
  have e1 : (1 : Int) ≤ (z.length : Int) := by rw [len_eq]; omega
  have e2 : (z.length : Int) ≤ 40 := by rw [len_eq]; omega
  have e3 : z.length ≤ 1000000 := by rw [len_eq]; omega
  show sIf _ _ _ _ _
  simp [raw, startE, arSl, sSeq, sIf, sRet, sRetN, sNo, sSet, sSetN, sExpr, sAsg, dCall, dCallO, aCons, aNil, aOra, dV, hS, hV, dC, d2, see, seeAll, dCB, DL.gCons, DL.gNil, dChain, bD, bAnd, bOr, bNot, dAnd, dOr, dNot, dNeg, dIf, dIsi, bTruth, truD, lCons, lNil, dTup, dLst, isD, gCmp, gAdd, DL.gSub, gIs, gIsNot, gLen, gN, gTupT, gConsT, gNoT, ownL, dSl, oI, oNo, k_ss, tyN, gLen, e1, e2, e3]
  refine ⟨by rw [signs_eq, List.length_map]; omega, ⟨by simp, fun j hj => by simp at hj; subst hj; rfl⟩, ?_⟩
  refine lcL_map (ρ := [.im (.str z), .im (.int 32), .no]) (fun _ => .bool true) (signs z) [] ?_ ?_
  · intro d hd Q hQ
    rw [signs_eq] at hd
    obtain ⟨c, hc, rfl⟩ := List.mem_map.mp hd
    obtain ⟨b1, b2, b3⟩ := o.ok c hc
    refine ⟨rfl, rfl, d_is_sign b1 b2 b3 ?_⟩
    exact hQ _ rfl
  · have e : ([] : List D) ++ (signs z).map (fun _ => PyData.bool true) = List.replicate (signs z).length (.bool true) := by
      rw [List.nil_append, List.map_const']
    rw [e]
    refine ⟨_, ofBools_true _, ?_⟩
    have e4 : (List.replicate (signs z).length true).all id = true := by simp
    rw [e4]
    exact h
theorem d_is_line {z : Str} {m : Nat} {P : D → Nat → Prop} (o : OkStr z) (h : P (.bool true) 0) : r__is_line [.d (.str z)] m P := by
  have l1 := o.l1
  have l2 := o.l2
  have e3 : z.length ≤ 1000000 := by rw [len_eq]; omega
  refine ⟨rfl, rfl, d_has_signs o ?_⟩
  have ne : z.cps.toList ≠ [] := fun e => by rw [e] at l1; cases l1
  obtain ⟨a, ha⟩ : ∃ a, atI z.cps.toList 0 = some a := by
    cases e : z.cps.toList with
    | nil => exact absurd e ne
    | cons a t => exact ⟨a, by simp [atI, ixN]⟩
  obtain ⟨b, hb⟩ : ∃ b, atI z.cps.toList (-1) = some b := by
    cases e : z.cps.toList with
    | nil => exact absurd e ne
    | cons a t =>
      refine ⟨(a :: t)[t.length]'(by simp), ?_⟩
      have hj : ixN (a :: t).length (-1) = some t.length := by
        unfold ixN
        rw [if_neg (by decide), if_pos (by simp; omega)]
        simp
        omega
      unfold atI
      rw [hj]
      show (a :: t)[t.length]? = _
      rw [List.getElem?_eq_getElem (by simp)]
  have om : ∀ c, c ∈ z.cps.toList → okD (.str ⟨#[c]⟩) := by
    intro c hc
    obtain ⟨_, h2, _⟩ := o.ok c hc
    show SeqAt.shaped _ = true
    unfold SeqAt.shaped
    have h3 : c < 1114112 := by omega
    simp [PyData.canLay0, PyData.strOk, PyData.depth, h3]
  have ma : a ∈ z.cps.toList := by
    unfold atI at ha
    obtain ⟨j, _, hj⟩ := Option.bind_eq_some_iff.mp ha
    exact List.mem_of_getElem? hj
  have mb : b ∈ z.cps.toList := by
    unfold atI at hb
    obtain ⟨j, _, hj⟩ := Option.bind_eq_some_iff.mp hb
    exact List.mem_of_getElem? hj
  have na : a ≠ 32 := by have := (o.ok a ma).1; omega
  have nb : b ≠ 32 := by have := (o.ok b mb).1; omega
  have ob : okD (.str (" " : Str)) := by
    show SeqAt.shaped _ = true
    decide +kernel
  have ev : ∀ c : Nat, c ≠ 32 → PyData.eqv (.str ⟨#[c]⟩) (.str (" " : Str)) = false := by
    intro c hc
    show ((⟨#[c]⟩ : Str) == (" " : Str)) = false
    refine beq_eq_false_iff_ne.mpr fun e => hc ?_
    have e2 : (⟨#[c]⟩ : Str).cps = (" " : Str).cps := by rw [e]
    have e3 : (" " : Str).cps = #[32] := by decide +kernel
    rw [e3] at e2
    have := congrArg Array.toList e2
    simpa using this
  simp [raw, startE, arSl, sSeq, sIf, sRet, sRetN, sNo, sSet, sSetN, sExpr, sAsg, dCall, dCallO, aCons, aNil, aOra, dV, hS, hV, dC, d2, see, seeAll, dCB, DL.gCons, DL.gNil, dChain, bD, bAnd, bOr, bNot, dAnd, dOr, dNot, dNeg, dIf, dIsi, bTruth, truD, lCons, lNil, dTup, dLst, isD, gCmp, gAdd, DL.gSub, gIs, gIsNot, gLen, gN, gTupT, gConsT, gNoT, ownL, dSl, oI, oNo, gNe, gIx, e3, ha, hb, om a ma, om b mb, ob, ev a na, ev b nb, h]
/-- a text: lines that may stand in a cue -/
def textD (ls : List Str) : D := .tuple (ls.map PyData.str)
theorem d_is_text {ls : List Str} {m : Nat} {P : D → Nat → Prop} (l1 : 1 ≤ ls.length) (l2 : ls.length ≤ 4) (o : ∀ z ∈ ls, OkStr z) (h : P (.bool true) 0) : r_is_text [.d (textD ls)] m P := by
  refine ⟨rfl, rfl, d_is_tuple ?_⟩
  have a1 : (1 : Int) ≤ ((ls.map PyData.str).length : Int) := by rw [List.length_map]; omega
  have a2 : ((ls.map PyData.str).length : Int) ≤ 4 := by rw [List.length_map]; omega
  rw [decide_eq_true a1, decide_eq_true a2]
  refine ⟨by rw [List.length_map]; omega, ⟨by simp, fun j hj => by simp at hj; subst hj; rfl⟩, ?_⟩
  refine lcL_map (ρ := [.im (textD ls), .no]) (fun _ => .bool true) _ [] ?_ ?_
  · intro d hd Q hQ
    obtain ⟨z, hz, rfl⟩ := List.mem_map.mp hd
    exact ⟨rfl, rfl, d_is_line (o z hz) (hQ _ rfl)⟩
  · have e : ([] : List D) ++ (ls.map PyData.str).map (fun _ => PyData.bool true) = List.replicate (ls.map PyData.str).length (.bool true) := by
      rw [List.nil_append, List.map_const']
    rw [e]
    refine ⟨_, ofBools_true _, ?_⟩
    have e4 : (List.replicate (ls.map PyData.str).length true).all id = true := by simp
    rw [e4]
    exact ⟨hd_d, h⟩
def scr (r w : Int) : D := .tuple [.int r, .int w]
structure OkS (r w : Int) : Prop where
  r1 : 1 ≤ r
  r4 : r ≤ 4
  w1 : 1 ≤ w
  w40 : w ≤ 40
theorem d_need_screen {r w : Int} {m : Nat} {P : D → Nat → Prop} (o : OkS r w) (h : P (scr r w) 0) : r_need_screen [.d (scr r w)] m P := by
  have r1 := o.r1
  have r4 := o.r4
  have w1 := o.w1
  have w40 := o.w40
  refine ⟨rfl, rfl, d_is_tuple ?_⟩
  refine ⟨trivial, _, rfl, rfl, rfl, d_is_within ?_⟩
  rw [decide_eq_true r1, decide_eq_true r4]
  refine ⟨trivial, _, rfl, rfl, rfl, d_is_within ?_⟩
  rw [decide_eq_true w1, decide_eq_true w40]
  exact ⟨hd_d, h⟩
structure GT (r w : Int) (t : List Str) : Prop where
  l1 : 1 ≤ t.length
  l4 : t.length ≤ 4
  lr : (t.length : Int) ≤ r
  ok : ∀ z ∈ t, OkStr z
  lw : ∀ z ∈ t, (z.length : Int) ≤ w
  l6 : ∀ z ∈ t, z.length ≤ 6
structure GC (r w : Int) (c : Cu) : Prop where
  b0 : 0 ≤ c.b
  be : c.b < c.e
  e1 : c.e ≤ 1999
  t : GT r w c.t
def Cu.d (c : Cu) : D := .tuple [.int c.b, .int c.e, textD c.t]
def cuesD (cs : List Cu) : D := .tuple (cs.map Cu.d)
theorem d_has_room {r w : Int} {t : List Str} {m : Nat} {P : D → Nat → Prop} (g : GT r w t) (h : P (.bool true) 0) : r__has_room [.d (scr r w), .d (textD t)] m P := by
  have l1 := g.l1
  have l4 := g.l4
  have lr := g.lr
  refine ⟨rfl, rfl, rfl, rfl, d_is_text l1 l4 g.ok ?_⟩
  have ll : ((t.map PyData.str).length : Int) ≤ r := by rw [List.length_map]; exact lr
  refine ⟨trivial, trivial, ?_⟩
  show (match PyData.bool (decide (((t.map PyData.str).length : Int) ≤ r)) with
    | .bool true => _
    | .bool false => _
    | _ => False)
  rw [decide_eq_true ll]
  refine ⟨by rw [List.length_map]; omega, ⟨by simp, fun j hj => by simp at hj; subst hj; rfl⟩, ?_⟩
  refine lcL_map (ρ := [.im (scr r w), .im (textD t), .im (.int r), .im (.int w), .no]) (fun _ => .bool true) _ [] ?_ ?_
  · intro d hd Q hQ
    obtain ⟨z, hz, rfl⟩ := List.mem_map.mp hd
    have zw := g.lw z hz
    have z6 := g.l6 z hz
    refine ⟨trivial, by omega, trivial, ?_⟩
    show Q (.bool (decide ((z.length : Int) ≤ w))) _
    rw [decide_eq_true zw]
    exact hQ _ rfl
  · have e : ([] : List D) ++ (t.map PyData.str).map (fun _ => PyData.bool true) = List.replicate (t.map PyData.str).length (.bool true) := by
      rw [List.nil_append, List.map_const']
    rw [e]
    refine ⟨_, ofBools_true _, ?_⟩
    have e4 : (List.replicate (t.map PyData.str).length true).all id = true := by simp
    rw [e4]
    exact ⟨hd_d, h⟩
theorem d_is_sendable {r w : Int} {c : Cu} {m : Nat} {P : D → Nat → Prop} (g : GC r w c) (h : P (.bool true) 0) : r__is_sendable [.d (scr r w), .d c.d] m P := by
  have b0 := g.b0
  have be := g.be
  have e1 := g.e1
  refine ⟨rfl, rfl, d_is_tuple ?_⟩
  refine ⟨trivial, _, rfl, rfl, rfl, d_is_within ?_⟩
  have a1 : decide (c.b ≤ 1999) = true := decide_eq_true (by omega)
  rw [decide_eq_true b0, a1]
  refine ⟨trivial, _, rfl, trivial, _, rfl, rfl, rfl, d_is_within ?_⟩
  have a2 : decide (c.b + 1 ≤ c.e) = true := decide_eq_true (by omega)
  rw [a2, decide_eq_true e1]
  exact ⟨trivial, _, rfl, rfl, rfl, d_has_room g.t ⟨hd_d, h⟩⟩
def enN : Nat → List D → List D
  | _, [] => []
  | k, d :: ds => .tuple [.int (k : Int), d] :: enN (k + 1) ds
theorem enN_eq : ∀ (ds : List D) (k : Nat), enN k ds = ds.mapIdx fun i d => .tuple [.int (((k + i : Nat)) : Int), d]
  | [], _ => rfl
  | d :: ds, k => by
    unfold enN
    rw [List.mapIdx_cons, enN_eq ds (k + 1)]
    have e : (fun (i : Nat) (d : D) => PyData.tuple [.int (((k + 1 + i : Nat)) : Int), d]) = fun i d => PyData.tuple [.int (((k + (i + 1) : Nat)) : Int), d] := by
      funext i d
      rw [Nat.add_assoc, Nat.add_comm 1 i]
    rw [e]
    rfl
theorem enD_N (ds : List D) : enD ds = enN 0 ds := by
  rw [enN_eq]
  unfold enD
  congr 1
  funext i d
  rw [Nat.zero_add]
theorem cix0 {c : Cu} {P : D → Prop} : gIx c.d (.int 0) P ↔ P (.int c.b) := ⟨fun ⟨_, h, p⟩ => by cases h; exact p, fun h => ⟨_, rfl, h⟩⟩
theorem cix1 {c : Cu} {P : D → Prop} : gIx c.d (.int 1) P ↔ P (.int c.e) := ⟨fun ⟨_, h, p⟩ => by cases h; exact p, fun h => ⟨_, rfl, h⟩⟩
theorem lt_no {a b : Int} {P : D → Prop} (h : ¬ a < b) (q : P (.bool false)) : gLt (.int a) (.int b) P := by
  show P (.bool (decide (a < b)))
  rw [decide_eq_false h]
  exact q
theorem lt_yes {a b : Int} {P : D → Prop} (h : a < b) (q : P (.bool true)) : gLt (.int a) (.int b) P := by
  show P (.bool (decide (a < b)))
  rw [decide_eq_true h]
  exact q
theorem d_need_cues {r w : Int} {cs : List Cu} {m : Nat} {P : D → Nat → Prop} (o : OkS r w) (l : cs.length ≤ 200) (g : ∀ c ∈ cs, GC r w c) (gl : GL 0 cs) (h : P .none 0) : r__need_cues [.d (scr r w), .d (cuesD cs)] m P := by
  refine ⟨rfl, rfl, d_need_screen o ?_⟩
  refine ⟨rfl, rfl, d_is_tuple ?_⟩
  have a1 : ((cs.map Cu.d).length : Int) ≤ 200 := by rw [List.length_map]; omega
  have a0 : (0 : Int) ≤ ((cs.map Cu.d).length : Int) := by omega
  rw [decide_eq_true a0, decide_eq_true a1]
  show forL _ _ _ (enD (cs.map Cu.d)) [.im (scr r w), .im (cuesD cs), .im (.int 0), .no, .no]
  rw [enD_N]
  have loop : ∀ (xs : List Cu) (k : Nat) (lo : Int) (E : DE) (s3 s4 : Sl), (∀ c ∈ xs, GC r w c) → GL lo xs → (∀ s2 s3 s4, E.nx [.im (scr r w), .im (cuesD cs), s2, s3, s4]) →
      forL (gTupT 2 (gConsT (gN 3) (gConsT (gN 4) (gNoT)))) (sSeq (sIf (bOr (bNot (bTruth (hV (dCall 2 r__is_sendable (aCons (dV 0) (aCons (dV 4) (aNil))))))) (bD (d2 gLt (hV (d2 gIx (hS 4) (hV (dC (.int 0))))) (hS 2)))) (sNever) (sNo)) (sSet 2 (d2 gIx (hS 4) (hV (dC (.int 1))))))
        E (enN k (xs.map Cu.d)) [.im (scr r w), .im (cuesD cs), .im (.int lo), s3, s4] := by
    intro xs
    induction xs with
    | nil => exact fun k lo E s3 s4 _ _ hE => hE _ _ _
    | cons c xs ih =>
      intro k lo E s3 s4 gc gl hE
      refine ⟨rfl, ?_⟩
      refine ⟨rfl, rfl, rfl, d_is_sendable (gc c (List.mem_cons_self ..)) ?_⟩
      have hb : ¬ c.b < lo := by have := gl.1; omega
      simp [raw, startE, arSl, sSeq, sIf, sRet, sRetN, sNo, sSet, sSetN, sExpr, sAsg, dCall, dCallO, aCons, aNil, aOra, dV, hS, hV, dC, d2, see, seeAll, dCB, DL.gCons, DL.gNil, dChain, bD, bAnd, bOr, bNot, dAnd, dOr, dNot, dNeg, dIf, dIsi, bTruth, truD, lCons, lNil, dTup, dLst, isD, gCmp, gAdd, DL.gSub, gIs, gIsNot, gLen, gN, gTupT, gConsT, gNoT, ownL, dSl, oI, oNo, cix0, cix1, hb]
      exact ih (k + 1) c.e E _ _ (fun x hx => gc x (List.mem_cons_of_mem _ hx)) gl.2.2 hE
  exact loop cs 0 0 _ _ _ g gl fun s2 s3 s4 => ⟨hd_d, h⟩
end Q84
namespace Q84
open PySem L2 DL
def aD : Option Cu → D
  | none => .none
  | some c => c.d
theorem d_free {a : Option Cu} {s : Int} {m : Nat} {P : D → Nat → Prop} (h : P (.int (fr a s)) 0) : r__free_frames [.d (aD a), .d (.int s)] m P := by
  cases a with
  | none =>
    simp [r__free_frames, g__free_frames, raw, startE, arSl, sSeq, sIf, sRet, sRetN, sNo, sSet, sSetN, sExpr, sAsg, dCall, dCallO, aCons, aNil, aOra, dV, hS, hV, dC, d2, see, seeAll, dCB, DL.gCons, DL.gNil, dChain, bD, bAnd, bOr, bNot, dAnd, dOr, dNot, dNeg, dIf, dIsi, bTruth, truD, lCons, lNil, dTup, dLst, isD, gCmp, gAdd, DL.gSub, gIs, gIsNot, gLen, gN, gTupT, gConsT, gNoT, ownL, dSl, oI, oNo, aD, isN]
    exact h
  | some c =>
    have hn : isN c.d = false := rfl
    have h : P (.int (if c.e < s then s - c.b - 1 - 1 else s - c.b - 1)) 0 := h
    by_cases e : c.e < s
    · rw [if_pos e] at h
      simp [r__free_frames, g__free_frames, raw, startE, arSl, sSeq, sIf, sRet, sRetN, sNo, sSet, sSetN, sExpr, sAsg, dCall, dCallO, aCons, aNil, aOra, dV, hS, hV, dC, d2, see, seeAll, dCB, DL.gCons, DL.gNil, dChain, bD, bAnd, bOr, bNot, dAnd, dOr, dNot, dNeg, dIf, dIsi, bTruth, truD, lCons, lNil, dTup, dLst, isD, gCmp, gAdd, DL.gSub, gIs, gIsNot, gLen, gN, gTupT, gConsT, gNoT, ownL, dSl, oI, oNo, aD, hn, cix0, cix1, e]
      exact h
    · rw [if_neg e] at h
      simp [r__free_frames, g__free_frames, raw, startE, arSl, sSeq, sIf, sRet, sRetN, sNo, sSet, sSetN, sExpr, sAsg, dCall, dCallO, aCons, aNil, aOra, dV, hS, hV, dC, d2, see, seeAll, dCB, DL.gCons, DL.gNil, dChain, bD, bAnd, bOr, bNot, dAnd, dOr, dNot, dNeg, dIf, dIsi, bTruth, truD, lCons, lNil, dTup, dLst, isD, gCmp, gAdd, DL.gSub, gIs, gIsNot, gLen, gN, gTupT, gConsT, gNoT, ownL, dSl, oI, oNo, aD, hn, cix0, cix1, e]
      exact h
def atS (k : Nat) : D := .tuple [.str ("at" : Str), .int (k : Int), .int 0]
def putS (d : D) : D := .tuple [.str ("put" : Str), d]
theorem signs_len (z : Str) : (signs z).length = z.length := by
  rw [signs_eq, List.length_map, len_eq]
theorem sum7 : ∀ t : List Str, (∀ z ∈ t, z.length ≤ 6) → (t.map fun z => 1 + z.length).sum ≤ 7 * t.length
  | [], _ => Nat.le_refl _
  | z :: t, h => by
    have h1 := h z (List.mem_cons_self ..)
    have h2 := sum7 t fun x hx => h x (List.mem_cons_of_mem _ hx)
    rw [List.map_cons, List.sum_cons, List.length_cons]
    omega
theorem load_loop {T : D} {E : DE} : ∀ (zs : List Str) (k : Nat) (acc : List D) (s2 s3 : Sl), (∀ z ∈ zs, z.length ≤ 6) → acc.length + 7 * zs.length ≤ 1000 →
    (∀ (acc' : List D) (s2 s3 : Sl), acc'.length = acc.length + (zs.map fun z => 1 + z.length).sum → E.nx [.im T, .ow (.list acc'), s2, s3, .no]) →
    forL (gTupT 2 (gConsT (gN 2) (gConsT (gN 3) (gNoT)))) (sSeq (sApp 1 (dTup (lCons (dC (.str ("at" : Str))) (lCons (dV 2) (lCons (dC (.int 0)) (lNil)))))) (sExt 1 (dLc (iSeq (dV 3)) (gN 4) (bYes) (dTup (lCons (dC (.str ("put" : Str))) (lCons (dV 4) (lNil)))) [4])))
      E (enN k (zs.map PyData.str)) [.im T, .ow (.list acc), s2, s3, .no]
  | [], k, acc, s2, s3, _, _, h => h acc s2 s3 (by simp)
  | z :: zs, k, acc, s2, s3, h6, hl, h => by
    have z6 := h6 z (List.mem_cons_self ..)
    rw [List.length_cons] at hl
    refine ⟨rfl, rfl, ?_⟩
    refine ⟨trivial, by show 3 ≤ 1000000; omega, ?_⟩
    show acc.length < 1000000 ∧ _
    refine ⟨by omega, trivial, ?_⟩
    refine ⟨by rw [signs_len]; omega, ⟨by simp, fun j hj => by simp at hj; subst hj; rfl⟩, ?_⟩
    refine lcL_map (ρ := [.im T, .ow (.list (acc ++ [atS k])), .im (.int (k : Int)), .im (.str z), .no]) putS (signs z) [] ?_ ?_
    · intro d hd Q hQ
      refine ⟨by show 2 ≤ 1000000; omega, ?_⟩
      exact hQ _ rfl
    · show (acc ++ [atS k]).length + ([] ++ (signs z).map putS).length ≤ 1000000 ∧ _
      have e1 : (acc ++ [atS k] ++ ([] ++ (signs z).map putS)).length = acc.length + 1 + z.length := by
        simp [signs_len]
        omega
      refine ⟨by simp [signs_len]; omega, ?_⟩
      refine load_loop zs (k + 1) _ _ _ (fun x hx => h6 x (List.mem_cons_of_mem _ hx)) (by rw [e1]; omega) fun acc' s2 s3 ha => h acc' s2 s3 ?_
      rw [ha, e1, List.map_cons, List.sum_cons]
      omega
theorem d_load {t : List Str} {m : Nat} {P : D → Nat → Prop} (l : t.length ≤ 4) (h6 : ∀ z ∈ t, z.length ≤ 6) (h : ∀ ds : List D, ds.length = need t → P (.tuple ds) 0) : r__load_of [.d (textD t)] m P := by
  refine ⟨by show 1 ≤ 1000000; omega, by show 1 ≤ 1000000; omega, by show 2 ≤ 1000000; omega, ?_⟩
  show forL _ _ _ (enD (t.map PyData.str)) [.im (textD t), .ow (.list _), .no, .no, .no]
  rw [enD_N]
  refine load_loop t 0 _ _ _ h6 (by show 2 + 7 * t.length ≤ 1000; omega) fun acc' s2 s3 ha => ?_
  have h7 : (t.map fun z => 1 + z.length).sum ≤ 7 * t.length := sum7 t h6
  have hn : acc'.length = need t := by rw [ha]; rfl
  unfold need at hn
  exact ⟨trivial, hd_d, h acc' (by unfold need; omega)⟩
theorem d_law_load {t : List Str} {m : Nat} {P : D → Nat → Prop} (l : t.length ≤ 4) (h6 : ∀ z ∈ t, z.length ≤ 6) (h : ∀ ds : List D, ds.length = need t → P (.list ds) 0) : r__law_load [.d (textD t)] m P := by
  have loop : ∀ (E : DE) (zs : List Str) (k : Nat) (acc : List D) (s2 s3 : Sl), (∀ z ∈ zs, z.length ≤ 6) → acc.length + 7 * zs.length ≤ 1000 →
      (∀ (acc' : List D) (s2 s3 : Sl), acc'.length = acc.length + (zs.map fun z => 1 + z.length).sum → E.nx [.im (textD t), .im (.list acc'), s2, s3, .no]) →
      forL (gTupT 2 (gConsT (gN 2) (gConsT (gN 3) (gNoT)))) (sSet 1 (d2 gAdd (hV (d2 gAdd (hS 1) (hV (dLst (lCons (dTup (lCons (dC (.str ("at" : Str))) (lCons (dV 2) (lCons (dC (.int 0)) (lNil))))) (lNil)))))) (hV (dLc (iSeq (dV 3)) (gN 4) (bYes) (dTup (lCons (dC (.str ("put" : Str))) (lCons (dV 4) (lNil)))) [4]))))
        E (enN k (zs.map PyData.str)) [.im (textD t), .im (.list acc), s2, s3, .no] := by
    intro E zs
    induction zs with
    | nil => exact fun k acc s2 s3 _ _ h => h acc s2 s3 (by simp)
    | cons z zs ih =>
      intro k acc s2 s3 h6 hl h
      have z6 := h6 z (List.mem_cons_self ..)
      rw [List.length_cons] at hl
      refine ⟨rfl, rfl, ?_⟩
      refine ⟨trivial, (by show 3 ≤ 1000000; omega), (by show 1 ≤ 1000000; omega), ?_⟩
      show acc.length + 1 ≤ 1000000 ∧ _
      refine ⟨by omega, ?_⟩
      refine ⟨by rw [signs_len]; omega, ⟨by simp, fun j hj => by simp at hj; subst hj; rfl⟩, ?_⟩
      refine lcL_map (ρ := [.im (textD t), .im (.list acc), .im (.int (k : Int)), .im (.str z), .no]) putS (signs z) [] ?_ ?_
      · intro d hd Q hQ
        refine ⟨by show 2 ≤ 1000000; omega, ?_⟩
        exact hQ _ rfl
      · show (acc ++ [atS k]).length + ([] ++ (signs z).map putS).length ≤ 1000000 ∧ _
        have e1 : (acc ++ [atS k] ++ ([] ++ (signs z).map putS)).length = acc.length + 1 + z.length := by
          simp [signs_len]
          omega
        refine ⟨by simp [signs_len]; omega, ?_⟩
        refine ih (k + 1) (acc ++ [atS k] ++ ([] ++ (signs z).map putS)) _ _ (fun x hx => h6 x (List.mem_cons_of_mem _ hx)) (by rw [e1]; omega) fun acc' s2 s3 ha => h acc' s2 s3 ?_
        rw [ha, e1, List.map_cons, List.sum_cons]
        omega
  refine ⟨by show 1 ≤ 1000000; omega, by show 1 ≤ 1000000; omega, by show 2 ≤ 1000000; omega, ?_⟩
  show forL _ _ _ (enD (t.map PyData.str)) [.im (textD t), .im (.list _), .no, .no, .no]
  rw [enD_N]
  refine loop _ t 0 _ _ _ h6 (by show 2 + 7 * t.length ≤ 1000; omega) fun acc' s2 s3 ha => ?_
  have h7 : (t.map fun z => 1 + z.length).sum ≤ 7 * t.length := sum7 t h6
  have hn : acc'.length = need t := by rw [ha]; rfl
  exact ⟨hd_d, h acc' hn⟩
theorem need_le {r w : Int} {t : List Str} (g : GT r w t) : need t ≤ 30 := by
  have := sum7 t g.l6
  have := g.l4
  unfold need
  omega
def shD : Option Nat → D
  | none => .none
  | some k => .int (k : Int)
theorem short_loop {r w : Int} {C : D} {E : DE} : ∀ (cs : List Cu) (a : Option Cu) (k : Nat) (s2 s3 : Sl), (∀ c ∈ cs, GT r w c.t) → (short a k cs = none → ∀ s1 s2 s3, E.nx [.im C, s1, s2, s3]) →
    (∀ j, short a k cs = some j → ∀ ρ, ρ[0]? = some (.im C) → E.rt (.int (j : Int)) ρ) →
    forL (gTupT 2 (gConsT (gN 2) (gConsT (gN 3) (gNoT)))) (sSeq (sIf (bD (d2 gLt (hV (dCall 2 r__free_frames (aCons (dV 1) (aCons (d2 gIx (hS 3) (hV (dC (.int 0)))) (aNil))))) (hV (dCB gLen (DL.gCons (hV (dCall 1 r__load_of (aCons (d2 gIx (hS 3) (hV (dC (.int 2)))) (aNil)))) (DL.gNil)))))) (sRet (dV 2)) (sNo)) (sSet 1 (dV 3)))
      E (enN k (cs.map Cu.d)) [.im C, .im (aD a), s2, s3]
  | [], a, k, s2, s3, _, h, _ => h rfl _ _ _
  | c :: cs, a, k, s2, s3, g, h, hr => by
    have gt := g c (List.mem_cons_self ..)
    have hn := need_le gt
    refine ⟨rfl, rfl, ?_⟩
    refine ⟨trivial, _, rfl, rfl, rfl, d_free ?_⟩
    refine ⟨trivial, _, rfl, rfl, rfl, d_load gt.l4 gt.l6 fun ds hd => ?_⟩
    by_cases z : fr a c.b < need c.t
    · have e : short a k (c :: cs) = some k := by
        unfold short
        rw [if_pos z]
      have z' : fr a c.b < (ds.length : Int) := by rw [hd]; exact z
      simp [raw, startE, arSl, sSeq, sIf, sRet, sRetN, sNo, sSet, sSetN, sExpr, sAsg, dCall, dCallO, aCons, aNil, aOra, dV, hS, hV, dC, d2, see, seeAll, dCB, DL.gCons, DL.gNil, dChain, bD, bAnd, bOr, bNot, dAnd, dOr, dNot, dNeg, dIf, dIsi, bTruth, truD, lCons, lNil, dTup, dLst, isD, gCmp, gAdd, DL.gSub, gIs, gIsNot, gLen, gN, gTupT, gConsT, gNoT, ownL, dSl, oI, oNo, z', hd_d]
      exact hr k e _ rfl
    · have e : short a k (c :: cs) = short (some c) (k + 1) cs := by
        show (if _ then _ else _) = _
        rw [if_neg z]
      rw [e] at h hr
      have z' : ¬ fr a c.b < (ds.length : Int) := by rw [hd]; exact z
      simp [raw, startE, arSl, sSeq, sIf, sRet, sRetN, sNo, sSet, sSetN, sExpr, sAsg, dCall, dCallO, aCons, aNil, aOra, dV, hS, hV, dC, d2, see, seeAll, dCB, DL.gCons, DL.gNil, dChain, bD, bAnd, bOr, bNot, dAnd, dOr, dNot, dNeg, dIf, dIsi, bTruth, truD, lCons, lNil, dTup, dLst, isD, gCmp, gAdd, DL.gSub, gIs, gIsNot, gLen, gN, gTupT, gConsT, gNoT, ownL, dSl, oI, oNo, z', hd_d]
      exact short_loop cs (some c) (k + 1) _ _ (fun x hx => g x (List.mem_cons_of_mem _ hx)) h hr
theorem d_short {r w : Int} {cs : List Cu} {m : Nat} {P : D → Nat → Prop} (g : ∀ c ∈ cs, GT r w c.t) (h : P (shD (short none 0 cs)) 0) : r__first_short [.d (cuesD cs)] m P := by
  show forL _ _ _ (enD (cs.map Cu.d)) [.im (cuesD cs), .im (aD none), .no, .no]
  rw [enD_N]
  refine short_loop cs none 0 _ _ g (fun e s1 s2 s3 => ?_) fun j e ρ hρ => ?_
  · rw [e] at h
    exact ⟨hd_d, h⟩
  · rw [e] at h
    show (match ρ[0]? with
      | some (Sl.ora m') => _
      | _ => _)
    rw [hρ]
    exact ⟨hd_d, h⟩
def Ah (cs : List Cu) (k : Nat) (hd : Int) (a : Option Cu) : Prop := (k = 0 ∧ a = none) ∨ ∃ j c0 a0, k = j + 1 ∧ cs[j]? = some c0 ∧ a = some a0 ∧ a0.e = c0.e ∧ a0.b = hd
theorem atI_nat {l : List D} {i : Nat} {d : D} (h : l[i]? = some d) : atI l (i : Int) = some d := by
  have hi : i < l.length := (List.getElem?_eq_some_iff.mp h).1
  unfold atI ixN
  (rw [if_pos (by omega), if_pos (by omega)])
  exact h
theorem d_room {cs : List Cu} {k : Nat} {s hd : Int} {a : Option Cu} {m : Nat} {P : D → Nat → Prop} (ah : Ah cs k hd a) (h : P (.int (fr a s)) 0) : r__law_room [.d (cuesD cs), .d (.int (k : Int)), .d (.int s), .d (.int hd)] m P := by
  have o1 : ∀ i : Int, okD (.int i) := fun _ => rfl
  rcases ah with ⟨rfl, rfl⟩ | ⟨j, c0, a0, rfl, hj, rfl, e1, e2⟩
  · simp [r__law_room, g__law_room, raw, startE, arSl, sSeq, sIf, sRet, sRetN, sNo, sSet, sSetN, sExpr, sAsg, dCall, dCallO, aCons, aNil, aOra, dV, hS, hV, dC, d2, see, seeAll, dCB, DL.gCons, DL.gNil, dChain, bD, bAnd, bOr, bNot, dAnd, dOr, dNot, dNeg, dIf, dIsi, bTruth, truD, lCons, lNil, dTup, dLst, isD, gCmp, gAdd, DL.gSub, gIs, gIsNot, gLen, gN, gTupT, gConsT, gNoT, ownL, dSl, oI, oNo, gEq, o1, PyData.eqv]
    exact h
  · have z : (((j + 1 : Nat) : Int) == 0) = false := beq_eq_false_iff_ne.mpr (by omega)
    have hxj : atI (cs.map Cu.d) (j : Int) = some c0.d := atI_nat (by rw [List.getElem?_map, hj]; rfl)
    have h : P (.int (if a0.e < s then s - a0.b - 1 - 1 else s - a0.b - 1)) 0 := h
    rw [e1, e2] at h
    have hw : ¬ (((j + 1 : Nat) : Int)) = 0 := by omega
    by_cases e : c0.e < s
    · rw [if_pos e] at h
      simp [r__law_room, g__law_room, raw, startE, arSl, sSeq, sIf, sRet, sRetN, sNo, sSet, sSetN, sExpr, sAsg, dCall, dCallO, aCons, aNil, aOra, dV, hS, hV, dC, d2, see, seeAll, dCB, DL.gCons, DL.gNil, dChain, bD, bAnd, bOr, bNot, dAnd, dOr, dNot, dNeg, dIf, dIsi, bTruth, truD, lCons, lNil, dTup, dLst, isD, gCmp, gAdd, DL.gSub, gIs, gIsNot, gLen, gN, gTupT, gConsT, gNoT, ownL, dSl, oI, oNo, gEq, o1, PyData.eqv, gInt]
      rw [if_neg (show ¬ (j : Int) + 1 = 0 by omega)]
      refine ⟨_, hxj, _, rfl, lt_yes e ?_⟩
      exact h
    · rw [if_neg e] at h
      simp [r__law_room, g__law_room, raw, startE, arSl, sSeq, sIf, sRet, sRetN, sNo, sSet, sSetN, sExpr, sAsg, dCall, dCallO, aCons, aNil, aOra, dV, hS, hV, dC, d2, see, seeAll, dCB, DL.gCons, DL.gNil, dChain, bD, bAnd, bOr, bNot, dAnd, dOr, dNot, dNeg, dIf, dIsi, bTruth, truD, lCons, lNil, dTup, dLst, isD, gCmp, gAdd, DL.gSub, gIs, gIsNot, gLen, gN, gTupT, gConsT, gNoT, ownL, dSl, oI, oNo, gEq, o1, PyData.eqv, gInt]
      rw [if_neg (show ¬ (j : Int) + 1 = 0 by omega)]
      refine ⟨_, hxj, _, rfl, lt_no e ?_⟩
      have h0 : s - hd - 1 - 0 = s - hd - 1 := by omega
      show P (.int (s - hd - 1 - 0)) 0
      rw [h0]
      exact h
end Q84
namespace Q84
open PySem L2 DL
def putAll : SM := sSeq (sIf (bD (d2 gIs (hV (d2 gIx (hS 1) (hS 7))) (hV (dC .none)))) (sPut 1 (dV 7) (dPop 6)) (sNo)) (sAug 7 gIsub (hV (dC (.int 1))))
def fill : SM := sWhile (bTruth (hS 6)) putAll
theorem atI_lt {l : List D} {i : Nat} (h : i < l.length) : ∃ d, l[i]? = some d ∧ atI l (i : Int) = some d := ⟨l[i], List.getElem?_eq_getElem h, atI_nat (List.getElem?_eq_getElem h)⟩
theorem ixN_nat {n i : Nat} (h : i < n) : ixN n (i : Int) = some i := by
  unfold ixN
  (rw [if_pos (by omega), if_pos (by omega)])
  rfl
theorem lastOf (x : D) (xs : List D) : ∃ y, (x :: xs)[(x :: xs).length - 1]? = some y := ⟨_, List.getElem?_eq_getElem (by simp)⟩
theorem put_ok {C s2 s3 s4 T s8 : Sl} {E : DE} {cs xs : List D} {x d y : D} {g : Nat} (hg : g < cs.length) (hd : cs[g]? = some d) (hx : atI cs (g : Int) = some d) (hy : (x :: xs)[(x :: xs).length - 1]? = some y)
    (h1 : isN d = true → E.nx [C, .ow (.list (cs.set g y)), s2, s3, s4, T, .ow (.list (x :: xs).dropLast), .im (.int ((g : Int) - 1)), s8])
    (h2 : isN d = false → E.nx [C, .ow (.list cs), s2, s3, s4, T, .ow (.list (x :: xs)), .im (.int ((g : Int) - 1)), s8]) :
    putAll E [C, .ow (.list cs), s2, s3, s4, T, .ow (.list (x :: xs)), .im (.int (g : Int)), s8] := by
  refine ⟨trivial, trivial, d, hx, ?_⟩
  cases z : isN d with
  | true =>
    show (if isN d = true then _ else _)
    rw [if_pos z]
    show (match (x :: xs)[(x :: xs).length - 1]? with
      | some d => _
      | none => False)
    rw [hy]
    refine ⟨trivial, ?_⟩
    refine ⟨g, ixN_nat hg, trivial, ?_⟩
    exact h1 z
  | false =>
    show (if isN d = true then _ else _)
    rw [if_neg (by rw [z]; exact Bool.false_ne_true)]
    refine ⟨trivial, ?_⟩
    exact h2 z
theorem fill_ok {C s2 s3 s4 T s8 : Sl} {lo N : Nat} {E : DE} {codes left : List D} {f : Nat} (hN : codes.length = N) (hf : f ≤ N) (hl : left.length ≤ cnt codes lo f)
    (hE : ∀ (codes' : List D) (s7 : Sl), codes'.length = N → (∀ p : Nat, f ≤ p → codes'[p]? = codes[p]?) → E.nx [C, .ow (.list codes'), s2, s3, s4, T, .ow (.list []), s7, s8]) :
    fill E [C, .ow (.list codes), s2, s3, s4, T, .ow (.list left), .im (.int ((f : Int) - 1)), s8] := by
  refine ⟨fun m ρ => ∃ codes' left', ρ = [C, .ow (.list codes'), s2, s3, s4, T, .ow (.list left'), .im (.int ((m : Int) - 1)), s8] ∧ codes'.length = N ∧ m ≤ f ∧ left'.length ≤ cnt codes' lo m ∧ ∀ p : Nat, f ≤ p → codes'[p]? = codes[p]?,
    ⟨f, codes, left, rfl, hN, Nat.le_refl _, hl, fun _ _ => rfl⟩, ?_⟩
  rintro m ρ ⟨cs, ls, rfl, h1, h2, h3, h4⟩
  cases ls with
  | nil => exact ⟨trivial, hE cs _ h1 h4⟩
  | cons x xs =>
    cases m with
    | zero => cases h3
    | succ g =>
      obtain ⟨d, hd, hx⟩ := atI_lt (l := cs) (i := g) (by omega)
      obtain ⟨y, hy⟩ := lastOf x xs
      have e1 : ((g + 1 : Nat) : Int) - 1 = (g : Int) := by omega
      rw [e1]
      unfold cnt at h3
      have hn : nn cs g = isN d := by
        unfold nn
        rw [hd]
      rw [hn] at h3
      refine ⟨trivial, ?_⟩
      refine put_ok (g := g) (cs := cs) (by omega) hd hx hy (fun z => ⟨g, by omega, cs.set g y, (x :: xs).dropLast, rfl, by rw [List.length_set]; exact h1, by omega, ?_, fun p hp => ?_⟩) fun z => ⟨g, by omega, cs, x :: xs, rfl, h1, by omega, ?_, h4⟩
      · rw [cnt_set g (Nat.le_refl _), List.length_dropLast]
        split at h3 <;> simp at h3 ⊢ <;> omega
      · rw [List.getElem?_set_ne (by omega)]
        exact h4 p hp
      · rw [if_neg (by simp [z])] at h3
        exact h3
def swapD : D := .tuple [.str ("swap" : Str)]
def wipeD : D := .tuple [.str ("wipe" : Str)]
theorem mark_loop {C s5 s6 s7 s8 : Sl} {N : Nat} {E : DE} : ∀ (xs : List Cu) (codes : List D) (s2 s3 s4 : Sl), codes.length = N → (∀ x ∈ xs, 0 ≤ x.b ∧ x.b < N ∧ 0 ≤ x.e ∧ x.e < N) →
    (∀ (codes' : List D) (s2 s3 s4 : Sl), codes'.length = N → (∀ p : Nat, (∀ x ∈ xs, (p : Int) ≠ x.b ∧ (p : Int) ≠ x.e) → codes'[p]? = codes[p]?) → E.nx [C, .ow (.list codes'), s2, s3, s4, s5, s6, s7, s8]) →
    forL (gTupT 3 (gConsT (gN 2) (gConsT (gN 3) (gConsT (gN 4) (gNoT))))) (sSeq (sPut 1 (dV 2) (dTup (lCons (dC (.str ("swap" : Str))) (lNil)))) (sPut 1 (dV 3) (dTup (lCons (dC (.str ("wipe" : Str))) (lNil)))))
      E (xs.map Cu.d) [C, .ow (.list codes), s2, s3, s4, s5, s6, s7, s8]
  | [], codes, s2, s3, s4, hN, _, h => h codes s2 s3 s4 hN fun _ _ => rfl
  | x :: xs, codes, s2, s3, s4, hN, hx, h => by
    obtain ⟨b0, b1, e0, e1⟩ := hx x (List.mem_cons_self ..)
    obtain ⟨b, e, t⟩ := x
    obtain ⟨b, rfl⟩ : ∃ k : Nat, b = (k : Int) := ⟨b.toNat, by have b0 : 0 ≤ b := b0; omega⟩
    obtain ⟨e, rfl⟩ : ∃ k : Nat, e = (k : Int) := ⟨e.toNat, by have e0 : 0 ≤ e := e0; omega⟩
    have b1 : (b : Int) < N := b1
    have e1 : (e : Int) < N := e1
    refine ⟨rfl, rfl, (by show 1 ≤ 1000000; omega), trivial, b, ixN_nat (by omega), (by show 1 ≤ 1000000; omega), trivial, e, ixN_nat (by rw [List.length_set]; omega), ?_⟩
    refine mark_loop xs ((codes.set b swapD).set e wipeD) _ _ _ (by rw [List.length_set, List.length_set]; exact hN) (fun y hy => hx y (List.mem_cons_of_mem _ hy)) fun codes' s2 s3 s4 h1 h2 => h codes' s2 s3 s4 h1 fun p hp => ?_
    have hq := hp ⟨(b : Int), (e : Int), t⟩ (List.mem_cons_self ..)
    have q1 : (p : Int) ≠ (b : Int) := hq.1
    have q2 : (p : Int) ≠ (e : Int) := hq.2
    rw [h2 p fun y hy => hp y (List.mem_cons_of_mem _ hy), List.getElem?_set_ne (by omega), List.getElem?_set_ne (by omega)]
theorem gl_mem : ∀ {xs : List Cu} {lo : Int}, GL lo xs → ∀ x ∈ xs, lo ≤ x.b ∧ x.b < x.e
  | c :: cs, lo, g, x, hx => by
    (rcases List.mem_cons.mp hx with rfl | hx)
    · exact ⟨g.1, g.2.1⟩
    · have := gl_mem g.2.2 x hx
      have := g.1
      have := g.2.1
      omega
def lay1 : SM := sSeq (sSetN 6 (dCB gList (DL.gCons (hV (dCall 1 r__load_of (aCons (dV 5) (aNil)))) (DL.gNil)))) (sSeq (sSet 7 (d2 DL.gSub (hS 2) (hV (dC (.int 1))))) fill)
theorem lay_loop {r w : Int} {C : Sl} {N : Nat} {M : Int → Prop} {E : DE} : ∀ (xs : List Cu) (a : Option Cu) (lo : Int) (k : Nat) (codes : List D) (s2 s3 s4 s5 s6 s7 : Sl), codes.length = N → GL lo xs → 0 ≤ lo → (∀ c, a = some c → 0 ≤ c.b ∧ c.b < c.e ∧ c.e ≤ lo) → (∀ x ∈ xs, x.e < N ∧ GT r w x.t) → short a k xs = none →
    (∀ p : Int, M p → (∀ c, a = some c → c.b < p) → (∃ c, a = some c ∧ p = c.e) ∨ ∃ x ∈ xs, p = x.b ∨ p = x.e) →
    (∀ p : Nat, p < N → (∀ c, a = some c → c.b < p) → ¬ M p → codes[p]? = some .none) →
    (∀ (codes' : List D) (s2 s3 s4 s5 s6 s7 : Sl), codes'.length = N → E.nx [C, .ow (.list codes'), s2, s3, s4, s5, s6, s7, .no]) →
    forL (gTupT 3 (gConsT (gN 2) (gConsT (gN 4) (gConsT (gN 5) (gNoT))))) lay1 E (xs.map Cu.d) [C, .ow (.list codes), s2, s3, s4, s5, s6, s7, .no]
  | [], a, lo, k, codes, s2, s3, s4, s5, s6, s7, hN, _, _, _, _, _, _, _, h => h codes _ _ _ _ _ _ hN
  | c :: cs, a, lo, k, codes, s2, s3, s4, s5, s6, s7, hN, g, l0, ha, hx, hs, hM, hc, h => by
    obtain ⟨ce, gt⟩ := hx c (List.mem_cons_self ..)
    obtain ⟨b, e, t⟩ := c
    have g1 : lo ≤ b := g.1
    have g2 : b < e := g.2.1
    have ce : e < N := ce
    obtain ⟨f, rfl⟩ : ∃ k : Nat, b = (k : Int) := ⟨b.toNat, by omega⟩
    have gt : GT r w t := gt
    unfold short at hs
    split at hs
    · cases hs
    · rename_i hfr
      have hfr : ¬ fr a (f : Int) < (need t : Int) := hfr
      refine ⟨rfl, rfl, ?_⟩
      refine ⟨rfl, rfl, d_load gt.l4 gt.l6 fun ds hd => ?_⟩
      refine ⟨trivial, ?_⟩
      have key : ∀ p : Nat, p < f → (∀ c, a = some c → c.b < p) → (∀ c, a = some c → (p : Int) ≠ c.e) → nn codes p = true := by
        intro p hp h1 h2
        have hz : codes[p]? = some .none := hc p (by omega) h1 fun m => by
          rcases hM p m h1 with ⟨c, e1, e2⟩ | ⟨x, hx, e2⟩
          · exact h2 c e1 e2
          · have := gl_mem (xs := ⟨(f : Int), e, t⟩ :: cs) (lo := (f : Int)) ⟨Int.le_refl _, g2, g.2.2⟩ x hx
            omega
        unfold nn
        rw [hz]
        rfl
      have hcnt : ∃ l0 : Nat, need t ≤ cnt codes l0 f := by
        cases a with
        | none =>
          refine ⟨0, ?_⟩
          have := cnt_ge (cs := codes) (lo := 0) (q := -1) f fun p _ h2 h3 => key p h2 (fun c e => by cases e) fun c e => by cases e
          have hf : ¬ (f : Int) < (need t : Int) := hfr
          rw [if_neg (by omega)] at this
          omega
        | some c =>
          obtain ⟨a1, a2, a3⟩ := ha c rfl
          refine ⟨(c.b + 1).toNat, ?_⟩
          have := cnt_ge (cs := codes) (lo := (c.b + 1).toNat) (q := c.e) f fun p h1 h2 h3 => key p h2 (fun c' e => by cases e; omega) fun c' e => by cases e; exact h3
          have hf : ¬ (if c.e < (f : Int) then (f : Int) - c.b - 1 - 1 else (f : Int) - c.b - 1) < (need t : Int) := hfr
          split at hf <;> split at this <;> omega
      obtain ⟨l1, hl1⟩ := hcnt
      refine fill_ok (lo := l1) (N := N) (f := f) hN (by omega) (by rw [hd]; exact hl1) fun codes' s7 c1 c2 => ?_
      refine lay_loop (M := M) cs (some ⟨(f : Int), e, t⟩) e (k + 1) codes' _ _ _ _ _ _ c1 g.2.2 (by omega) (fun c hc => by cases hc; exact ⟨by show (0 : Int) ≤ (f : Int); omega, g2, Int.le_refl _⟩) (fun x hx' => hx x (List.mem_cons_of_mem _ hx')) hs ?_ ?_ h
      · intro p mp hp
        have hp : (f : Int) < p := hp _ rfl
        rcases hM p mp (fun c hc => by have := ha c hc; omega) with ⟨c, e1, e2⟩ | ⟨x, hx, e2⟩
        · have := ha c e1
          omega
        · rcases List.mem_cons.mp hx with rfl | hx
          · rcases e2 with e2 | e2
            · have e2 : p = (f : Int) := e2
              omega
            · exact .inl ⟨_, rfl, e2⟩
          · exact .inr ⟨x, hx, e2⟩
      · intro p hp h1 hm
        have hp1 : (f : Int) < p := h1 _ rfl
        rw [c2 p (by omega)]
        exact hc p hp (fun c hc => by have := ha c hc; omega) hm
theorem gl_last : ∀ {xs : List Cu} {lo : Int} {l : Cu}, GL lo (xs ++ [l]) → ∀ x ∈ xs ++ [l], x.e ≤ l.e
  | [], lo, l, g, x, hx => by
    have : x = l := by simpa using hx
    subst this
    exact Int.le_refl _
  | c :: xs, lo, l, g, x, hx => by
    (rcases List.mem_cons.mp hx with rfl | hx)
    · have := gl_mem (xs := xs ++ [l]) g.2.2 l (by simp)
      omega
    · exact gl_last (xs := xs) g.2.2 x hx
theorem atI_last {l : List D} {d : D} : atI (l ++ [d]) (-1) = some d := by
  unfold atI
  have : ixN (l ++ [d]).length (-1) = some l.length := by
    unfold ixN
    rw [if_neg (by decide), if_pos (by simp; omega)]
    simp
    omega
  rw [this]
  simp
def idle (d : D) : D := if isN d = true then .tuple [.str ("idle" : Str)] else d
theorem stream_end {C : D} {P : D → Nat → Prop} {codes : List D} {s2 s3 s4 s5 s6 s7 : Sl} {m : Nat} (hl : codes.length ≤ 1000000) (h : ∀ ds : List D, P (.tuple ds) 0) :
    sRet (dCB gTuple (DL.gCons (hV (dLc (iSeq (dV 1)) (gN 8) (bYes) (dIf (bD (d2 gIs (hS 8) (hV (dC .none)))) (dTup (lCons (dC (.str ("idle" : Str))) (lNil))) (dV 8)) [8])) (DL.gNil)))
      ⟨fun (ρ : DL.Env) => match ρ[0]? with
    | some (Sl.ora m') => P .none m'
    | _ => [Ar.d C].head?.map isD ≠ some false ∧ P .none 0,
  fun (d : D) (ρ : DL.Env) => match ρ[0]? with
    | some (Sl.ora m') => P d m'
    | _ => [Ar.d C].head?.map isD ≠ some false ∧ P d 0, fun _ => False, fun _ => False⟩ [.im C, .ow (.list codes), s2, s3, s4, s5, s6, s7, .no] := by
  refine ⟨hl, ⟨by simp, fun j hj => by simp at hj; subst hj; rfl⟩, ?_⟩
  refine lcL_map (ρ := [.im C, .im (.list codes), s2, s3, s4, s5, s6, s7, .no]) idle codes [] ?_ ?_
  · intro d hd Q hQ
    refine ⟨trivial, ?_⟩
    cases z : isN d with
    | true =>
      show (if isN d = true then _ else _)
      rw [if_pos z]
      refine ⟨by show 1 ≤ 1000000; omega, ?_⟩
      have e : idle d = .tuple [.str ("idle" : Str)] := if_pos z
      rw [e] at hQ
      exact hQ _ rfl
    | false =>
      have z' : ¬ isN d = true := by rw [z]; exact Bool.false_ne_true
      show (if isN d = true then _ else _)
      rw [if_neg z']
      have e : idle d = d := if_neg z'
      rw [e] at hQ
      exact hQ _ rfl
  · exact ⟨hd_d, h _⟩
theorem d_stream {r w : Int} {cs : List Cu} {m : Nat} {P : D → Nat → Prop} (g : ∀ c ∈ cs, GC r w c) (gl : GL 0 cs) (hs : short none 0 cs = none) (h : ∀ ds : List D, P (.tuple ds) 0) : r__stream_of [.d (cuesD cs)] m P := by
  rcases List.eq_nil_or_concat cs with rfl | ⟨pre, l, rfl⟩
  · refine ⟨trivial, ?_⟩
    refine ⟨by show 0 ≤ 1000000; omega, hd_d, h _⟩
  · rw [List.concat_eq_append] at *
    have gL := g l (by simp)
    have be := gL.be
    have b0 := gL.b0
    have e1 := gL.e1
    have hle := gl_last gl
    have hmem := gl_mem gl
    have hlast : atI ((pre ++ [l]).map Cu.d) (-1) = some l.d := by
      rw [List.map_append]
      exact atI_last
    have ht : truD (cuesD (pre ++ [l])) = true := by
      unfold cuesD truD
      simp
    refine ⟨trivial, ?_⟩
    show (if (!truD (cuesD (pre ++ [l]))) = true then _ else _)
    rw [ht, if_neg (by decide)]
    refine ⟨by show 1 ≤ 1000000; omega, trivial, _, hlast, _, rfl, ?_⟩
    obtain ⟨n, hn⟩ : ∃ n : Nat, l.e + 1 = (n : Int) := ⟨(l.e + 1).toNat, by omega⟩
    show -(2 ^ 63) ≤ l.e + 1 ∧ l.e + 1 < 2 ^ 63 ∧ 1 * (l.e + 1).toNat ≤ 1000000 ∧ _
    refine ⟨by omega, by omega, by omega, ?_⟩
    have hrep : (List.replicate (l.e + 1).toNat [PyData.none]).flatten = List.replicate n PyData.none := by
      rw [hn, Int.toNat_natCast, List.flatten_replicate_singleton]
    show forL _ _ _ ((pre ++ [l]).map Cu.d) [.im (cuesD (pre ++ [l])), .ow (.list (List.replicate (l.e + 1).toNat [PyData.none]).flatten), .no, .no, .no, .no, .no, .no, .no]
    rw [hrep]
    refine mark_loop (N := n) _ _ _ _ _ (by rw [List.length_replicate]) (fun x hx => by have := hmem x hx; have := hle x hx; omega) fun codes s2 s3 s4 c1 c2 => ?_
    refine lay_loop (r := r) (w := w) (N := n) (M := fun p => ∃ x ∈ pre ++ [l], p = x.b ∨ p = x.e) (pre ++ [l]) none 0 0 codes _ _ _ _ _ _ c1 gl (Int.le_refl _) (fun c hc => nomatch hc) (fun x hx => ⟨by have := hle x hx; omega, (g x hx).t⟩) hs (fun p hp _ => .inr hp) (fun p hp _ hm => ?_) fun codes' s2 s3 s4 s5 s6 s7 c3 => ?_
    · rw [c2 p fun x hx => ⟨fun e => hm ⟨x, hx, .inl e⟩, fun e => hm ⟨x, hx, .inr e⟩⟩, List.getElem?_replicate, if_pos hp]
    · exact stream_end (m := m) (by omega) h
theorem d_send {r w : Int} {cs : List Cu} {m : Nat} {P : D → Nat → Prop} (o : OkS r w) (l : cs.length ≤ 200) (g : ∀ c ∈ cs, GC r w c) (gl : GL 0 cs)
    (h1 : short none 0 cs = none → ∀ ds : List D, P (.tuple [.str ("stream" : Str), .tuple ds]) 0) (h2 : ∀ k, short none 0 cs = some k → P (.tuple [.str ("short" : Str), .int (k : Int)]) 0) : r_send_paper [.d (scr r w), .d (cuesD cs)] m P := by
  refine ⟨rfl, rfl, d_need_cues o l g gl ?_⟩
  refine ⟨rfl, rfl, d_short (r := r) (w := w) (fun c hc => (g c hc).t) ?_⟩
  cases e : short none 0 cs with
  | none =>
    refine ⟨trivial, ?_⟩
    refine ⟨rfl, rfl, d_stream g gl e fun ds => ?_⟩
    exact ⟨by show 2 ≤ 1000000; omega, hd_d, h1 e ds⟩
  | some k =>
    refine ⟨trivial, ?_⟩
    exact ⟨by show 2 ≤ 1000000; omega, hd_d, h2 k e⟩
end Q84
namespace Q84
open PySem L2 DL
theorem okI (i : Int) : okD (.int i) := rfl
theorem eqv_int (a b : Int) : PyData.eqv (.int a) (.int b) = decide (a = b) := by
  show (a == b) = _
  by_cases h : a = b
  · subst h
    simp
  · simp [h]
def tst : BM := bAnd (bD (d2 gLt (hS 5) (hV (d2 gIx (hS 4) (hV (dC (.int 1))))))) (bD (d2 gLt (hV (dCall 2 r__free_frames (aCons (dV 3) (aCons (dV 5) (aNil))))) (hV (dCB gLen (DL.gCons (hV (dCall 1 r__load_of (aCons (d2 gIx (hS 4) (hV (dC (.int 2)))) (aNil)))) (DL.gNil))))))
theorem tst_ok {r w : Int} {s0 s1 s2 : Sl} {a : Option Cu} {c : Cu} {s : Int} {P : Bool → DL.Env → Prop} (g : GT r w c.t) (h1 : s < c.e → fr a s < need c.t → P true [s0, s1, s2, .im (aD a), .im c.d, .im (.int s)]) (h2 : ¬ (s < c.e ∧ fr a s < need c.t) → P false [s0, s1, s2, .im (aD a), .im c.d, .im (.int s)]) :
    tst [s0, s1, s2, .im (aD a), .im c.d, .im (.int s)] P := by
  unfold tst
  by_cases z : s < c.e
  · refine ⟨trivial, trivial, _, rfl, ?_⟩
    show (if decide (s < c.e) = true then _ else _)
    rw [if_pos (decide_eq_true z)]
    refine ⟨rfl, rfl, d_free ?_⟩
    refine ⟨trivial, _, rfl, rfl, rfl, d_load g.l4 g.l6 fun ds hd => ?_⟩
    show P (decide (fr a s < (ds.length : Int))) _
    by_cases y : fr a s < need c.t
    · rw [hd, decide_eq_true y]
      exact h1 z y
    · rw [hd, decide_eq_false y]
      exact h2 fun q => y q.2
  · refine ⟨trivial, trivial, _, rfl, ?_⟩
    show (if decide (s < c.e) = true then _ else _)
    rw [if_neg (by simpa using z)]
    exact h2 fun q => z q.1
def adv : SM := sWhile tst (sAug 5 gIadd (hV (dC (.int 1))))
theorem up_stop {a : Option Cu} {n : Int} {k : Nat} {s : Int} (h : ¬ fr a s < n) : up a n k s = s := by
  cases k with
  | zero => rfl
  | succ k =>
    unfold up
    rw [if_neg h]
theorem adv_ok {r w : Int} {s0 s1 s2 : Sl} {a : Option Cu} {c : Cu} {E : DE} (g : GT r w c.t) (hb : c.b < c.e) (h : E.nx [s0, s1, s2, .im (aD a), .im c.d, .im (.int (sAt a c))]) :
    adv E [s0, s1, s2, .im (aD a), .im c.d, .im (.int c.b)] := by
  refine ⟨fun m ρ => ∃ s, ρ = [s0, s1, s2, .im (aD a), .im c.d, .im (.int s)] ∧ (m : Int) = c.e - s ∧ up a (need c.t) m s = sAt a c, ⟨(c.e - c.b).toNat, c.b, rfl, by omega, rfl⟩, ?_⟩
  rintro m ρ ⟨s, rfl, hm, hu⟩
  refine tst_ok g (fun z1 z2 => ?_) fun z => ?_
  · cases m with
    | zero => omega
    | succ k =>
      refine ⟨trivial, ?_⟩
      refine ⟨k, by omega, s + 1, rfl, by omega, ?_⟩
      unfold up at hu
      rw [if_pos z2] at hu
      exact hu
  · have e : up a (need c.t) m s = s := by
      by_cases y : fr a s < need c.t
      · have : ¬ s < c.e := fun q => z ⟨q, y⟩
        have : m = 0 := by omega
        subst this
        rfl
      · exact up_stop y
    rw [e] at hu
    subst hu
    exact h
def pD : Option (List Cu) → D
  | none => .none
  | some ds => cuesD ds
def stepT : SM := sSeq (sSet 5 (d2 gIx (hS 4) (hV (dC (.int 0))))) (sSeq adv (sSeq (sIf (bD (d2 gEq (hS 5) (hV (d2 gIx (hS 4) (hV (dC (.int 1))))))) (sRet (dC .none)) (sNo)) (sSeq (sSet 3 (dTup (lCons (dV 5) (lCons (d2 gIx (hS 4) (hV (dC (.int 1)))) (lCons (d2 gIx (hS 4) (hV (dC (.int 2)))) (lNil)))))) (sApp 2 (dV 3)))))
theorem rest_ok {s0 s1 : Sl} {a : Option Cu} {c : Cu} {acc : List Cu} {E : DE} {s : Int} (hl : acc.length < 1000) (h1 : s = c.e → ∀ ρ, ρ[0]? = some s0 → E.rt .none ρ)
    (h2 : ¬ s = c.e → E.nx [s0, s1, .ow (.list ((acc ++ [(⟨s, c.e, c.t⟩ : Cu)]).map Cu.d)), .im (Cu.d ⟨s, c.e, c.t⟩), .im c.d, .im (.int s)]) :
    sSeq (sIf (bD (d2 gEq (hS 5) (hV (d2 gIx (hS 4) (hV (dC (.int 1))))))) (sRet (dC .none)) (sNo)) (sSeq (sSet 3 (dTup (lCons (dV 5) (lCons (d2 gIx (hS 4) (hV (dC (.int 1)))) (lCons (d2 gIx (hS 4) (hV (dC (.int 2)))) (lNil)))))) (sApp 2 (dV 3)))
      E [s0, s1, .ow (.list (acc.map Cu.d)), .im (aD a), .im c.d, .im (.int s)] := by
  refine ⟨trivial, trivial, _, rfl, okI _, okI _, ?_⟩
  show (if PyData.eqv (.int s) (.int c.e) = true then _ else _)
  rw [eqv_int]
  by_cases z : s = c.e
  · rw [if_pos (decide_eq_true z)]
    exact h1 z _ rfl
  · rw [if_neg (by simpa using z)]
    refine ⟨trivial, _, rfl, trivial, _, rfl, by show 3 ≤ 1000000; omega, ?_⟩
    refine ⟨trivial, ?_⟩
    refine ⟨by rw [List.length_map]; omega, ?_⟩
    have := h2 z
    rw [List.map_append] at this
    exact this
theorem put_loop {r w : Int} {s0 s1 : Sl} {E : DE} : ∀ (cs : List Cu) (a : Option Cu) (lo : Int) (acc : List Cu) (s4 s5 : Sl), GL lo cs → (∀ c ∈ cs, GT r w c.t) → acc.length + cs.length ≤ 900 →
    (puts a cs = none → ∀ ρ, ρ[0]? = some s0 → E.rt .none ρ) →
    (∀ ds, puts a cs = some ds → ∀ s3 s4 s5, E.nx [s0, s1, .ow (.list ((acc ++ ds).map Cu.d)), s3, s4, s5]) →
    forL (gN 4) stepT E (cs.map Cu.d) [s0, s1, .ow (.list (acc.map Cu.d)), .im (aD a), s4, s5]
  | [], a, lo, acc, s4, s5, _, _, _, _, h => by
    have := h [] rfl (.im (aD a)) s4 s5
    rw [List.append_nil] at this
    exact this
  | c :: cs, a, lo, acc, s4, s5, gl, g, hl, h1, h2 => by
    rw [List.length_cons] at hl
    have gt := g c (List.mem_cons_self ..)
    show stepT _ [s0, s1, .ow (.list (acc.map Cu.d)), .im (aD a), .im c.d, s5]
    refine ⟨trivial, _, rfl, ?_⟩
    refine adv_ok gt gl.2.1 ?_
    refine rest_ok (a := a) (by omega) (fun z ρ hρ => h1 ?_ ρ hρ) fun z => ?_
    · unfold puts put
      rw [if_pos z]
    · have hp : put a c = some ⟨sAt a c, c.e, c.t⟩ := by
        unfold put
        rw [if_neg z]
      have e : puts a (c :: cs) = (puts (some ⟨sAt a c, c.e, c.t⟩) cs).map (⟨sAt a c, c.e, c.t⟩ :: ·) := by
        show (match put a c with
          | none => none
          | some x => (puts (some x) cs).map (x :: ·)) = _
        rw [hp]
      rw [e] at h1 h2
      refine put_loop cs (some ⟨sAt a c, c.e, c.t⟩) c.e (acc ++ [⟨sAt a c, c.e, c.t⟩]) _ _ gl.2.2 (fun x hx => g x (List.mem_cons_of_mem _ hx)) (by simp; omega) (fun q => h1 (by rw [q]; rfl)) fun ds q s3 s4 s5 => ?_
      have := h2 (⟨sAt a c, c.e, c.t⟩ :: ds) (by rw [q]; rfl) s3 s4 s5
      rw [List.append_assoc]
      exact this
theorem d_put_off {r w : Int} {cs : List Cu} {m : Nat} {P : D → Nat → Prop} (o : OkS r w) (l : cs.length ≤ 200) (g : ∀ c ∈ cs, GC r w c) (gl : GL 0 cs) (h : P (pD (puts none cs)) 0) : r_put_off [.d (scr r w), .d (cuesD cs)] m P := by
  refine ⟨rfl, rfl, d_need_cues o l g gl ?_⟩
  refine ⟨by show 0 ≤ 1000000; omega, ?_⟩
  refine put_loop (r := r) (w := w) cs none 0 [] _ _ gl (fun c hc => (g c hc).t) (by simp; omega) (fun e ρ hρ => ?_) fun ds e s3 s4 s5 => ?_
  · rw [e] at h
    show (match ρ[0]? with
      | some (Sl.ora m') => _
      | _ => _)
    rw [hρ]
    exact ⟨hd_d, h⟩
  · rw [e] at h
    exact ⟨trivial, hd_d, h⟩
end Q84
namespace Q84
open PySem L2 DL
def ltst : BM := bAnd (bD (d2 gLt (hS 5) (hV (d2 gIx (hS 4) (hV (dC (.int 1))))))) (bD (d2 gLt (hV (dCall 4 r__law_room (aCons (dV 0) (aCons (dV 3) (aCons (dV 5) (aCons (dV 2) (aNil))))))) (hS 6)))
theorem ltst_ok {cs : List Cu} {s1 : Sl} {k : Nat} {hd : Int} {a : Option Cu} {c : Cu} {s : Int} {P : Bool → DL.Env → Prop} (ah : Ah cs k hd a)
    (h1 : s < c.e → fr a s < need c.t → P true [.im (cuesD cs), s1, .im (.int hd), .im (.int (k : Int)), .im c.d, .im (.int s), .im (.int (need c.t : Int))])
    (h2 : ¬ (s < c.e ∧ fr a s < need c.t) → P false [.im (cuesD cs), s1, .im (.int hd), .im (.int (k : Int)), .im c.d, .im (.int s), .im (.int (need c.t : Int))]) :
    ltst [.im (cuesD cs), s1, .im (.int hd), .im (.int (k : Int)), .im c.d, .im (.int s), .im (.int (need c.t : Int))] P := by
  unfold ltst
  by_cases z : s < c.e
  · refine ⟨trivial, trivial, _, rfl, ?_⟩
    show (if decide (s < c.e) = true then _ else _)
    rw [if_pos (decide_eq_true z)]
    refine ⟨rfl, rfl, d_room ah ?_⟩
    refine ⟨trivial, ?_⟩
    show P (decide (fr a s < (need c.t : Int))) _
    by_cases y : fr a s < need c.t
    · rw [decide_eq_true y]
      exact h1 z y
    · rw [decide_eq_false y]
      exact h2 fun q => y q.2
  · refine ⟨trivial, trivial, _, rfl, ?_⟩
    show (if decide (s < c.e) = true then _ else _)
    rw [if_neg (by simpa using z)]
    exact h2 fun q => z q.1
def ladv : SM := sWhile ltst (sSet 5 (d2 gAdd (hS 5) (hV (dC (.int 1)))))
theorem ladv_ok {cs : List Cu} {s1 : Sl} {k : Nat} {hd : Int} {a : Option Cu} {c : Cu} {E : DE} (ah : Ah cs k hd a) (hb : c.b < c.e)
    (h : E.nx [.im (cuesD cs), s1, .im (.int hd), .im (.int (k : Int)), .im c.d, .im (.int (sAt a c)), .im (.int (need c.t : Int))]) :
    ladv E [.im (cuesD cs), s1, .im (.int hd), .im (.int (k : Int)), .im c.d, .im (.int c.b), .im (.int (need c.t : Int))] := by
  refine ⟨fun m ρ => ∃ s, ρ = [.im (cuesD cs), s1, .im (.int hd), .im (.int (k : Int)), .im c.d, .im (.int s), .im (.int (need c.t : Int))] ∧ (m : Int) = c.e - s ∧ up a (need c.t) m s = sAt a c, ⟨(c.e - c.b).toNat, c.b, rfl, by omega, rfl⟩, ?_⟩
  rintro m ρ ⟨s, rfl, hm, hu⟩
  refine ltst_ok ah (fun z1 z2 => ?_) fun z => ?_
  · cases m with
    | zero => omega
    | succ j =>
      refine ⟨trivial, ?_⟩
      refine ⟨j, by omega, s + 1, rfl, by omega, ?_⟩
      unfold up at hu
      rw [if_pos z2] at hu
      exact hu
  · have e : up a (need c.t) m s = s := by
      by_cases y : fr a s < need c.t
      · have : ¬ s < c.e := fun q => z ⟨q, y⟩
        have : m = 0 := by omega
        subst this
        rfl
      · exact up_stop y
    rw [e] at hu
    subst hu
    exact h
def lrest : SM := sSeq (sIf (bD (d2 gEq (hS 5) (hV (d2 gIx (hS 4) (hV (dC (.int 1))))))) (sRet (dC .none)) (sNo)) (sSeq (sApp 1 (dTup (lCons (dV 5) (lCons (d2 gIx (hS 4) (hV (dC (.int 1)))) (lCons (d2 gIx (hS 4) (hV (dC (.int 2)))) (lNil)))))) (sSet 2 (dV 5)))
theorem lrest_ok {s0 s2 s3 s6 : Sl} {c : Cu} {acc : List Cu} {E : DE} {s : Int} (hl : acc.length < 1000) (h1 : s = c.e → ∀ ρ, ρ[0]? = some s0 → E.rt .none ρ)
    (h2 : ¬ s = c.e → E.nx [s0, .ow (.list ((acc ++ [(⟨s, c.e, c.t⟩ : Cu)]).map Cu.d)), .im (.int s), s3, .im c.d, .im (.int s), s6]) :
    lrest E [s0, .ow (.list (acc.map Cu.d)), s2, s3, .im c.d, .im (.int s), s6] := by
  refine ⟨trivial, trivial, _, rfl, okI _, okI _, ?_⟩
  show (if PyData.eqv (.int s) (.int c.e) = true then _ else _)
  rw [eqv_int]
  by_cases z : s = c.e
  · rw [if_pos (decide_eq_true z)]
    exact h1 z _ rfl
  · rw [if_neg (by simpa using z)]
    refine ⟨trivial, trivial, _, rfl, trivial, _, rfl, by show 3 ≤ 1000000; omega, ?_⟩
    refine ⟨by rw [List.length_map]; omega, ?_⟩
    have := h2 z
    rw [List.map_append] at this
    exact this
def lstep : SM := sSeq (sPar 5 6 (lCons (d2 gIx (hS 4) (hV (dC (.int 0)))) (lCons (dCB gLen (DL.gCons (hV (dCall 1 r__law_load (aCons (d2 gIx (hS 4) (hV (dC (.int 2)))) (aNil)))) (DL.gNil))) (lNil)))) (sSeq ladv lrest)
theorem lput_loop {r w : Int} {all : List Cu} {E : DE} : ∀ (cs : List Cu) (a : Option Cu) (lo : Int) (k : Nat) (hd : Int) (acc : List Cu) (s3 s4 s5 s6 : Sl), GL lo cs → (∀ c ∈ cs, GT r w c.t) → acc.length + cs.length ≤ 900 → (∀ i : Nat, all[k + i]? = cs[i]?) → Ah all k hd a →
    (puts a cs = none → ∀ ρ, ρ[0]? = some (.im (cuesD all)) → E.rt .none ρ) →
    (∀ ds, puts a cs = some ds → ∀ s2 s3 s4 s5 s6, E.nx [.im (cuesD all), .ow (.list ((acc ++ ds).map Cu.d)), s2, s3, s4, s5, s6]) →
    forL (gTupT 2 (gConsT (gN 3) (gConsT (gN 4) (gNoT)))) lstep E (enN k (cs.map Cu.d)) [.im (cuesD all), .ow (.list (acc.map Cu.d)), .im (.int hd), s3, s4, s5, s6]
  | [], a, lo, k, hd, acc, s3, s4, s5, s6, _, _, _, _, _, _, h => by
    have := h [] rfl (.im (.int hd)) s3 s4 s5 s6
    rw [List.append_nil] at this
    exact this
  | c :: cs, a, lo, k, hd, acc, s3, s4, s5, s6, gl, g, hl, hall, ah, h1, h2 => by
    rw [List.length_cons] at hl
    have gt := g c (List.mem_cons_self ..)
    have hn := need_le gt
    refine ⟨rfl, rfl, ?_⟩
    refine ⟨trivial, _, rfl, trivial, _, rfl, rfl, rfl, d_law_load gt.l4 gt.l6 fun ds hd' => ?_⟩
    show sSeq ladv lrest _ [.im (cuesD all), .ow (.list (acc.map Cu.d)), .im (.int hd), .im (.int (k : Int)), .im c.d, .im (.int c.b), .im (.int (ds.length : Int))]
    rw [hd']
    refine ladv_ok ah gl.2.1 ?_
    refine lrest_ok (by omega) (fun z ρ hρ => h1 ?_ ρ hρ) fun z => ?_
    · unfold puts put
      rw [if_pos z]
    · have hp : put a c = some ⟨sAt a c, c.e, c.t⟩ := by
        unfold put
        rw [if_neg z]
      have e : puts a (c :: cs) = (puts (some ⟨sAt a c, c.e, c.t⟩) cs).map (⟨sAt a c, c.e, c.t⟩ :: ·) := by
        show (match put a c with
          | none => none
          | some x => (puts (some x) cs).map (x :: ·)) = _
        rw [hp]
      rw [e] at h1 h2
      refine lput_loop cs (some ⟨sAt a c, c.e, c.t⟩) c.e (k + 1) (sAt a c) (acc ++ [⟨sAt a c, c.e, c.t⟩]) _ _ _ _ gl.2.2 (fun x hx => g x (List.mem_cons_of_mem _ hx)) (by simp; omega) (fun i => ?_) (.inr ⟨k, c, ⟨sAt a c, c.e, c.t⟩, rfl, hall 0, rfl, rfl, rfl⟩) (fun q => h1 (by rw [q]; rfl)) fun ds q s2 s3 s4 s5 s6 => ?_
      · have := hall (i + 1)
        rw [show k + (i + 1) = k + 1 + i by omega] at this
        simpa using this
      · have := h2 (⟨sAt a c, c.e, c.t⟩ :: ds) (by rw [q]; rfl) s2 s3 s4 s5 s6
        rw [List.append_assoc]
        exact this
theorem d_law_put_off {r w : Int} {cs : List Cu} {m : Nat} {P : D → Nat → Prop} (l : cs.length ≤ 200) (g : ∀ c ∈ cs, GC r w c) (gl : GL 0 cs) (h : P (pD (puts none cs)) 0) : r__law_put_off [.d (cuesD cs)] m P := by
  refine ⟨by show 0 ≤ 1000000; omega, ?_⟩
  show forL _ _ _ (enD (cs.map Cu.d)) [.im (cuesD cs), .ow (.list []), .im (.int 0), .no, .no, .no, .no]
  rw [enD_N]
  refine lput_loop (r := r) (w := w) cs none 0 0 0 [] _ _ _ _ gl (fun c hc => (g c hc).t) (by simp; omega) (fun i => by rw [Nat.zero_add]) (.inl ⟨rfl, rfl⟩) (fun e ρ hρ => ?_) fun ds e s2 s3 s4 s5 s6 => ?_
  · rw [e] at h
    show (match ρ[0]? with
      | some (Sl.ora m') => _
      | _ => _)
    rw [hρ]
    exact ⟨hd_d, h⟩
  · rw [e] at h
    exact ⟨trivial, hd_d, h⟩
end Q84
namespace Q84
open PySem L2 DL
theorem at_some {α : Type} {l : List α} {i : Int} (h0 : 0 ≤ i) (h1 : i < l.length) : ∃ x, atI l i = some x ∧ x ∈ l := by
  have hi : i.toNat < l.length := by omega
  refine ⟨l[i.toNat], ?_, List.getElem_mem hi⟩
  unfold atI ixN
  rw [if_pos h0, if_pos h1]
  show l[i.toNat]? = _
  rw [List.getElem?_eq_getElem hi]
def abc : Str := "abc"
theorem abc_len : abc.length = 3 := by decide +kernel
theorem abc_ok : ∀ c ∈ abc.cps.toList, 33 ≤ c ∧ c ≤ 126 ∧ c ≠ 37 := by decide +kernel
def SL (y : D) : Prop := ∃ c, y = .str ⟨#[c]⟩ ∧ 33 ≤ c ∧ c ≤ 126 ∧ c ≠ 37
theorem strs_of : ∀ ys : List D, (∀ y ∈ ys, SL y) → ∃ ls : List Str, ys = ls.map PyData.str ∧ ∀ z ∈ ls, ∃ c, z = ⟨#[c]⟩ ∧ 33 ≤ c ∧ c ≤ 126 ∧ c ≠ 37
  | [], _ => ⟨[], rfl, fun _ z => nomatch z⟩
  | y :: ys, h => by
    obtain ⟨c, rfl, a⟩ := h y (List.mem_cons_self ..)
    obtain ⟨ls, rfl, b⟩ := strs_of ys fun w hw => h w (List.mem_cons_of_mem _ hw)
    refine ⟨⟨#[c]⟩ :: ls, rfl, fun w hw => ?_⟩
    rcases List.mem_cons.mp hw with rfl | hw
    · exact ⟨c, rfl, a⟩
    · exact b w hw
theorem ones_sum : ∀ ls : List Str, (∀ z ∈ ls, z.length = 1) → (ls.map (·.length)).sum = ls.length
  | [], _ => rfl
  | z :: ls, h => by
    rw [List.map_cons, List.sum_cons, ones_sum ls fun w hw => h w (List.mem_cons_of_mem _ hw), h z (List.mem_cons_self ..), List.length_cons]
    omega
theorem word_ok {ls : List Str} (h : ∀ z ∈ ls, ∃ c, z = ⟨#[c]⟩ ∧ 33 ≤ c ∧ c ≤ 126 ∧ c ≠ 37) (l1 : 1 ≤ ls.length) (l6 : ls.length ≤ 6) : OkStr (Txt.join ("" : Str) ls) ∧ (Txt.join ("" : Str) ls).length = ls.length ∧ (ls.map (·.length)).sum + ls.length * ((("" : String) : Str)).length ≤ 16777216 := by
  have e1 : Txt.join ("" : Str) ls = Str.join ("" : Str) ls := PySem.StrLaws.glued_eq_join _ _
  have one : ∀ z ∈ ls, z.length = 1 := fun z hz => by
    obtain ⟨c, rfl, _⟩ := h z hz
    rfl
  have os := ones_sum ls one
  have e2 : ((("" : String) : Str)).length = 0 := by decide
  have el : (Str.join ("" : Str) ls).length = ls.length := by
    cases ls with
    | nil => rfl
    | cons z ls =>
      rw [PyProof.Rows.len_join_cons, os, e2]
      omega
  rw [e1, el, e2, os]
  refine ⟨⟨by rw [← len_eq]; omega, by rw [← len_eq]; omega, fun c hc => ?_⟩, rfl, by omega⟩
  rcases (PyProof.Rows.mem_join _ c ls).mp hc with ⟨t, ht, q⟩ | ⟨_, q⟩
  · obtain ⟨c', rfl, o⟩ := h t ht
    have : c = c' := by simpa using q
    rw [this]
    exact o
  · have e : ((("" : String) : Str)).cps.toList = [] := by decide +kernel
    rw [e] at q
    cases q
def drawLine : SM := sSet 11 (dJoin (dC (.str ("" : Str))) (dLc (iRange1 (lCons (d2 gAdd (hV (dC (.int 1))) (hV (dCallO 0 2 s_next (aOra 0 (aCons (dV 2) (aNil)))))) (lNil))) (gN 12) (bYes) (d2 gIx (hV (dC (.str ("abc" : Str)))) (hV (dCallO 0 2 s_next (aOra 0 (aCons (dC (.int 3)) (aNil)))))) [12]))
theorem line_ok {s1 s3 s4 s5 s6 s7 s8 s9 s10 s11 : Sl} {co : Int} (c1 : 1 ≤ co) (c6 : co ≤ 6) {n : Nat} (hn : n < 1000000) {E : DE}
    (h : ∀ z n', OkStr z → (z.length : Int) ≤ co → n' ≤ n + 7 → E.nx [.ora n', s1, .im (.int co), s3, s4, s5, s6, s7, s8, s9, s10, .im (.str z), .no]) :
    drawLine E [.ora n, s1, .im (.int co), s3, s4, s5, s6, s7, s8, s9, s10, s11, .no] := by
  refine ⟨⟨_, rfl⟩, trivial, rfl, rfl, rfl, co, rfl, by omega, by omega, by omega, fun i h0 h2 => ?_⟩
  refine ⟨⟨by omega, by omega⟩, ?_⟩
  have hl : (rgD 0 (1 + i)).length = (1 + i).toNat := by simp [rgD]
  refine ⟨by rw [hl]; omega, ⟨by simp, fun j hj => by simp at hj; subst hj; rfl⟩, ?_⟩
  refine lcL_draw (fun n => [.ora n, s1, .im (.int co), s3, s4, s5, s6, s7, s8, s9, s10, s11, .no]) SL 1 (n + 7) (rgD 0 (1 + i)) [] (n + 1) (by rw [hl]; omega) ?_ ?_
  · intro d hd n Q hn hQ
    refine ⟨trivial, rfl, rfl, rfl, 3, rfl, by omega, by omega, by omega, fun i i0 i1 => ?_⟩
    obtain ⟨x, e, hx⟩ := at_some (l := abc.cps.toList) i0 (by rw [← len_eq, abc_len]; exact i1)
    refine ⟨by show abc.length ≤ 1000000; rw [abc_len]; omega, x, e, ?_⟩
    exact hQ _ (n + 1) _ ⟨x, rfl, abc_ok x hx⟩ (by omega) rfl
  · intro ys n' hy hr hn
    obtain ⟨ls, rfl, o⟩ := strs_of ys hr
    rw [List.length_map, hl] at hy
    rw [hl] at hn
    obtain ⟨w1, w2, w3⟩ := word_ok o (by omega) (by omega)
    exact ⟨_, _, _, rfl, .inl rfl, ofStrs_map _, w3, h _ _ w1 (by rw [w2]; omega) (by omega)⟩
structure OL (co : Int) (z : Str) : Prop where
  ok : OkStr z
  le : (z.length : Int) ≤ co
theorem lines_loop {s1 s3 s4 s5 s6 s9 s10 : Sl} {co : Int} (c1 : 1 ≤ co) (c6 : co ≤ 6) {E : DE} : ∀ (ds : List D) (acc : List Str) (n : Nat) (s8 s11 : Sl), (∀ z ∈ acc, OL co z) → acc.length + ds.length ≤ 4 → n + 7 * ds.length < 1000000 →
    (∀ (ls : List Str) (n' : Nat) (s8 s11 : Sl), (∀ z ∈ ls, OL co z) → ls.length = acc.length + ds.length → n' ≤ n + 7 * ds.length → E.nx [.ora n', s1, .im (.int co), s3, s4, s5, s6, .ow (.list (ls.map PyData.str)), s8, s9, s10, s11, .no]) →
    forL (gN 8) (sSeq drawLine (sApp 7 (dV 11))) E ds [.ora n, s1, .im (.int co), s3, s4, s5, s6, .ow (.list (acc.map PyData.str)), s8, s9, s10, s11, .no]
  | [], acc, n, s8, s11, ha, _, _, h => h acc n s8 s11 ha rfl (by omega)
  | d :: ds, acc, n, s8, s11, ha, hl, hn, h => by
    rw [List.length_cons] at hl hn
    refine line_ok c1 c6 (by omega) fun z n' oz hz hn' => ?_
    refine ⟨trivial, by rw [List.length_map]; omega, ?_⟩
    have e : (acc.map PyData.str ++ [PyData.str z]) = (acc ++ [z]).map PyData.str := by rw [List.map_append]; rfl
    show forL _ _ E ds [.ora n', s1, .im (.int co), s3, s4, s5, s6, .ow (.list (acc.map PyData.str ++ [PyData.str z])), .im d, s9, s10, .im (.str z), .no]
    rw [e]
    refine lines_loop c1 c6 ds (acc ++ [z]) n' _ _ (fun y hy => ?_) (by simp; omega) (by omega) fun ls n2 s8 s11 g1 g2 g3 => h ls n2 s8 s11 g1 (by rw [g2]; simp; omega) (by rw [List.length_cons]; omega)
    (rcases List.mem_append.mp hy with hy | hy)
    · exact ha y hy
    · have : y = z := by simpa using hy
      rw [this]
      exact ⟨oz, hz⟩
end Q84
namespace Q84
open PySem L2 DL
structure Sh (k n : Nat) (d : D) : Prop where
  nd : nod d = true
  sh : d.showable = true
  lv : d.leavesShort 13 = true
  la : d.canLay0 = true
  dp : d.depth ≤ k
  bk : d.bulk ≤ n
structure ShA (k n : Nat) (ds : List D) : Prop where
  nd : nodAll ds = true
  sh : PyData.showableAll ds = true
  lv : PyData.leavesShortAll 13 ds = true
  la : PyData.canLayAll0 ds = true
  dp : PyData.depthAll ds ≤ k
  bk : PyData.bulkAll ds ≤ n * ds.length
theorem sha {k n : Nat} : ∀ ds : List D, (∀ d ∈ ds, Sh k n d) → ShA k (n + 1) ds
  | [], _ => ⟨rfl, rfl, rfl, rfl, by simp [PyData.depthAll], by simp [PyData.bulkAll]⟩
  | d :: ds, h => by
    have a := h d (List.mem_cons_self ..)
    have b := sha ds fun x hx => h x (List.mem_cons_of_mem _ hx)
    refine ⟨?_, ?_, ?_, ?_, ?_, ?_⟩
    · exact Bool.and_eq_true_iff.mpr ⟨a.nd, b.nd⟩
    · exact Bool.and_eq_true_iff.mpr ⟨a.sh, b.sh⟩
    · exact Bool.and_eq_true_iff.mpr ⟨a.lv, b.lv⟩
    · exact Bool.and_eq_true_iff.mpr ⟨a.la, b.la⟩
    · simp only [PyData.depthAll]
      have := a.dp
      have := b.dp
      omega
    · simp only [PyData.bulkAll, List.length_cons]
      have h1 := a.bk
      have h2 := b.bk
      rw [Nat.mul_succ]
      omega
theorem sh_tup {k n : Nat} {ds : List D} (h : ∀ d ∈ ds, Sh k n d) : Sh (k + 1) ((n + 1) * ds.length) (.tuple ds) := by
  have a := sha ds h
  refine ⟨a.nd, a.sh, a.lv, a.la, ?_, a.bk⟩
  simp only [PyData.depth]
  have := a.dp
  omega
theorem sh_lst {k n : Nat} {ds : List D} (h : ∀ d ∈ ds, Sh k n d) : Sh (k + 1) ((n + 1) * ds.length) (.list ds) := by
  have a := sha ds h
  refine ⟨a.nd, a.sh, a.lv, a.la, ?_, a.bk⟩
  simp only [PyData.depth]
  have := a.dp
  omega
theorem Sh.mono {k n k' n' : Nat} {d : D} (h : Sh k n d) (hk : k ≤ k') (hn : n ≤ n') : Sh k' n' d := ⟨h.nd, h.sh, h.lv, h.la, Nat.le_trans h.dp hk, Nat.le_trans h.bk hn⟩
theorem sh_int {i : Int} (h0 : 0 ≤ i) (h1 : i ≤ 9999) : Sh 0 0 (.int i) := by
  refine ⟨rfl, ?_, ?_, rfl, Nat.le_refl _, Nat.le_refl _⟩
  · show decide (i.natAbs.log2 < 1920) = true
    refine decide_eq_true ?_
    by_cases z : i.natAbs = 0
    · rw [z]
      decide
    · have : i.natAbs.log2 < 14 := (Nat.log2_lt z).mpr (by omega)
      omega
  · show decide ((PyData.shown (.int i)).length ≤ 13) = true
    exact decide_eq_true (PyData.shown_int_le2 (by omega) (by omega))
theorem str_lay {z : Str} (h : ∀ c ∈ z.cps.toList, c < 1114112) : PyData.canLay0 (.str z) = true := by
  simp only [PyData.canLay0, PyData.strOk]
  (rw [← Array.all_toList, List.all_eq_true])
  intro c hc
  simpa using h c hc
theorem sh_str {z : Str} (o : OkStr z) : Sh 0 40 (.str z) := by
  refine ⟨rfl, rfl, ?_, str_lay fun c hc => by have := o.ok c hc; omega, Nat.le_refl _, ?_⟩
  · show (z.cps.toList.all fun c => decide (c < 16 ^ 8)) = true
    rw [List.all_eq_true]
    intro c hc
    have := o.ok c hc
    refine decide_eq_true ?_
    have e : 16 ^ 8 = 4294967296 := by decide
    omega
  · show z.cps.size ≤ 40
    have := o.l2
    (rw [Array.length_toList] at this)
    exact this
theorem sh_text {r w : Int} {t : List Str} (g : GT r w t) : Sh 1 164 (textD t) := by
  have l4 := g.l4
  have := sh_tup (k := 0) (n := 40) (ds := t.map PyData.str) fun d hd => by
    obtain ⟨z, hz, rfl⟩ := List.mem_map.mp hd
    exact sh_str (g.ok z hz)
  refine this.mono (Nat.le_refl _) ?_
  rw [List.length_map]
  omega
theorem sh_cue {r w : Int} {c : Cu} (g : GC r w c) : Sh 2 495 c.d := by
  have b0 := g.b0
  have be := g.be
  have e1 := g.e1
  refine (sh_tup (k := 1) (n := 164) (ds := [.int c.b, .int c.e, textD c.t]) fun d hd => ?_).mono (Nat.le_refl _) (by simp)
  simp at hd
  rcases hd with rfl | rfl | rfl
  · exact (sh_int b0 (by omega)).mono (by omega) (by omega)
  · exact (sh_int (by omega) (by omega)).mono (by omega) (by omega)
  · exact sh_text g.t
theorem sh_cuesL {r w : Int} {cs : List Cu} (g : ∀ c ∈ cs, GC r w c) (l : cs.length ≤ 60) : Sh 3 29760 (.list (cs.map Cu.d)) := by
  refine (sh_lst (k := 2) (n := 495) (ds := cs.map Cu.d) fun d hd => ?_).mono (Nat.le_refl _) (by rw [List.length_map]; omega)
  obtain ⟨c, hc, rfl⟩ := List.mem_map.mp hd
  exact sh_cue (g c hc)
theorem sh_cues {r w : Int} {cs : List Cu} (g : ∀ c ∈ cs, GC r w c) (l : cs.length ≤ 60) : Sh 3 29760 (cuesD cs) := by
  refine (sh_tup (k := 2) (n := 495) (ds := cs.map Cu.d) fun d hd => ?_).mono (Nat.le_refl _) (by rw [List.length_map]; omega)
  obtain ⟨c, hc, rfl⟩ := List.mem_map.mp hd
  exact sh_cue (g c hc)
theorem sh_ok {k n : Nat} {d : D} (h : Sh k n d) (hk : k ≤ 60) : okD d := by
  show SeqAt.shaped d = true
  unfold SeqAt.shaped
  rw [h.la]
  have := h.dp
  simp
  omega
theorem sh_okR {k n : Nat} {xs : List D} (h : Sh k n (.tuple xs)) (hk : k ≤ 60) (hn : n ≤ 66000) : okR (.tuple xs) := by
  refine ⟨h.nd, h.sh, Nat.le_trans h.dp hk, ?_⟩
  have := PyData.shown_le_bulk 13 (by omega) _ h.lv
  have := h.bk
  omega
theorem gl_snoc : ∀ {xs : List Cu} {lo : Int} {c : Cu}, GL lo xs → (∀ x ∈ xs, x.e ≤ c.b) → lo ≤ c.b → c.b < c.e → GL lo (xs ++ [c])
  | [], lo, c, _, _, h1, h2 => ⟨h1, h2, trivial⟩
  | x :: xs, lo, c, g, h, h1, h2 => ⟨g.1, g.2.1, gl_snoc g.2.2 (fun y hy => h y (List.mem_cons_of_mem _ hy)) (h x (List.mem_cons_self ..)) h2⟩
def cueTail : SM := sSeq (sSet 10 (dIf (bTruth (hS 9)) (dV 6) (d2 gAdd (hV (d2 gAdd (hS 6) (hV (dC (.int 1))))) (hV (dCallO 0 2 s_next (aOra 0 (aCons (d2 gAdd (hV (dC (.int 8))) (hV (d2 gMul (hV (dC (.int 4))) (hS 2)))) (aNil)))))))) (sSeq (sSet 6 (d2 gAdd (hV (d2 gAdd (hS 10) (hV (dC (.int 1))))) (hV (dCallO 0 2 s_next (aOra 0 (aCons (d2 gAdd (hV (dC (.int 12))) (hV (d2 gMul (hV (dC (.int 3))) (hS 2)))) (aNil))))))) (sApp 5 (dTup (lCons (dV 10) (lCons (dV 6) (lCons (dCB gTuple (DL.gCons (hS 7) (DL.gNil))) (lNil)))))))
theorem tail_ok {s1 s3 s4 s8 s10 s11 : Sl} {co sp : Int} {acc : List D} {ls : List Str} {tb : Bool} {n : Nat} {E : DE} (c1 : 1 ≤ co) (c6 : co ≤ 6) (hn : n < 1000000) (hl : acc.length < 1000)
    (h : ∀ b e n', sp ≤ b → b < e → e ≤ sp + 62 → n' ≤ n + 2 → E.nx [.ora n', s1, .im (.int co), s3, s4, .ow (.list (acc ++ [Cu.d ⟨b, e, ls⟩])), .im (.int e), .ow (.list (ls.map PyData.str)), s8, .im (.bool tb), .im (.int b), s11, .no]) :
    cueTail E [.ora n, s1, .im (.int co), s3, s4, .ow (.list acc), .im (.int sp), .ow (.list (ls.map PyData.str)), s8, .im (.bool tb), s10, s11, .no] := by
  have fin : ∀ (b : Int) (n1 : Nat), sp ≤ b → b ≤ sp + 32 → n1 ≤ n + 1 → sSeq (sSet 6 (d2 gAdd (hV (d2 gAdd (hS 10) (hV (dC (.int 1))))) (hV (dCallO 0 2 s_next (aOra 0 (aCons (d2 gAdd (hV (dC (.int 12))) (hV (d2 gMul (hV (dC (.int 3))) (hS 2)))) (aNil))))))) (sApp 5 (dTup (lCons (dV 10) (lCons (dV 6) (lCons (dCB gTuple (DL.gCons (hS 7) (DL.gNil))) (lNil)))))) E [.ora n1, s1, .im (.int co), s3, s4, .ow (.list acc), .im (.int sp), .ow (.list (ls.map PyData.str)), s8, .im (.bool tb), .im (.int b), s11, .no] := by
    intro b n1 h1 h2 h3
    refine ⟨trivial, trivial, trivial, .inl ⟨by omega, by omega⟩, rfl, rfl, rfl, 12 + 3 * co, rfl, by omega, by omega, by omega, fun i i0 i1 => ?_⟩
    refine ⟨trivial, trivial, by show 3 ≤ 1000000; omega, ?_⟩
    refine ⟨by omega, ?_⟩
    exact h b (b + 1 + i) (n1 + 1) h1 (by omega) (by omega) (by omega)
  cases tb with
  | true =>
    refine ⟨trivial, ?_⟩
    exact fin sp n (Int.le_refl _) (by omega) (by omega)
  | false =>
    refine ⟨trivial, ?_⟩
    refine ⟨trivial, trivial, trivial, .inl ⟨by omega, by omega⟩, rfl, rfl, rfl, 8 + 4 * co, rfl, by omega, by omega, by omega, fun i i0 i1 => ?_⟩
    exact fin (sp + 1 + i) (n + 1) (by omega) (by omega) (by omega)
end Q84
namespace Q84
open PySem L2 DL
def tch : DM := dAnd (d2 gNe (hS 5) (hV (dLst (lNil)))) (d2 gEq (hV (dCallO 0 2 s_next (aOra 0 (aCons (dC (.int 3)) (aNil))))) (hV (dC (.int 0))))
def cueBody : SM := sSeq (sSetN 7 (dLst (lNil))) (sSeq (sFor (iRange1 (lCons (d2 gAdd (hV (dC (.int 1))) (hV (dCallO 0 2 s_next (aOra 0 (aCons (dV 1) (aNil)))))) (lNil))) (gN 8) (sSeq drawLine (sApp 7 (dV 11)))) (sSeq (sSet 9 tch) cueTail))
theorem okE : okD (.list []) := by
  show SeqAt.shaped _ = true
  decide +kernel
theorem tch_ok {r w : Int} {acc : List Cu} (g : ∀ c ∈ acc, GC r w c) (l : acc.length ≤ 60) {s1 s2 s3 s4 s6 s7 s8 s9 s10 s11 s12 : Sl} {n : Nat} (hn : n < 1000000) {P : D → DL.Env → Prop}
    (h : ∀ (b : Bool) n', n' ≤ n + 1 → P (.bool b) [.ora n', s1, s2, s3, s4, .ow (.list (acc.map Cu.d)), s6, s7, s8, s9, s10, s11, s12]) :
    tch [.ora n, s1, s2, s3, s4, .ow (.list (acc.map Cu.d)), s6, s7, s8, s9, s10, s11, s12] P := by
  refine ⟨trivial, by show 0 ≤ 1000000; omega, sh_ok (sh_cuesL g l) (by omega), okE, ?_⟩
  cases z : (!PyData.eqv (.list (acc.map Cu.d)) (.list [])) with
  | false => exact h false n (by omega)
  | true =>
    refine ⟨trivial, rfl, rfl, rfl, 3, rfl, by omega, by omega, by omega, fun i i0 i1 => ?_⟩
    exact ⟨okI _, okI _, h _ (n + 1) (by omega)⟩
theorem cue_loop {r w co : Int} {s3 : Sl} (o : OkS r w) (c1 : 1 ≤ co) (c6 : co ≤ 6) (cw : co ≤ w) {E : DE} : ∀ (ds : List D) (acc : List Cu) (n : Nat) (sp : Int) (s4 s7 s8 s9 s10 s11 : Sl), (∀ c ∈ acc, GC r w c) → GL 0 acc → (∀ c ∈ acc, c.e ≤ sp) → 0 ≤ sp → acc.length + ds.length ≤ 5 → sp + 62 * (ds.length : Int) ≤ 1000 → n + 40 * ds.length < 900000 →
    (∀ (cs : List Cu) (n' : Nat) (s4 s6 s7 s8 s9 s10 s11 : Sl), (∀ c ∈ cs, GC r w c) → GL 0 cs → cs.length ≤ 5 → n' ≤ n + 40 * ds.length → E.nx [.ora n', .im (.int r), .im (.int co), s3, s4, .ow (.list (cs.map Cu.d)), s6, s7, s8, s9, s10, s11, .no]) →
    forL (gN 4) cueBody E ds [.ora n, .im (.int r), .im (.int co), s3, s4, .ow (.list (acc.map Cu.d)), .im (.int sp), s7, s8, s9, s10, s11, .no]
  | [], acc, n, sp, s4, s7, s8, s9, s10, s11, ga, gl, _, _, hl, _, _, h => h acc n s4 _ s7 s8 s9 s10 s11 ga gl (by simpa using hl) (by omega)
  | d :: ds, acc, n, sp, s4, s7, s8, s9, s10, s11, ga, gl, he, h0, hl, hs, hn, h => by
    have r1 := o.r1
    have r4 := o.r4
    rw [List.length_cons] at hl hs hn
    refine ⟨by show 0 ≤ 1000000; omega, ?_⟩
    refine ⟨trivial, rfl, rfl, rfl, r, rfl, by omega, by omega, by omega, fun i i0 i1 => ?_⟩
    refine ⟨⟨by omega, by omega⟩, ?_⟩
    have hr : (rgD 0 (1 + i)).length = (1 + i).toNat := by simp [rgD]
    refine lines_loop (s9 := s9) (s10 := s10) c1 c6 (rgD 0 (1 + i)) [] (n + 1) s8 s11 (fun _ z => nomatch z) (by rw [hr]; simp; omega) (by rw [hr]; omega) fun ls n1 s8 s11 g1 g2 g3 => ?_
    rw [hr] at g2 g3
    refine tch_ok ga (by omega) (by omega) fun tb n2 h2 => ?_
    refine tail_ok c1 c6 (by omega) (by rw [List.length_map]; omega) fun b e n3 b1 b2 b3 b4 => ?_
    have gc : GC r w ⟨b, e, ls⟩ := ⟨by show 0 ≤ b; omega, b2, by show e ≤ 1999; omega, ⟨by show 1 ≤ ls.length; rw [g2]; simp; omega, by show ls.length ≤ 4; rw [g2]; simp; omega, by show (ls.length : Int) ≤ r; rw [g2]; simp; omega,
      fun z hz => (g1 z hz).ok, fun z hz => by have := (g1 z hz).le; omega, fun z hz => by have := (g1 z hz).le; omega⟩⟩
    have ee : acc.map Cu.d ++ [Cu.d ⟨b, e, ls⟩] = (acc ++ [(⟨b, e, ls⟩ : Cu)]).map Cu.d := by rw [List.map_append]; rfl
    rw [ee]
    refine cue_loop o c1 c6 cw ds (acc ++ [⟨b, e, ls⟩]) n3 e _ _ _ _ _ _ (fun c hc => ?_) (gl_snoc gl (fun x hx => by have := he x hx; show x.e ≤ b; omega) (by show 0 ≤ b; omega) b2) (fun c hc => ?_) (by omega) (by simp; omega) (by omega) (by omega) fun cs n' s4 s6 s7 s8 s9 s10 s11 q1 q2 q3 q4 => h cs n' s4 s6 s7 s8 s9 s10 s11 q1 q2 q3 (by rw [List.length_cons]; omega)
    · rcases List.mem_append.mp hc with hc | hc
      · exact ga c hc
      · have : c = ⟨b, e, ls⟩ := by simpa using hc
        rw [this]
        exact gc
    · rcases List.mem_append.mp hc with hc | hc
      · have := he c hc
        omega
      · have : c = ⟨b, e, ls⟩ := by simpa using hc
        rw [this]
        exact Int.le_refl _
theorem d_law_cues {r w co k : Int} (o : OkS r w) (c1 : 1 ≤ co) (c6 : co ≤ 6) (cw : co ≤ w) (k0 : 0 ≤ k) (k5 : k ≤ 5) {m : Nat} {P : D → Nat → Prop} (hm : m < 800000) (h : ∀ cs m', (∀ c ∈ cs, GC r w c) → GL 0 cs → cs.length ≤ 5 → m' ≤ m + 200 → P (cuesD cs) m') :
    r__law_cues [.ora, .d (.int r), .d (.int co), .d (.int k)] m P := by
  have hr : (rgD 0 k).length = k.toNat := by simp [rgD]
  refine ⟨by show 0 ≤ 1000000; omega, ?_⟩
  refine ⟨⟨by omega, by omega⟩, ?_⟩
  refine cue_loop o c1 c6 cw (rgD 0 k) [] m 0 _ _ _ _ _ _ (fun _ z => nomatch z) trivial (fun _ z => nomatch z) (by omega) (by rw [hr]; simp; omega) (by rw [hr]; omega) (by rw [hr]; omega) fun cs n' s4 s6 s7 s8 s9 s10 s11 q1 q2 q3 q4 => ?_
  rw [hr] at q4
  exact ⟨trivial, h cs n' q1 q2 q3 (by omega)⟩
end Q84
namespace Q84
open PySem L2 DL
theorem okd_p {r w : Int} {cs : List Cu} (g : ∀ c ∈ cs, GC r w c) (l : cs.length ≤ 60) : okD (cuesD cs) := sh_ok (sh_cues g l) (by omega)
theorem eqv_same {r w : Int} {cs : List Cu} (g : ∀ c ∈ cs, GC r w c) (l : cs.length ≤ 60) : PyData.eqv (cuesD cs) (cuesD cs) = true := eqv_refl _ (sh_cues g l).nd
theorem ok_str (z : Str) (h : ∀ c ∈ z.cps.toList, c < 1114112) : okD (.str z) := by
  show SeqAt.shaped _ = true
  unfold SeqAt.shaped
  rw [str_lay h]
  rfl
theorem okS1 : okD (.str ("stream" : Str)) := ok_str _ (by decide +kernel)
theorem okS2 : okD (.str ("short" : Str)) := ok_str _ (by decide +kernel)
theorem eS : PyData.eqv (.str ("stream" : Str)) (.str ("stream" : Str)) = true := eqv_refl _ rfl
theorem eH : PyData.eqv (.str ("short" : Str)) (.str ("stream" : Str)) = false := by
  show ((("short" : Str)) == ("stream" : Str)) = false
  decide +kernel
theorem okP_of {r w : Int} {p : Option (List Cu)} (h : ∀ ds, p = some ds → (∀ c ∈ ds, GC r w c) ∧ ds.length ≤ 60) : okR (pD p) := by
  cases p with
  | none => trivial
  | some ds =>
    obtain ⟨h1, h2⟩ := h ds rfl
    exact sh_okR (sh_cues h1 h2) (by omega) (by omega)
/-- what is known of the cues and of what comes of them -/
structure Kn (r w : Int) (cs : List Cu) : Prop where
  o : OkS r w
  l : cs.length ≤ 60
  g : ∀ c ∈ cs, GC r w c
  gl : GL 0 cs
theorem kn_bts {r w : Int} {cs ds : List Cu} (k : Kn r w cs) (b : Bts cs ds) : Kn r w ds := by
  refine ⟨k.o, by rw [bts_len b]; exact k.l, fun x hx => ?_, bts_gl k.gl b⟩
  obtain ⟨i, hi⟩ := List.getElem?_of_mem hx
  obtain ⟨c, hc, b1, b2, b3, b4⟩ := bts_get b hi
  have gc := k.g c (List.mem_of_getElem? hc)
  exact ⟨by have := gc.b0; omega, by omega, by have := gc.e1; omega, by rw [b2]; exact gc.t⟩
theorem kn_puts {r w : Int} {cs ds : List Cu} (k : Kn r w cs) (e : puts none cs = some ds) : Kn r w ds := kn_bts k (puts_bts cs ds none 0 k.gl e)
theorem send_of {r w : Int} {cs : List Cu} (k : Kn r w cs) {m : Nat} {P : D → Nat → Prop} (h1 : short none 0 cs = none → ∀ ds : List D, P (.tuple [.str ("stream" : Str), .tuple ds]) 0) (h2 : ∀ j, short none 0 cs = some j → P (.tuple [.str ("short" : Str), .int (j : Int)]) 0) : r_send_paper [.d (scr r w), .d (cuesD cs)] m P :=
  d_send k.o (by have := k.l; omega) k.g k.gl h1 h2
theorem put_of' {r w : Int} {cs : List Cu} (k : Kn r w cs) {m : Nat} {P : D → Nat → Prop} (h : P (pD (puts none cs)) 0) : r_put_off [.d (scr r w), .d (cuesD cs)] m P :=
  d_put_off k.o (by have := k.l; omega) k.g k.gl h
def chk1 : SM := sIf (bOr (bD (d2 gNeS (hV (dCB gReprA (DL.gCons (hS 6) (DL.gNil)))) (hV (dCB gReprA (DL.gCons (hS 5) (DL.gNil)))))) (bD (d2 gNeS (hV (dCB gReprA (DL.gCons (hV (dCall 2 r_put_off (aCons (dV 3) (aCons (dV 4) (aNil))))) (DL.gNil)))) (hV (dCB gReprA (DL.gCons (hS 5) (DL.gNil))))))) (sRet (dC (.bool false))) (sNo)
theorem chk1_ok {r w : Int} {cs : List Cu} (k : Kn r w cs) {s0 s1 s2 s7 s8 s9 s10 : Sl} {E : DE} (h : E.nx [s0, s1, s2, .im (scr r w), .im (cuesD cs), .im (pD (puts none cs)), .im (pD (puts none cs)), s7, s8, s9, s10]) :
    chk1 E [s0, s1, s2, .im (scr r w), .im (cuesD cs), .im (pD (puts none cs)), .im (pD (puts none cs)), s7, s8, s9, s10] := by
  have ok : okR (pD (puts none cs)) := okP_of (r := r) (w := w) fun ds e => ⟨(kn_puts k e).g, (kn_puts k e).l⟩
  refine ⟨trivial, ok, trivial, ok, ?_⟩
  have no : ∀ z : Str, (!decide (z = z)) = false := fun z => by simp
  show (if (!decide (shA (pD (puts none cs)) = shA (pD (puts none cs)))) = true then _ else _)
  rw [no, if_neg Bool.false_ne_true]
  refine ⟨rfl, rfl, put_of' k ?_⟩
  refine ⟨ok, trivial, ok, ?_⟩
  show (if (!decide (shA (pD (puts none cs)) = shA (pD (puts none cs)))) = true then _ else _)
  rw [no, if_neg Bool.false_ne_true]
  exact h
def can1 : SM := sSeq (sSet 7 (d2 gEq (hV (d2 gIx (hV (dCall 2 r_send_paper (aCons (dV 3) (aCons (dV 4) (aNil))))) (hV (dC (.int 0))))) (hV (dC (.str ("stream" : Str)))))) (sIf (bAnd (bTruth (hS 7)) (bD (d2 gNe (hS 5) (hS 4)))) (sRet (dC (.bool false))) (sNo))
theorem can1_ok {r w : Int} {cs : List Cu} (k : Kn r w cs) {s0 s1 s2 s6 s7 s8 s9 s10 : Sl} {E : DE} (h : ∀ s7, E.nx [s0, s1, s2, .im (scr r w), .im (cuesD cs), .im (pD (puts none cs)), s6, s7, s8, s9, s10]) :
    can1 E [s0, s1, s2, .im (scr r w), .im (cuesD cs), .im (pD (puts none cs)), s6, s7, s8, s9, s10] := by
  refine ⟨rfl, rfl, send_of k (fun e ds => ?_) fun j e => ?_⟩
  · refine ⟨_, rfl, okS1, okS1, ?_⟩
    rw [eS]
    have hp := can_puts cs none 0 0 k.gl e
    rw [hp] at h ⊢
    refine ⟨trivial, ?_⟩
    refine ⟨trivial, trivial, okd_p k.g k.l, okd_p k.g k.l, ?_⟩
    show (if (!PyData.eqv (cuesD cs) (cuesD cs)) = true then _ else _)
    rw [eqv_same k.g k.l, if_neg (by decide)]
    exact h _
  · refine ⟨_, rfl, okS2, okS1, ?_⟩
    rw [eH]
    exact ⟨trivial, h _⟩
end Q84
namespace Q84
open PySem L2 DL
def chk2 : SM := sIf (bOr (bD (d2 gNe (hV (d2 gIx (hV (dCall 2 r_send_paper (aCons (dV 3) (aCons (dV 5) (aNil))))) (hV (dC (.int 0))))) (hV (dC (.str ("stream" : Str)))))) (bD (d2 gNe (hV (dCall 2 r_put_off (aCons (dV 3) (aCons (dV 5) (aNil))))) (hS 5)))) (sRet (dC (.bool false))) (sNo)
theorem chk2_ok {r w : Int} {ds : List Cu} (k : Kn r w ds) (hs : short none 0 ds = none) {s0 s1 s2 s4 s6 s7 s8 s9 s10 : Sl} {E : DE} (h : E.nx [s0, s1, s2, .im (scr r w), s4, .im (cuesD ds), s6, s7, s8, s9, s10]) :
    chk2 E [s0, s1, s2, .im (scr r w), s4, .im (cuesD ds), s6, s7, s8, s9, s10] := by
  refine ⟨rfl, rfl, send_of k (fun e xs => ?_) fun j e => ?_⟩
  · refine ⟨_, rfl, okS1, okS1, ?_⟩
    rw [eS]
    refine ⟨rfl, rfl, put_of' k ?_⟩
    rw [can_puts ds none 0 0 k.gl hs]
    refine ⟨trivial, okd_p k.g k.l, okd_p k.g k.l, ?_⟩
    show (if (!PyData.eqv (cuesD ds) (cuesD ds)) = true then _ else _)
    rw [eqv_same k.g k.l, if_neg (by decide)]
    exact h
  · rw [hs] at e
    cases e
theorem cut_lo {l : List D} {k : Nat} (h : k + 1 ≤ l.length) : cutD l (some ((k : Int) + 1)) none = l.drop (k + 1) := by
  unfold cutD
  have e1 : HT.sIx l.length 0 (some ((k : Int) + 1)) = k + 1 := by
    unfold HT.sIx
    simp
    rw [if_neg (by omega)]
    omega
  have e2 : HT.sIx l.length l.length none = l.length := rfl
  rw [e1, e2]
  exact List.take_of_length_le (by rw [List.length_drop]; exact Nat.le_refl _)
theorem cut_hi {l : List D} {k : Nat} (h : k ≤ l.length) : cutD l none (some (k : Int)) = l.take k := by
  unfold cutD
  have e1 : HT.sIx l.length l.length (some (k : Int)) = k := by
    unfold HT.sIx
    simp
    rw [if_neg (by omega)]
    omega
  have e2 : HT.sIx l.length 0 none = 0 := rfl
  rw [e1, e2]
  rfl
def soon : SM := sSeq (sSet 10 (d2 gAdd (hV (d2 gAdd (hV (dSl (hS 5) (oNo) (oI (dV 8)))) (hV (dTup (lCons (dTup (lCons (d2 DL.gSub (hV (d2 gIx (hS 9) (hV (dC (.int 0))))) (hV (dC (.int 1)))) (lCons (d2 gIx (hS 9) (hV (dC (.int 1)))) (lCons (d2 gIx (hS 9) (hV (dC (.int 2)))) (lNil))))) (lNil)))))) (hV (dSl (hS 5) (oI (d2 gAdd (hS 8) (hV (dC (.int 1))))) (oNo))))) (sIf (bD (d2 gNe (hV (dCall 2 r_send_paper (aCons (dV 3) (aCons (dV 10) (aNil))))) (hV (dTup (lCons (dC (.str ("short" : Str))) (lCons (dV 8) (lNil))))))) (sRet (dC (.bool false))) (sNo))
theorem set_parts {l : List D} {k : Nat} {d : D} (h : k < l.length) : l.take k ++ [d] ++ l.drop (k + 1) = l.set k d := by
  rw [List.set_eq_take_append_cons_drop, if_pos h]
  simp
theorem ok_short (j : Nat) : okD (.tuple [.str ("short" : Str), .int (j : Int)]) := by
  have h := str_lay (z := ("short" : Str)) (by decide +kernel)
  show SeqAt.shaped _ = true
  unfold SeqAt.shaped
  have h2 : PyData.strOk ("short" : Str) = true := by decide +kernel
  simp [PyData.canLay0, PyData.canLayAll0, PyData.depth, PyData.depthAll, h, h2]
theorem soon_ok {r w : Int} {ds : List Cu} {i : Nat} {x : Cu} (kd : Kn r w ds) (ky : Kn r w (ds.set i ⟨x.b - 1, x.e, x.t⟩)) (hi : ds[i]? = some x) (hs : short none 0 (ds.set i ⟨x.b - 1, x.e, x.t⟩) = some i) {s0 s1 s2 s4 s6 s7 s10 : Sl} {E : DE}
    (h : ∀ s10, E.nx [s0, s1, s2, .im (scr r w), s4, .im (cuesD ds), s6, s7, .im (.int (i : Int)), .im x.d, s10]) :
    soon E [s0, s1, s2, .im (scr r w), s4, .im (cuesD ds), s6, s7, .im (.int (i : Int)), .im x.d, s10] := by
  have hl : i < ds.length := (List.getElem?_eq_some_iff.mp hi).1
  have l60 := kd.l
  have c1 := cut_hi (l := ds.map Cu.d) (k := i) (by rw [List.length_map]; omega)
  have c2 := cut_lo (l := ds.map Cu.d) (k := i) (by rw [List.length_map]; omega)
  refine ⟨trivial, trivial, _, rfl, trivial, _, rfl, trivial, _, rfl, by show 3 ≤ 1000000; omega, by show 1 ≤ 1000000; omega, ?_⟩
  show (cutD (ds.map Cu.d) none (some (i : Int))).length + 1 ≤ 1000000 ∧ _
  rw [c1]
  refine ⟨by rw [List.length_take, List.length_map]; omega, trivial, trivial, ?_⟩
  show ((ds.map Cu.d).take i ++ [Cu.d ⟨x.b - 1, x.e, x.t⟩]).length + (cutD (ds.map Cu.d) (some ((i : Int) + 1)) none).length ≤ 1000000 ∧ _
  rw [c2]
  refine ⟨by simp; omega, ?_⟩
  have e : (ds.map Cu.d).take i ++ [PyData.tuple [PyData.int (x.b - 1), PyData.int x.e, textD x.t]] ++ (ds.map Cu.d).drop (i + 1) = (ds.set i ⟨x.b - 1, x.e, x.t⟩).map Cu.d := by
    rw [set_parts (by rw [List.length_map]; exact hl), List.map_set]
    rfl
  rw [e]
  refine ⟨rfl, rfl, send_of ky (fun z _ => ?_) fun j z => ?_⟩
  · rw [hs] at z
    cases z
  · rw [hs] at z
    cases z
    refine ⟨by show 2 ≤ 1000000; omega, ok_short _, ok_short _, ?_⟩
    have es : PyData.eqv (.tuple [.str ("short" : Str), .int (i : Int)]) (.tuple [.str ("short" : Str), .int (i : Int)]) = true := eqv_refl _ rfl
    show (if (!PyData.eqv (.tuple [.str ("short" : Str), .int (i : Int)]) (.tuple [.str ("short" : Str), .int (i : Int)])) = true then _ else _)
    rw [es, if_neg (by decide)]
    exact h _
def soonIf : SM := sIf (bD (d2 gGt (hV (d2 gIx (hS 9) (hV (dC (.int 0))))) (hV (d2 gIx (hV (d2 gIx (hS 4) (hS 8))) (hV (dC (.int 0))))))) soon sNo
theorem soon_loop {r w : Int} {cs ds : List Cu} (kc : Kn r w cs) (e : puts none cs = some ds) {s0 s1 s2 s6 s7 : Sl} {E : DE} : ∀ (xs : List Cu) (k : Nat) (s8 s9 s10 : Sl), (∀ i : Nat, ds[k + i]? = xs[i]?) →
    (∀ s8 s9 s10, E.nx [s0, s1, s2, .im (scr r w), .im (cuesD cs), .im (cuesD ds), s6, s7, s8, s9, s10]) →
    forL (gTupT 2 (gConsT (gN 8) (gConsT (gN 9) (gNoT)))) soonIf E (enN k (xs.map Cu.d)) [s0, s1, s2, .im (scr r w), .im (cuesD cs), .im (cuesD ds), s6, s7, s8, s9, s10]
  | [], k, s8, s9, s10, _, h => h _ _ _
  | x :: xs, k, s8, s9, s10, hx, h => by
    have hk : ds[k]? = some x := hx 0
    have b := puts_bts cs ds none 0 kc.gl e
    obtain ⟨c, hc, bt⟩ := bts_get b hk
    have next : ∀ s8 s9 s10, forL (gTupT 2 (gConsT (gN 8) (gConsT (gN 9) (gNoT)))) soonIf E (enN (k + 1) (xs.map Cu.d)) [s0, s1, s2, .im (scr r w), .im (cuesD cs), .im (cuesD ds), s6, s7, s8, s9, s10] :=
      fun s8 s9 s10 => soon_loop kc e xs (k + 1) s8 s9 s10 (fun i => by
        have := hx (i + 1)
        rw [show k + (i + 1) = k + 1 + i by omega] at this
        simpa using this) h
    refine ⟨rfl, rfl, ?_⟩
    refine ⟨trivial, _, rfl, trivial, trivial, c.d, atI_nat (by rw [List.getElem?_map, hc]; rfl), _, rfl, ?_⟩
    show (if decide (x.b > c.b) = true then _ else _)
    by_cases z : x.b > c.b
    · rw [if_pos (decide_eq_true z)]
      have hs := sooner_short cs ds none 0 0 k c x kc.gl e hc hk z
      rw [Nat.zero_add] at hs
      have kd := kn_puts kc e
      have ky : Kn r w (ds.set k ⟨x.b - 1, x.e, x.t⟩) := kn_bts kc (bts_set b hc ⟨bt.1, bt.2.1, by show c.b ≤ x.b - 1; omega, by have := bt.2.2.2; show x.b - 1 < c.e; omega⟩)
      exact soon_ok kd ky hk hs fun s10 => next _ _ _
    · rw [if_neg (by simpa using z)]
      exact next _ _ _
def SZ (x : D) : Prop := ∃ r w, x = scr r w ∧ OkS r w
def sizes : List D := [.tuple [.int 1, .int 4], .tuple [.int 2, .int 3], .tuple [.int 2, .int 6], .tuple [.int 3, .int 4], .tuple [.int 2, .int 20], .tuple [.int 4, .int 3]]
theorem sizes_ok : ∀ x ∈ sizes, SZ x := by
  intro x hx
  simp [sizes] at hx
  rcases hx with rfl | rfl | rfl | rfl | rfl | rfl
  · exact ⟨1, 4, rfl, by omega, by omega, by omega, by omega⟩
  · exact ⟨2, 3, rfl, by omega, by omega, by omega, by omega⟩
  · exact ⟨2, 6, rfl, by omega, by omega, by omega, by omega⟩
  · exact ⟨3, 4, rfl, by omega, by omega, by omega, by omega⟩
  · exact ⟨2, 20, rfl, by omega, by omega, by omega, by omega⟩
  · exact ⟨4, 3, rfl, by omega, by omega, by omega, by omega⟩
def last3 : SM := sIf (bD (d2 gIsNot (hS 5) (hV (dC .none)))) (sSeq chk2 (sFor (iEn (lCons (dV 5) (lNil))) (gTupT 2 (gConsT (gN 8) (gConsT (gN 9) (gNoT)))) soonIf)) (sNo)
theorem last3_ok {r w : Int} {cs : List Cu} (k : Kn r w cs) {s0 s1 s2 s6 s7 s8 s9 s10 : Sl} {E : DE} (h : ∀ s5 s8 s9 s10, E.nx [s0, s1, s2, .im (scr r w), .im (cuesD cs), s5, s6, s7, s8, s9, s10]) :
    last3 E [s0, s1, s2, .im (scr r w), .im (cuesD cs), .im (pD (puts none cs)), s6, s7, s8, s9, s10] := by
  cases e : puts none cs with
  | none => exact ⟨trivial, h _ _ _ _⟩
  | some ds =>
    refine ⟨trivial, ?_⟩
    refine chk2_ok (kn_puts k e) (puts_short cs ds none 0 0 k.gl e) ?_
    show forL _ _ _ (enD (ds.map Cu.d)) [s0, s1, s2, .im (scr r w), .im (cuesD cs), .im (cuesD ds), s6, s7, s8, s9, s10]
    rw [enD_N]
    exact soon_loop k e ds 0 _ _ _ (fun i => by rw [Nat.zero_add]) fun s8 s9 s10 => h _ _ _ _
def drawn : SM := sSet 4 (dCallO 1 4 r__law_cues (aOra 1 (aCons (d2 gIx (hS 3) (hV (dC (.int 0)))) (aCons (dCB gMin (DL.gCons (hV (d2 gIx (hS 3) (hV (dC (.int 1))))) (DL.gCons (hV (dC (.int 6))) (DL.gNil)))) (aCons (dCallO 1 2 s_next (aOra 1 (aCons (dC (.int 6)) (aNil)))) (aNil))))))
theorem drawn_ok {r w : Int} (o : OkS r w) {s0 s2 s4 s5 s6 s7 s8 s9 s10 : Sl} {n : Nat} (hn : n < 700000) {E : DE} (h : ∀ cs n', Kn r w cs → n' ≤ n + 210 → E.nx [s0, .ora n', s2, .im (scr r w), .im (cuesD cs), s5, s6, s7, s8, s9, s10]) :
    drawn E [s0, .ora n, s2, .im (scr r w), s4, s5, s6, s7, s8, s9, s10] := by
  have w1 := o.w1
  refine ⟨trivial, trivial, _, rfl, trivial, _, rfl, ?_⟩
  refine ⟨trivial, rfl, rfl, rfl, 6, rfl, by omega, by omega, by omega, fun i i0 i1 => ?_⟩
  refine ⟨rfl, rfl, rfl, ?_⟩
  refine d_law_cues o (by omega) (by omega) (by omega) i0 (by omega) (by omega) fun cs m' g gl l hm => ?_
  exact h cs m' ⟨o, by omega, g, gl⟩ (by omega)
def turn : SM := sSeq (sSet 3 (d2 gIx (hV (dLst (lCons (dTup (lCons (dC (.int 1)) (lCons (dC (.int 4)) (lNil)))) (lCons (dTup (lCons (dC (.int 2)) (lCons (dC (.int 3)) (lNil)))) (lCons (dTup (lCons (dC (.int 2)) (lCons (dC (.int 6)) (lNil)))) (lCons (dTup (lCons (dC (.int 3)) (lCons (dC (.int 4)) (lNil)))) (lCons (dTup (lCons (dC (.int 2)) (lCons (dC (.int 20)) (lNil)))) (lCons (dTup (lCons (dC (.int 4)) (lCons (dC (.int 3)) (lNil)))) (lNil))))))))) (hV (dCallO 1 2 s_next (aOra 1 (aCons (dC (.int 6)) (aNil))))))) (sSeq drawn (sSeq (sSet 5 (dCall 1 r__law_put_off (aCons (dV 4) (aNil)))) (sSeq (sSet 6 (dCall 2 r_put_off (aCons (dV 3) (aCons (dV 4) (aNil))))) (sSeq chk1 (sSeq (sSet 7 (d2 gEq (hV (d2 gIx (hV (dCall 2 r_send_paper (aCons (dV 3) (aCons (dV 4) (aNil))))) (hV (dC (.int 0))))) (hV (dC (.str ("stream" : Str)))))) (sSeq (sIf (bAnd (bTruth (hS 7)) (bD (d2 gNe (hS 5) (hS 4)))) (sRet (dC (.bool false))) (sNo)) last3))))))
theorem turn_ok {s0 s2 s3 s4 s5 s6 s7 s8 s9 s10 : Sl} {n : Nat} (hn : n < 600000) {E : DE} (h : ∀ n' s3 s4 s5 s6 s7 s8 s9 s10, n' ≤ n + 300 → E.nx [s0, .ora n', s2, s3, s4, s5, s6, s7, s8, s9, s10]) :
    turn E [s0, .ora n, s2, s3, s4, s5, s6, s7, s8, s9, s10] := by
  refine ⟨by show 2 ≤ 1000000; omega, by show 2 ≤ 1000000; omega, by show 2 ≤ 1000000; omega, by show 2 ≤ 1000000; omega, by show 2 ≤ 1000000; omega, by show 2 ≤ 1000000; omega, by show 6 ≤ 1000000; omega, ?_⟩
  refine ⟨trivial, rfl, rfl, rfl, 6, rfl, by omega, by omega, by omega, fun i i0 i1 => ?_⟩
  obtain ⟨x, e, hx⟩ := at_some (l := sizes) i0 i1
  obtain ⟨r, w, rfl, o⟩ := sizes_ok x hx
  refine ⟨scr r w, e, ?_⟩
  refine drawn_ok o (by omega) fun cs n' k hn' => ?_
  have l := k.l
  refine ⟨rfl, rfl, d_law_put_off (r := r) (w := w) (by omega) k.g k.gl ?_⟩
  refine ⟨rfl, rfl, put_of' k ?_⟩
  refine chk1_ok k ?_
  exact can1_ok (E := ⟨last3 E, E.rt, E.bk, E.ct⟩) k fun s7 => last3_ok k fun s5 s8 s9 s10 => h n' _ _ _ _ _ _ _ _ (by omega)
theorem turns {s0 : Sl} {E : DE} : ∀ (ds : List D) (n : Nat) (s2 s3 s4 s5 s6 s7 s8 s9 s10 : Sl), n + 300 * ds.length < 500000 → (∀ ρ, E.nx ρ) → forL (gN 2) turn E ds [s0, .ora n, s2, s3, s4, s5, s6, s7, s8, s9, s10]
  | [], n, s2, s3, s4, s5, s6, s7, s8, s9, s10, _, h => h _
  | d :: ds, n, s2, s3, s4, s5, s6, s7, s8, s9, s10, hn, h => by
    rw [List.length_cons] at hn
    show turn _ [s0, .ora n, .im d, s3, s4, s5, s6, s7, s8, s9, s10]
    refine turn_ok (by omega) fun n' s3 s4 s5 s6 s7 s8 s9 s10 hn' => ?_
    exact turns ds n' _ _ _ _ _ _ _ _ _ (by omega) h
theorem law_says : ∀ ns : List Int, ns.length ≤ 63 → lawSays ns := by
  intro ns hl
  have lm : ((ns.map PyData.int).length : Int) ≤ 63 := by rw [List.length_map]; omega
  refine ⟨trivial, ?_⟩
  refine ⟨⟨by omega, by omega⟩, ?_⟩
  have hr : (rgD 0 (4 + min 4 ((ns.map PyData.int).length : Int))).length ≤ 8 := by
    simp [rgD]
    omega
  refine turns _ 0 _ _ _ _ _ _ _ _ _ (by omega) fun ρ => ?_
  rfl
end Q84
open PySem PyProof.Rows PySem.W in
set_option maxRecDepth 100100 in
set_option maxHeartbeats 0 in
theorem PySem.Challenge.cw_captionhouse_k84_whole_cues_put_off_holds : PySem.Challenge.rw_captionhouse_k84_whole_cues_put_off.Holds := by
  w_on
  o_law
  refine HandSHeadRun.head_any (r := Q84.hdR) (q := Q84.hdQ) (H := Q84.hdH) (ob := fun s => Q84.hdA.map (HandSHeadRun.getT s)) (M := 20000) (loose := Q84.hdN) (kwd := []) (fun s => congrArg (fun g => Q84.hdA.map g) (funext fun b => HandSHeadRun.getT_eq s b)) (by kernel_rfl) (fun s => by kernel_rfl) Q84.hdRun (by rfl) (by rfl) (by rfl) (by rfl) (by first | assumption | decide +kernel) (by decide +kernel) ⟨rfl, rfl, rfl, rfl, rfl, by decide +kernel⟩ ?hw ?hc
  (case hw => w_witness2)
  k_fill
  refine DL.walkG (l := PySem.Challenge.rw_captionhouse_k84_whole_cues_put_off) (n := 63) (k := 9) (x := "_law_script") (sp := fun w => Q84.spLawG (_)) rfl (by decide) rfl ⟨rfl, by decide, by decide⟩ (fun w h Y => PySem.W.kIn_of Y) ?F (fun w H a ns hl sq => ⟨a, ns, rfl, sq, hl, fun _ => rfl⟩)
  case F =>
    intro w gl fa h KX G hgl
    refine' Q84.all_mk KX G hgl ?a0 ?l0 ?c0 ?k0 ?a1 ?l1 ?c1 ?k1 ?a2 ?l2 ?c2 ?k2 ?a3 ?l3 ?c3 ?k3 ?a4 ?l4 ?c4 ?k4 ?a5 ?l5 ?c5 ?k5 ?a6 ?l6 ?c6 ?k6 ?a7 ?l7 ?c7 ?k7 ?a8 ?l8 ?c8 ?k8 ?a9 ?l9 ?c9 ?k9 ?a10 ?l10 ?c10 ?k10 ?a11 ?l11 ?c11 ?k11 ?a12 ?l12 ?c12 ?k12 ?a13 ?l13 ?c13 ?k13 ?a14 ?l14 ?c14 ?k14 ?a15 ?l15 ?c15 ?k15 ?a16 ?l16 ?c16 ?k16 ?a17 ?l17 ?c17 ?k17 ?a18 ?l18 ?c18 ?k18 ?a19 ?l19 ?c19 ?k19 ?a20 ?l20 ?c20 ?k20 ?a21 ?l21 ?c21 ?k21 ?a22 ?l22 ?c22 ?k22 ?a23 ?l23 ?c23 ?k23 ?a24 ?l24 ?c24 ?k24 ?z_all ?z_bool ?z_enumerate ?z_int ?z_isinstance ?z_len ?z_list ?z_min ?z_ord ?z_range ?z_repr ?z_str ?z_tuple ?v_LAST_FRAME ?v_LOWEST_OF_LINES ?v_MOST_COLUMNS ?v_MOST_LINES ?v_MOST_ROWS ?v_MOST_SENDABLE ?v_MOST_SIGNS ?v_PERCENT ?v_TILDE Q84.law_says
    (case a0 => k_is)
    (case l0 => k_is)
    (case c0 => k_is)
    (case k0 => k_is)
    (case a1 => k_is)
    (case l1 => k_is)
    (case c1 => k_is)
    (case k1 => k_is)
    (case a2 => k_is)
    (case l2 => k_is)
    (case c2 => k_is)
    (case k2 => k_is)
    (case a3 => k_is)
    (case l3 => k_is)
    (case c3 => k_is)
    (case k3 => k_is)
    (case a4 => k_is)
    (case l4 => k_is)
    (case c4 => k_is)
    (case k4 => k_is)
    (case a5 => k_is)
    (case l5 => k_is)
    (case c5 => k_is)
    (case k5 => k_is)
    (case a6 => k_is)
    (case l6 => k_is)
    (case c6 => k_is)
    (case k6 => k_is)
    (case a7 => k_is)
    (case l7 => k_is)
    (case c7 => k_is)
    (case k7 => k_is)
    (case a8 => k_is)
    (case l8 => k_is)
    (case c8 => k_is)
    (case k8 => k_is)
    (case a9 => k_is)
    (case l9 => k_is)
    (case c9 => k_is)
    (case k9 => k_is)
    (case a10 => k_is)
    (case l10 => k_is)
    (case c10 => k_is)
    (case k10 => k_is)
    (case a11 => k_is)
    (case l11 => k_is)
    (case c11 => k_is)
    (case k11 => k_is)
    (case a12 => k_is)
    (case l12 => k_is)
    (case c12 => k_is)
    (case k12 => k_is)
    (case a13 => k_is)
    (case l13 => k_is)
    (case c13 => k_is)
    (case k13 => k_is)
    (case a14 => k_is)
    (case l14 => k_is)
    (case c14 => k_is)
    (case k14 => k_is)
    (case a15 => k_is)
    (case l15 => k_is)
    (case c15 => k_is)
    (case k15 => k_is)
    (case a16 => k_is)
    (case l16 => k_is)
    (case c16 => k_is)
    (case k16 => k_is)
    (case a17 => k_is)
    (case l17 => k_is)
    (case c17 => k_is)
    (case k17 => k_is)
    (case a18 => k_is)
    (case l18 => k_is)
    (case c18 => k_is)
    (case k18 => k_is)
    (case a19 => k_is)
    (case l19 => k_is)
    (case c19 => k_is)
    (case k19 => k_is)
    (case a20 => k_is)
    (case l20 => k_is)
    (case c20 => k_is)
    (case k20 => k_is)
    (case a21 => k_is)
    (case l21 => k_is)
    (case c21 => k_is)
    (case k21 => k_is)
    (case a22 => k_is)
    (case l22 => k_is)
    (case c22 => k_is)
    (case k22 => k_is)
    (case a23 => k_is)
    (case l23 => k_is)
    (case c23 => k_is)
    (case k23 => k_is)
    (case a24 => k_is)
    (case l24 => k_is)
    (case c24 => k_is)
    (case k24 => k_is)
    (case z_all => k_is)
    (case z_bool => k_is)
    (case z_enumerate => k_is)
    (case z_int => k_is)
    (case z_isinstance => k_is)
    (case z_len => k_is)
    (case z_list => k_is)
    (case z_min => k_is)
    (case z_ord => k_is)
    (case z_range => k_is)
    (case z_repr => k_is)
    (case z_str => k_is)
    (case z_tuple => k_is)
    (case v_LAST_FRAME => k_is)
    (case v_LOWEST_OF_LINES => k_is)
    (case v_MOST_COLUMNS => k_is)
    (case v_MOST_LINES => k_is)
    (case v_MOST_ROWS => k_is)
    (case v_MOST_SENDABLE => k_is)
    (case v_MOST_SIGNS => k_is)
    (case v_PERCENT => k_is)
    (case v_TILDE => k_is)

import PyProof.Rows.All
import Wide.All
import OpenK.AllK
import Wide.FinOn
import HandS.ForMost
import HandS.Flow
import HandS.IsInst
import HandS.Walk
import HandS.Zip
import HandS.Conv
import HandS.Wide
import HandS.TupAny
import HandS.Style
import HandS.SortInts
import KE.GoesMore
import HandS.Deep
import HandS.Text
import HandS.Strs
import HandS.SetBool
import HandS.Comp
import HandS.Lambda
import HandS.Gcd
import KE.DataMinMax
import KE.KTupSum
import KE.KMathGC
import HandS.EndBits
import HandS.ExcInit
import HandS.TryOnly
import HandS.WordsExc
import KE.GoesEnum
import HandS.ExcField
import HandS.StrMore
import HandS.TupMul
import HandS.Star
import HandS.Defaults
import PyProof.TupleOfStr
import HandS.FStr
import HandS.TryMany
import KE.KDictKeyed
import PyProof.ListStr
import KE.KDictZip
import KE.GoesZip
import HandS.ListItems
import PyProof.Rows.SetFrom
import HandS.SetKeys
import HandS.DictComp
import HandS.NoneIn
import HandS.Dict
import HandS.Flt
import KE.SortData
import HandS.TupSets
import HandS.ExcIs
import HandS.EndTab
import HandS.NestedK
import KE.KExcInit
import KE.DataAny
import HandS.Zip0
import KE.DataFind
import HandS.RevRange
import PyProof.ReprBulk
import PyProof.Rows.ReprShort
import HandS.Head0
import HandS.Head1
import HandS.Head2
import HandS.Head3
import KE.KStateDown

import PySem.Challenge.RW_captionhouse_k78_whole_fewest_cues_of_fi
set_option Elab.async false
set_option linter.all false
set_option maxRecDepth 100000
set_option maxHeartbeats 3900000
namespace Q78
open PySem.Calls PySem PyProof.Rows PySem.W
abbrev hdR : OpenRow := OpenLaw.row PySem.Challenge.rw_captionhouse_k78_whole_fewest_cues_of_fi
def hdQ : Program := view hdR.prog [57]
def hdN0 : List PySem.Str := [Str.ofString "MOST_SIGNS", Str.ofString "TILDE", Str.ofString "PERCENT", Str.ofString "is_integer", Str.ofString "is_within", Str.ofString "is_tuple", Str.ofString "is_sign", Str.ofString "has_signs", Str.ofString "BadFile", Str.ofString "BadPaper", Str.ofString "MOST_CUES", Str.ofString "MOST_LINES", Str.ofString "MOST_FRAME", Str.ofString "LOWEST_OF_LINES", Str.ofString "need_file", Str.ofString "flat", Str.ofString "alike", Str.ofString "apart", Str.ofString "is_cue", Str.ofString "is_text", Str.ofString "is_file", Str.ofString "text_at", Str.ofString "flattened", Str.ofString "joined_cues", Str.ofString "_text_of_layers", Str.ofString "_bounds_of", Str.ofString "_is_line", Str.ofString "fewest", Str.ofString "fewest_file", Str.ofString "strokes_paper", Str.ofString "check_strokes", Str.ofString "_greatest", Str.ofString "_best_bounds", Str.ofString "_all_partners", Str.ofString "_most_of", Str.ofString "_joined"]
def hdN1 : List PySem.Str := [Str.ofString "_file_of", Str.ofString "_partner_in", Str.ofString "_strokes", Str.ofString "_are_bounds", Str.ofString "_is_row", Str.ofString "_law_mix", Str.ofString "_law_begun", Str.ofString "_law_draw", Str.ofString "_law_text", Str.ofString "_law_strokes", Str.ofString "_law_seen", Str.ofString "_law_flatted", Str.ofString "_law_least", Str.ofString "_law_borders", Str.ofString "_law_refused", Str.ofString "_law_right"]
def hdN : List PySem.Str := hdN0 ++ (hdN1)
section
local macro_rules
  | `(tactic| o_head $t:term) => `(tactic| (have hk := $t; assumption))
set_option maxRecDepth 100001 in
set_option maxHeartbeats 0 in
theorem hd0 (h : hdR.Holds) : hdR.Holds := by k_head
end
def hdP : Params := by constructor <;> exact default
noncomputable def hdA : List Addr := (hd0.heap_1 hdP).map (·.1)
theorem hdE : ∀ P, hdA = (hd0.heap_1 P).map (·.1) := fun _ => by kernel_rfl
noncomputable abbrev hdH : Hook := kHook hd0.heap_1 hdA hdE
set_option maxRecDepth 100001 in
set_option maxHeartbeats 0 in
theorem hdRun (w : World) : HandSHeadRun.RunEq hdR hdQ hdH (fun s => hdA.map (HandSHeadRun.getT s)) 20000 hdN w := by
  intro os
  kernel_rfl
end Q78
namespace DL
open PySem L2
abbrev D := PyData
def KD : Key → D
  | .inl i => .int i
  | .inr x => .str x
mutual
/-- the value v is the datum d, in what stands at H -/
inductive At (K : PySem.W.Frag) (H : Hp) : V → D → Prop
  | non : At K H .non .none
  | bl (b : Bool) : At K H (.bl b) (.bool b)
  | int (i : Int) : At K H (.int i) (.int i)
  | str (x : Str) : At K H (.str x) (.str x)
  | lst {a : Addr} {xs : List V} {ds : List D} : SqL K H a xs → AtAll K H xs ds → At K H (.ref a) (.list ds)
  | tup {a : Addr} {xs : List V} {ds : List D} : SqT K H a xs → AtAll K H xs ds → At K H (.ref a) (.tuple ds)
  | dk {a : Addr} {ks : List Key} {xs : List V} {ds : List D} : Rd H a (.dK (ks.zip xs)) → ks ≠ [] → ks.length = xs.length → AtAll K H xs ds → At K H (.ref a) (.dict ((ks.map KD).zip ds))
  | dt {a : Addr} {ks : List (List Key)} {xs : List V} {ds : List D} : H a = some (.dT (ks.zip xs)) → ks.length = xs.length → AtAll K H xs ds → At K H (.ref a) (.dict ((ks.map fun k => PyData.tuple (k.map KD)).zip ds))
inductive AtAll (K : PySem.W.Frag) (H : Hp) : List V → List D → Prop
  | nil : AtAll K H [] []
  | cons {v : V} {vs : List V} {d : D} {ds : List D} : At K H v d → AtAll K H vs ds → AtAll K H (v :: vs) (d :: ds)
end
def Ex (G G' : Hp) : Prop := ∀ a o, G a = some o → G' a = some o
theorem Ex.refl (G : Hp) : Ex G G := fun _ _ h => h
theorem Ex.trans {G G1 G2 : Hp} (a : Ex G G1) (b : Ex G1 G2) : Ex G G2 := fun x o h => b x o (a x o h)
theorem Ex.new {G : Hp} {p : Addr} {o : HO} (h : G p = none) : Ex G (upd G p o) := fun a u e => by
  rw [upd_ne (ne_of_none e h)]
  exact e
theorem Ex.rd {H H' : Hp} {a : Addr} {u : HO} (e : Ex H H') (h : Rd H a u) : Rd H' a u := by
  rcases h with h | ⟨o, h⟩
  · exact Or.inl (e a _ h)
  · exact Or.inr ⟨o, e a _ h⟩
theorem Ex.sl {K : PySem.W.Frag} {H H' : Hp} {a : Addr} {xs : List V} (e : Ex H H') (h : SqL K H a xs) : SqL K H' a xs := by
  rcases h with h | h
  · exact Or.inl (e.rd h)
  · exact Or.inr h
theorem Ex.st {K : PySem.W.Frag} {H H' : Hp} {a : Addr} {xs : List V} (e : Ex H H') (h : SqT K H a xs) : SqT K H' a xs := by
  rcases h with h | h
  · exact Or.inl (e.rd h)
  · exact Or.inr h
theorem At.mono {K : PySem.W.Frag} {H H' : Hp} (e : Ex H H') {v : V} {d : D} (h : At K H v d) : At K H' v d := by
  refine At.rec (motive_1 := fun v d _ => At K H' v d) (motive_2 := fun vs ds _ => AtAll K H' vs ds) ?_ ?_ ?_ ?_ ?_ ?_ ?_ ?_ ?_ ?_ h
  · exact .non
  · exact fun b => .bl b
  · exact fun i => .int i
  · exact fun x => .str x
  · exact fun s _ i => .lst (e.sl s) i
  · exact fun s _ i => .tup (e.st s) i
  · exact fun s n l _ i => .dk (e.rd s) n l i
  · exact fun s l _ i => .dt (e _ _ s) l i
  · exact .nil
  · exact fun _ _ i j => .cons i j
theorem AtAll.mono {K : PySem.W.Frag} {H H' : Hp} (e : Ex H H') : ∀ {vs : List V} {ds : List D}, AtAll K H vs ds → AtAll K H' vs ds
  | _, _, .nil => .nil
  | _, _, .cons h t => .cons (h.mono e) (AtAll.mono e t)
section
variable {K : PySem.W.Frag} {H : Hp}
theorem AtAll.length : ∀ {vs : List V} {ds : List D}, AtAll K H vs ds → vs.length = ds.length
  | _, _, .nil => rfl
  | _, _, .cons _ t => congrArg (· + 1) t.length
theorem AtAll.append : ∀ {vs ws : List V} {ds es : List D}, AtAll K H vs ds → AtAll K H ws es → AtAll K H (vs ++ ws) (ds ++ es)
  | _, _, _, _, .nil, s => s
  | _, _, _, _, .cons r t, s => .cons r (t.append s)
theorem AtAll.take : ∀ {vs : List V} {ds : List D} (n : Nat), AtAll K H vs ds → AtAll K H (vs.take n) (ds.take n)
  | _, _, 0, _ => by simpa using AtAll.nil
  | _, _, _ + 1, .nil => .nil
  | _, _, n + 1, .cons r t => .cons r (t.take n)
theorem AtAll.drop : ∀ {vs : List V} {ds : List D} (n : Nat), AtAll K H vs ds → AtAll K H (vs.drop n) (ds.drop n)
  | _, _, 0, r => r
  | _, _, _ + 1, .nil => .nil
  | _, _, n + 1, .cons _ t => t.drop n
theorem AtAll.get : ∀ {vs : List V} {ds : List D} {i : Nat} {d : D}, AtAll K H vs ds → ds[i]? = some d → ∃ v, vs[i]? = some v ∧ At K H v d
  | _, _, _, _, .nil, e => (by simp at e)
  | _, _, 0, _, .cons r _, e => (by simp at e; subst e; exact ⟨_, rfl, r⟩)
  | _, _, i + 1, d, .cons _ t, e => by
    obtain ⟨v, h1, h2⟩ := t.get (i := i) (d := d) (by simpa using e)
    exact ⟨v, by simpa using h1, h2⟩
theorem AtAll.set {x : V} {d : D} (r : At K H x d) : ∀ {vs : List V} {ds : List D} (i : Nat), AtAll K H vs ds → AtAll K H (vs.set i x) (ds.set i d)
  | _, _, _, .nil => .nil
  | _, _, 0, .cons _ t => (.cons r t)
  | _, _, i + 1, .cons q t => .cons q (AtAll.set r i t)
theorem AtAll.reverse : ∀ {vs : List V} {ds : List D}, AtAll K H vs ds → AtAll K H vs.reverse ds.reverse
  | _, _, .nil => .nil
  | _, _, .cons r t => by
    (rw [List.reverse_cons, List.reverse_cons])
    exact t.reverse.append (.cons r .nil)
theorem AtAll.dropLast {vs : List V} {ds : List D} (h : AtAll K H vs ds) : AtAll K H vs.dropLast ds.dropLast := by
  rw [List.dropLast_eq_take, List.dropLast_eq_take, h.length]
  exact h.take _
theorem AtAll.ints : ∀ {vs : List V} {ns : List Int}, AtAll K H vs (ns.map PyData.int) → vs = ns.map V.int
  | _, [], .nil => rfl
  | _, n :: ns, .cons r t => by cases r; rw [t.ints]; rfl
theorem AtAll.bools : ∀ {vs : List V} {ns : List Bool}, AtAll K H vs (ns.map PyData.bool) → vs = ns.map V.bl
  | _, [], .nil => rfl
  | _, n :: ns, .cons r t => by cases r; rw [t.bools]; rfl
theorem AtAll.ofInts : ∀ (ns : List Int), AtAll K H (ns.map V.int) (ns.map PyData.int)
  | [] => .nil
  | n :: ns => .cons (.int n) (AtAll.ofInts ns)
end
mutual
def nod : D → Bool
  | .list xs => nodAll xs
  | .tuple xs => nodAll xs
  | .dict _ => false
  | _ => true
def nodAll : List D → Bool
  | [] => true
  | x :: xs => nod x && nodAll xs
end
theorem At.dp {K : PySem.W.Frag} {H : Hp} {v : V} {d : D} (h : At K H v d) : nod d = true → Dp K H v d := by
  refine At.rec (motive_1 := fun v d _ => nod d = true → Dp K H v d) (motive_2 := fun vs ds _ => nodAll ds = true → DpAll K H vs ds) ?_ ?_ ?_ ?_ ?_ ?_ ?_ ?_ ?_ ?_ h
  · exact fun _ => .non
  · exact fun b _ => .bl b
  · exact fun i _ => .int i
  · exact fun x _ => .str x
  · exact fun s _ i e => .lst s (i (by simpa [nod] using e))
  · exact fun s _ i e => .tup s (i (by simpa [nod] using e))
  · exact fun _ _ _ _ _ e => by simp [nod] at e
  · exact fun _ _ _ _ e => by simp [nod] at e
  · exact fun _ => .nil
  · exact fun _ _ i j e => by
      simp only [nodAll, Bool.and_eq_true] at e
      exact .cons (i e.1) (j e.2)
end DL
namespace DL
open PySem L2
def Foot (T : List (Addr × Str)) : Option Addr → Hp → Addr → Prop
  | none, _, _ => False
  | some q, H, a => (a = q ∨ ∃ kvs k, H q = some (.dK kvs) ∧ (k, V.ref a) ∈ kvs) ∨ ∃ t ∈ T, a = t.1 ∨ ∃ (ps : Array Value) (pos : Pos), H t.1 = some (.tbl ps) ∧ codeAmong pos ps.toList = some (Value.ref a)
theorem Foot.eqv {T : List (Addr × Str)} {p : Option Addr} {H H' : Hp} (h : ∀ q, p = some q → H' q = H q) (h2 : p ≠ none → ∀ t ∈ T, H' t.1 = H t.1) (a : Addr) : Foot T p H' a ↔ Foot T p H a := by
  cases p with
  | none => exact Iff.rfl
  | some q =>
    have e := h q rfl
    have e2 := h2 (fun z => by cases z)
    show ((a = q ∨ ∃ kvs k, H' q = some (.dK kvs) ∧ (k, V.ref a) ∈ kvs) ∨ ∃ t ∈ T, a = t.1 ∨ ∃ (ps : Array Value) (pos : Pos), H' t.1 = some (.tbl ps) ∧ codeAmong pos ps.toList = some (Value.ref a)) ↔ ((a = q ∨ ∃ kvs k, H q = some (.dK kvs) ∧ (k, V.ref a) ∈ kvs) ∨ ∃ t ∈ T, a = t.1 ∨ ∃ (ps : Array Value) (pos : Pos), H t.1 = some (.tbl ps) ∧ codeAmong pos ps.toList = some (Value.ref a))
    rw [e]
    constructor
    · rintro (z | ⟨t, ht, z⟩)
      · exact .inl z
      · rw [e2 t ht] at z
        exact .inr ⟨t, ht, z⟩
    · rintro (z | ⟨t, ht, z⟩)
      · exact .inl z
      · rw [← e2 t ht] at z
        exact .inr ⟨t, ht, z⟩
structure Orc where
  T : List (Addr × Str)
  I : Addr → Hp → Prop
  cnt : Addr → Hp → Nat
  al : ∀ q H a, I q H → Foot T (some q) H a → H a ≠ none
  st : ∀ q H H', I q H → (∀ a, Foot T (some q) H a → H' a = H a) → I q H'
  sc : ∀ q H H', I q H → (∀ a, Foot T (some q) H a → H' a = H a) → cnt q H' = cnt q H
/-- no source of numbers -/
def Orc.nil : Orc := ⟨[], fun _ _ => False, fun _ _ => 0, fun _ _ _ h => h.elim, fun _ _ _ h => h.elim, fun _ _ _ h => h.elim⟩
/-- from F0 (known to stay) and H0 (all) to F and H -/
structure World (R : Orc) (p : Option Addr) (F0 H0 F H : Hp) : Prop where
  ff : Ex F0 F
  fh : Ex F H
  kp : ∀ a o, H0 a = some o → ¬ Foot R.T p H0 a → H a = some o ∧ ¬ Foot R.T p H a
  dom : ∀ a, H0 a ≠ none → H a ≠ none
  fn : ∀ a, H0 a ≠ none → F0 a = none → F a = none
  ft : ∀ a, F a ≠ none → ¬ Foot R.T p H a
  or : ∀ q, p = some q → R.I q H
theorem World.start {R : Orc} {p : Option Addr} {F H : Hp} (fh : Ex F H) (ft : ∀ a, F a ≠ none → ¬ Foot R.T p H a) (or : ∀ q, p = some q → R.I q H) : World R p F H F H :=
  ⟨Ex.refl F, fh, fun _ _ h f => ⟨h, f⟩, fun _ h => h, fun _ _ h => h, ft, or⟩
theorem World.here {R : Orc} {p : Option Addr} {F0 H0 F H : Hp} (w : World R p F0 H0 F H) : World R p F H F H := World.start w.fh w.ft w.or
theorem World.trans {R : Orc} {p : Option Addr} {F0 H0 F H F' H' : Hp} (w : World R p F0 H0 F H) (v : World R p F H F' H') : World R p F0 H0 F' H' := by
  refine ⟨w.ff.trans v.ff, v.fh, fun a o h f => ?_, fun a h => v.dom a (w.dom a h), fun a h f => v.fn a (w.dom a h) (w.fn a h f), v.ft, v.or⟩
  obtain ⟨h1, f1⟩ := w.kp a o h f
  exact v.kp a o h1 f1
theorem World.ofNone {R : Orc} {p : Option Addr} {F0 H0 F H F' H' : Hp} (w : World R p F0 H0 F H) (v : World R none F H F' H') : World R p F H F' H' := by
  have all : ∀ a, H a ≠ none → H' a = H a := fun a h => by
    cases e : H a with
    | none => exact absurd e h
    | some o => exact (v.kp a o e (fun z => z)).1
  have al : ∀ a, Foot R.T p H a → H a ≠ none := fun a h => by
    cases p with
    | none => exact h.elim
    | some q => exact R.al q H a (w.or q rfl) h
  have hq : ∀ q, p = some q → H' q = H q := fun q e => all q (al q (by subst e; exact .inl (.inl rfl)))
  have ff : ∀ a, Foot R.T p H' a ↔ Foot R.T p H a := Foot.eqv hq fun hp t ht => all t.1 (al t.1 (by
    cases p with
    | none => exact absurd rfl hp
    | some q => exact .inr ⟨t, ht, .inl rfl⟩))
  refine ⟨v.ff, v.fh, fun a o h f => ⟨(v.kp a o h (fun z => z)).1, fun z => f ((ff a).mp z)⟩, v.dom, v.fn, fun a h z => ?_, fun q e => ?_⟩
  · have z' := (ff a).mp z
    cases e : F a with
    | some o => exact w.ft a (by rw [e]; exact Option.some_ne_none o) z'
    | none => exact h (v.fn a (al a z') e)
  · subst e
    exact R.st q H H' (w.or q rfl) fun a h => all a (al a h)
theorem World.foot_al {R : Orc} {p : Option Addr} {F0 H0 F H : Hp} (w : World R p F0 H0 F H) {a : Addr} (h : Foot R.T p H a) : H a ≠ none := by
  cases p with
  | none => exact h.elim
  | some q => exact R.al q H a (w.or q rfl) h
/-- a new object that is known from then on -/
theorem World.newF {R : Orc} {p : Option Addr} {F0 H0 F H : Hp} (w : World R p F0 H0 F H) {q : Addr} (o : HO) (hq : H q = none) : World R none F H (upd F q o) (upd H q o) := by
  refine ⟨?_, ?_, ?_, ?_, ?_, fun _ _ z => z, fun _ e => nomatch e⟩
  · intro a u e
    have : a ≠ q := fun z => by
      have := w.fh a u e
      rw [z, hq] at this
      cases this
    rw [upd_ne this]
    exact e
  · intro a u e
    by_cases h : a = q
    · subst h
      rw [upd_same] at e ⊢
      exact e
    · rw [upd_ne h] at e ⊢
      exact w.fh a u e
  · exact fun a u e _ => ⟨Ex.new hq a u e, fun z => z⟩
  · intro a h
    by_cases e : a = q
    · subst e
      exact absurd hq h
    · rw [upd_ne e]
      exact h
  · intro a h e
    by_cases z : a = q
    · subst z
      exact absurd hq h
    · rw [upd_ne z]
      exact e
/-- a new object that may change -/
theorem World.newO {R : Orc} {p : Option Addr} {F0 H0 F H : Hp} (w : World R p F0 H0 F H) {q : Addr} (o : HO) (hq : H q = none) : World R none F H F (upd H q o) := by
  refine ⟨Ex.refl F, fun a u e => Ex.new hq a u (w.fh a u e), fun a u e _ => ⟨Ex.new hq a u e, fun z => z⟩, fun a h => ?_, fun _ _ e => e, fun _ _ z => z, fun _ e => nomatch e⟩
  by_cases e : a = q
  · subst e
    exact absurd hq h
  · rw [upd_ne e]
    exact h
inductive Sl where
  | no | im (d : D) | ow (d : D) | ora (n : Nat)
structure Cn where
  K : PySem.W.Frag
  R : Orc
  p : Option Addr
  F0 : Hp
  H0 : Hp
/-- an object on the side: a datum's, or just this one -/
inductive XO where
  | d (d : D) | o (o : HO)
instance : Coe D XO := ⟨XO.d⟩
abbrev XX := List (Addr × XO)
/-- a list or dict that nobody else holds -/
def OwnO (K : PySem.W.Frag) (F H : Hp) (a : Addr) : D → Prop
  | .list ds => ∃ vs, H a = some (.lst vs) ∧ AtAll K F vs ds
  | .dict kd => (∃ (ks : List Key) (vs : List V) (ds : List D), kd = (ks.map KD).zip ds ∧ ks ≠ [] ∧ ks.length = vs.length ∧ H a = some (.dK (ks.zip vs)) ∧ AtAll K F vs ds) ∨
      ∃ (ks : List (List Key)) (vs : List V) (ds : List D), kd = (ks.map fun k => PyData.tuple (k.map KD)).zip ds ∧ ks.length = vs.length ∧ H a = some (.dT (ks.zip vs)) ∧ AtAll K F vs ds
  | _ => False
def OwnO.mono {K : PySem.W.Frag} {F F' H H' : Hp} {a : Addr} (e : Ex F F') (h : H' a = H a) : ∀ {d : D}, OwnO K F H a d → OwnO K F' H' a d
  | .list ds, ⟨vs, h1, h2⟩ => ⟨vs, h.trans h1, h2.mono e⟩
  | .dict kd, .inl ⟨ks, vs, ds, h0, hn, hl, h1, h2⟩ => .inl ⟨ks, vs, ds, h0, hn, hl, h.trans h1, h2.mono e⟩
  | .dict kd, .inr ⟨ks, vs, ds, h0, hl, h1, h2⟩ => .inr ⟨ks, vs, ds, h0, hl, h.trans h1, h2.mono e⟩
theorem OwnO.at {K : PySem.W.Frag} {F H : Hp} {a : Addr} : ∀ {d : D}, OwnO K F H a d → ∃ o, H a = some o ∧ ∀ F', Ex F F' → F' a = some o → At K F' (.ref a) d
  | .list ds, ⟨vs, h1, h2⟩ => ⟨_, h1, fun F' e h => .lst (.inl (.inl h)) (h2.mono e)⟩
  | .dict kd, .inl ⟨ks, vs, ds, h0, hn, hl, h1, h2⟩ => ⟨_, h1, fun F' e h => by subst h0; exact .dk (.inl h) hn hl (h2.mono e)⟩
  | .dict kd, .inr ⟨ks, vs, ds, h0, hl, h1, h2⟩ => ⟨_, h1, fun F' e h => by subst h0; exact .dt h hl (h2.mono e)⟩
def OwnX (K : PySem.W.Frag) (F H : Hp) (a : Addr) : XO → Prop
  | .d d => OwnO K F H a d
  | .o o => H a = some o
theorem OwnX.mono {K : PySem.W.Frag} {F F' H H' : Hp} {a : Addr} (e : Ex F F') (h : H' a = H a) : ∀ {x : XO}, OwnX K F H a x → OwnX K F' H' a x
  | .d _, z => OwnO.mono e h z
  | .o _, z => h.trans z
theorem OwnX.some {K : PySem.W.Frag} {F H : Hp} {a : Addr} : ∀ {x : XO}, OwnX K F H a x → ∃ o, H a = some o
  | .d _, z => let ⟨o, h, _⟩ := OwnO.at z; ⟨o, h⟩
  | .o o, z => ⟨o, z⟩
theorem OwnX.at {K : PySem.W.Frag} {F H : Hp} {a : Addr} {d : D} (h : OwnX K F H a (.d d)) : ∃ o, H a = Option.some o ∧ ∀ F', Ex F F' → F' a = Option.some o → At K F' (.ref a) d := OwnO.at h
/-- as it stands at a, the address being younger than the entry -/
structure Own (c : Cn) (F H : Hp) (a : Addr) (d : XO) : Prop where
  o : OwnX c.K F H a d
  f : F a = none
  y : c.H0 a = none
  n : ¬ Foot c.R.T c.p H a
structure Slots (c : Cn) (F H : Hp) (σ : L2.St) (ρ : List Sl) (xx : XX) : Prop where
  len : ρ.length = σ.length
  im : ∀ (i : Nat) (d : D), ρ[i]? = some (.im d) → ∃ v, σ[i]? = some (some v) ∧ At c.K F v d
  ow : ∀ (i : Nat) (d : D), ρ[i]? = some (.ow d) → ∃ a, σ[i]? = some (some (.ref a)) ∧ Own c F H a d
  dj : ∀ (i j : Nat) (d e : D) (a : Addr), ρ[i]? = some (.ow d) → ρ[j]? = some (.ow e) → σ[i]? = some (some (.ref a)) → σ[j]? = some (some (.ref a)) → i = j
  or : ∀ (i n : Nat), ρ[i]? = some (.ora n) → ∃ q, c.p = some q ∧ σ[i]? = some (some (.ref q)) ∧ c.R.cnt q H ≤ n
  ou : ∀ (i j m n : Nat), ρ[i]? = some (.ora m) → ρ[j]? = some (.ora n) → i = j
  ex : ∀ p ∈ xx, Own c F H p.1 p.2 ∧ ∀ (i : Nat) (e : D), ρ[i]? = some (.ow e) → σ[i]? ≠ some (some (.ref p.1))
  xd : (xx.map (·.1)).Nodup
structure Rel (c : Cn) (F H : Hp) (σ : L2.St) (ρ : List Sl) (xx : XX) : Prop where
  w : World c.R c.p c.F0 c.H0 F H
  s : Slots c F H σ ρ xx
theorem Own.step {c : Cn} {F H F' H' : Hp} {a : Addr} {d : XO} (h : Own c F H a d) (v : World c.R c.p F H F' H') : Own c F' H' a d := by
  obtain ⟨o, ho⟩ := h.o.some
  obtain ⟨h1, h2⟩ := v.kp a o ho h.n
  exact ⟨h.o.mono v.ff (h1.trans ho.symm), v.fn a (by rw [ho]; exact Option.some_ne_none o) h.f, h.y, h2⟩
theorem Slots.step {c : Cn} {F H F' H' : Hp} {σ : L2.St} {ρ : List Sl} {xx : XX} (s : Slots c F H σ ρ xx) (v : World c.R c.p F H F' H') (hq : ∀ q, c.p = some q → c.R.cnt q H' ≤ c.R.cnt q H) : Slots c F' H' σ ρ xx := by
  refine ⟨s.len, fun i d e => ?_, fun i d e => ?_, s.dj, fun i n e => ?_, s.ou, fun p hp => ⟨(s.ex p hp).1.step v, (s.ex p hp).2⟩, s.xd⟩
  · obtain ⟨u, h1, h2⟩ := s.im i d e
    exact ⟨u, h1, h2.mono v.ff⟩
  · obtain ⟨a, h1, h2⟩ := s.ow i d e
    exact ⟨a, h1, h2.step v⟩
  · obtain ⟨q, h1, h2, h3⟩ := s.or i n e
    exact ⟨q, h1, h2, Nat.le_trans (hq q h1) h3⟩
theorem Rel.step {c : Cn} {F H F' H' : Hp} {σ : L2.St} {ρ : List Sl} {xx : XX} (r : Rel c F H σ ρ xx) (v : World c.R c.p F H F' H') (hq : ∀ q, c.p = some q → c.R.cnt q H' ≤ c.R.cnt q H) : Rel c F' H' σ ρ xx := ⟨r.w.trans v, r.s.step v hq⟩
theorem Rel.stepN {c : Cn} {F H F' H' : Hp} {σ : L2.St} {ρ : List Sl} {xx : XX} (r : Rel c F H σ ρ xx) (v : World c.R none F H F' H') : Rel c F' H' σ ρ xx := r.step (r.w.ofNone v) fun q e => by
  refine Nat.le_of_eq (c.R.sc q H H' (r.w.or q e) fun a ha => ?_)
  have al := c.R.al q H a (r.w.or q e) ha
  cases z : H a with
  | none => exact absurd z al
  | some o => exact (v.kp a o z fun y => y).1
theorem ora_back {ρ : List Sl} {k : Nat} {x : Sl} (hx : ∀ m, x ≠ .ora m) {i m : Nat} (q : (ρ.set k x)[i]? = some (.ora m)) : ρ[i]? = some (.ora m) := by
  rw [List.getElem?_set] at q
  by_cases z : k = i
  · rw [if_pos z] at q
    split at q
    · exact absurd (Option.some.inj q) (hx m)
    · cases q
  · rw [if_neg z] at q
    exact q
theorem ou_set {ρ : List Sl} {k : Nat} {x : Sl} (hx : ∀ m, x ≠ .ora m) (h : ∀ (i j m n : Nat), ρ[i]? = some (.ora m) → ρ[j]? = some (.ora n) → i = j) : ∀ (i j m n : Nat), (ρ.set k x)[i]? = some (.ora m) → (ρ.set k x)[j]? = some (.ora n) → i = j :=
  fun i j m n a b => h i j m n (ora_back hx a) (ora_back hx b)
theorem Rel.apart {c : Cn} {F H : Hp} {σ : L2.St} {ρ : List Sl} {xx : XX} (r : Rel c F H σ ρ xx) {a : Addr} {o : HO} (n : ¬ Foot c.R.T c.p H a) : ∀ (i n : Nat), ρ[i]? = some (.ora n) → ∃ q, c.p = some q ∧ σ[i]? = some (some (.ref q)) ∧ c.R.cnt q (upd H a o) ≤ n := by
  intro i m e
  obtain ⟨q, h1, h2, h3⟩ := r.s.or i m e
  refine ⟨q, h1, h2, ?_⟩
  rw [c.R.sc q H _ (r.w.or q h1) fun b hb => ?_]
  · exact h3
  · rw [upd_ne]
    intro z
    subst z
    exact n (by rw [h1]; exact hb)
/-- an own object becomes known -/
theorem Rel.freeze {c : Cn} {F H : Hp} {σ : L2.St} {ρ : List Sl} {xx : XX} (r : Rel c F H σ ρ xx) {i : Nat} {d : D} (e : ρ[i]? = some (.ow d)) :
    ∃ F' v, σ[i]? = some (some v) ∧ Ex F F' ∧ At c.K F' v d ∧ Rel c F' H σ (ρ.set i (.im d)) xx := by
  obtain ⟨a, h1, h2⟩ := r.s.ow i d e
  obtain ⟨o, ho, at_⟩ := h2.o.at
  have ef : Ex F (upd F a o) := Ex.new h2.f
  have hi : i < ρ.length := (List.getElem?_eq_some_iff.mp e).1
  refine ⟨upd F a o, .ref a, h1, ef, at_ _ ef upd_same, ⟨?_, ?_⟩⟩
  · refine ⟨r.w.ff.trans ef, fun b u q => ?_, r.w.kp, r.w.dom, fun b h f => ?_, fun b h => ?_, r.w.or⟩
    · by_cases z : b = a
      · subst z
        rw [upd_same] at q
        cases q
        exact ho
      · rw [upd_ne z] at q
        exact r.w.fh b u q
    · by_cases z : b = a
      · subst z
        exact absurd h2.y h
      · rw [upd_ne z]
        exact r.w.fn b h f
    · by_cases z : b = a
      · subst z
        exact h2.n
      · rw [upd_ne z] at h
        exact r.w.ft b h
  · refine ⟨by simpa using r.s.len, fun j x q => ?_, fun j x q => ?_, fun j k x y b q1 q2 s1 s2 => ?_, fun j n q => r.s.or j n (ora_back (by intro m z; cases z) q), ou_set (by intro m z; cases z) r.s.ou, fun p hp => ?_, r.s.xd⟩
    · rw [List.getElem?_set] at q
      by_cases z : i = j
      · subst z
        rw [if_pos rfl, if_pos hi] at q
        cases q
        exact ⟨.ref a, h1, at_ _ ef upd_same⟩
      · rw [if_neg z] at q
        obtain ⟨v, g1, g2⟩ := r.s.im j x q
        exact ⟨v, g1, g2.mono ef⟩
    · rw [List.getElem?_set] at q
      by_cases z : i = j
      · subst z
        rw [if_pos rfl, if_pos hi] at q
        cases q
      · rw [if_neg z] at q
        obtain ⟨b, g1, g2⟩ := r.s.ow j x q
        have hb : b ≠ a := fun zz => by
          subst zz
          exact z (r.s.dj i j d x b e q h1 g1)
        exact ⟨b, g1, ⟨g2.o.mono ef rfl, by rw [upd_ne hb]; exact g2.f, g2.y, g2.n⟩⟩
    · rw [List.getElem?_set] at q1 q2
      by_cases z : i = j
      · subst z
        rw [if_pos rfl, if_pos hi] at q1
        cases q1
      · rw [if_neg z] at q1
        by_cases z2 : i = k
        · subst z2
          rw [if_pos rfl, if_pos hi] at q2
          cases q2
        · rw [if_neg z2] at q2
          exact r.s.dj j k x y b q1 q2 s1 s2
    · obtain ⟨g2, gn⟩ := r.s.ex p hp
      have hb : p.1 ≠ a := fun zz => gn i d e (by rw [zz]; exact h1)
      refine ⟨⟨g2.o.mono ef rfl, by rw [upd_ne hb]; exact g2.f, g2.y, g2.n⟩, fun j x q => ?_⟩
      rw [List.getElem?_set] at q
      by_cases z : i = j
      · subst z
        rw [if_pos rfl, if_pos hi] at q
        cases q
      · rw [if_neg z] at q
        exact gn j x q
/-- an own object changes -/
theorem Rel.mut {c : Cn} {F H : Hp} {σ : L2.St} {ρ : List Sl} {xx : XX} (r : Rel c F H σ ρ xx) {i : Nat} {d d' : D} {a : Addr} {o : HO} (e : ρ[i]? = some (.ow d)) (h1 : σ[i]? = some (some (.ref a)))
    (hn : OwnO c.K F (upd H a o) a d') : Rel c F (upd H a o) σ (ρ.set i (.ow d')) xx := by
  obtain ⟨a', h1', h2⟩ := r.s.ow i d e
  rw [h1] at h1'
  cases h1'
  obtain ⟨o0, ho, _⟩ := h2.o.at
  have hi : i < ρ.length := (List.getElem?_eq_some_iff.mp e).1
  have hq : ∀ q, c.p = some q → upd H a o q = H q := fun q ep => by
    rw [upd_ne]
    intro z
    subst z
    exact h2.n (by rw [ep]; exact .inl (.inl rfl))
  have ff : ∀ b, Foot c.R.T c.p (upd H a o) b ↔ Foot c.R.T c.p H b := Foot.eqv hq fun hp t ht => by
    rw [upd_ne]
    intro z
    cases e : c.p with
    | none => exact absurd e hp
    | some q => exact h2.n (by rw [e]; exact .inr ⟨t, ht, .inl z.symm⟩)
  refine ⟨⟨r.w.ff, fun b u q => ?_, fun b u q f => ?_, fun b h => ?_, r.w.fn, fun b h z => r.w.ft b h ((ff b).mp z), fun q ep => ?_⟩, ?_⟩
  · rw [upd_ne (fun z => by subst z; rw [h2.f] at q; cases q)]
    exact r.w.fh b u q
  · obtain ⟨g1, g2⟩ := r.w.kp b u q f
    refine ⟨?_, fun z => g2 ((ff b).mp z)⟩
    rw [upd_ne (fun z => by subst z; rw [h2.y] at q; cases q)]
    exact g1
  · by_cases z : b = a
    · subst z
      rw [upd_same]
      exact Option.some_ne_none o
    · rw [upd_ne z]
      exact r.w.dom b h
  · refine c.R.st q H _ (r.w.or q ep) fun b hb => ?_
    rw [upd_ne]
    intro z
    subst z
    exact h2.n (by rw [ep]; exact hb)
  · refine ⟨by simpa using r.s.len, fun j x q => ?_, fun j x q => ?_, fun j k x y b q1 q2 s1 s2 => ?_, fun j n q => r.apart h2.n j n (ora_back (by intro m z; cases z) q), ou_set (by intro m z; cases z) r.s.ou, fun p hp => ?_, r.s.xd⟩
    · rw [List.getElem?_set] at q
      by_cases z : i = j
      · subst z
        rw [if_pos rfl, if_pos hi] at q
        cases q
      · rw [if_neg z] at q
        exact r.s.im j x q
    · rw [List.getElem?_set] at q
      by_cases z : i = j
      · subst z
        rw [if_pos rfl, if_pos hi] at q
        cases q
        exact ⟨a, h1, ⟨hn, h2.f, h2.y, fun z => h2.n ((ff a).mp z)⟩⟩
      · rw [if_neg z] at q
        obtain ⟨b, g1, g2⟩ := r.s.ow j x q
        have hb : b ≠ a := fun zz => by
          subst zz
          exact z (r.s.dj i j d x b e q h1 g1)
        exact ⟨b, g1, ⟨g2.o.mono (Ex.refl F) (upd_ne hb), g2.f, g2.y, fun z => g2.n ((ff b).mp z)⟩⟩
    · have back : ∀ (k : Nat) (y : D), (ρ.set i (.ow d'))[k]? = some (.ow y) → ∃ y', ρ[k]? = some (.ow y') := fun k y q => by
        rw [List.getElem?_set] at q
        by_cases z : i = k
        · subst z
          exact ⟨d, e⟩
        · rw [if_neg z] at q
          exact ⟨y, q⟩
      obtain ⟨x', q1'⟩ := back j x q1
      obtain ⟨y', q2'⟩ := back k y q2
      exact r.s.dj j k x' y' b q1' q2' s1 s2
    · obtain ⟨g2, gn⟩ := r.s.ex p hp
      have hb : p.1 ≠ a := fun zz => gn i d e (by rw [zz]; exact h1)
      refine ⟨⟨g2.o.mono (Ex.refl F) (upd_ne hb), g2.f, g2.y, fun z => g2.n ((ff p.1).mp z)⟩, fun j x q => ?_⟩
      rw [List.getElem?_set] at q
      by_cases z : i = j
      · subst z
        exact gn i d e
      · rw [if_neg z] at q
        exact gn j x q
/-- a new object, held by nobody -/
structure Fresh (c : Cn) (F H : Hp) (σ : L2.St) (ρ : List Sl) (xx : XX) (a : Addr) (d : XO) : Prop where
  own : Own c F H a d
  ne : ∀ (i : Nat) (e : D), ρ[i]? = some (.ow e) → σ[i]? ≠ some (some (.ref a))
  nx : ∀ p ∈ xx, p.1 ≠ a
theorem set_lt {α : Type} {ρ : List α} {i j : Nat} {x y : α} (h : (ρ.set i x)[j]? = some y) : (i = j ∧ i < ρ.length ∧ x = y) ∨ (i ≠ j ∧ ρ[j]? = some y) := by
  rw [List.getElem?_set] at h
  by_cases z : i = j
  · rw [if_pos z] at h
    by_cases hl : i < ρ.length
    · rw [if_pos hl] at h
      exact .inl ⟨z, hl, Option.some.inj h⟩
    · rw [if_neg hl] at h
      cases h
  · rw [if_neg z] at h
    exact .inr ⟨z, h⟩
theorem get_set_ne {α : Type} {ρ : List α} {i j : Nat} {x : α} (h : i ≠ j) : (ρ.set i x)[j]? = ρ[j]? := by rw [List.getElem?_set, if_neg h]
theorem get_set_eq {α : Type} {ρ : List α} {i : Nat} {x : α} (h : i < ρ.length) : (ρ.set i x)[i]? = some x := by rw [List.getElem?_set, if_pos rfl, if_pos h]
theorem Slots.put {c : Cn} {F H : Hp} {σ : L2.St} {ρ : List Sl} {xx : XX} (s : Slots c F H σ ρ xx) {v : V} {x : Sl} (i : Nat)
    (him : ∀ d, x = .im d → At c.K F v d) (how : ∀ d, x = .ow d → ∃ a, v = .ref a ∧ Fresh c F H σ ρ xx a d) (hor : ∀ n, x ≠ .ora n) : Slots c F H (σ.set i (some v)) (ρ.set i x) xx := by
  refine ⟨by simpa using s.len, fun j d q => ?_, fun j d q => ?_, fun j k d e b q1 q2 s1 s2 => ?_, fun j n q => ?_, ou_set hor s.ou, fun p hp => ⟨(s.ex p hp).1, fun j d q => ?_⟩, s.xd⟩
  · rcases set_lt q with ⟨rfl, hl, e⟩ | ⟨z, q⟩
    · exact ⟨v, get_set_eq (by rw [← s.len]; exact hl), him d e⟩
    · obtain ⟨u, g1, g2⟩ := s.im j d q
      exact ⟨u, by rw [get_set_ne z]; exact g1, g2⟩
  · rcases set_lt q with ⟨rfl, hl, e⟩ | ⟨z, q⟩
    · obtain ⟨a, ev, fr⟩ := how d e
      subst ev
      exact ⟨a, get_set_eq (by rw [← s.len]; exact hl), fr.own⟩
    · obtain ⟨u, g1, g2⟩ := s.ow j d q
      exact ⟨u, by rw [get_set_ne z]; exact g1, g2⟩
  · rcases set_lt q1 with ⟨rfl, hl, e1⟩ | ⟨z, q1⟩
    · rcases set_lt q2 with ⟨rfl, _, _⟩ | ⟨z2, q2⟩
      · rfl
      · exfalso
        obtain ⟨a, ev, fr⟩ := how d e1
        rw [get_set_eq (by rw [← s.len]; exact hl)] at s1
        rw [get_set_ne z2] at s2
        cases s1
        cases ev
        exact fr.ne k e q2 s2
    · rcases set_lt q2 with ⟨rfl, hl, e2⟩ | ⟨z2, q2⟩
      · exfalso
        obtain ⟨a, ev, fr⟩ := how e e2
        rw [get_set_eq (by rw [← s.len]; exact hl)] at s2
        rw [get_set_ne z] at s1
        cases s2
        cases ev
        exact fr.ne j d q1 s1
      · rw [get_set_ne z] at s1
        rw [get_set_ne z2] at s2
        exact s.dj j k d e b q1 q2 s1 s2
  · rcases set_lt q with ⟨rfl, hl, e⟩ | ⟨z, q⟩
    · exact absurd e (hor n)
    · obtain ⟨u, g1, g2, g3⟩ := s.or j n q
      exact ⟨u, g1, by rw [get_set_ne z]; exact g2, g3⟩
  · rcases set_lt q with ⟨rfl, hl, e⟩ | ⟨z, q⟩
    · obtain ⟨a, ev, fr⟩ := how d e
      subst ev
      rw [get_set_eq (by rw [← s.len]; exact hl)]
      intro zz
      cases zz
      exact fr.nx p hp rfl
    · rw [get_set_ne z]
      exact (s.ex p hp).2 j d q
theorem Rel.putI {c : Cn} {F H : Hp} {σ : L2.St} {ρ : List Sl} {xx : XX} (r : Rel c F H σ ρ xx) {v : V} {d : D} (i : Nat) (h : At c.K F v d) : Rel c F H (σ.set i (some v)) (ρ.set i (.im d)) xx :=
  ⟨r.w, r.s.put i (fun _ e => by cases e; exact h) (fun _ e => by cases e) (by intro m z; cases z)⟩
theorem Rel.putO {c : Cn} {F H : Hp} {σ : L2.St} {ρ : List Sl} {xx : XX} (r : Rel c F H σ ρ xx) {a : Addr} {d : D} (i : Nat) (h : Fresh c F H σ ρ xx a d) : Rel c F H (σ.set i (some (.ref a))) (ρ.set i (.ow d)) xx :=
  ⟨r.w, r.s.put i (fun _ e => by cases e) (fun _ e => by cases e; exact ⟨a, rfl, h⟩) (by intro m z; cases z)⟩
/-- what an own slot holds becomes known, as a value -/
theorem Fresh.freeze {c : Cn} {F H : Hp} {σ : L2.St} {ρ : List Sl} {xx : XX} {a : Addr} {d : D} (r : Rel c F H σ ρ xx) (h : Fresh c F H σ ρ xx a d) : ∃ F', Ex F F' ∧ At c.K F' (.ref a) d ∧ Rel c F' H σ ρ xx := by
  obtain ⟨o, ho, at_⟩ := h.own.o.at
  have ef : Ex F (upd F a o) := Ex.new h.own.f
  refine ⟨upd F a o, ef, at_ _ ef upd_same, ⟨⟨r.w.ff.trans ef, fun b u q => ?_, r.w.kp, r.w.dom, fun b g f => ?_, fun b g => ?_, r.w.or⟩, ⟨r.s.len, fun j x q => ?_, fun j x q => ?_, r.s.dj, r.s.or, r.s.ou, fun p hp => ?_, r.s.xd⟩⟩⟩
  · by_cases z : b = a
    · subst z
      rw [upd_same] at q
      cases q
      exact ho
    · rw [upd_ne z] at q
      exact r.w.fh b u q
  · by_cases z : b = a
    · subst z
      exact absurd h.own.y g
    · rw [upd_ne z]
      exact r.w.fn b g f
  · by_cases z : b = a
    · subst z
      exact h.own.n
    · rw [upd_ne z] at g
      exact r.w.ft b g
  · obtain ⟨v, g1, g2⟩ := r.s.im j x q
    exact ⟨v, g1, g2.mono ef⟩
  · obtain ⟨b, g1, g2⟩ := r.s.ow j x q
    have hb : b ≠ a := fun zz => by
      subst zz
      exact h.ne j x q g1
    exact ⟨b, g1, ⟨g2.o.mono ef rfl, by rw [upd_ne hb]; exact g2.f, g2.y, g2.n⟩⟩
  · obtain ⟨g2, gn⟩ := r.s.ex p hp
    exact ⟨⟨g2.o.mono ef rfl, by rw [upd_ne (h.nx p hp)]; exact g2.f, g2.y, g2.n⟩, gn⟩
theorem Fresh.new {c : Cn} {F H : Hp} {σ : L2.St} {ρ : List Sl} {xx : XX} (r : Rel c F H σ ρ xx) {q : Addr} {o : HO} {d : XO} (hq : H q = none) (h : OwnX c.K F (upd H q o) q d) :
    Rel c F (upd H q o) σ ρ xx ∧ Fresh c F (upd H q o) σ ρ xx q d := by
  have w := r.w.newO o hq
  refine ⟨r.stepN w, ⟨⟨h, ?_, ?_, fun z => ?_⟩, fun i e q1 q2 => ?_, fun p hp z => ?_⟩⟩
  · cases e : F q with
    | none => rfl
    | some u =>
      have := r.w.fh q u e
      rw [hq] at this
      cases this
  · cases e : c.H0 q with
    | none => rfl
    | some u => exact absurd hq (r.w.dom q (by rw [e]; exact Option.some_ne_none u))
  · have e : ∀ u, c.p = some u → upd H q o u = H u := fun u ep => by
      rw [upd_ne]
      intro zz
      subst zz
      exact r.w.foot_al (a := u) (by rw [ep]; exact .inl (.inl rfl)) hq
    have e2 : c.p ≠ none → ∀ t ∈ c.R.T, upd H q o t.1 = H t.1 := fun hp t ht => by
      rw [upd_ne]
      intro zz
      cases ep : c.p with
      | none => exact absurd ep hp
      | some u => exact r.w.foot_al (a := q) (by rw [ep]; exact .inr ⟨t, ht, .inl zz.symm⟩) hq
    exact r.w.foot_al ((Foot.eqv e e2 q).mp z) hq
  · obtain ⟨a, g1, g2⟩ := r.s.ow i e q1
    rw [q2] at g1
    cases g1
    obtain ⟨u, hu⟩ := g2.o.some
    rw [hq] at hu
    cases hu
  · obtain ⟨u, hu⟩ := (r.s.ex p hp).1.o.some
    rw [z, hq] at hu
    cases hu
/-- one more object on the side, and off again -/
theorem Rel.pushX {c : Cn} {F H : Hp} {σ : L2.St} {ρ : List Sl} {xx : XX} {a : Addr} {d : XO} (r : Rel c F H σ ρ xx) (h : Fresh c F H σ ρ xx a d) : Rel c F H σ ρ ((a, d) :: xx) := by
  refine ⟨r.w, ⟨r.s.len, r.s.im, r.s.ow, r.s.dj, r.s.or, r.s.ou, fun p hp => ?_, ?_⟩⟩
  · (rcases List.mem_cons.mp hp with rfl | hp)
    · exact ⟨h.own, h.ne⟩
    · exact r.s.ex p hp
  · rw [List.map_cons, List.nodup_cons]
    refine ⟨fun z => ?_, r.s.xd⟩
    obtain ⟨p, hp, e⟩ := List.mem_map.mp z
    exact h.nx p hp e
theorem Rel.popX {c : Cn} {F H : Hp} {σ : L2.St} {ρ : List Sl} {xx : XX} {a : Addr} {d : XO} (r : Rel c F H σ ρ ((a, d) :: xx)) : Rel c F H σ ρ xx ∧ Fresh c F H σ ρ xx a d := by
  have hx := r.s.xd
  rw [List.map_cons, List.nodup_cons] at hx
  have h0 := r.s.ex (a, d) (List.mem_cons_self ..)
  exact ⟨⟨r.w, ⟨r.s.len, r.s.im, r.s.ow, r.s.dj, r.s.or, r.s.ou, fun p hp => r.s.ex p (List.mem_cons_of_mem _ hp), hx.2⟩⟩, ⟨h0.1, h0.2, fun p hp e => hx.1 (List.mem_map.mpr ⟨p, hp, e⟩)⟩⟩
theorem Rel.mutX {c : Cn} {F H : Hp} {σ : L2.St} {ρ : List Sl} {xx : XX} {a : Addr} {d d' : XO} {o : HO} (r : Rel c F H σ ρ ((a, d) :: xx)) (hn : OwnX c.K F (upd H a o) a d') : Rel c F (upd H a o) σ ρ ((a, d') :: xx) := by
  obtain ⟨r0, h2⟩ := r.popX
  have hq : ∀ q, c.p = some q → upd H a o q = H q := fun q ep => by
    rw [upd_ne]
    intro z
    subst z
    exact h2.own.n (by rw [ep]; exact .inl (.inl rfl))
  have ff : ∀ b, Foot c.R.T c.p (upd H a o) b ↔ Foot c.R.T c.p H b := Foot.eqv hq fun hp t ht => by
    rw [upd_ne]
    intro z
    cases e : c.p with
    | none => exact absurd e hp
    | some q => exact h2.own.n (by rw [e]; exact .inr ⟨t, ht, .inl z.symm⟩)
  have r1 : Rel c F (upd H a o) σ ρ xx := by
    refine ⟨⟨r0.w.ff, fun b u q => ?_, fun b u q f => ?_, fun b h => ?_, r0.w.fn, fun b h z => r0.w.ft b h ((ff b).mp z), fun q ep => ?_⟩, ⟨r0.s.len, r0.s.im, fun i x q => ?_, r0.s.dj, r0.apart h2.own.n, r0.s.ou, fun p hp => ?_, r0.s.xd⟩⟩
    · rw [upd_ne (fun z => by subst z; rw [h2.own.f] at q; cases q)]
      exact r0.w.fh b u q
    · obtain ⟨g1, g2⟩ := r0.w.kp b u q f
      refine ⟨?_, fun z => g2 ((ff b).mp z)⟩
      rw [upd_ne (fun z => by subst z; rw [h2.own.y] at q; cases q)]
      exact g1
    · by_cases z : b = a
      · subst z
        rw [upd_same]
        exact Option.some_ne_none o
      · rw [upd_ne z]
        exact r0.w.dom b h
    · refine c.R.st q H _ (r0.w.or q ep) fun b hb => ?_
      rw [upd_ne]
      intro z
      subst z
      exact h2.own.n (by rw [ep]; exact hb)
    · obtain ⟨b, g1, g2⟩ := r0.s.ow i x q
      have hb : b ≠ a := fun zz => by
        subst zz
        exact h2.ne i x q g1
      exact ⟨b, g1, ⟨g2.o.mono (Ex.refl F) (upd_ne hb), g2.f, g2.y, fun z => g2.n ((ff b).mp z)⟩⟩
    · obtain ⟨g2, gn⟩ := r0.s.ex p hp
      exact ⟨⟨g2.o.mono (Ex.refl F) (upd_ne (h2.nx p hp)), g2.f, g2.y, fun z => g2.n ((ff p.1).mp z)⟩, gn⟩
  exact r1.pushX ⟨⟨hn, h2.own.f, h2.own.y, fun z => h2.own.n ((ff a).mp z)⟩, h2.ne, h2.nx⟩
theorem Rel.newF {c : Cn} {F H : Hp} {σ : L2.St} {ρ : List Sl} {xx : XX} (r : Rel c F H σ ρ xx) {q : Addr} (o : HO) (hq : H q = none) : Rel c (upd F q o) (upd H q o) σ ρ xx := r.stepN (r.w.newF o hq)
theorem Rel.efF {c : Cn} {F H : Hp} {σ : L2.St} {ρ : List Sl} {xx : XX} (r : Rel c F H σ ρ xx) {q : Addr} (o : HO) (hq : H q = none) : Ex F (upd F q o) := (r.w.newF o hq).ff
end DL
namespace DL
open PySem L2
/-- the count of a source behind a call of a def that draws -/
theorem Rel.drew {c : Cn} {F H F' H' : Hp} {σ : L2.St} {ρ : List Sl} {xx : XX} (r : Rel c F H σ ρ xx) (v : World c.R c.p F H F' H') {i m n : Nat} (e : ρ[i]? = some (.ora m)) (hn : ∀ q, c.p = some q → c.R.cnt q H' ≤ n) : Rel c F' H' σ (ρ.set i (.ora n)) xx := by
  have nr : ∀ {j : Nat} {x : Sl}, (ρ.set i (.ora n))[j]? = some x → (∀ k, x ≠ .ora k) → ρ[j]? = some x := by
    intro j x q hx
    rcases set_lt q with ⟨_, _, z⟩ | ⟨_, q⟩
    · exact absurd z.symm (hx n)
    · exact q
  refine ⟨r.w.trans v, ⟨by simpa using r.s.len, fun j d q => ?_, fun j d q => ?_, fun j k d e' b q1 q2 => ?_, fun j k q => ?_, fun j k a b q1 q2 => ?_, fun p hp => ⟨(r.s.ex p hp).1.step v, fun j d q => (r.s.ex p hp).2 j d (nr q fun _ z => by cases z)⟩, r.s.xd⟩⟩
  · obtain ⟨u, h1, h2⟩ := r.s.im j d (nr q fun _ z => by cases z)
    exact ⟨u, h1, h2.mono v.ff⟩
  · obtain ⟨a, h1, h2⟩ := r.s.ow j d (nr q fun _ z => by cases z)
    exact ⟨a, h1, h2.step v⟩
  · exact r.s.dj j k d e' b (nr q1 fun _ z => by cases z) (nr q2 fun _ z => by cases z)
  · rcases set_lt q with ⟨z, _, y⟩ | ⟨z, q⟩
    · subst z
      cases y
      obtain ⟨p, h1, h2, _⟩ := r.s.or i m e
      exact ⟨p, h1, h2, hn p h1⟩
    · exact absurd (r.s.ou i j m k e q) z
  · have one : ∀ {j a : Nat}, (ρ.set i (.ora n))[j]? = some (.ora a) → i = j := by
      intro j a q
      rcases set_lt q with ⟨z, _, _⟩ | ⟨_, q⟩
      · exact z
      · exact r.s.ou i j m a e q
    exact (one q1).symm.trans (one q2)
end DL
namespace DL
open PySem L2
abbrev Env := List Sl
abbrev DM := Env → (D → Env → Prop) → Prop
abbrev BM := Env → (Bool → Env → Prop) → Prop
inductive Ar where
  | d (x : D) | ora
abbrev LM := Env → (List D → Env → Prop) → Prop
abbrev AM := Env → (List Ar → Env → Prop) → Prop
/-- a value, or what stands in a slot by the time it is wanted -/
inductive Hd where
  | val (d : D) | slot (i : Nat)
abbrev HM := Env → (Hd → Env → Prop) → Prop
def see (ρ : Env) (h : Hd) (k : D → Prop) : Prop := match h with
  | .val d => k d
  | .slot i => match ρ[i]? with
    | some (.im d) => k d
    | some (.ow d) => k d
    | _ => False
def HdAt (c : Cn) (F : Hp) (σ : L2.St) : Hd → V → Prop
  | .val d, v => At c.K F v d
  | .slot i, v => σ[i]? = some (some v)
def tD (c : Cn) (f : DM) : TE := fun σ H Q => ∃ F ρ xx P, Rel c F H σ ρ xx ∧ f ρ P ∧ ∀ d ρ' v F' H', P d ρ' → Ex F F' → Rel c F' H' σ ρ' xx → At c.K F' v d → Q v H'
/-- a new object, held by nobody -/
def tN (c : Cn) (f : DM) : TE := fun σ H Q => ∃ F ρ xx P, Rel c F H σ ρ xx ∧ f ρ P ∧ ∀ d ρ' a F' H', P d ρ' → Ex F F' → Rel c F' H' σ ρ' xx → Fresh c F' H' σ ρ' xx a d → Q (.ref a) H'
def tH (c : Cn) (f : HM) : TE := fun σ H Q => ∃ F ρ xx P, Rel c F H σ ρ xx ∧ f ρ P ∧ ∀ d ρ' v F' H', P d ρ' → Ex F F' → Rel c F' H' σ ρ' xx → HdAt c F' σ d v → Q v H'
def tT (c : Cn) (f : BM) : TT := fun σ H Q => ∃ F ρ xx P, Rel c F H σ ρ xx ∧ f ρ P ∧ ∀ b ρ' F' H', P b ρ' → Ex F F' → Rel c F' H' σ ρ' xx → Q b H'
def tL (c : Cn) (f : LM) : TA := fun σ H Q => ∃ F ρ xx P, Rel c F H σ ρ xx ∧ f ρ P ∧ ∀ ds ρ' vs F' H', P ds ρ' → Ex F F' → Rel c F' H' σ ρ' xx → AtAll c.K F' vs ds → Q vs H'
def ArAt (c : Cn) (F : Hp) : V → Ar → Prop
  | v, .d x => At c.K F v x
  | v, .ora => ∃ q, c.p = some q ∧ v = .ref q
def tAr (c : Cn) (f : AM) : TA := fun σ H Q => ∃ F ρ xx P, Rel c F H σ ρ xx ∧ f ρ P ∧ ∀ ds ρ' vs F' H', P ds ρ' → Ex F F' → Rel c F' H' σ ρ' xx → Paired (ArAt c F') vs ds → Q vs H'
theorem PE.to {X : Cx} {e : Expr} {t t' : TE} (h : PE X e t) (w : ∀ σ H Q, t' σ H Q → t σ H Q) : PE X e t' := ⟨fun pins s σ H Q I q => h.run pins s σ H Q I (w σ H Q q)⟩
theorem PT.to {X : Cx} {e : Expr} {t t' : TT} (h : PT X e t) (w : ∀ σ H Q, t' σ H Q → t σ H Q) : PT X e t' := ⟨fun pins s σ H Q I q => h.run pins s σ H Q I (w σ H Q q)⟩
theorem PA.to {X : Cx} {e : List Expr} {t t' : TA} (h : PA X e t) (w : ∀ σ H Q, t' σ H Q → t σ H Q) : PA X e t' := ⟨fun pos pins s σ H Q I q => h.run pos pins s σ H Q I (w σ H Q q)⟩
/-- what is to be read of a value: known, or the own object of a slot -/
def Bo (c : Cn) (F H : Hp) (v : V) (d : D) : Prop := At c.K F v d ∨ ∃ a, v = .ref a ∧ OwnO c.K F H a d
theorem Bo.at {c : Cn} {F H : Hp} {v : V} {d : D} (e : Ex F H) (h : Bo c F H v d) : At c.K H v d := by
  rcases h with h | ⟨a, rfl, h⟩
  · exact h.mono e
  · obtain ⟨o, ho, k⟩ := h.at
    exact k H e ho
theorem see_bo {c : Cn} {F H : Hp} {σ : L2.St} {ρ : Env} {xx : XX} (r : Rel c F H σ ρ xx) {h : Hd} {v : V} (hv : HdAt c F σ h v) {k : D → Prop} (hs : see ρ h k) : ∃ d, Bo c F H v d ∧ k d := by
  cases h with
  | val d => exact ⟨d, .inl hv, hs⟩
  | slot i =>
    unfold see at hs
    have hv' : σ[i]? = some (some v) := hv
    simp only at hs
    split at hs
    · rename_i d e
      obtain ⟨u, g1, g2⟩ := r.s.im i d e
      rw [hv'] at g1
      cases g1
      exact ⟨d, .inl g2, hs⟩
    · rename_i d e
      obtain ⟨u, g1, g2⟩ := r.s.ow i d e
      rw [hv'] at g1
      cases g1
      exact ⟨d, .inr ⟨u, rfl, g2.o⟩, hs⟩
    · exact hs.elim
theorem HdAt.mono {c : Cn} {F F' : Hp} (e : Ex F F') {σ : L2.St} {h : Hd} {v : V} (x : HdAt c F σ h v) : HdAt c F' σ h v := by
  cases h with
  | val d => exact At.mono e x
  | slot i => exact x
section
variable {X : Cx} {c : Cn} {e a b : Expr} {pos : Pos}
def dC (d : D) : DM := fun ρ P => P d ρ
theorem de_c {t : V} {d : D} (h : PE X e (tC t)) (hd : ∀ F, At c.K F t d) : PE X e (tD c (dC d)) := PE.to h fun σ H Q ⟨F, ρ, xx, P, r, q, k⟩ => k d ρ t F H q (Ex.refl F) r (hd F)
theorem de_int {i : Int} {j : Nat} : PE X (.Constant (.int i) j pos) (tD c (dC (.int i))) := de_c pe_int fun _ => .int i
theorem de_bl {i : Bool} {j : Nat} : PE X (.Constant (.bool i) j pos) (tD c (dC (.bool i))) := de_c pe_bl fun _ => .bl i
theorem de_non {j : Nat} : PE X (.Constant .none j pos) (tD c (dC .none)) := de_c pe_non fun _ => .non
theorem de_str {x : Str} {j : Nat} : PE X (.Constant (.str x) j pos) (tD c (dC (.str x))) := de_c pe_str fun _ => .str x
/-- a name of the module that holds a number, a text -/
theorem de_gint {x : Str} {i : Int} (hg : Gl X x) (hm : ∃ t, X.mg x = some (.int i t)) (hd : (x == ("__debug__" : Str)) = false := by decide) : PE X (.Name x pos) (tD c (dC (.int i))) := by
  obtain ⟨t, hm⟩ := hm
  exact de_c (pe_glob (v := .int i) hg hm ⟨t, rfl⟩ hd) fun _ => .int i
/-- the slot's value, which is known from then on -/
def dV (i : Nat) : DM := fun ρ P => match ρ[i]? with
  | some (.im d) => P d ρ
  | some (.ow d) => P d (ρ.set i (.im d))
  | _ => False
theorem de_v {i : Nat} (h : PE X e (tVar i)) : PE X e (tD c (dV i)) := PE.to h fun σ H Q ⟨F, ρ, xx, P, r, q, k⟩ => by
  unfold dV at q
  split at q
  · rename_i d e
    obtain ⟨v, g1, g2⟩ := r.s.im i d e
    exact ⟨v, g1, k d ρ v F H q (Ex.refl F) r g2⟩
  · rename_i d e
    obtain ⟨F', v, g1, g2, g3, g4⟩ := r.freeze e
    exact ⟨v, g1, k d _ v F' H q g2 g4 g3⟩
  · exact q.elim
def hS (i : Nat) : HM := fun ρ P => (match ρ[i]? with
  | some (.im _) => True
  | some (.ow _) => True
  | _ => False) ∧ P (.slot i) ρ
theorem dh_v {i : Nat} (h : PE X e (tVar i)) : PE X e (tH c (hS i)) := PE.to h fun σ H Q ⟨F, ρ, xx, P, r, ⟨q0, q⟩, k⟩ => by
  split at q0
  · rename_i d e
    obtain ⟨v, g1, g2⟩ := r.s.im i d e
    exact ⟨v, g1, k _ ρ v F H q (Ex.refl F) r g1⟩
  · rename_i d e
    obtain ⟨v, g1, g2⟩ := r.s.ow i d e
    exact ⟨.ref v, g1, k _ ρ _ F H q (Ex.refl F) r g1⟩
  · exact q0.elim
def hV (f : DM) : HM := fun ρ P => f ρ fun d ρ' => P (.val d) ρ'
theorem dh_of {f : DM} (h : PE X e (tD c f)) : PE X e (tH c (hV f)) := PE.to h fun σ H Q ⟨F, ρ, xx, P, r, q, k⟩ => ⟨F, ρ, xx, _, r, q, fun d ρ' v F' H' p e r' at_ => k (.val d) ρ' v F' H' p e r' at_⟩
theorem de_n {f : DM} (h : PE X e (tN c f)) : PE X e (tD c f) := PE.to h fun σ H Q ⟨F, ρ, xx, P, r, q, k⟩ => ⟨F, ρ, xx, P, r, q, fun d ρ' a F' H' p e r' fr => by
  obtain ⟨F2, e2, at_, r2⟩ := fr.freeze r'
  exact k d ρ' (.ref a) F2 H' p (e.trans e2) r2 at_⟩
abbrev G2 := D → D → (D → Prop) → Prop
/-- f does on values what g tells of data -/
def Sem2 (X : Cx) (c : Cn) (f : Value → Value → Sem Value) (g : G2) : Prop := ∃ r : R2, OpR X f r ∧ ∀ (F H : Hp) (σ : L2.St) (ρ : Env) (xx : XX) (x y : D) (vx vy : V) (P : D → Prop) (Q : VK), Rel c F H σ ρ xx → Bo c F H vx x → Bo c F H vy y → g x y P →
  (∀ z v F' H', P z → Ex F F' → Rel c F' H' σ ρ xx → At c.K F' v z → Q v H') → r vx vy H Q
def d2 (g : G2) (fa fb : HM) : DM := fun ρ P => fa ρ fun x ρ1 => fb ρ1 fun y ρ2 => see ρ2 x fun dx => see ρ2 y fun dy => g dx dy fun z => P z ρ2
theorem d2_use {r : R2} {g : G2} {fa fb : HM} {ta tb : TE} (hr : ∀ (F H : Hp) (σ : L2.St) (ρ : Env) (xx : XX) (x y : D) (vx vy : V) (P : D → Prop) (Q : VK), Rel c F H σ ρ xx → Bo c F H vx x → Bo c F H vy y → g x y P →
    (∀ z v F' H', P z → Ex F F' → Rel c F' H' σ ρ xx → At c.K F' v z → Q v H') → r vx vy H Q) (ea : ta = tH c fa) (eb : tb = tH c fb) : ∀ σ H Q, tD c (d2 g fa fb) σ H Q → tOp r ta tb σ H Q := by
  rintro σ H Q ⟨F, ρ, xx, P, rel, q, k⟩
  subst ea eb
  refine ⟨F, ρ, xx, _, rel, q, fun x ρ1 v F1 H1 q1 e1 r1 h1 => ?_⟩
  refine ⟨F1, ρ1, xx, _, r1, q1, fun y ρ2 u F2 H2 q2 e2 r2 h2 => ?_⟩
  obtain ⟨dx, bx, q2⟩ := see_bo r2 (h1.mono e2) q2
  obtain ⟨dy, by_, q2⟩ := see_bo r2 h2 q2
  exact hr F2 H2 σ ρ2 xx dx dy v u _ Q r2 bx by_ q2 fun z w F' H' pz ez rz az => k z ρ2 w F' H' pz ((e1.trans e2).trans ez) rz az
theorem de_bin {op : Operator} {g : G2} {fa fb : HM} (hs : Sem2 X c (binaryOp op) g) (ha : PE X a (tH c fa)) (hb : PE X b (tH c fb)) : PE X (.BinOp a op b pos) (tD c (d2 g fa fb)) := by
  obtain ⟨r, ho, hr⟩ := hs
  exact PE.to (pe_op ho ha hb) (d2_use hr rfl rfl)
theorem de_cmp {op : CmpOp} {g : G2} {fa fb : HM} (hs : Sem2 X c (compareOp op) g) (ha : PE X a (tH c fa)) (hb : PE X b (tH c fb)) (hm : behindInMarks op b = false) : PE X (.Compare a [op] [b] pos) (tD c (d2 g fa fb)) := by
  obtain ⟨r, ho, hr⟩ := hs
  exact PE.to (pe_cmpR ho ha hb hm) (d2_use hr rfl rfl)
/-- a test: what is a bool -/
def bD (f : DM) : BM := fun ρ P => f ρ fun d ρ' => match d with
  | .bool b => P b ρ'
  | _ => False
theorem bD_use {f : DM} {t : TE} (et : t = tD c f) : ∀ σ H Q, tT c (bD f) σ H Q → (t σ H fun x H' => ∃ k, x = .bl k ∧ Q k H') := by
  rintro σ H Q ⟨F, ρ, xx, P, rel, q, k⟩
  subst et
  refine ⟨F, ρ, xx, _, rel, q, fun d ρ' v F' H' p e r at_ => ?_⟩
  cases d <;> first | exact p.elim | (cases at_; exact ⟨_, rfl, k _ ρ' F' H' p e r⟩)
theorem dt_cmp {op : CmpOp} {g : G2} {fa fb : HM} (hs : Sem2 X c (compareOp op) g) (ha : PE X a (tH c fa)) (hb : PE X b (tH c fb)) (hm : behindInMarks op b = false) : PT X (.Compare a [op] [b] pos) (tT c (bD (d2 g fa fb))) := by
  obtain ⟨r, ho, hr⟩ := hs
  refine PT.to (pt_cmpR ho ha hb hm) fun σ H Q h => d2_use hr rfl rfl σ H _ ?_
  exact bD_use rfl σ H Q h
/-- a < b < e -/
def dChain (g g' : G2) (fa fb fc : HM) : DM := fun ρ P => fa ρ fun x ρ1 => fb ρ1 fun y ρ2 => see ρ2 x fun dx => see ρ2 y fun dy => g dx dy fun z => match z with
  | .bool true => fc ρ2 fun w ρ3 => see ρ3 y fun dy' => see ρ3 w fun dw => g' dy' dw fun z' => P z' ρ3
  | .bool false => P (.bool false) ρ2
  | _ => False
theorem dChain_use {r r' : R2} {g g' : G2} {fa fb fc : HM} {ta tb tc : TE} (hr : ∀ (F H : Hp) (σ : L2.St) (ρ : Env) (xx : XX) (x y : D) (vx vy : V) (P : D → Prop) (Q : VK), Rel c F H σ ρ xx → Bo c F H vx x → Bo c F H vy y → g x y P →
    (∀ z v F' H', P z → Ex F F' → Rel c F' H' σ ρ xx → At c.K F' v z → Q v H') → r vx vy H Q)
    (hr' : ∀ (F H : Hp) (σ : L2.St) (ρ : Env) (xx : XX) (x y : D) (vx vy : V) (P : D → Prop) (Q : VK), Rel c F H σ ρ xx → Bo c F H vx x → Bo c F H vy y → g' x y P →
    (∀ z v F' H', P z → Ex F F' → Rel c F' H' σ ρ xx → At c.K F' v z → Q v H') → r' vx vy H Q) (ea : ta = tH c fa) (eb : tb = tH c fb) (ec : tc = tH c fc) : ∀ σ H Q, tD c (dChain g g' fa fb fc) σ H Q → tChain r r' ta tb tc σ H Q := by
  rintro σ H Q ⟨F, ρ, xx, P, rel, q, k⟩
  subst ea eb ec
  refine ⟨F, ρ, xx, _, rel, q, fun x ρ1 v F1 H1 q1 e1 r1 h1 => ?_⟩
  refine ⟨F1, ρ1, xx, _, r1, q1, fun y ρ2 u F2 H2 q2 e2 r2 h2 => ?_⟩
  obtain ⟨dx, bx, q2⟩ := see_bo r2 (h1.mono e2) q2
  obtain ⟨dy, by_, q2⟩ := see_bo r2 h2 q2
  refine hr F2 H2 σ ρ2 xx dx dy v u _ _ r2 bx by_ q2 fun z w F' H' pz ez rz az => ?_
  split at pz
  · cases az
    refine ⟨true, rfl, ?_⟩
    rw [if_pos rfl]
    refine ⟨F', ρ2, xx, _, rz, pz, fun t ρ3 s F3 H3 q3 e3 r3 h3 => ?_⟩
    obtain ⟨dy', by', q3⟩ := see_bo r3 (h2.mono (ez.trans e3)) q3
    obtain ⟨dw, bw, q3⟩ := see_bo r3 h3 q3
    exact hr' F3 H3 σ ρ3 xx dy' dw u s _ Q r3 by' bw q3 fun z' w' F4 H4 p4 e4 r4 a4 => k z' ρ3 w' F4 H4 p4 ((((e1.trans e2).trans ez).trans e3).trans e4) r4 a4
  · cases az
    refine ⟨false, rfl, ?_⟩
    (rw [if_neg Bool.false_ne_true])
    exact k _ ρ2 _ F' H' pz ((e1.trans e2).trans ez) rz (.bl false)
  · exact pz.elim
theorem de_chain {e3 : Expr} {op op' : CmpOp} {g g' : G2} {fa fb fc : HM} (hs : Sem2 X c (compareOp op) g) (hs' : Sem2 X c (compareOp op') g') (ha : PE X a (tH c fa)) (hb : PE X b (tH c fb)) (hc : PE X e3 (tH c fc)) (hm : lastMarks [op, op'] [b, e3] = false) :
    PE X (.Compare a [op, op'] [b, e3] pos) (tD c (dChain g g' fa fb fc)) := by
  obtain ⟨r, ho, hr⟩ := hs
  obtain ⟨r', ho', hr'⟩ := hs'
  exact PE.to (pe_chain ho ho' ha hb hc hm) (dChain_use hr hr' rfl rfl rfl)
theorem dt_chain {e3 : Expr} {op op' : CmpOp} {g g' : G2} {fa fb fc : HM} (hs : Sem2 X c (compareOp op) g) (hs' : Sem2 X c (compareOp op') g') (ha : PE X a (tH c fa)) (hb : PE X b (tH c fb)) (hc : PE X e3 (tH c fc)) (hm : lastMarks [op, op'] [b, e3] = false) :
    PT X (.Compare a [op, op'] [b, e3] pos) (tT c (bD (dChain g g' fa fb fc))) := by
  obtain ⟨r, ho, hr⟩ := hs
  obtain ⟨r', ho', hr'⟩ := hs'
  refine PT.to (pt_chain ho ho' ha hb hc hm) fun σ H Q h => dChain_use hr hr' rfl rfl rfl σ H _ (bD_use rfl σ H Q h)
def bAnd (f g : BM) : BM := fun ρ P => f ρ fun b ρ1 => if b = true then g ρ1 P else P false ρ1
def bOr (f g : BM) : BM := fun ρ P => f ρ fun b ρ1 => if b = true then P true ρ1 else g ρ1 P
def bNot (f : BM) : BM := fun ρ P => f ρ fun b ρ1 => P (!b) ρ1
variable {rest : List Expr}
theorem dw_and {f g : BM} (ha : PT X a (tT c f)) (hb : PW X (.BoolOp .And (b :: rest) pos) (tT c g)) : PW X (.BoolOp .And (a :: b :: rest) pos) (tT c (bAnd f g)) := by
  have h := pw_and ha hb
  refine ⟨fun wh pins s σ H Q I q => h.run wh pins s σ H Q I ?_⟩
  obtain ⟨F, ρ, xx, P, rel, q, k⟩ := q
  refine ⟨F, ρ, xx, _, rel, q, fun t ρ1 F1 H1 q1 e1 r1 => ?_⟩
  cases t with
  | true => exact ⟨F1, ρ1, xx, P, r1, q1, fun t' ρ2 F2 H2 q2 e2 r2 => k t' ρ2 F2 H2 q2 (e1.trans e2) r2⟩
  | false => exact k false ρ1 F1 H1 q1 e1 r1
theorem dw_or {f g : BM} (ha : PT X a (tT c f)) (hb : PW X (.BoolOp .Or (b :: rest) pos) (tT c g)) : PW X (.BoolOp .Or (a :: b :: rest) pos) (tT c (bOr f g)) := by
  have h := pw_or ha hb
  refine ⟨fun wh pins s σ H Q I q => h.run wh pins s σ H Q I ?_⟩
  obtain ⟨F, ρ, xx, P, rel, q, k⟩ := q
  refine ⟨F, ρ, xx, _, rel, q, fun t ρ1 F1 H1 q1 e1 r1 => ?_⟩
  cases t with
  | true => exact k true ρ1 F1 H1 q1 e1 r1
  | false => exact ⟨F1, ρ1, xx, P, r1, q1, fun t' ρ2 F2 H2 q2 e2 r2 => k t' ρ2 F2 H2 q2 (e1.trans e2) r2⟩
theorem dt_not {f : BM} (ha : PT X a (tT c f)) : PT X (.UnaryOp .Not a pos) (tT c (bNot f)) :=
  PT.to (pt_not ha) fun σ H Q ⟨F, ρ, xx, P, rel, q, k⟩ => ⟨F, ρ, xx, _, rel, q, fun t ρ1 F1 H1 q1 e1 r1 => k _ ρ1 F1 H1 q1 e1 r1⟩
/-- the same as values, of bools -/
def dAnd (f g : DM) : DM := fun ρ P => f ρ fun d ρ1 => match d with
  | .bool true => g ρ1 P
  | .bool false => P (.bool false) ρ1
  | _ => False
def dOr (f g : DM) : DM := fun ρ P => f ρ fun d ρ1 => match d with
  | .bool true => P (.bool true) ρ1
  | .bool false => g ρ1 P
  | _ => False
def dNot (f : DM) : DM := fun ρ P => f ρ fun d ρ1 => match d with
  | .bool b => P (.bool (!b)) ρ1
  | _ => False
theorem de_and {f g : DM} (ha : PE X a (tD c f)) (hb : PE X (.BoolOp .And (b :: rest) pos) (tD c g)) : PE X (.BoolOp .And (a :: b :: rest) pos) (tD c (dAnd f g)) :=
  PE.to (pe_and ha hb) fun σ H Q ⟨F, ρ, xx, P, rel, q, k⟩ => ⟨F, ρ, xx, _, rel, q, fun d ρ1 v F1 H1 q1 e1 r1 a1 => by
    split at q1
    · cases a1
      exact ⟨true, rfl, F1, ρ1, xx, P, r1, q1, fun t' ρ2 v2 F2 H2 q2 e2 r2 a2 => k t' ρ2 v2 F2 H2 q2 (e1.trans e2) r2 a2⟩
    · cases a1
      exact ⟨false, rfl, k _ ρ1 _ F1 H1 q1 e1 r1 (.bl false)⟩
    · exact q1.elim⟩
theorem de_or {f g : DM} (ha : PE X a (tD c f)) (hb : PE X (.BoolOp .Or (b :: rest) pos) (tD c g)) : PE X (.BoolOp .Or (a :: b :: rest) pos) (tD c (dOr f g)) :=
  PE.to (pe_or ha hb) fun σ H Q ⟨F, ρ, xx, P, rel, q, k⟩ => ⟨F, ρ, xx, _, rel, q, fun d ρ1 v F1 H1 q1 e1 r1 a1 => by
    split at q1
    · cases a1
      exact ⟨true, rfl, k _ ρ1 _ F1 H1 q1 e1 r1 (.bl true)⟩
    · cases a1
      exact ⟨false, rfl, F1, ρ1, xx, P, r1, q1, fun t' ρ2 v2 F2 H2 q2 e2 r2 a2 => k t' ρ2 v2 F2 H2 q2 (e1.trans e2) r2 a2⟩
    · exact q1.elim⟩
theorem de_not {f : DM} (ha : PE X a (tD c f)) : PE X (.UnaryOp .Not a pos) (tD c (dNot f)) :=
  PE.to (pe_not ha) fun σ H Q ⟨F, ρ, xx, P, rel, q, k⟩ => ⟨F, ρ, xx, _, rel, q, fun d ρ1 v F1 H1 q1 e1 r1 a1 => by
    cases d <;> first | exact q1.elim | (cases a1; exact ⟨_, rfl, k _ ρ1 _ F1 H1 q1 e1 r1 (.bl _)⟩)⟩
def dIf (t : BM) (f g : DM) : DM := fun ρ P => t ρ fun b ρ1 => if b = true then f ρ1 P else g ρ1 P
theorem de_if {e3 : Expr} {t : BM} {f g : DM} (hc : PT X e3 (tT c t)) (ha : PE X a (tD c f)) (hb : PE X b (tD c g)) : PE X (.IfExp e3 a b pos) (tD c (dIf t f g)) :=
  PE.to (pe_ifExp hc ha hb) fun σ H Q ⟨F, ρ, xx, P, rel, q, k⟩ => ⟨F, ρ, xx, _, rel, q, fun d ρ1 F1 H1 q1 e1 r1 => by
    cases d with
    | true => exact ⟨F1, ρ1, xx, P, r1, q1, fun t' ρ2 v2 F2 H2 q2 e2 r2 a2 => k t' ρ2 v2 F2 H2 q2 (e1.trans e2) r2 a2⟩
    | false => exact ⟨F1, ρ1, xx, P, r1, q1, fun t' ρ2 v2 F2 H2 q2 e2 r2 a2 => k t' ρ2 v2 F2 H2 q2 (e1.trans e2) r2 a2⟩⟩
/-- by truth -/
def truD : D → Bool
  | .none => false
  | .bool b => b
  | .int i => i != 0
  | .str x => x.length != 0
  | .list xs => !xs.isEmpty
  | .tuple xs => !xs.isEmpty
  | .dict xs => !xs.isEmpty
def lNil : LM := fun ρ P => P [] ρ
def lCons (f : DM) (g : LM) : LM := fun ρ P => f ρ fun d ρ1 => g ρ1 fun ds ρ2 => P (d :: ds) ρ2
theorem dl_nil : PA X [] (tL c lNil) := PA.to pa_nil fun σ H Q ⟨F, ρ, xx, P, rel, q, k⟩ => k [] ρ [] F H q (Ex.refl F) rel .nil
theorem dl_cons {es : List Expr} {f : DM} {g : LM} (ha : PE X e (tD c f)) (hr : PA X es (tL c g)) (hs : starEach (e :: es) X.env = (false, eval e X.env) :: starEach es X.env := by rfl) : PA X (e :: es) (tL c (lCons f g)) :=
  PA.to (pa_cons ha hr hs) fun σ H Q ⟨F, ρ, xx, P, rel, q, k⟩ => ⟨F, ρ, xx, _, rel, q, fun d ρ1 v F1 H1 q1 e1 r1 a1 => ⟨F1, ρ1, xx, _, r1, q1, fun ds ρ2 vs F2 H2 q2 e2 r2 a2 =>
    k (d :: ds) ρ2 (v :: vs) F2 H2 q2 (e1.trans e2) r2 (.cons (a1.mono e2) a2)⟩⟩
def dTup (f : LM) : DM := fun ρ P => f ρ fun ds ρ1 => ds.length ≤ 1000000 ∧ P (.tuple ds) ρ1
def dLst (f : LM) : DM := fun ρ P => f ρ fun ds ρ1 => ds.length ≤ 1000000 ∧ P (.list ds) ρ1
theorem sz {n : Nat} (h : n ≤ 1000000) : n ≤ sizeLine := Nat.le_trans h (by rw [sizeLine_eq]; decide)
theorem szl {n : Nat} (h : n ≤ 1000000) : n < sizeLine := Nat.lt_of_le_of_lt h (by rw [sizeLine_eq]; decide)
theorem de_tup {es : List Expr} {x1 : Nat} {f : LM} (h : PA X es (tL c f)) : PE X (.Tuple es x1 pos) (tD c (dTup f)) :=
  PE.to (pe_tup h) fun σ H Q ⟨F, ρ, xx, P, rel, q, k⟩ => ⟨F, ρ, xx, _, rel, q, fun ds ρ1 vs F1 H1 q1 e1 r1 a1 => ⟨sz (by rw [a1.length]; exact q1.1), fun p hp => by
    have e2 := r1.efF (.tup vs) hp
    exact k _ ρ1 _ _ _ q1.2 (e1.trans e2) (r1.newF _ hp) (.tup (.inl (.inl upd_same)) (a1.mono e2))⟩⟩
theorem dn_lst {es : List Expr} {f : LM} (h : PA X es (tL c f)) : PE X (.List es pos) (tN c (dLst f)) :=
  PE.to (pe_lst h) fun σ H Q ⟨F, ρ, xx, P, rel, q, k⟩ => ⟨F, ρ, xx, _, rel, q, fun ds ρ1 vs F1 H1 q1 e1 r1 a1 => ⟨sz (by rw [a1.length]; exact q1.1), fun p hp => by
    obtain ⟨r2, fr⟩ := Fresh.new (o := .lst vs) (d := .d <| .list ds) r1 hp ⟨vs, upd_same, a1⟩
    exact k _ ρ1 _ _ _ q1.2 e1 r2 fr⟩⟩
/-- arguments of a call of an own def: the source of numbers may be among them -/
def aNil : AM := fun ρ P => P [] ρ
def aCons (f : DM) (g : AM) : AM := fun ρ P => f ρ fun d ρ1 => g ρ1 fun ds ρ2 => P (.d d :: ds) ρ2
def aOra (i : Nat) (g : AM) : AM := fun ρ P => (match ρ[i]? with
  | some (.ora _) => True
  | _ => False) ∧ g ρ fun ds ρ2 => P (.ora :: ds) ρ2
theorem ArAt.mono {F F' : Hp} (e : Ex F F') {v : V} {x : Ar} (h : ArAt c F v x) : ArAt c F' v x := by
  cases x with
  | d x => exact At.mono e h
  | ora => exact h
theorem da_nil : PA X [] (tAr c aNil) := PA.to pa_nil fun σ H Q ⟨F, ρ, xx, P, rel, q, k⟩ => k [] ρ [] F H q (Ex.refl F) rel .nil
theorem da_cons {es : List Expr} {f : DM} {g : AM} (ha : PE X e (tD c f)) (hr : PA X es (tAr c g)) (hs : starEach (e :: es) X.env = (false, eval e X.env) :: starEach es X.env := by rfl) : PA X (e :: es) (tAr c (aCons f g)) :=
  PA.to (pa_cons ha hr hs) fun σ H Q ⟨F, ρ, xx, P, rel, q, k⟩ => ⟨F, ρ, xx, _, rel, q, fun d ρ1 v F1 H1 q1 e1 r1 a1 => ⟨F1, ρ1, xx, _, r1, q1, fun ds ρ2 vs F2 H2 q2 e2 r2 a2 =>
    k (.d d :: ds) ρ2 (v :: vs) F2 H2 q2 (e1.trans e2) r2 (.cons (show ArAt c F2 v (.d d) from a1.mono e2) a2)⟩⟩
theorem da_ora {es : List Expr} {i : Nat} {g : AM} (ha : PE X e (tVar i)) (hr : PA X es (tAr c g)) (hs : starEach (e :: es) X.env = (false, eval e X.env) :: starEach es X.env := by rfl) : PA X (e :: es) (tAr c (aOra i g)) :=
  PA.to (pa_cons ha hr hs) fun σ H Q ⟨F, ρ, xx, P, rel, ⟨q0, q⟩, k⟩ => by
    split at q0
    · rename_i e0
      obtain ⟨p, h1, h2, _⟩ := rel.s.or i _ e0
      exact ⟨.ref p, h2, F, ρ, xx, _, rel, q, fun ds ρ2 vs F2 H2 q2 e2 r2 a2 => k (.ora :: ds) ρ2 (.ref p :: vs) F2 H2 q2 e2 r2 (.cons (show ArAt c F2 (.ref p) .ora from ⟨p, h1, rfl⟩) a2)⟩
    · exact q0.elim
end
end DL
namespace DL
open PySem L2
open PyProof.Rows in
theorem op_catLL {X : Cx} : OpR X (binaryOp .Add) (fun x y H Q => ∃ l b xs zs, x = .ref l ∧ y = .ref b ∧ SqL X.K H l xs ∧ SqL X.K H b zs ∧ xs.length + zs.length ≤ sizeLine ∧ ∀ p, H p = none → Q (.ref p) (upd H p (.lst (xs ++ zs)))) := by
  (intro pins s σ H x y v u Q I rx ry h)
  (obtain ⟨l, b, xs, zs, rfl, rfl, hH, hB, hz, q⟩ := h)
  cases rx
  cases ry
  obtain ⟨its, r, pl, _⟩ := I.list hH
  obtain ⟨its2, r2, pl2, _⟩ := I.list hB
  obtain ⟨⟨cls, dd, data, sl⟩, n, ho, hc, hd0, hd⟩ := id pl
  obtain ⟨⟨cls2, dd2, data2, sl2⟩, n2, ho2, hc2, hd02, hd2⟩ := id pl2
  simp only at hc hd hc2 hd2 hd0 hd02
  subst hc hd hc2 hd2
  have e : its.toArray ++ its2.toArray = (its ++ its2).toArray := by simp
  have h1 := r.length
  have h2 := r2.length
  refine concat_meets ⟨_, ho, rfl⟩ ⟨_, ho2, rfl⟩ noFill_list_add seq_list_add PySem.F.slot_list_add PySem.F.entry_list_add (PySem.F.args_list_add_2 _ _) (list_addW l b its.toArray its2.toArray n n2 dd dd2 sl sl2 (by simp only [List.size_toArray]; omega)) ⟨ho, ho2, ?_⟩
  rw [e]
  (exact ⟨.ref _, _, I.lnew (t' := s.toks) (r.append r2) (by rw [List.length_append]; omega), rfl, q _ I.fresh⟩)
open PyProof.Rows in
theorem op_repA {X : Cx} : OpR X (binaryOp .Mult) (fun x y H Q => ∃ l k xs, x = .ref l ∧ y = .int k ∧ SqL X.K H l xs ∧ -(2 ^ 63) ≤ k ∧ k < 2 ^ 63 ∧ xs.length * k.toNat ≤ sizeLine ∧
    ∀ p, H p = none → Q (.ref p) (upd H p (.lst (List.replicate k.toNat xs).flatten))) := by
  (intro pins s σ H x y v u Q I rx ry h)
  (obtain ⟨l, k, xs, rfl, rfl, hH, h1, h2, hz, q⟩ := h)
  cases rx
  obtain ⟨t, rfl⟩ := ry
  obtain ⟨its, r, pl, _⟩ := I.list hH
  obtain ⟨⟨cls, dd, data, sl⟩, n, ho, hc, hd0, hd⟩ := id pl
  simp only at hc hd hd0
  subst hc hd
  have hl := r.length
  have hsz' : its.toArray.size * k.toNat ≤ 2 ^ 24 := by rw [List.size_toArray, ← hl]; rw [sizeLine_eq] at hz; omega
  refine wpAny_binaryOp_repeat_ref (T := "list") (U := "int") (by decide) ⟨_, ho, rfl⟩ (fun s' => typeIs_int s' k t) noFill_list_mul F.fills_int_mul F.slot_int_rmul repeat_list F.slot_int_index.lookup
    (call_meets F.slot_int_rmul (typeIs_int s k t) F.entry_int_rmul (F.args_int_rmul_2 _ _) (lm_int_rmul_list_any k t l its.toArray n dd sl)
      ⟨ho, rfl, ⟨_, ho, rfl⟩,
        call_meets F.slot_list_mul ⟨_, ho, rfl⟩ F.entry_list_mul (F.args_list_mul_2 _ _)
        (lm_list_mul_any l its.toArray n dd sl k t (by simp [Builtin.List.listFitsIndex]; omega) (by omega) (by simp [Builtin.List.listTooLong, sizeLine]; omega))
        ⟨ho, ?_⟩⟩)
  rw [listMul_foldl_if]
  (exact ⟨.ref _, _, I.lnew (t' := s.toks) (r.rep k.toNat) (by rw [PyProof.Rows.lm_len_rep_flat, Nat.mul_comm]; exact hz), rfl, q _ I.fresh⟩)
section
variable {c : Cn} {F H : Hp} {v : V}
theorem bo_int {i : Int} (h : Bo c F H v (.int i)) : v = .int i := by
  rcases h with h | ⟨a, _, h⟩
  · cases h; rfl
  · exact h.elim
theorem bo_bl {i : Bool} (h : Bo c F H v (.bool i)) : v = .bl i := by
  rcases h with h | ⟨a, _, h⟩
  · cases h; rfl
  · exact h.elim
theorem bo_str {i : Str} (h : Bo c F H v (.str i)) : v = .str i := by
  rcases h with h | ⟨a, _, h⟩
  · cases h; rfl
  · exact h.elim
theorem bo_non (h : Bo c F H v .none) : v = .non := by
  rcases h with h | ⟨a, _, h⟩
  · cases h; rfl
  · exact h.elim
theorem bo_lst {ds : List D} (e : Ex F H) (h : Bo c F H v (.list ds)) : ∃ a xs, v = .ref a ∧ SqL c.K H a xs ∧ AtAll c.K F xs ds := by
  rcases h with h | ⟨a, rfl, vs, h1, h2⟩
  · cases h with
    | lst s t => exact ⟨_, _, rfl, e.sl s, t⟩
  · exact ⟨a, vs, rfl, SqL.of h1, h2⟩
theorem bo_tup {ds : List D} (e : Ex F H) (h : Bo c F H v (.tuple ds)) : ∃ a xs, v = .ref a ∧ SqT c.K F a xs ∧ SqT c.K H a xs ∧ AtAll c.K F xs ds := by
  rcases h with h | ⟨a, rfl, h⟩
  · cases h with
    | tup s t => exact ⟨_, _, rfl, s, e.st s, t⟩
  · exact h.elim
end
def gAdd : G2 := fun x y P => match x, y with
  | .int i, .int j => P (.int (i + j))
  | .str a, .str b => a.length + b.length ≤ 1000000 ∧ P (.str (a ++ b))
  | .list xs, .list ys => xs.length + ys.length ≤ 1000000 ∧ P (.list (xs ++ ys))
  | .tuple xs, .tuple ys => xs.length + ys.length ≤ 1000000 ∧ P (.tuple (xs ++ ys))
  | _, _ => False
def gSub : G2 := fun x y P => match x, y with
  | .int i, .int j => P (.int (i - j))
  | _, _ => False
def gMul : G2 := fun x y P => match x, y with
  | .int i, .int j => ((-(2 ^ 64) < i ∧ i < 2 ^ 64) ∨ (-(2 ^ 64) < j ∧ j < 2 ^ 64)) ∧ P (.int (i * j))
  | .list xs, .int k => (-(2 ^ 63) ≤ k ∧ k < 2 ^ 63) ∧ xs.length * k.toNat ≤ 1000000 ∧ P (.list (List.replicate k.toNat xs).flatten)
  | _, _ => False
def gDiv : G2 := fun x y P => match x, y with
  | .int i, .int j => (0 < j ∧ j < 1073741824) ∧ P (.int (i / j))
  | _, _ => False
def gMod : G2 := fun x y P => match x, y with
  | .int i, .int j => 0 < j ∧ P (.int (i % j))
  | _, _ => False
def gPow : G2 := fun x y P => match x, y with
  | .int i, .int j => (0 ≤ j ∧ j ≤ 1000000 ∧ i.natAbs < 2 ^ 64) ∧ P (.int (i ^ j.toNat))
  | _, _ => False
theorem AtAll.nil_iff {K : PySem.W.Frag} {H : Hp} {vs : List V} {ds : List D} (h : AtAll K H vs ds) : vs = [] ↔ ds = [] := by cases h <;> simp
section
variable {X : Cx} {c : Cn}
theorem sem_add (hK : X.K = c.K) : Sem2 X c (binaryOp .Add) gAdd := by
  refine ⟨_, (op_add.or op_add_str).or (op_catLL.or L2.op_catA), fun F H σ ρ xx x y vx vy P Q r bx by_ g k => ?_⟩
  have e := r.w.fh
  unfold gAdd at g
  split at g
  · cases bo_int bx; cases bo_int by_
    exact .inl (.inl ⟨_, _, rfl, rfl, k _ _ F H g (Ex.refl F) r (.int _)⟩)
  · cases bo_str bx; cases bo_str by_
    exact .inl (.inr ⟨_, _, rfl, rfl, sz g.1, k _ _ F H g.2 (Ex.refl F) r (.str _)⟩)
  · obtain ⟨a, xs, rfl, s1, t1⟩ := bo_lst e bx
    obtain ⟨b, ys, rfl, s2, t2⟩ := bo_lst e by_
    refine .inr (.inl ⟨a, b, xs, ys, rfl, rfl, by rw [hK]; exact s1, by rw [hK]; exact s2, sz (by rw [t1.length, t2.length]; exact g.1), fun p hp => ?_⟩)
    have e2 := r.efF (.lst (xs ++ ys)) hp
    exact k _ _ _ _ g.2 e2 (r.newF _ hp) (.lst (.inl (.inl upd_same)) ((t1.append t2).mono e2))
  · obtain ⟨a, xs, rfl, f1, s1, t1⟩ := bo_tup e bx
    obtain ⟨b, ys, rfl, f2, s2, t2⟩ := bo_tup e by_
    refine .inr (.inr ⟨a, b, xs, ys, rfl, rfl, by rw [hK]; exact s1, by rw [hK]; exact s2, sz (by rw [t1.length, t2.length]; exact g.1), fun z => ?_, fun _ z => ?_, fun _ _ p hp => ?_⟩)
    · refine k _ _ F H g.2 (Ex.refl F) r ?_
      rw [t1.nil_iff.mp z, List.nil_append]
      exact .tup f2 t2
    · refine k _ _ F H g.2 (Ex.refl F) r ?_
      rw [t2.nil_iff.mp z, List.append_nil]
      exact .tup f1 t1
    · have e2 := r.efF (.tup (xs ++ ys)) hp
      exact k _ _ _ _ g.2 e2 (r.newF _ hp) (.tup (.inl (.inl upd_same)) ((t1.append t2).mono e2))
  · exact g.elim
theorem sem_sub : Sem2 X c (binaryOp .Sub) gSub := by
  refine ⟨_, op_sub, fun F H σ ρ xx x y vx vy P Q r bx by_ g k => ?_⟩
  unfold gSub at g
  split at g
  · cases bo_int bx; cases bo_int by_
    exact ⟨_, _, rfl, rfl, k _ _ F H g (Ex.refl F) r (.int _)⟩
  · exact g.elim
theorem AtAll.rep {K : PySem.W.Frag} {H : Hp} {vs : List V} {ds : List D} (h : AtAll K H vs ds) : ∀ n : Nat, AtAll K H (List.replicate n vs).flatten (List.replicate n ds).flatten
  | 0 => .nil
  | n + 1 => by
    (rw [List.replicate_succ, List.replicate_succ, List.flatten_cons, List.flatten_cons])
    exact h.append (AtAll.rep h n)
theorem sem_mul (hK : X.K = c.K) : Sem2 X c (binaryOp .Mult) gMul := by
  refine ⟨_, op_mul.or op_repA, fun F H σ ρ xx x y vx vy P Q r bx by_ g k => ?_⟩
  have e := r.w.fh
  unfold gMul at g
  split at g
  · cases bo_int bx; cases bo_int by_
    exact .inl ⟨_, _, rfl, rfl, g.1, k _ _ F H g.2 (Ex.refl F) r (.int _)⟩
  · obtain ⟨a, xs, rfl, s1, t1⟩ := bo_lst e bx
    cases bo_int by_
    refine .inr ⟨a, _, xs, rfl, rfl, by rw [hK]; exact s1, g.1.1, g.1.2, sz (by rw [t1.length]; exact g.2.1), fun p hp => ?_⟩
    exact k _ _ _ _ g.2.2 (r.efF _ hp) (r.newF _ hp) (.lst (.inl (.inl upd_same)) ((t1.rep _).mono (r.efF _ hp)))
  · exact g.elim
theorem sem_div : Sem2 X c (binaryOp .FloorDiv) gDiv := by
  refine ⟨_, op_fdiv, fun F H σ ρ xx x y vx vy P Q r bx by_ g k => ?_⟩
  unfold gDiv at g
  split at g
  · cases bo_int bx; cases bo_int by_
    exact ⟨_, _, rfl, rfl, g.1, k _ _ F H g.2 (Ex.refl F) r (.int _)⟩
  · exact g.elim
theorem sem_mod : Sem2 X c (binaryOp .Mod) gMod := by
  refine ⟨_, op_mod, fun F H σ ρ xx x y vx vy P Q r bx by_ g k => ?_⟩
  unfold gMod at g
  split at g
  · cases bo_int bx; cases bo_int by_
    exact ⟨_, _, rfl, rfl, g.1, k _ _ F H g.2 (Ex.refl F) r (.int _)⟩
  · exact g.elim
theorem sem_pow : Sem2 X c (binaryOp .Pow) gPow := by
  refine ⟨_, op_pow, fun F H σ ρ xx x y vx vy P Q r bx by_ g k => ?_⟩
  unfold gPow at g
  split at g
  · cases bo_int bx; cases bo_int by_
    exact ⟨_, _, rfl, rfl, g.1, k _ _ F H g.2 (Ex.refl F) r (.int _)⟩
  · exact g.elim
def gCmp (p : Int → Int → Bool) : G2 := fun x y P => match x, y with
  | .int i, .int j => P (.bool (p i j))
  | _, _ => False
theorem sem_cmp {op : CmpOp} {p : Int → Int → Bool} (h : OpR X (compareOp op) (rI0 fun i j => .bl (p i j))) : Sem2 X c (compareOp op) (gCmp p) := by
  refine ⟨_, h, fun F H σ ρ xx x y vx vy P Q r bx by_ g k => ?_⟩
  unfold gCmp at g
  split at g
  · cases bo_int bx; cases bo_int by_
    exact ⟨_, _, rfl, rfl, k _ _ F H g (Ex.refl F) r (.bl _)⟩
  · exact g.elim
abbrev gLt : G2 := gCmp fun i j => decide (i < j)
abbrev gLe : G2 := gCmp fun i j => decide (i ≤ j)
abbrev gGt : G2 := gCmp fun i j => decide (j < i)
abbrev gGe : G2 := gCmp fun i j => decide (j ≤ i)
theorem sem_lt : Sem2 X c (compareOp .Lt) gLt := sem_cmp op_lt
theorem sem_le : Sem2 X c (compareOp .LtE) gLe := sem_cmp op_le
theorem sem_gt : Sem2 X c (compareOp .Gt) gGt := sem_cmp op_gt
theorem sem_ge : Sem2 X c (compareOp .GtE) gGe := sem_cmp op_ge
def isN : D → Bool
  | .none => true
  | _ => false
def gIs : G2 := fun x y P => match y with
  | .none => P (.bool (isN x))
  | _ => False
def gIsNot : G2 := fun x y P => match y with
  | .none => P (.bool (!isN x))
  | _ => False
theorem isN_dec {F H : Hp} {v : V} {d : D} (h : Bo c F H v d) : decide (v = .non) = isN d := by
  rcases h with h | ⟨a, rfl, _⟩
  · cases h <;> rfl
  · cases d <;> first | rfl | (rename_i h; exact h.elim)
theorem sem_is : Sem2 X c (compareOp .Is) gIs := by
  refine ⟨_, op_isN, fun F H σ ρ xx x y vx vy P Q r bx by_ g k => ?_⟩
  unfold gIs at g
  split at g
  · cases bo_non by_
    refine ⟨rfl, ?_⟩
    rw [isN_dec bx]
    exact k _ _ F H g (Ex.refl F) r (.bl _)
  · exact g.elim
theorem sem_isnot : Sem2 X c (compareOp .IsNot) gIsNot := by
  refine ⟨_, op_notN, fun F H σ ρ xx x y vx vy P Q r bx by_ g k => ?_⟩
  unfold gIsNot at g
  split at g
  · cases bo_non by_
    refine ⟨rfl, ?_⟩
    rw [isN_dec bx]
    exact k _ _ F H g (Ex.refl F) r (.bl _)
  · exact g.elim
/-- == of data: texts of signs, no dicts, not too deep -/
def okD (d : D) : Prop := SeqAt.shaped d = true
theorem okD.nod {d : D} (h : okD d) : nod d = true := by
  have h1 : d.canLay0 = true := SeqAt.canLay_of_shaped h
  have all : ∀ d : D, d.canLay0 = true → DL.nod d = true := fun d => by
    refine PyData.rec (motive_1 := fun d => d.canLay0 = true → DL.nod d = true) (motive_2 := fun ds => PyData.canLayAll0 ds = true → DL.nodAll ds = true) (motive_3 := fun _ => True) (motive_4 := fun _ => True) ?_ ?_ ?_ ?_ ?_ ?_ ?_ ?_ ?_ ?_ ?_ ?_ d
    · exact fun _ => rfl
    · exact fun _ _ => rfl
    · exact fun _ _ => rfl
    · exact fun _ _ => rfl
    · exact fun xs ih h => by simp only [DL.nod]; exact ih (by simpa only [PyData.canLay0] using h)
    · exact fun xs ih h => by simp only [DL.nod]; exact ih (by simpa only [PyData.canLay0] using h)
    · exact fun _ _ h => by simp [PyData.canLay0] at h
    · exact fun _ => rfl
    · exact fun x xs i j h => by
        simp only [PyData.canLayAll0, Bool.and_eq_true] at h
        simp only [DL.nodAll, Bool.and_eq_true]
        exact ⟨i h.1, j h.2⟩
    all_goals (intros; trivial)
  exact all d h1
def gEq : G2 := fun x y P => okD x ∧ okD y ∧ P (.bool (PyData.eqv x y))
def gNe : G2 := fun x y P => okD x ∧ okD y ∧ P (.bool (!PyData.eqv x y))
theorem sem_eq (hK : X.K = c.K) (hu : X.A.units + 64 < cLine) : Sem2 X c (compareOp .Eq) gEq := by
  refine ⟨_, op_eqD hu, fun F H σ ρ xx x y vx vy P Q r bx by_ g k => ?_⟩
  have e := r.w.fh
  refine ⟨x, y, by rw [hK]; exact (bx.at e).dp g.1.nod, by rw [hK]; exact (by_.at e).dp g.2.1.nod, g.1, g.2.1, k _ _ F H g.2.2 (Ex.refl F) r (.bl _)⟩
theorem sem_ne (hK : X.K = c.K) (hu : X.A.units + 64 < cLine) : Sem2 X c (compareOp .NotEq) gNe := by
  refine ⟨_, op_neD hu, fun F H σ ρ xx x y vx vy P Q r bx by_ g k => ?_⟩
  have e := r.w.fh
  refine ⟨x, y, by rw [hK]; exact (bx.at e).dp g.1.nod, by rw [hK]; exact (by_.at e).dp g.2.1.nod, g.1, g.2.1, k _ _ F H g.2.2 (Ex.refl F) r (.bl _)⟩
def gIx : G2 := fun x y P => match x, y with
  | .list xs, .int i => ∃ d, atI xs i = some d ∧ P d
  | .tuple xs, .int i => ∃ d, atI xs i = some d ∧ P d
  | .str z, .int i => z.length ≤ 1000000 ∧ ∃ n, atI z.cps.toList i = some n ∧ P (.str ⟨#[n]⟩)
  | _, _ => False
theorem atI_at {K : PySem.W.Frag} {F : Hp} {xs : List V} {ds : List D} (t : AtAll K F xs ds) {i : Int} {d : D} (h : atI ds i = some d) : ∃ v, atI xs i = some v ∧ At K F v d := by
  unfold atI at h ⊢
  rw [t.length]
  cases e : ixN ds.length i with
  | none => (rw [e] at h; cases h)
  | some j =>
    rw [e] at h
    exact t.get h
theorem ix_use (hK : X.K = c.K) : ∀ (F H : Hp) (σ : L2.St) (ρ : Env) (xx : XX) (x y : D) (vx vy : V) (P : D → Prop) (Q : VK), Rel c F H σ ρ xx → Bo c F H vx x → Bo c F H vy y → gIx x y P →
    (∀ z v F' H', P z → Ex F F' → Rel c F' H' σ ρ xx → At c.K F' v z → Q v H') → rIx X.K vx vy H Q := fun F H σ ρ xx x y vx vy P Q r bx by_ g k => by
  have e := r.w.fh
  unfold gIx at g
  split at g
  · obtain ⟨a, xs, rfl, s1, t1⟩ := bo_lst e bx
    cases bo_int by_
    obtain ⟨d, h1, h2⟩ := g
    obtain ⟨u, h3, h4⟩ := atI_at t1 h1
    exact .inl ⟨a, xs, _, u, rfl, rfl, by rw [hK]; exact s1, h3, k _ _ F H h2 (Ex.refl F) r h4⟩
  · obtain ⟨a, xs, rfl, _, s1, t1⟩ := bo_tup e bx
    cases bo_int by_
    obtain ⟨d, h1, h2⟩ := g
    obtain ⟨u, h3, h4⟩ := atI_at t1 h1
    exact .inr (.inl ⟨a, xs, _, u, rfl, rfl, by rw [hK]; exact s1, h3, k _ _ F H h2 (Ex.refl F) r h4⟩)
  · cases bo_str bx; cases bo_int by_
    obtain ⟨hz, n, h1, h2⟩ := g
    exact .inr (.inr ⟨_, _, n, rfl, rfl, sz hz, h1, k _ _ F H h2 (Ex.refl F) r (.str _)⟩)
  · exact g.elim
theorem de_ix {a b : Expr} {pos : Pos} {fa fb : HM} (hK : X.K = c.K) (ha : PE X a (tH c fa)) (hb : PE X b (tH c fb)) (hs : PlainIx b) : PE X (.Subscript a b pos) (tD c (d2 gIx fa fb)) :=
  PE.to (pe_ix ix_seq ha hb hs) (d2_use (ix_use hK) rfl rfl)
abbrev OM := Env → (Option Int → Env → Prop) → Prop
def tOI (c : Cn) (f : OM) : TO := fun σ H Q => ∃ F ρ xx P, Rel c F H σ ρ xx ∧ f ρ P ∧ ∀ o ρ' F' H', P o ρ' → Ex F F' → Rel c F' H' σ ρ' xx → Q o H'
def oNo : OM := fun ρ P => P none ρ
def oI (f : DM) : OM := fun ρ P => f ρ fun d ρ' => match d with
  | .int i => P (some i) ρ'
  | _ => False
theorem PO.to {e : Option Expr} {t t' : TO} (h : PO X e t) (w : ∀ σ H Q, t' σ H Q → t σ H Q) : PO X e t' := ⟨fun pins s σ H Q I q => h.run pins s σ H Q I (w σ H Q q)⟩
theorem do_no : PO X none (tOI c oNo) := PO.to po_none fun σ H Q ⟨F, ρ, xx, P, r, q, k⟩ => k none ρ F H q (Ex.refl F) r
theorem do_i {e : Expr} {f : DM} (h : PE X e (tD c f)) : PO X (some e) (tOI c (oI f)) := PO.to (po_some h) fun σ H Q ⟨F, ρ, xx, P, r, q, k⟩ => ⟨F, ρ, xx, _, r, q, fun d ρ' v F' H' p e r' a => by
  cases d <;> first | exact p.elim | (cases a; exact ⟨_, rfl, k _ ρ' F' H' p e r'⟩)⟩
/-- xs[lo:hi] -/
def cutD (xs : List D) (lo hi : Option Int) : List D := (xs.drop (HT.sIx xs.length 0 lo)).take (HT.sIx xs.length xs.length hi - HT.sIx xs.length 0 lo)
theorem cut_at {K : PySem.W.Frag} {F : Hp} {xs : List V} {ds : List D} (t : AtAll K F xs ds) (lo hi : Option Int) : AtAll K F (cutV xs lo hi) (cutD ds lo hi) := by
  unfold cutV cutD
  rw [t.length]
  exact (t.drop _).take _
def dSl (fa : HM) (fl fu : OM) : DM := fun ρ P => fa ρ fun h ρ1 => fl ρ1 fun lo ρ2 => fu ρ2 fun hi ρ3 => see ρ3 h fun d => match d with
  | .list xs => P (.list (cutD xs lo hi)) ρ3
  | .tuple xs => P (.tuple (cutD xs lo hi)) ρ3
  | .str z => z.length ≤ 1000000 ∧ P (.str (cutS z lo hi)) ρ3
  | _ => False
end
end DL
namespace DL
open PySem L2
section
variable {X : Cx} {c : Cn} {e : Expr} {pos : Pos}
theorem de_sl {lo hi : Option Expr} {p2 : Pos} {fa : HM} {fl fu : OM} (hK : X.K = c.K) (he : PE X e (tH c fa)) (hl : PO X lo (tOI c fl)) (hu : PO X hi (tOI c fu)) : PE X (.Subscript e (.Slice lo hi none p2) pos) (tD c (dSl fa fl fu)) := by
  refine PE.to (pe_slice ((sl_list.or sl_tupA).or sl_str) he hl hu) ?_
  rintro σ H Q ⟨F, ρ, xx, P, rel, q, k⟩
  refine ⟨F, ρ, xx, _, rel, q, fun h ρ1 v F1 H1 q1 e1 r1 h1 => ⟨F1, ρ1, xx, _, r1, q1, fun o ρ2 F2 H2 q2 e2 r2 => ⟨F2, ρ2, xx, _, r2, q2, fun u ρ3 F3 H3 q3 e3 r3 => ?_⟩⟩⟩
  obtain ⟨d, bd, q3⟩ := see_bo r3 (h1.mono (e2.trans e3)) q3
  have ex := r3.w.fh
  split at q3
  · obtain ⟨a, xs, rfl, s1, t1⟩ := bo_lst ex bd
    refine .inl (.inl ⟨a, xs, rfl, by rw [hK]; exact s1, fun p hp => ?_⟩)
    exact k _ ρ3 _ _ _ q3 (((e1.trans e2).trans e3).trans (r3.efF _ hp)) (r3.newF _ hp) (.lst (.inl (.inl upd_same)) ((cut_at t1 o u).mono (r3.efF _ hp)))
  · obtain ⟨a, xs, rfl, f1, s1, t1⟩ := bo_tup ex bd
    refine .inl (.inr ⟨a, xs, rfl, by rw [hK]; exact s1, fun hw => ?_, fun _ p hp => ?_⟩)
    · refine k _ ρ3 _ F3 H3 q3 ((e1.trans e2).trans e3) r3 ?_
      have hc := cut_at t1 o u
      have hz : cutV xs o u = xs := by
        unfold cutV
        rw [hw.1, hw.2]
        simp
      rw [hz] at hc
      exact .tup f1 hc
    · exact k _ ρ3 _ _ _ q3 (((e1.trans e2).trans e3).trans (r3.efF _ hp)) (r3.newF _ hp) (.tup (.inl (.inl upd_same)) ((cut_at t1 o u).mono (r3.efF _ hp)))
  · cases bo_str bd
    exact .inr ⟨_, rfl, sz q3.1, k _ ρ3 _ F3 H3 q3.2 ((e1.trans e2).trans e3) r3 (.str _)⟩
  · exact q3.elim
/-- xs[::-1] -/
def dRev (fa : HM) : DM := fun ρ P => fa ρ fun h ρ1 => see ρ1 h fun d => match d with
  | .list xs => P (.list xs.reverse) ρ1
  | _ => False
theorem de_rev {k0 : Nat} {p1 p2 p3 : Pos} {fa : HM} (hK : X.K = c.K) (he : PE X e (tH c fa)) : PE X (.Subscript e (.Slice none none (some (.UnaryOp .USub (.Constant (.int 1) k0 p1) p2)) p3) pos) (tD c (dRev fa)) := by
  refine PE.to (pe_revL he) ?_
  rintro σ H Q ⟨F, ρ, xx, P, rel, q, k⟩
  refine ⟨F, ρ, xx, _, rel, q, fun h ρ1 v F1 H1 q1 e1 r1 h1 => ?_⟩
  obtain ⟨d, bd, q1⟩ := see_bo r1 h1 q1
  split at q1
  · obtain ⟨a, xs, rfl, s1, t1⟩ := bo_lst r1.w.fh bd
    exact ⟨a, xs, rfl, by rw [hK]; exact s1, fun p hp => k _ ρ1 _ _ _ q1 (e1.trans (r1.efF _ hp)) (r1.newF _ hp) (.lst (.inl (.inl upd_same)) (t1.reverse.mono (r1.efF _ hp)))⟩
  · exact q1.elim
theorem tru_of {F H : Hp} {v : V} {d : D} (r : Ex F H) (b : Bo c F H v d) (hd : ∀ s, d = .str s → s.length ≤ 1000000) (hn : ∀ kd, d ≠ .dict kd) : TruV c.K v H (truD d) := by
  cases d with
  | none => cases bo_non b; rfl
  | bool x => cases bo_bl b; rfl
  | int i => cases bo_int b; rfl
  | str s =>
    cases bo_str b
    refine ⟨sz (hd s rfl), ?_⟩
    show (s.length != 0) = ((s.length : Int) != 0)
    cases h : s.length with
    | zero => rfl
    | succ n =>
      have h1 : (n + 1 != 0) = true := by simp
      have h2 : (((n + 1 : Nat) : Int) != 0) = true := by simp only [bne_iff_ne, ne_eq]; omega
      rw [h1, h2]
  | list xs =>
    obtain ⟨a, ys, rfl, s1, t1⟩ := bo_lst r b
    refine .inl ⟨ys, s1, ?_⟩
    cases t1 <;> rfl
  | tuple xs =>
    obtain ⟨a, ys, rfl, _, s1, t1⟩ := bo_tup r b
    refine .inr (.inl ⟨ys, s1, ?_⟩)
    cases t1 <;> rfl
  | dict kd => exact absurd rfl (hn kd)
def bTruth (f : HM) : BM := fun ρ P => f ρ fun h ρ1 => see ρ1 h fun d => match d with
  | .str s => s.length ≤ 1000000 ∧ P (truD (.str s)) ρ1
  | .dict _ => False
  | d => P (truD d) ρ1
theorem dt_truth {f : HM} (hK : X.K = c.K) (ha : PE X e (tH c f)) (he : ∀ whole, isTrue e X.env whole = (do let v ← whole; standAt e.pos; holding [v] (truthy v)) := by intro _; rfl) : PT X e (tT c (bTruth f)) := by
  refine PT.to (pt_truth ha he) ?_
  rintro σ H Q ⟨F, ρ, xx, P, rel, q, k⟩
  refine ⟨F, ρ, xx, _, rel, q, fun h ρ1 v F1 H1 q1 e1 r1 h1 => ?_⟩
  obtain ⟨d, bd, q1⟩ := see_bo r1 h1 q1
  rw [hK]
  cases d with
  | str s => exact ⟨_, tru_of r1.w.fh bd (fun t ht => by cases ht; exact q1.1) (fun _ z => by cases z), k _ ρ1 F1 H1 q1.2 e1 r1⟩
  | dict kd => exact q1.elim
  | _ => exact ⟨_, tru_of r1.w.fh bd (fun t ht => by cases ht) (fun _ z => by cases z), k _ ρ1 F1 H1 q1 e1 r1⟩
abbrev HLM := Env → (List Hd → Env → Prop) → Prop
def tHL (c : Cn) (f : HLM) : TA := fun σ H Q => ∃ F ρ xx P, Rel c F H σ ρ xx ∧ f ρ P ∧ ∀ hs ρ' vs F' H', P hs ρ' → Ex F F' → Rel c F' H' σ ρ' xx → Paired (fun v h => HdAt c F' σ h v) vs hs → Q vs H'
def gNil : HLM := fun ρ P => P [] ρ
def gCons (f : HM) (g : HLM) : HLM := fun ρ P => f ρ fun h ρ1 => g ρ1 fun hs ρ2 => P (h :: hs) ρ2
theorem dg_nil : PA X [] (tHL c gNil) := PA.to pa_nil fun σ H Q ⟨F, ρ, xx, P, rel, q, k⟩ => k [] ρ [] F H q (Ex.refl F) rel .nil
theorem dg_cons {es : List Expr} {f : HM} {g : HLM} (ha : PE X e (tH c f)) (hr : PA X es (tHL c g)) (hs : starEach (e :: es) X.env = (false, eval e X.env) :: starEach es X.env := by rfl) : PA X (e :: es) (tHL c (gCons f g)) :=
  PA.to (pa_cons ha hr hs) fun σ H Q ⟨F, ρ, xx, P, rel, q, k⟩ => ⟨F, ρ, xx, _, rel, q, fun d ρ1 v F1 H1 q1 e1 r1 a1 => ⟨F1, ρ1, xx, _, r1, q1, fun ds ρ2 vs F2 H2 q2 e2 r2 a2 =>
    k (d :: ds) ρ2 (v :: vs) F2 H2 q2 (e1.trans e2) r2 (.cons (a1.mono e2) a2)⟩⟩
def seeAll (ρ : Env) : List Hd → (List D → Prop) → Prop
  | [], k => k []
  | h :: hs, k => see ρ h fun d => seeAll ρ hs fun ds => k (d :: ds)
theorem seeAll_bo {F H : Hp} {σ : L2.St} {ρ : Env} {xx : XX} (r : Rel c F H σ ρ xx) : ∀ {vs : List V} {hs : List Hd}, Paired (fun v h => HdAt c F σ h v) vs hs → ∀ {k : List D → Prop}, seeAll ρ hs k → ∃ ds, Paired (Bo c F H) vs ds ∧ k ds
  | _, _, .nil, k, h => ⟨[], .nil, h⟩
  | _, _, .cons h t, k, q => by
    obtain ⟨d, b, q⟩ := see_bo r h q
    obtain ⟨ds, bs, q⟩ := seeAll_bo r t q
    exact ⟨d :: ds, .cons b bs, q⟩
abbrev GC := List D → (D → Prop) → Prop
def SemC (X : Cx) (c : Cn) (f : Value) (g : GC) : Prop := ∃ r : List V → Hp → VK → Prop, CallR X f r ∧ ∀ (F H : Hp) (σ : L2.St) (ρ : Env) (xx : XX) (ds : List D) (vs : List V) (P : D → Prop) (Q : VK), Rel c F H σ ρ xx → Paired (Bo c F H) vs ds → g ds P →
  (∀ z v F' H', P z → Ex F F' → Rel c F' H' σ ρ xx → At c.K F' v z → Q v H') → r vs H Q
def dCB (g : GC) (f : HLM) : DM := fun ρ P => f ρ fun hs ρ1 => seeAll ρ1 hs fun ds => g ds fun z => P z ρ1
theorem dCB_use {f : Value} {g : GC} {fh : HLM} {r : List V → Hp → VK → Prop} (hr : ∀ (F H : Hp) (σ : L2.St) (ρ : Env) (xx : XX) (ds : List D) (vs : List V) (P : D → Prop) (Q : VK), Rel c F H σ ρ xx → Paired (Bo c F H) vs ds → g ds P →
    (∀ z v F' H', P z → Ex F F' → Rel c F' H' σ ρ xx → At c.K F' v z → Q v H') → r vs H Q) : ∀ σ H Q, tD c (dCB g fh) σ H Q → tCB r (tHL c fh) σ H Q := by
  rintro σ H Q ⟨F, ρ, xx, P, rel, q, k⟩
  refine ⟨F, ρ, xx, _, rel, q, fun hs ρ1 vs F1 H1 q1 e1 r1 h1 => ?_⟩
  obtain ⟨ds, bs, q1⟩ := seeAll_bo r1 h1 q1
  exact hr F1 H1 σ ρ1 xx ds vs _ Q r1 bs q1 fun z v F' H' pz ez rz az => k z ρ1 v F' H' pz (e1.trans ez) rz az
variable {x : Str} {p : Pos} {es : List Expr} {fh : HLM} {g : GC}
theorem de_cb {id : String} (hs : SemC X c (.builtin id) g) (hg : Gl X x) (hm : X.mg x = none) (hv : bootBuiltins x = some (.builtin id)) (ha : PA X (e :: es) (tHL c fh)) (hn : x ≠ "__name__" := by decide) (hdb : (x == ("__debug__" : Str)) = false := by decide)
    (he : starEach (e :: es) X.env = (false, eval e X.env) :: starEach es X.env := by rfl) (hpl : (backTo pos (starEach es X.env)).any (·.1) = false := by rfl) : PE X (.Call (.Name x p) (e :: es) [] pos) (tD c (dCB g fh)) := by
  obtain ⟨r, ho, hr⟩ := hs
  exact PE.to (pe_callB ho hg hm hv ha hn hdb he hpl) (dCB_use (f := .none) hr)
theorem de_ct {T : String} (hs : SemC X c (.type T) g) (hg : Gl X x) (hm : X.mg x = none) (hv : bootBuiltins x = some (.type T)) (ha : PA X (e :: es) (tHL c fh)) (hn : x ≠ "__name__" := by decide) (hdb : (x == ("__debug__" : Str)) = false := by decide)
    (he : starEach (e :: es) X.env = (false, eval e X.env) :: starEach es X.env := by rfl) (hpl : (backTo pos (starEach es X.env)).any (·.1) = false := by rfl) : PE X (.Call (.Name x p) (e :: es) [] pos) (tD c (dCB g fh)) := by
  obtain ⟨r, ho, hr⟩ := hs
  exact PE.to (pe_callTy ho hg hm hv ha hn hdb he hpl) (dCB_use (f := .none) hr)
theorem pr1 {R : V → D → Prop} {vs : List V} {d : D} (h : Paired R vs [d]) : ∃ v, vs = [v] ∧ R v d := by
  cases h with
  | cons a t => cases t; exact ⟨_, rfl, a⟩
theorem pr2 {R : V → D → Prop} {vs : List V} {d d' : D} (h : Paired R vs [d, d']) : ∃ v u, vs = [v, u] ∧ R v d ∧ R u d' := by
  cases h with
  | cons a t => cases t with
    | cons b t => cases t; exact ⟨_, _, rfl, a, b⟩
def gLen : GC := fun ds P => match ds with
  | [.list xs] => P (.int xs.length)
  | [.tuple xs] => P (.int xs.length)
  | [.str s] => s.length ≤ 1000000 ∧ P (.int s.length)
  | _ => False
theorem sem_len (hK : X.K = c.K) : SemC X c (.builtin "len") gLen := by
  refine ⟨_, call_len, fun F H σ ρ xx ds vs P Q r bs g k => ?_⟩
  unfold gLen at g
  split at g
  · obtain ⟨v, rfl, b⟩ := pr1 bs
    obtain ⟨a, ys, rfl, s1, t1⟩ := bo_lst r.w.fh b
    exact ⟨_, _, rfl, .inl ⟨ys, by rw [hK]; exact s1, rfl⟩, by rw [t1.length]; exact k _ _ F H g (Ex.refl F) r (.int _)⟩
  · obtain ⟨v, rfl, b⟩ := pr1 bs
    obtain ⟨a, ys, rfl, _, s1, t1⟩ := bo_tup r.w.fh b
    exact ⟨_, _, rfl, .inr ⟨ys, by rw [hK]; exact s1, rfl⟩, by rw [t1.length]; exact k _ _ F H g (Ex.refl F) r (.int _)⟩
  · obtain ⟨v, rfl, b⟩ := pr1 bs
    cases bo_str b
    exact ⟨_, _, rfl, ⟨sz g.1, rfl⟩, k _ _ F H g.2 (Ex.refl F) r (.int _)⟩
  · exact g.elim
def gInt : GC := fun ds P => match ds with
  | [.int i] => P (.int i)
  | [.bool b] => P (.int (if b then 1 else 0))
  | _ => False
theorem sem_int : SemC X c (.type "int") gInt := by
  refine ⟨_, call_int1, fun F H σ ρ xx ds vs P Q r bs g k => ?_⟩
  unfold gInt at g
  split at g
  · obtain ⟨v, rfl, b⟩ := pr1 bs
    cases bo_int b
    exact .inl ⟨_, rfl, k _ _ F H g (Ex.refl F) r (.int _)⟩
  · obtain ⟨v, rfl, b⟩ := pr1 bs
    cases bo_bl b
    exact .inr ⟨_, rfl, k _ _ F H g (Ex.refl F) r (.int _)⟩
  · exact g.elim
/-- a list of numbers, of truths -/
def ofInts : List D → Option (List Int)
  | [] => some []
  | .int i :: ds => (ofInts ds).map (i :: ·)
  | _ :: _ => none
theorem ofInts_eq : ∀ {ds : List D} {ns : List Int}, ofInts ds = some ns → ds = ns.map PyData.int
  | [], ns, h => by cases h; rfl
  | .int i :: ds, ns, h => by
    unfold ofInts at h
    cases e : ofInts ds with
    | none => (rw [e] at h; cases h)
    | some ms =>
      rw [e] at h
      cases h
      rw [ofInts_eq e]
      rfl
  | .none :: _, _, h => nomatch h
  | .bool _ :: _, _, h => nomatch h
  | .str _ :: _, _, h => nomatch h
  | .list _ :: _, _, h => nomatch h
  | .tuple _ :: _, _, h => nomatch h
  | .dict _ :: _, _, h => nomatch h
theorem ofInts_map : ∀ (ns : List Int), ofInts (ns.map PyData.int) = some ns
  | [] => rfl
  | n :: ns => by
    show (ofInts (ns.map PyData.int)).map (n :: ·) = some (n :: ns)
    rw [ofInts_map ns]
    rfl
def ofBools : List D → Option (List Bool)
  | [] => some []
  | .bool i :: ds => (ofBools ds).map (i :: ·)
  | _ :: _ => none
theorem ofBools_eq : ∀ {ds : List D} {ns : List Bool}, ofBools ds = some ns → ds = ns.map PyData.bool
  | [], ns, h => by cases h; rfl
  | .bool i :: ds, ns, h => by
    unfold ofBools at h
    cases e : ofBools ds with
    | none => (rw [e] at h; cases h)
    | some ms =>
      rw [e] at h
      cases h
      rw [ofBools_eq e]
      rfl
  | .none :: _, _, h => nomatch h
  | .int _ :: _, _, h => nomatch h
  | .str _ :: _, _, h => nomatch h
  | .list _ :: _, _, h => nomatch h
  | .tuple _ :: _, _, h => nomatch h
  | .dict _ :: _, _, h => nomatch h
/-- a built-in over one list of numbers -/
def gIL (k : List Int → (D → Prop) → Prop) : GC := fun ds P => match ds with
  | [.list xs] => ∃ ns, ofInts xs = some ns ∧ k ns P
  | _ => False
theorem gil_use {k0 : List Int → (D → Prop) → Prop} {F H : Hp} {σ : L2.St} {ρ : Env} {xx : XX} {ds : List D} {vs : List V} {P : D → Prop} (r : Rel c F H σ ρ xx) (bs : Paired (Bo c F H) vs ds) (g : gIL k0 ds P) : ∃ a ns, vs = [V.ref a] ∧ SqL c.K H a (ns.map V.int) ∧ k0 ns P := by
  unfold gIL at g
  split at g
  · obtain ⟨v, rfl, b⟩ := pr1 bs
    obtain ⟨ns, hn, g⟩ := g
    obtain ⟨a, ys, rfl, s1, t1⟩ := bo_lst r.w.fh b
    rw [ofInts_eq hn] at t1
    rw [t1.ints] at s1
    exact ⟨a, ns, rfl, s1, g⟩
  · exact g.elim
def gMin : GC := fun ds P => match ds with
  | [.int i, .int j] => P (.int (min i j))
  | ds => gIL (fun ns P => ns ≠ [] ∧ ∀ m, m ∈ ns → (∀ y, y ∈ ns → m ≤ y) → P (.int m)) ds P
theorem sem_min (hK : X.K = c.K) (hc : X.calm = true) : SemC X c (.builtin "min") gMin :=
  ⟨_, CallR.or (call_min2 hc) (cr_min hc), fun F H σ ρ xx ds vs P Q r bs g k => by
    unfold gMin at g
    split at g
    · obtain ⟨v, u, rfl, b1, b2⟩ := pr2 bs
      cases bo_int b1; cases bo_int b2
      rename_i i j
      refine .inl ⟨i, j, rfl, ?_⟩
      have e : (if j < i then j else i) = min i j := by split <;> omega
      rw [e]
      exact k _ _ F H g (Ex.refl F) r (.int _)
    · obtain ⟨a, ns, rfl, s1, hne, g⟩ := gil_use r bs g
      exact .inr ⟨a, ns, rfl, by rw [hK]; exact s1, List.length_pos_iff.mpr hne, fun m h1 h2 => k _ _ F H (g m h1 h2) (Ex.refl F) r (.int _)⟩⟩
def gAll : GC := fun ds P => match ds with
  | [.list xs] => ∃ ns, ofBools xs = some ns ∧ P (.bool (ns.all id))
  | _ => False
theorem sem_all (hK : X.K = c.K) (hc : X.calm = true) : SemC X c (.builtin "all") gAll :=
  ⟨_, cr_all hc, fun F H σ ρ xx ds vs P Q r bs g k => by
    unfold gAll at g
    split at g
    · obtain ⟨v, rfl, b⟩ := pr1 bs
      obtain ⟨ns, hn, g⟩ := g
      obtain ⟨a, ys, rfl, s1, t1⟩ := bo_lst r.w.fh b
      rw [ofBools_eq hn] at t1
      rw [t1.bools] at s1
      exact ⟨a, ns, rfl, by rw [hK]; exact s1, k _ _ F H g (Ex.refl F) r (.bl _)⟩
    · exact g.elim⟩
def gSorted : GC := gIL fun ns P => ∀ ns' : List Int, ns'.Perm ns → ns'.Pairwise (· ≤ ·) → P (.list (ns'.map PyData.int))
theorem sem_sorted (hK : X.K = c.K) : SemC X c (.builtin "sorted") gSorted :=
  ⟨_, cr_sortedI, fun F H σ ρ xx ds vs P Q r bs g k => by
    obtain ⟨a, ns, rfl, s1, g⟩ := gil_use r bs g
    refine ⟨a, ns, rfl, by rw [hK]; exact s1, fun ns' p h1 h2 hp => ?_⟩
    exact k _ _ _ _ (g ns' h1 h2) (r.efF _ hp) (r.newF _ hp) (.lst (.inl (.inl upd_same)) ((AtAll.ofInts ns').mono (Ex.refl _)))⟩
def gTuple : GC := fun ds P => match ds with
  | [.list xs] => P (.tuple xs)
  | [.tuple xs] => P (.tuple xs)
  | _ => False
theorem sem_tuple (hK : X.K = c.K) : SemC X c (.type "tuple") gTuple := by
  refine ⟨_, call_tuple_of, fun F H σ ρ xx ds vs P Q r bs g k => ?_⟩
  unfold gTuple at g
  split at g
  · obtain ⟨v, rfl, b⟩ := pr1 bs
    obtain ⟨a, ys, rfl, s1, t1⟩ := bo_lst r.w.fh b
    exact ⟨a, ys, rfl, .inl ⟨by rw [hK]; exact s1, fun q hq => k _ _ _ _ g (r.efF _ hq) (r.newF _ hq) (.tup (.inl (.inl upd_same)) (t1.mono (r.efF _ hq)))⟩⟩
  · obtain ⟨v, rfl, b⟩ := pr1 bs
    obtain ⟨a, ys, rfl, f1, s1, t1⟩ := bo_tup r.w.fh b
    exact ⟨a, ys, rfl, .inr ⟨by rw [hK]; exact s1, k _ _ F H g (Ex.refl F) r (.tup f1 t1)⟩⟩
  · exact g.elim
def gOrd : GC := fun ds P => match ds with
  | [.str s] => s.length = 1 ∧ P (.int (s.cps.getD 0 0 : Nat))
  | _ => False
theorem sem_ord : SemC X c (.builtin "ord") gOrd := by
  refine ⟨_, call_ord, fun F H σ ρ xx ds vs P Q r bs g k => ?_⟩
  unfold gOrd at g
  split at g
  · obtain ⟨v, rfl, b⟩ := pr1 bs
    cases bo_str b
    exact ⟨_, rfl, g.1, k _ _ F H g.2 (Ex.refl F) r (.int _)⟩
  · exact g.elim
end
end DL
namespace DL
open PySem L2
structure DE where
  nx : Env → Prop
  rt : D → Env → Prop
  bk : Env → Prop
  ct : Env → Prop
abbrev SM := DE → Env → Prop
def tS (c : Cn) (g : SM) : TS := fun Z σ H => ∃ F ρ xx E, Rel c F H σ ρ xx ∧ g E ρ ∧ (∀ ρ' σ' F' H', E.nx ρ' → Ex F F' → Rel c F' H' σ' ρ' xx → Z.nx σ' H') ∧ (∀ d v ρ' σ' F' H', E.rt d ρ' → Rel c F' H' σ' ρ' xx → At c.K F' v d → Z.rt v H') ∧
  (∀ ρ' σ' F' H', E.bk ρ' → Ex F F' → Rel c F' H' σ' ρ' xx → Z.bk σ' H') ∧ (∀ ρ' σ' F' H', E.ct ρ' → Ex F F' → Rel c F' H' σ' ρ' xx → Z.ct σ' H')
theorem PS.to {X : Cx} {st : Stmt} {t t' : TS} (h : PS X st t) (w : ∀ Z σ H, t' Z σ H → t Z σ H) : PS X st t' := ⟨fun pins s σ H Z I q => h.run pins s σ H Z I (w Z σ H q)⟩
theorem PSs.to {X : Cx} {st : List Stmt} {t t' : TS} (h : PSs X st t) (w : ∀ Z σ H, t' Z σ H → t Z σ H) : PSs X st t' := ⟨fun pins s σ H Z I q => h.run pins s σ H Z I (w Z σ H q)⟩
section
variable {X : Cx} {c : Cn} {st : Stmt} {rest : List Stmt} {e : Expr} {pos : Pos}
def sSeq (g h : SM) : SM := fun E ρ => g { E with nx := h E } ρ
def sNo : SM := fun E ρ => E.nx ρ
theorem ds_cons {g h : SM} (h1 : PS X st (tS c g)) (h2 : PSs X rest (tS c h)) : PSs X (st :: rest) (tS c (sSeq g h)) :=
  PSs.to (pss_cons h1 h2) fun Z σ H ⟨F, ρ, xx, E, rel, q, n, r, b, t⟩ => ⟨F, ρ, xx, _, rel, q, fun ρ' σ' F' H' p e rel' => ⟨F', ρ', xx, E, rel', p, fun ρ2 σ2 F2 H2 p2 e2 => n ρ2 σ2 F2 H2 p2 (e.trans e2), r,
    fun ρ2 σ2 F2 H2 p2 e2 => b ρ2 σ2 F2 H2 p2 (e.trans e2), fun ρ2 σ2 F2 H2 p2 e2 => t ρ2 σ2 F2 H2 p2 (e.trans e2)⟩, r, b, t⟩
theorem ds_one {g : SM} (h1 : PS X st (tS c g)) : PSs X [st] (tS c g) := pss_one h1
theorem ds_nil : PSs X [] (tS c sNo) := PSs.to pss_nil fun Z σ H ⟨F, ρ, xx, E, rel, q, n, r, b, t⟩ => n ρ σ F H q (Ex.refl F) rel
def sNever : SM := fun _ _ => False
theorem ds_never : PSs X rest (tS c sNever) := PSs.to pss_never fun Z σ H ⟨F, ρ, xx, E, rel, q, n, r, b, t⟩ => q.elim
def sRet (f : DM) : SM := fun E ρ => f ρ fun d ρ1 => E.rt d ρ1
theorem dp_ret {f : DM} (h : PE X e (tD c f)) : PS X (.Return (some e) pos) (tS c (sRet f)) :=
  PS.to (ps_ret h) fun Z σ H ⟨F, ρ, xx, E, rel, q, n, r, b, t⟩ => ⟨F, ρ, xx, _, rel, q, fun d ρ' v F' H' p e r' a => r d v ρ' σ F' H' p r' a⟩
def sRetN : SM := fun E ρ => E.rt .none ρ
def sIf (t : BM) (g h : SM) : SM := fun E ρ => t ρ fun b ρ1 => if b = true then g E ρ1 else h E ρ1
theorem dp_if {t : BM} {a b : List Stmt} {g h : SM} (hc : PT X e (tT c t)) (ha : PSs X a (tS c g)) (hb : PSs X b (tS c h)) : PS X (.If e a b pos) (tS c (sIf t g h)) :=
  PS.to (ps_if hc ha hb) fun Z σ H ⟨F, ρ, xx, E, rel, q, n, r, b, t⟩ => ⟨F, ρ, xx, _, rel, q, fun d ρ1 F1 H1 q1 e1 r1 => by
    have go : ∀ {g : SM}, g E ρ1 → tS c g Z σ H1 := fun q => ⟨F1, ρ1, xx, E, r1, q, fun ρ2 σ2 F2 H2 p2 e2 => n ρ2 σ2 F2 H2 p2 (e1.trans e2), r,
      fun ρ2 σ2 F2 H2 p2 e2 => b ρ2 σ2 F2 H2 p2 (e1.trans e2), fun ρ2 σ2 F2 H2 p2 e2 => t ρ2 σ2 F2 H2 p2 (e1.trans e2)⟩
    cases d with
    | true => exact go q1
    | false => exact go q1⟩
def sExpr (f : DM) : SM := fun E ρ => f ρ fun _ ρ1 => E.nx ρ1
theorem dp_expr {f : DM} (h : PE X e (tD c f)) (hs : swapsWith e none pos.line X.env = pure false := by rfl) : PS X (.Expr e pos) (tS c (sExpr f)) :=
  PS.to (ps_expr h hs) fun Z σ H ⟨F, ρ, xx, E, rel, q, n, r, b, t⟩ => ⟨F, ρ, xx, _, rel, q, fun d ρ' v F' H' p e r' a => n ρ' σ F' H' p e r'⟩
abbrev TM := D → Env → (Env → Prop) → Prop
def Only (js : List Nat) (σ σ' : L2.St) : Prop := ∀ vs : List Nat, (∀ j ∈ js, j ∈ vs) → wipe σ' vs = wipe σ vs
def tG (c : Cn) (js : List Nat) (t : TM) : TG := fun v σ H Q => ∃ F ρ xx d P, Rel c F H σ ρ xx ∧ At c.K F v d ∧ t d ρ P ∧ ∀ ρ' σ' F' H', P ρ' → Only js σ σ' → Ex F F' → Rel c F' H' σ' ρ' xx → Q σ' H'
abbrev TMs := List D → Env → (Env → Prop) → Prop
def tGs (c : Cn) (js : List Nat) (t : TMs) : TGs := fun vs σ H Q => ∃ F ρ xx ds P, Rel c F H σ ρ xx ∧ AtAll c.K F vs ds ∧ t ds ρ P ∧ ∀ ρ' σ' F' H', P ρ' → Only js σ σ' → Ex F F' → Rel c F' H' σ' ρ' xx → Q σ' H'
theorem PG.to {tg : Expr} {t t' : TG} (h : PG X tg t) (w : ∀ v σ H Q, t' v σ H Q → t v σ H Q) : PG X tg t' := ⟨fun pins s σ H v u Q I r q => h.run pins s σ H v u Q I r (w v σ H Q q)⟩
theorem PGs.to {ts : List Expr} {t t' : TGs} (h : PGs X ts t) (w : ∀ v σ H Q, t' v σ H Q → t v σ H Q) : PGs X ts t' := ⟨fun pins s σ H v u Q I r q => h.run pins s σ H v u Q I r (w v σ H Q q)⟩
theorem only_set (i : Nat) (σ : L2.St) (v : V) : Only [i] σ (σ.set i (some v)) := fun vs h => by
  have hi : i ∈ vs := h i (List.mem_singleton.mpr rfl)
  clear h
  induction vs with
  | nil => cases hi
  | cons w ws ih =>
    show (wipe (σ.set i (some v)) ws).set w none = (wipe σ ws).set w none
    by_cases hw : i ∈ ws
    · rw [ih hw]
    · have e : w = i := by
        rcases List.mem_cons.mp hi with h | h
        · exact h.symm
        · exact absurd h hw
      subst e
      have z : ∀ ws : List Nat, wipe (σ.set w (some v)) ws = (wipe σ ws).set w (some v) ∨ w ∈ ws := fun ws => by
        induction ws with
        | nil => exact .inl rfl
        | cons y ys ih2 =>
          by_cases h1 : w = y
          · exact .inr (by rw [h1]; exact List.mem_cons_self ..)
          · rcases ih2 with h2 | h2
            · left
              show (wipe (σ.set w (some v)) ys).set y none = ((wipe σ ys).set y none).set w (some v)
              rw [h2, List.set_comm _ _ h1]
            · exact .inr (List.mem_cons_of_mem _ h2)
      rcases z ws with h2 | h2
      · rw [h2, List.set_set]
      · exact absurd h2 hw
theorem Only.trans {js ks : List Nat} {σ σ' σ'' : L2.St} (a : Only js σ σ') (b : Only ks σ' σ'') : Only (js ++ ks) σ σ'' := fun vs h =>
  (b vs fun j hj => h j (List.mem_append_right _ hj)).trans (a vs fun j hj => h j (List.mem_append_left _ hj))
def gN (i : Nat) : TM := fun d ρ P => P (ρ.set i (.im d))
theorem dg_name {i : Nat} {x : Str} (hN : X.N.Nodup) (hi : X.N[i]? = some x) (hx : Loc X.env.scope x) (hf : X.fn x = true ∨ X.env.scope.names.lookup x = some .local := by first | exact .inl rfl | exact .inr rfl | assumption) : PG X (.Name x pos) (tG c [i] (gN i)) :=
  PG.to (pg_name hN hi hx hf) fun v σ H Q ⟨F, ρ, xx, d, P, rel, a, q, k⟩ => k _ _ F H q (only_set i σ v) (Ex.refl F) (rel.putI i a)
def gNoT : TMs := fun ds ρ P => ds = [] ∧ P ρ
def gConsT (t : TM) (u : TMs) : TMs := fun ds ρ P => match ds with
  | d :: ds => t d ρ fun ρ1 => u ds ρ1 P
  | [] => False
theorem dgs_nil : PGs X [] (tGs c [] gNoT) := PGs.to pgs_nil fun v σ H Q ⟨F, ρ, xx, ds, P, rel, a, ⟨e, q⟩, k⟩ => by
  subst e
  cases a
  exact ⟨rfl, k _ _ F H q (fun _ _ => rfl) (Ex.refl F) rel⟩
theorem dgs_cons {tg : Expr} {ts : List Expr} {js ks : List Nat} {t : TM} {u : TMs} (h1 : PG X tg (tG c js t)) (h2 : PGs X ts (tGs c ks u))
    (hs : (assignEach (tg :: ts) X.env).map (·.2) = assign tg X.env :: (assignEach ts X.env).map (·.2) := by rfl) : PGs X (tg :: ts) (tGs c (js ++ ks) (gConsT t u)) :=
  PGs.to (pgs_cons h1 h2 hs) fun v σ H Q ⟨F, ρ, xx, ds, P, rel, a, q, k⟩ => by
    cases a with
    | nil => exact False.elim q
    | cons a1 a2 => exact ⟨_, _, rfl, F, ρ, xx, _, _, rel, a1, q, fun ρ1 σ1 F1 H1 q1 o1 e1 r1 => ⟨F1, ρ1, xx, _, P, r1, a2.mono e1, q1, fun ρ2 σ2 F2 H2 q2 o2 e2 r2 => k ρ2 σ2 F2 H2 q2 (o1.trans o2) (e1.trans e2) r2⟩⟩
def gTupT (n : Nat) (t : TMs) : TM := fun d ρ P => match d with
  | .tuple ds => ds.length = n ∧ t ds ρ P
  | _ => False
theorem dg_tup {es : List Expr} {k : Nat} {js : List Nat} {t : TMs} {n : Nat} (hK : X.K = c.K) (hc : X.calm = true) (h : PGs X es (tGs c js t))
    (hn : (assignEach es X.env).length = n := by rfl) (hst : (assignEach es X.env).findIdx? (·.1) = none := by rfl) : PG X (.Tuple es k pos) (tG c js (gTupT n t)) :=
  PG.to (pg_tup hc h hn hst) fun v σ H Q ⟨F, ρ, xx, d, P, rel, a, q, k⟩ => by
    cases a with
    | tup s1 a1 => exact ⟨_, _, rfl, by rw [hK]; exact rel.w.fh.st s1, by rw [a1.length]; exact q.1, F, ρ, xx, _, P, rel, a1, q.2, k⟩
    | _ => exact False.elim q
def sAsg (f : DM) (t : TM) : SM := fun E ρ => f ρ fun d ρ1 => t d ρ1 E.nx
theorem dp_asg {tg : Expr} {f : DM} {js : List Nat} {t : TM} (he : PE X e (tD c f)) (hg : PG X tg (tG c js t)) (hs : swapsWithSole [tg] e pos.line X.env = pure false := by rfl) (hw : swappedStores [tg] e X.env = pure none := by rfl)
    (h1 : (assignEach [tg] X.env).map (·.2) = [assign tg X.env] := by rfl) : PS X (.Assign [tg] e pos) (tS c (sAsg f t)) :=
  PS.to (ps_asg he hg hs hw h1) fun Z σ H ⟨F, ρ, xx, E, rel, q, n, r, b, t⟩ => ⟨F, ρ, xx, _, rel, q, fun d ρ' v F' H' p e r' a => ⟨F', ρ', xx, d, _, r', a, p, fun ρ2 σ2 F2 H2 p2 _ e2 r2 => n ρ2 σ2 F2 H2 p2 (e.trans e2) r2⟩⟩
def sSet (i : Nat) (f : DM) : SM := fun E ρ => f ρ fun d ρ1 => E.nx (ρ1.set i (.im d))
def sSetN (i : Nat) (f : DM) : SM := fun E ρ => f ρ fun d ρ1 => E.nx (ρ1.set i (.ow d))
theorem set_use {i : Nat} {f : DM} {te : TE} (et : te = tD c f) : ∀ Z σ H, tS c (sSet i f) Z σ H → tAsg te (gName i) Z σ H := by
  subst et
  exact fun Z σ H ⟨F, ρ, xx, E, rel, q, n, r, b, t⟩ => ⟨F, ρ, xx, _, rel, q, fun d ρ' v F' H' p e r' a => n _ _ F' H' p e (r'.putI i a)⟩
theorem setN_use {i : Nat} {f : DM} {te : TE} (et : te = tN c f) : ∀ Z σ H, tS c (sSetN i f) Z σ H → tAsg te (gName i) Z σ H := by
  subst et
  exact fun Z σ H ⟨F, ρ, xx, E, rel, q, n, r, b, t⟩ => ⟨F, ρ, xx, _, rel, q, fun d ρ' v F' H' p e r' a => n _ _ F' H' p e (r'.putO i a)⟩
variable {x : Str} {i : Nat} {pos' : Pos}
theorem dp_set {f : DM} (hN : X.N.Nodup) (hi : X.N[i]? = some x) (hx : Loc X.env.scope x) (he : PE X e (tD c f)) (hs : swapsWith e (some (.Name x pos')) pos.line X.env = pure false := by rfl)
    (hf : X.fn x = true ∨ X.env.scope.names.lookup x = some .local := by first | exact .inl rfl | exact .inr rfl | assumption) : PS X (.Assign [.Name x pos'] e pos) (tS c (sSet i f)) := PS.to (ps_set hN hi hx he hs hf) (set_use rfl)
theorem dp_setN {f : DM} (hN : X.N.Nodup) (hi : X.N[i]? = some x) (hx : Loc X.env.scope x) (he : PE X e (tN c f)) (hs : swapsWith e (some (.Name x pos')) pos.line X.env = pure false := by rfl)
    (hf : X.fn x = true ∨ X.env.scope.names.lookup x = some .local := by first | exact .inl rfl | exact .inr rfl | assumption) : PS X (.Assign [.Name x pos'] e pos) (tS c (sSetN i f)) := PS.to (ps_set hN hi hx he hs hf) (setN_use rfl)
/-- a, b = x, y -/
def sPar (i j : Nat) (f : LM) : SM := fun E ρ => f ρ fun ds ρ1 => match ds with
  | [a, b] => E.nx ((ρ1.set i (.im a)).set j (.im b))
  | _ => False
theorem dp_par {j : Nat} {y : Str} {a b : Expr} {f : LM} {px py pt : Pos} {kt k2 : Nat} {pt2 : Pos} (hc : X.calm = true) (hN : X.N.Nodup) (hi : X.N[i]? = some x) (hj : X.N[j]? = some y) (hij : i ≠ j)
    (hx : X.env.scope.names.lookup x = some .local) (hy : X.env.scope.names.lookup y = some .local) (ha : PA X [a, b] (tL c f))
    (hw : (swappedStores [.Tuple [.Name x px, .Name y py] kt pt] (.Tuple [a, b] k2 pt2) X.env = pure (some [x, y])))
    (hs : swapsWithSole [.Tuple [.Name x px, .Name y py] kt pt] (.Tuple [a, b] k2 pt2) pos.line X.env = pure false
      := by rfl) :
    PS X (.Assign [.Tuple [.Name x px, .Name y py] kt pt] (.Tuple [a, b] k2 pt2) pos) (tS c (sPar i j f)) :=
  PS.to (ps_par hc hN hi hj hij hx hy ha hw hs) fun Z σ H ⟨F, ρ, xx, E, rel, q, n, r, bb, t⟩ => ⟨F, ρ, xx, _, rel, q, fun ds ρ' vs F' H' p e r' a => by
    split at p
    · cases a with
      | cons a1 a2 => cases a2 with
        | cons a2 a3 =>
          cases a3
          exact ⟨_, _, rfl, n _ _ F' H' p e ((r'.putI i a1).putI j a2)⟩
    · exact p.elim⟩
/-- x += e -/
def sAug (i : Nat) (g : G2) (f : HM) : SM := fun E ρ => (match ρ[i]? with
  | some (.im _) => True
  | _ => False) ∧ f ρ fun h ρ1 => match ρ1[i]? with
  | some (.im d) => see ρ1 h fun dy => g d dy fun z => E.nx (ρ1.set i (.im z))
  | _ => False
def ipG (r : R2) : TIp := fun x y H Q => r x y H Q
theorem dp_aug {op : Operator} {g : G2} {f : HM} (hN : X.N.Nodup) (hi : X.N[i]? = some x) (hx : Loc X.env.scope x) (he : PE X e (tH c f)) (hs : Sem2 X c (inplaceOp op) g)
    (hf : X.fn x = true ∨ X.env.scope.names.lookup x = some .local := by first | exact .inl rfl | exact .inr rfl | assumption) : PS X (.AugAssign (.Name x pos') op e pos) (tS c (sAug i g f)) := by
  obtain ⟨r, ho, hr⟩ := hs
  refine PS.to (ps_aug (ti := ipG r) hN hi hx he ho hf) ?_
  rintro Z σ H ⟨F, ρ, xx, E, rel, ⟨q0, q⟩, n, rr, b, t⟩
  split at q0
  · rename_i d e0
    obtain ⟨v, g1, g2⟩ := rel.s.im i d e0
    refine ⟨v, g1, F, ρ, xx, _, rel, q, fun h ρ1 u F1 H1 q1 e1 r1 h1 => ?_⟩
    split at q1
    · rename_i d1 e2
      obtain ⟨v', g1', g2'⟩ := r1.s.im i d1 e2
      rw [g1] at g1'
      cases g1'
      obtain ⟨dy, by_, q1⟩ := see_bo r1 h1 q1
      exact hr F1 H1 σ ρ1 xx d1 dy v u _ _ r1 (.inl g2') by_ q1 fun z w F2 H2 pz ez rz az => n _ _ F2 H2 pz (e1.trans ez) (rz.putI i az)
    · exact q1.elim
  · exact q0.elim
abbrev IM := Env → (List D → Env → Prop) → Prop
def ItOk (c : Cn) (J : It) (ds : List D) (F : Hp) : Prop := ∀ (i : Nat) (F' H : Hp) (σ : L2.St) (ρ : Env) (xx : XX), Ex F F' → Rel c F' H σ ρ xx →
  (∀ d, ds[i]? = some d → J.go i H ∧ ∀ x H', J.yld i H x H' → ∃ F2, Ex F' F2 ∧ Rel c F2 H' σ ρ xx ∧ At c.K F2 x d) ∧ (ds.length = i → J.stop i H)
def tI (c : Cn) (f : IM) : TI := fun σ H R => ∃ F ρ xx P, Rel c F H σ ρ xx ∧ f ρ P ∧ ∀ ds ρ' J F' H', P ds ρ' → Ex F F' → Rel c F' H' σ ρ' xx → ItOk c J ds F' → R J H'
theorem PI.to {tg iter : Expr} {t t' : TI} (h : PI X tg iter t) (w : ∀ σ H Q, t' σ H Q → t σ H Q) : PI X tg iter t' := ⟨fun pins s σ H Q I q => h.run pins s σ H Q I (w σ H Q q)⟩
def forL (t : TM) (body : SM) (E : DE) : List D → Env → Prop
  | [], ρ => E.nx ρ
  | d :: ds, ρ => t d ρ fun ρ1 => body ⟨forL t body E ds, E.rt, E.nx, forL t body E ds⟩ ρ1
def sFor (f : IM) (t : TM) (body : SM) : SM := fun E ρ => f ρ fun ds ρ1 => forL t body E ds ρ1
theorem dp_for {tg iter : Expr} {body : List Stmt} {f : IM} {js : List Nat} {t : TM} {g : SM} (hp : PassesOwn (model X.prog X.w) X.A X.env X.xe) (hc : X.calm = true) (hi : PI X tg iter (tI c f)) (hg : PG X tg (tG c js t)) (hb : PSs X body (tS c g))
    (hs : ∀ x, foldedSetIterable iter X.env x = pure x := by intro _; rfl) : PS X (.For tg iter body [] pos) (tS c (sFor f t g)) := by
  refine PS.to (ps_for hp hc hi hg hb hs) ?_
  rintro Z σ H ⟨F, ρ, xx, E, rel, q, n, r, b, ct⟩
  refine ⟨F, ρ, xx, _, rel, q, fun ds ρ1 J F1 H1 q1 e1 r1 ok => ?_⟩
  refine ⟨fun i m σ' H' => ∃ F' ρ', Ex F1 F' ∧ Rel c F' H' σ' ρ' xx ∧ m = ds.length - i ∧ i ≤ ds.length ∧ forL t g E (ds.drop i) ρ', ⟨ds.length, F1, ρ1, Ex.refl F1, r1, by omega, Nat.zero_le _, by rw [List.drop_zero]; exact q1⟩, ?_⟩
  rintro i m σ' H' ⟨F', ρ', e2, r2, rfl, hi, q2⟩
  obtain ⟨o1, o2⟩ := ok i F' H' σ' ρ' xx e2 r2
  by_cases hlt : i < ds.length
  · have hd : ds[i]? = some ds[i] := List.getElem?_eq_getElem hlt
    obtain ⟨go, yl⟩ := o1 _ hd
    rw [List.drop_eq_getElem_cons hlt] at q2
    have q2 : t ds[i] ρ' fun ρ1 => g ⟨forL t g E (ds.drop (i + 1)), E.rt, E.nx, forL t g E (ds.drop (i + 1))⟩ ρ1 := q2
    refine .inr ⟨go, fun σ2 H2 => ∃ F2 ρ2, Ex F1 F2 ∧ Rel c F2 H2 σ2 ρ2 xx ∧ forL t g E (ds.drop (i + 1)) ρ2, fun σ2 H2 ⟨F2, ρ2, a1, a2, a3⟩ => ⟨ds.length - (i + 1), by omega, F2, ρ2, a1, a2, rfl, by omega, a3⟩, fun v H2 y => ?_⟩
    obtain ⟨F2, e3, r3, a3⟩ := yl v H2 y
    refine ⟨F2, ρ', xx, _, _, r3, a3, q2, fun ρ4 σ4 F4 H4 q4 _ e4 r4 => ?_⟩
    exact ⟨F4, ρ4, xx, _, r4, q4, fun ρ5 σ5 F5 H5 q5 e5 r5 => ⟨F5, ρ5, ((e2.trans e3).trans e4).trans e5, r5, q5⟩, r, fun ρ5 σ5 F5 H5 q5 e5 r5 => n ρ5 σ5 F5 H5 q5 ((((e1.trans e2).trans e3).trans e4).trans e5) r5, fun ρ5 σ5 F5 H5 q5 e5 r5 => ⟨F5, ρ5, ((e2.trans e3).trans e4).trans e5, r5, q5⟩⟩
  · have e : i = ds.length := by omega
    subst e
    rw [List.drop_length] at q2
    exact .inl ⟨o2 rfl, n ρ' σ' F' H' q2 (e1.trans e2) r2⟩
theorem itOk_list {a : Addr} {F : Hp} {ds : List D} {ys : List V} {K : PySem.W.Frag} (hK : K = c.K) (s : SqL c.K F a ys) (t : AtAll c.K F ys ds) : ItOk c (Itl K a) ds F := by
  subst hK
  intro i F' H σ ρ xx e r
  have sq := r.w.fh.sl (e.sl s)
  refine ⟨fun d hd => ?_, fun hl => ⟨ys, sq, by rw [t.length]; exact Nat.le_of_eq hl⟩⟩
  obtain ⟨v, hv, av⟩ := t.get hd
  refine ⟨⟨ys, v, sq, hv⟩, fun x H' ⟨eh, y⟩ => ?_⟩
  subst eh
  have := y ys sq
  rw [hv] at this
  cases this
  exact ⟨F', Ex.refl _, r, av.mono e⟩
theorem itOk_tup {a : Addr} {F : Hp} {ds : List D} {ys : List V} {K : PySem.W.Frag} (hK : K = c.K) (s : SqT c.K F a ys) (t : AtAll c.K F ys ds) : ItOk c (Itt K a) ds F := by
  subst hK
  intro i F' H σ ρ xx e r
  have sq := r.w.fh.st (e.st s)
  refine ⟨fun d hd => ?_, fun hl => ⟨ys, sq, by rw [t.length]; exact Nat.le_of_eq hl⟩⟩
  obtain ⟨v, hv, av⟩ := t.get hd
  refine ⟨⟨ys, v, sq, hv⟩, fun x H' ⟨eh, y⟩ => ?_⟩
  subst eh
  have := y ys sq
  rw [hv] at this
  cases this
  exact ⟨F', Ex.refl _, r, av.mono e⟩
/-- an iterator over a list, a tuple, a text: by what the value is -/
def iAny (K : PySem.W.Frag) (tl : TE) : TI := fun σ H R => tl σ H fun x H1 => (∃ a, x = .ref a ∧ (((∃ xs, SqL K H1 a xs) ∧ R (Itl K a) H1) ∨ ((∃ xs, SqT K H1 a xs) ∧ R (Itt K a) H1))) ∨ ∃ z, x = .str z ∧ R (Its z) H1
theorem pi_any {tg l : Expr} {tl : TE} (hl : PE X l tl) : PI X tg l (iAny X.K tl) := by
  (refine ⟨fun pins s σ H R I h => ?_⟩)
  refine thn (hl.run pins s σ H _ I h) fun v s1 ⟨x, H1, I1, r1, q⟩ => ?_
  have fin : ∀ b, b ∈ [s1.heap.objs.size] → FpOk X pins H1 b := fun b hb => by
    obtain rfl := List.mem_singleton.mp hb
    (exact I1.fpOk (Nat.le_refl _) (I1.hok.fresh (Nat.le_refl _)))
  rcases q with ⟨a, ex, q⟩ | ⟨z, ex, q⟩
  · subst ex
    cases r1
    rcases q with ⟨⟨xs, hs⟩, q⟩ | ⟨⟨xs, hs⟩, q⟩
    · obtain ⟨its, rv, pl, hz⟩ := I1.list hs
      exact wpAny_pyIter_list pl.isList ⟨_, [s1.heap.objs.size], _, _, H1, rfl, I1.kept (t' := s1.toks) fun b o q => Heap.get?_push_of_some _ q, turn_list a _,
        ⟨_, Heap.get?_push_size _ rfl, rfl, rfl⟩, fin, q⟩
    · obtain ⟨its, rv, pl, hz⟩ := I1.tuple hs
      exact wpAny_pyIter_tuple (show s1.heap.IsTuple a its.toArray from pl) ⟨_, [s1.heap.objs.size], _, _, H1, rfl, I1.kept (t' := s1.toks) fun b o q => Heap.get?_push_of_some _ q, turn_tuple a _,
        ⟨_, Heap.get?_push_size _ rfl, rfl, rfl⟩, fin, q⟩
  · subst ex
    obtain ⟨t, rfl⟩ := r1
    cases ha : z.cps.all (· < 128)
    · exact wpAny_pyIter_wide ha (pi_one (tk := s1.toks) I1 _ (turn_str _ z t "str_iterator" (.inr rfl)) ⟨_, Heap.get?_push_size _ rfl, rfl, rfl⟩ q)
    · exact wpAny_pyIter_ascii ha (pi_one (tk := s1.toks) I1 _ (turn_str _ z t "str_ascii_iterator" (.inl rfl)) ⟨_, Heap.get?_push_size _ rfl, rfl, rfl⟩ q)
def signs (z : Str) : List D := z.cps.toList.map fun n => .str ⟨#[n]⟩
theorem itOk_str {z : Str} {F : Hp} : ItOk c (Its z) (signs z) F := by
  intro i F' H σ ρ xx e r
  refine ⟨fun d hd => ?_, fun hl => ?_⟩
  · unfold signs at hd
    rw [List.getElem?_map] at hd
    cases hn : z.cps.toList[i]? with
    | none => rw [hn] at hd; cases hd
    | some n =>
      rw [hn] at hd
      cases hd
      have hi : z.cps[i]? = some n := by simpa using hn
      refine ⟨?_, fun x H' ⟨eh, m, y, ev⟩ => ?_⟩
      · have := (Array.getElem?_eq_some_iff.mp hi).1
        exact this
      · subst eh ev
        rw [hi] at y
        cases y
        exact ⟨F', Ex.refl _, r, .str _⟩
  · unfold signs at hl
    rw [List.length_map, Array.length_toList] at hl
    exact Nat.le_of_eq hl
def iSeq (f : DM) : IM := fun ρ P => f ρ fun d ρ1 => match d with
  | .list ds => P ds ρ1
  | .tuple ds => P ds ρ1
  | .str z => P (signs z) ρ1
  | _ => False
theorem di_seq {tg l : Expr} {f : DM} (hK : X.K = c.K) (hl : PE X l (tD c f)) : PI X tg l (tI c (iSeq f)) := by
  refine PI.to (pi_any hl) ?_
  rintro σ H R ⟨F, ρ, xx, P, rel, q, k⟩
  refine ⟨F, ρ, xx, _, rel, q, fun d ρ1 v F1 H1 q1 e1 r1 a1 => ?_⟩
  split at q1
  · cases a1 with
    | lst s1 t1 => exact .inl ⟨_, rfl, .inl ⟨⟨_, by rw [hK]; exact r1.w.fh.sl s1⟩, k _ ρ1 _ F1 H1 q1 e1 r1 (itOk_list hK s1 t1)⟩⟩
  · cases a1 with
    | tup s1 t1 => exact .inl ⟨_, rfl, .inr ⟨⟨_, by rw [hK]; exact r1.w.fh.st s1⟩, k _ ρ1 _ F1 H1 q1 e1 r1 (itOk_tup hK s1 t1)⟩⟩
  · cases a1
    exact .inr ⟨_, rfl, k _ ρ1 _ F1 H1 q1 e1 r1 itOk_str⟩
  · exact q1.elim
/-- range(n), range(a, b) -/
def rgD (lo hi : Int) : List D := (List.range (hi - lo).toNat).map fun i => .int (lo + (i : Nat))
theorem itOk_range {lo : Int} {n : Nat} {F : Hp} : ItOk c (Itr lo n) ((List.range n).map fun i => .int (lo + (i : Nat))) F := by
  intro i F' H σ ρ xx e r
  refine ⟨fun d hd => ?_, fun hl => show n ≤ i by simp at hl; omega⟩
  rw [List.getElem?_map] at hd
  cases hn : (List.range n)[i]? with
  | none => rw [hn] at hd; cases hd
  | some j =>
    rw [hn] at hd
    cases hd
    obtain ⟨hi, ej⟩ := List.getElem?_eq_some_iff.mp hn
    rw [List.getElem_range] at ej
    subst ej
    refine ⟨show i < n by simpa using hi, fun x H' ⟨eh, y⟩ => ?_⟩
    subst eh y
    exact ⟨F', Ex.refl _, r, .int _⟩
def iRange1 (f : LM) : IM := fun ρ P => f ρ fun ds ρ1 => match ds with
  | [.int n] => (-(2 ^ 62) ≤ n ∧ n < 2 ^ 62) ∧ P (rgD 0 n) ρ1
  | _ => False
def iRange2 (f : LM) : IM := fun ρ P => f ρ fun ds ρ1 => match ds with
  | [.int a, .int b] => (-(2 ^ 62) ≤ a ∧ a < 2 ^ 62 ∧ -(2 ^ 62) ≤ b ∧ b < 2 ^ 62) ∧ P (rgD a b) ρ1
  | _ => False
theorem di_range1 {tg a : Expr} {f : LM} {p : Pos} (hg : Gl X "range") (hm : X.mg "range" = none) (ha : PA X [a] (tL c f)) (hs : starEach [a] X.env = [(false, eval a X.env)] := by rfl) : PI X tg (.Call (.Name "range" p) [a] [] pos) (tI c (iRange1 f)) := by
  refine PI.to (pi_range1 hg hm ha hs) ?_
  rintro σ H R ⟨F, ρ, xx, P, rel, q, k⟩
  refine ⟨F, ρ, xx, _, rel, q, fun ds ρ1 vs F1 H1 q1 e1 r1 a1 => ?_⟩
  split at q1
  · rename_i n
    cases a1 with
    | cons a b =>
      cases b
      cases a
      have hr : rgD 0 n = (List.range n.toNat).map fun i => PyData.int (0 + (i : Nat)) := by
        unfold rgD
        rw [Int.sub_zero]
      rw [hr] at q1
      exact ⟨n, rfl, q1.1.1, q1.1.2, k _ ρ1 _ F1 H1 q1.2 e1 r1 itOk_range⟩
  · exact q1.elim
theorem di_range2 {tg a b : Expr} {f : LM} {p : Pos} (hg : Gl X "range") (hm : X.mg "range" = none) (ha : PA X [a, b] (tL c f)) (hs : starEach [a, b] X.env = [(false, eval a X.env), (false, eval b X.env)] := by rfl) (hs2 : starEach [b] X.env = [(false, eval b X.env)] := by rfl) :
    PI X tg (.Call (.Name "range" p) [a, b] [] pos) (tI c (iRange2 f)) := by
  refine PI.to (pi_range2 hg hm ha hs hs2) ?_
  rintro σ H R ⟨F, ρ, xx, P, rel, q, k⟩
  refine ⟨F, ρ, xx, _, rel, q, fun ds ρ1 vs F1 H1 q1 e1 r1 a1 => ?_⟩
  split at q1
  · cases a1 with
    | cons a b => cases b with
      | cons b t =>
        cases t
        cases a
        cases b
        exact ⟨_, _, rfl, q1.1, k _ ρ1 _ F1 H1 q1.2 e1 r1 itOk_range⟩
  · exact q1.elim
/-- while -/
def sWhile (t : BM) (body : SM) : SM := fun E ρ => ∃ W : Nat → Env → Prop, (∃ m, W m ρ) ∧ ∀ m ρ, W m ρ → t ρ fun b ρ1 => if b = true then body ⟨fun ρ' => ∃ m', m' < m ∧ W m' ρ', E.rt, E.nx, fun ρ' => ∃ m', m' < m ∧ W m' ρ'⟩ ρ1 else E.nx ρ1
theorem dp_while {t : BM} {body : List Stmt} {g : SM} (hp : PassesOwn (model X.prog X.w) X.A X.env X.xe) (hc : PT X e (tT c t)) (hb : PSs X body (tS c g)) : PS X (.While e body [] pos) (tS c (sWhile t g)) := by
  refine PS.to (ps_while hp hc hb) ?_
  rintro Z σ H ⟨F, ρ, xx, E, rel, ⟨W, ⟨m0, w0⟩, turn⟩, n, r, b, ct⟩
  refine ⟨fun m σ' H' => ∃ F' ρ', Ex F F' ∧ Rel c F' H' σ' ρ' xx ∧ W m ρ', ⟨m0, F, ρ, Ex.refl F, rel, w0⟩, ?_⟩
  rintro m σ' H' ⟨F', ρ', e1, r1, w1⟩
  refine ⟨F', ρ', xx, _, r1, turn m ρ' w1, fun bb ρ2 F2 H2 q2 e2 r2 => ?_⟩
  cases bb with
  | true =>
    refine ⟨fun σ3 H3 => ∃ F3 ρ3, Ex F F3 ∧ Rel c F3 H3 σ3 ρ3 xx ∧ ∃ m', m' < m ∧ W m' ρ3, fun σ3 H3 ⟨F3, ρ3, a1, a2, m', a3, a4⟩ => ⟨m', a3, F3, ρ3, a1, a2, a4⟩, ?_⟩
    exact ⟨F2, ρ2, xx, _, r2, q2, fun ρ3 σ3 F3 H3 q3 e3 r3 => ⟨F3, ρ3, (e1.trans e2).trans e3, r3, q3⟩, r, fun ρ3 σ3 F3 H3 q3 e3 r3 => n ρ3 σ3 F3 H3 q3 ((e1.trans e2).trans e3) r3, fun ρ3 σ3 F3 H3 q3 e3 r3 => ⟨F3, ρ3, (e1.trans e2).trans e3, r3, q3⟩⟩
  | false => exact n ρ2 σ' F2 H2 q2 (e1.trans e2) r2
end
end DL
namespace DL
open PySem L2
section
open PyProof.Rows
variable {prog : Program} {w : PySem.World} {A : Around} {E : Value → Shared → Prop} {s : Shared}
/-- enumerate(v), where iter(v) begins with the object o -/
theorem enum_one {v : Value} {o : Obj} {Z : Heap → Prop} {Q : Value → Shared → Prop} (B : Begins v o Z) (f : Z s.heap)
    (h : ∀ h2 : Heap, h2.get? s.heap.objs.size = some o → IsEnum h2 (s.heap.objs.size + 1) s.heap.objs.size 0 .none → (∀ b z, s.heap.get? b = some z → h2.get? b = some z) → Q (.ref (s.heap.objs.size + 1)) { s with heap := h2 }) :
    wpAny (model prog w) A (call (.type "enumerate") [v]) Q E s := by
  have new : Meets (Builtin.«enumerate.__new__» ⟨[.type "enumerate", v], []⟩) (fun _ R s1 => Z s1.heap ∧ R (.ok (.ret (.ref (s1.heap.push o).objs.size))) { s1 with heap := (s1.heap.push o).push { cls := .type "enumerate", data := .fields #[.none, .bool false, .ref s1.heap.objs.size, rawInt 0, .none, .none] } }) := by
    refine .of_wp fun prog w A R s1 z => ?_
    have begins : ∀ {A' : Around} {E : Value → Shared → Prop} {Q : Value → Shared → Prop}, Q (.ref s1.heap.objs.size) { s1 with heap := s1.heap.push o } → wpAny (model prog w) A' (pyIter v) Q E s1 := fun q => B.iter prog w _ _ s1 _ z.1 q
    have isa := sub_enumerate
    have fin := z.2
    clear z
    cases s1
    wp_walk using begins
    apply wpAny_stack_any
    intro st
    apply wpAny_pure
    split
    case _ c _ _ _ _ _ =>
      rcases c == Value.type "enumerate" with _ | _ <;> (wp_walk using begins) <;> exact ⟨_, rfl, fin⟩
    case _ =>
      wp_walk using begins
      exact ⟨_, rfl, fin⟩
  have at1 : (s.heap.push o).objs.size = s.heap.objs.size + 1 := Heap.size_push ..
  refine callType_new F.called_enumerate (by decide) (F.typeCall_enumerate_1 v) (F.newCall_enumerate_1 v) (F.args_object_init_2 · v) F.entry_enumerate_new new ?_
  rw [at1]
  have made := Heap.get?_push_size (s.heap.push o) (o := { cls := .type "enumerate", data := .fields #[.none, .bool false, .ref s.heap.objs.size, rawInt 0, .none, .none] }) rfl
  rw [at1] at made
  exact ⟨f, ⟨_, made, rfl⟩, h _ (Heap.get?_push_of_some _ (Heap.get?_push_size _ B.free)) made fun b z q => Heap.get?_push_of_some _ (Heap.get?_push_of_some _ q)⟩
/-- where an enumerate over the tuple a stands: e the enumerate, it the tuple's iterator -/
structure EnT (a e it : Addr) (i : Nat) (h : Heap) : Prop where
  en : ∃ old, IsEnum h e it ((i : Nat) : Int) old
  ti : h.IsTupleIter it a i
  e_it : e ≠ it
  a_it : a ≠ it
  a_e : a ≠ e
theorem EnT.move {a e it : Addr} {i : Nat} {h h' : Heap} (x : EnT a e it i h) (ke : ∀ o, h.get? e = some o → h'.get? e = some o) (ki : ∀ o, h.get? it = some o → h'.get? it = some o) : EnT a e it i h' :=
  ⟨x.en.imp fun _ q => ke _ q, x.ti.at ki, x.e_it, x.a_it, x.a_e⟩
/-- its next item, over the heap alone -/
theorem EnT.step {a e it : Addr} {i : Nat} {its : List Value} {u : Value} {R : Shared → Prop} {elts : List Expr} {kk : Nat} {tpos : Pos} (x : EnT a e it i s.heap) (calm : A.in1.handled = none) (p : s.heap.IsTuple a its.toArray) (hu : its[i]? = some u)
    (h : ∀ (h2 : Heap) (tk : Nat), EnT a e it (i + 1) h2 → h2.get? s.heap.objs.size = some { cls := .type "tuple", data := .seq #[.int i tk, u] } → (∀ b o, b ≠ e → b ≠ it → s.heap.get? b = some o → h2.get? b = some o) → R { s with heap := h2, toks := tk + 1 }) :
    wpAny (model prog w) A (pyNext (.ref e)) (fun r s1 => r = some (.ref s.heap.objs.size) ∧ wpAny (model prog w) A (letOwnedTupleGo (.Tuple elts kk tpos) (.ref e) (.ref s.heap.objs.size)) (fun _ s2 => R s2) E s1) E s := by
  obtain ⟨⟨old, en⟩, ti, n1, n2, n3⟩ := x
  have new : s.heap.objs.size ≠ e := Nat.ne_of_gt (Heap.lt_size en)
  have few : i < its.toArray.size := (List.getElem?_eq_some_iff.mp hu).1
  refine wpAny_pyNext_enum_itemD (Draws.tuple (prog := prog) (w := w) calm it a n2 its.toArray) en ⟨ti, p⟩ few n1 (List.not_mem_cons_of_ne_of_not_mem n1 (List.not_mem_cons_of_ne_of_not_mem (Ne.symm n3) List.not_mem_nil)) ?_
  rintro y h1 tk hy own st1 tup - kept
  have : y = u := Option.some.inj (Eq.trans (by simpa using hy.symm) hu)
  subst this
  refine ⟨rfl, wpAny_letOwnedTupleGo_enum (s := { s with heap := h1, toks := tk + 1 }) own fun h2 en2 sb => h h2 tk ⟨⟨_, by rw [Int.natCast_succ]; exact en2⟩, st1.1.at fun o q => (sb.2 it (Ne.symm n1)).trans q, n1, n2, n3⟩ ((sb.2 _ new).trans tup) ?_⟩
  exact fun b o be bi q => (sb.2 b be).trans (kept b o be bi q)
end
/-- each item of a sequence with its number, in a new pair -/
def numbered (S : Hp → List V → Prop) : It where
  go i H := ∃ xs x, S H xs ∧ xs[i]? = some x
  yld i H v H' := ∃ T x, v = .ref T ∧ H T = none ∧ H' = upd H T (.tup [.int (i : Nat), x]) ∧ ∀ xs, S H xs → xs[i]? = some x
  stop i H := ∃ xs, S H xs ∧ xs.length = i
abbrev IteT (K : PySem.W.Frag) (a : Addr) : It := numbered fun H xs => SqT K H a xs
open PyProof.Rows in
theorem turn_enumT {P : Program} {w : PySem.World} {K : PySem.W.Frag} {elts : List Expr} {kk : Nat} {tpos : Pos} (a e it : Addr) : Turn P w K (.Tuple elts kk tpos) (IteT K a) [e, it] e (EnT a e it) := by
  have two : ∀ {p : Addr → Prop}, p e → p it → ∀ b ∈ [e, it], p b := fun pe pi => List.forall_mem_cons.mpr ⟨pe, List.forall_mem_cons.mpr ⟨pi, fun _ z => nomatch z⟩⟩
  constructor
  · exact List.mem_cons_self
  · rintro i h ⟨⟨old, en⟩, ⟨o, ho, -, hd⟩, -⟩
    exact two ⟨_, en, fun v q => nomatch q⟩ ⟨o, ho, fun v q => by rw [hd] at q; exact nomatch q⟩
  · exact fun i h h' x k => x.move (k e List.mem_cons_self) (k it (List.mem_cons_of_mem _ List.mem_cons_self))
  · rintro X rfl rfl rfl calm i pins s σ H E I away x ⟨xs, y, sq, hy⟩
    obtain ⟨its, rv, p, -⟩ := I.tuple sq
    obtain ⟨u, hu, ru⟩ := rv.get hy
    have le : e < s.heap.objs.size := x.en.elim fun _ q => Heap.lt_size q
    have li : it < s.heap.objs.size := x.ti.elim fun _ q => Heap.lt_size q.1
    refine wpAny_mono (x.step (R := fun s2 => ∃ y' H', Inv X pins σ H' s2 ∧ RelV y' (.ref s.heap.objs.size) ∧ (IteT X.K a).yld i H y' H' ∧ EnT a e it (i + 1) s2.heap ∧ ∀ b ∈ [e, it], H' b = none) (I.ok.hd calm) p hu ?_) (fun r s1 q => ⟨_, q⟩) fun _ _ q => q
    intro h2 tk x2 tup kept
    refine ⟨.ref s.heap.objs.size, upd H s.heap.objs.size (.tup [.int (i : Nat), y]), ?_, rfl, ⟨_, y, rfl, I.hok.fresh (Nat.le_refl _), rfl, fun ys q => by rw [I.tuple_inj q sq]; exact hy⟩, x2, two ?_ ?_⟩
    · refine I.turnedNew (ch := [e, it]) (t' := tk + 1) (fun b ob nb q => kept b ob (fun z => nb (z ▸ List.mem_cons_self)) (fun z => nb (z ▸ List.mem_cons_of_mem _ List.mem_cons_self)) q) away (Nat.le_refl _) ?_
      exact ⟨by show 2 ≤ sizeLine; decide, _, .cons ⟨tk, rfl⟩ (.cons ru .nil), _, tup, rfl, _, rfl⟩
    · exact (upd_ne (Nat.ne_of_lt le)).trans (away e List.mem_cons_self).1
    · exact (upd_ne (Nat.ne_of_lt li)).trans (away it (List.mem_cons_of_mem _ List.mem_cons_self)).1
  · rintro X rfl rfl rfl calm i pins s σ H E I away x ⟨xs, sq, hi⟩
    obtain ⟨its, rv, p, -⟩ := I.tuple sq
    obtain ⟨old, en⟩ := x.en
    have at_end : s.heap.IsTupleIter it a its.toArray.size := by
      have : its.toArray.size = i := by rw [List.size_toArray, ← rv.length, hi]
      rw [this]
      exact x.ti
    obtain ⟨-, f1, f2, f3, f4, f5⟩ := away it (List.mem_cons_of_mem _ List.mem_cons_self)
    have quiet : X.A.in1.handled = none := I.ok.hd calm
    exact wpAny_pyNext_enum_endD (Draws.tuple (prog := X.prog) (w := X.w) quiet it a x.a_it its.toArray) en ⟨at_end, p⟩ fun h2 kept =>
      ⟨rfl, I.turned (t' := s.toks) (fun b o nb q => kept b o nb q) (away it (List.mem_cons_of_mem _ List.mem_cons_self)).1 f1 f3 f4 f5⟩
  · exact fun A i s Q E x q => x.en.elim fun _ en => wpAny_pyIter_enum en q
section
variable {X : Cx} {c : Cn}
/-- enumerate(x), of a list or a tuple -/
def iEnumA (K : PySem.W.Frag) (ta : TA) : TI := fun σ H R => ta σ H fun vs H1 => ∃ a xs, vs = [.ref a] ∧ ((SqL K H1 a xs ∧ R (Ite K a) H1) ∨ (SqT K H1 a xs ∧ R (IteT K a) H1))
open PyProof.Rows in
theorem pi_enumA {e : Expr} {ta : TA} {p pos tpos : Pos} {elts : List Expr} {kk : Nat} (hg : Gl X "enumerate") (hm : X.mg "enumerate" = none) (ha : PA X [e] ta) (hs : starEach [e] X.env = [(false, eval e X.env)] := by rfl) :
    PI X (.Tuple elts kk tpos) (.Call (.Name "enumerate" p) [e] [] pos) (iEnumA X.K ta) := by
  constructor
  intro pins s σ H R I h
  refine Call_ (ld_blt I hg hm boot_enumerate (PyProof.Rows.callWith_type1 (thn (ha.run pos pins s σ H _ I h) ?_) hs rfl))
  rintro us s1 ⟨vs, H1, I1, r1, a, xs, rfl, q⟩
  obtain _ | ⟨r, _ | _⟩ := r1
  cases r
  have new : ∀ b, s1.heap.objs.size ≤ b → FpOk X pins H1 b := fun b le => I1.fpOk le (I1.hok.fresh le)
  have news : ∀ b ∈ [s1.heap.objs.size + 1, s1.heap.objs.size], FpOk X pins H1 b := fun b hb => new b (by
    (simp only [List.mem_cons, List.not_mem_nil, or_false] at hb)
    omega)
  refine q.elim (fun ⟨sq, q⟩ => ?_) fun ⟨sq, q⟩ => ?_
  · obtain ⟨its, -, p1, -⟩ := I1.list sq
    refine enum_one (begins_list a its.toArray) p1.isList fun h2 hi he kept => wpAny_pyIter_enum he ?_
    exact ⟨_, _, _, _, H1, rfl, I1.kept (t' := s1.toks) kept, turn_enum a _ s1.heap.objs.size, ⟨⟨_, he⟩, ⟨_, hi, rfl, rfl⟩, Nat.succ_ne_self _⟩, news, q⟩
  · obtain ⟨its, -, p1, -⟩ := I1.tuple sq
    have lt : a < s1.heap.objs.size := p1.elim fun _ z => Heap.lt_size z.1
    refine enum_one (begins_tuple a its.toArray) p1 fun h2 hi he kept => wpAny_pyIter_enum he ?_
    exact ⟨_, _, _, _, H1, rfl, I1.kept (t' := s1.toks) kept, turn_enumT a _ s1.heap.objs.size, ⟨⟨_, he⟩, ⟨_, hi, rfl, rfl⟩, Nat.succ_ne_self _, Nat.ne_of_lt lt, Nat.ne_of_lt (Nat.lt_succ_of_lt lt)⟩, news, q⟩
def enD (ds : List D) : List D := ds.mapIdx fun i d => .tuple [.int (i : Nat), d]
theorem enD_get {ds : List D} {i : Nat} {d : D} (h : (enD ds)[i]? = some d) : ∃ e, ds[i]? = some e ∧ d = .tuple [.int (i : Nat), e] := by
  unfold enD at h
  rw [List.getElem?_mapIdx] at h
  cases e : ds[i]? with
  | none => (rw [e] at h; cases h)
  | some x => rw [e] at h; cases h; exact ⟨x, rfl, rfl⟩
theorem enD_length (ds : List D) : (enD ds).length = ds.length := by unfold enD; simp
theorem pair_new {F H : Hp} {σ : L2.St} {ρ : Env} {xx : XX} (r : Rel c F H σ ρ xx) {T : Addr} {x y : V} {d e : D} (hT : H T = none) (hx : At c.K F x d) (hy : At c.K F y e) :
    ∃ F2, Ex F F2 ∧ Rel c F2 (upd H T (.tup [x, y])) σ ρ xx ∧ At c.K F2 (.ref T) (.tuple [d, e]) :=
  ⟨_, r.efF _ hT, r.newF _ hT, .tup (.inl (.inl upd_same)) (.cons (hx.mono (r.efF _ hT)) (.cons (hy.mono (r.efF _ hT)) .nil))⟩
theorem itOk_enum {K : PySem.W.Frag} (hK : K = c.K) {a : Addr} {F : Hp} {ds : List D} {ys : List V} (s : SqL c.K F a ys) (t : AtAll c.K F ys ds) : ItOk c (Ite K a) (enD ds) F := by
  subst hK
  intro i F' H σ ρ xx e r
  have sq := r.w.fh.sl (e.sl s)
  refine ⟨fun d hd => ?_, fun hl => ⟨ys, sq, by rw [t.length, ← enD_length]; exact Nat.le_of_eq hl⟩⟩
  obtain ⟨d0, h0, ed⟩ := enD_get hd
  subst ed
  obtain ⟨v, hv, av⟩ := t.get h0
  refine ⟨⟨ys, v, sq, hv⟩, fun x H' ⟨T, y, ex, hT, eh, hy⟩ => ?_⟩
  subst ex eh
  have := hy ys sq
  rw [hv] at this
  cases this
  exact pair_new r hT (.int _) (av.mono e)
theorem itOk_enumT {K : PySem.W.Frag} (hK : K = c.K) {a : Addr} {F : Hp} {ds : List D} {ys : List V} (s : SqT c.K F a ys) (t : AtAll c.K F ys ds) : ItOk c (IteT K a) (enD ds) F := by
  subst hK
  intro i F' H σ ρ xx e r
  have sq := r.w.fh.st (e.st s)
  refine ⟨fun d hd => ?_, fun hl => ⟨ys, sq, by rw [t.length, ← enD_length]; exact hl⟩⟩
  obtain ⟨d0, h0, ed⟩ := enD_get hd
  subst ed
  obtain ⟨v, hv, av⟩ := t.get h0
  refine ⟨⟨ys, v, sq, hv⟩, fun x H' ⟨T, y, ex, hT, eh, hy⟩ => ?_⟩
  subst ex eh
  have := hy ys sq
  rw [hv] at this
  cases this
  exact pair_new r hT (.int _) (av.mono e)
def iEn (f : LM) : IM := fun ρ P => f ρ fun ds ρ1 => match ds with
  | [.list xs] => P (enD xs) ρ1
  | [.tuple xs] => P (enD xs) ρ1
  | _ => False
theorem di_enum {e : Expr} {f : LM} {p pos tpos : Pos} {elts : List Expr} {kk : Nat} (hK : X.K = c.K) (hg : Gl X "enumerate") (hm : X.mg "enumerate" = none) (ha : PA X [e] (tL c f)) (hs : starEach [e] X.env = [(false, eval e X.env)] := by rfl) :
    PI X (.Tuple elts kk tpos) (.Call (.Name "enumerate" p) [e] [] pos) (tI c (iEn f)) := by
  refine PI.to (pi_enumA hg hm ha hs) ?_
  rintro σ H R ⟨F, ρ, xx, P, rel, q, k⟩
  refine ⟨F, ρ, xx, _, rel, q, fun ds ρ1 vs F1 H1 q1 e1 r1 a1 => ?_⟩
  split at q1
  · cases a1 with
    | cons a t =>
      cases t
      cases a with
      | lst s1 t1 => exact ⟨_, _, rfl, .inl ⟨by rw [hK]; exact r1.w.fh.sl s1, k _ ρ1 _ F1 H1 q1 e1 r1 (itOk_enum hK s1 t1)⟩⟩
  · cases a1 with
    | cons a t =>
      cases t
      cases a with
      | tup s1 t1 => exact ⟨_, _, rfl, .inr ⟨by rw [hK]; exact r1.w.fh.st s1, k _ ρ1 _ F1 H1 q1 e1 r1 (itOk_enumT hK s1 t1)⟩⟩
  · exact q1.elim
/-- zip of two lists, of two tuples -/
def zipD (xs ys : List D) : List D := List.zipWith (fun x y => .tuple [x, y]) xs ys
theorem itOk_zip {K : PySem.W.Frag} (hK : K = c.K) {a b : Addr} {F : Hp} {ds es : List D} {xs ys : List V} (s : SqL c.K F a xs) (t : AtAll c.K F xs ds) (s2 : SqL c.K F b ys) (t2 : AtAll c.K F ys es) : ItOk c (Itz K a b) (zipD ds es) F := by
  subst hK
  intro i F' H σ ρ xx e r
  have sq := r.w.fh.sl (e.sl s)
  have sq2 := r.w.fh.sl (e.sl s2)
  have l1 := t.length
  have l2 := t2.length
  refine ⟨fun d hd => ?_, fun hl => ⟨xs, ys, sq, sq2, by unfold zipD at hl; rw [List.length_zipWith] at hl; omega⟩⟩
  unfold zipD at hd
  rw [List.getElem?_zipWith] at hd
  cases h1 : ds[i]? with
  | none => rw [h1] at hd; cases hd
  | some d1 => cases h2 : es[i]? with
    | none => rw [h1, h2] at hd; cases hd
    | some d2 =>
      rw [h1, h2] at hd
      cases hd
      obtain ⟨v, hv, av⟩ := t.get h1
      obtain ⟨u, hu, au⟩ := t2.get h2
      refine ⟨⟨xs, ys, v, u, sq, sq2, hv, hu⟩, fun x H' ⟨T, y, z, ex, hT, eh, hy, hz⟩ => ?_⟩
      subst ex eh
      have q1 := hy xs sq
      have q2 := hz ys sq2
      rw [hv] at q1
      rw [hu] at q2
      cases q1
      cases q2
      exact pair_new r hT (av.mono e) (au.mono e)
theorem itOk_zipT {K : PySem.W.Frag} (hK : K = c.K) {a b : Addr} {F : Hp} {ds es : List D} {xs ys : List V} (s : SqT c.K F a xs) (t : AtAll c.K F xs ds) (s2 : SqT c.K F b ys) (t2 : AtAll c.K F ys es) : ItOk c (RZ.ItzT K a b) (zipD ds es) F := by
  subst hK
  intro i F' H σ ρ xx e r
  have sq := r.w.fh.st (e.st s)
  have sq2 := r.w.fh.st (e.st s2)
  have l1 := t.length
  have l2 := t2.length
  refine ⟨fun d hd => ?_, fun hl => ⟨xs, ys, sq, sq2, by unfold zipD at hl; rw [List.length_zipWith] at hl; omega⟩⟩
  unfold zipD at hd
  rw [List.getElem?_zipWith] at hd
  cases h1 : ds[i]? with
  | none => rw [h1] at hd; cases hd
  | some d1 => cases h2 : es[i]? with
    | none => rw [h1, h2] at hd; cases hd
    | some d2 =>
      rw [h1, h2] at hd
      cases hd
      obtain ⟨v, hv, av⟩ := t.get h1
      obtain ⟨u, hu, au⟩ := t2.get h2
      refine ⟨⟨xs, ys, v, u, sq, sq2, hv, hu⟩, fun x H' ⟨T, y, z, ex, hT, eh, hy, hz⟩ => ?_⟩
      subst ex eh
      have q1 := hy xs sq
      have q2 := hz ys sq2
      rw [hv] at q1
      rw [hu] at q2
      cases q1
      cases q2
      exact pair_new r hT (av.mono e) (au.mono e)
def iZp (f : LM) : IM := fun ρ P => f ρ fun ds ρ1 => match ds with
  | [.list xs, .list ys] => P (zipD xs ys) ρ1
  | [.tuple xs, .tuple ys] => P (zipD xs ys) ρ1
  | _ => False
theorem di_zip {e e2 : Expr} {f : LM} {p pos tpos : Pos} {elts : List Expr} {kk : Nat} (hK : X.K = c.K) (hg : Gl X "zip") (hm : X.mg "zip" = none) (ha : PA X [e, e2] (tL c f)) (hs : starEach [e, e2] X.env = (false, eval e X.env) :: starEach [e2] X.env := by rfl) (hpl : (backTo pos (starEach [e2] X.env)).any (·.1) = false := by rfl) :
    PI X (.Tuple elts kk tpos) (.Call (.Name "zip" p) [e, e2] [] pos) (tI c (iZp f)) := by
  refine PI.to (RZ.pi_zipA hg hm ha hs hpl) ?_
  rintro σ H R ⟨F, ρ, xx, P, rel, q, k⟩
  refine ⟨F, ρ, xx, _, rel, q, fun ds ρ1 vs F1 H1 q1 e1 r1 a1 => ?_⟩
  split at q1
  · cases a1 with
    | cons a t => cases t with
      | cons b t =>
        cases t
        cases a with
        | lst s1 t1 => cases b with
          | lst s2 t2 => exact ⟨_, _, _, _, rfl, .inl ⟨by rw [hK]; exact r1.w.fh.sl s1, by rw [hK]; exact r1.w.fh.sl s2, k _ ρ1 _ F1 H1 q1 e1 r1 (itOk_zip hK s1 t1 s2 t2)⟩⟩
  · cases a1 with
    | cons a t => cases t with
      | cons b t =>
        cases t
        cases a with
        | tup s1 t1 => cases b with
          | tup s2 t2 => exact ⟨_, _, _, _, rfl, .inr ⟨by rw [hK]; exact r1.w.fh.st s1, by rw [hK]; exact r1.w.fh.st s2, k _ ρ1 _ F1 H1 q1 e1 r1 (itOk_zipT hK s1 t1 s2 t2)⟩⟩
  · exact q1.elim
end
end DL
namespace DL
open PySem L2
section
variable {c : Cn}
def wipeE (ρ : Env) : List Nat → Env
  | [] => ρ
  | v :: vs => (wipeE ρ vs).set v .no
def backE (ρ0 : Env) (ρ : Env) : List Nat → Env
  | [] => ρ
  | v :: vs => backE ρ0 (ρ.set v (ρ0.getD v .no)) vs
def plainS : Sl → Bool
  | .no => true
  | .im _ => true
  | _ => false
def okV (ρ : Env) (vs : List Nat) : Prop := vs.Nodup ∧ ∀ j ∈ vs, plainS (ρ.getD j .no) = true
theorem Slots.forget {F H : Hp} {σ : L2.St} {ρ : Env} {xx : XX} (s : Slots c F H σ ρ xx) (i : Nat) : Slots c F H (σ.set i none) (ρ.set i .no) xx := by
  have sg : ∀ {j : Nat}, i ≠ j → (σ.set i none)[j]? = σ[j]? := fun h => by rw [List.getElem?_set, if_neg h]
  refine ⟨by simpa using s.len, fun j d q => ?_, fun j d q => ?_, fun j k d e b q1 q2 s1 s2 => ?_, fun j n q => ?_, ou_set (by intro m z; cases z) s.ou, fun p hp => ⟨(s.ex p hp).1, fun j d q => ?_⟩, s.xd⟩
  · rcases set_lt q with ⟨_, _, e⟩ | ⟨z, q⟩
    · cases e
    · rw [sg z]
      exact s.im j d q
  · rcases set_lt q with ⟨_, _, e⟩ | ⟨z, q⟩
    · cases e
    · rw [sg z]
      exact s.ow j d q
  · rcases set_lt q1 with ⟨_, _, e⟩ | ⟨z, q1⟩
    · cases e
    · rcases set_lt q2 with ⟨_, _, e⟩ | ⟨z2, q2⟩
      · cases e
      · rw [sg z] at s1
        rw [sg z2] at s2
        exact s.dj j k d _ b q1 q2 s1 s2
  · rcases set_lt q with ⟨_, _, e⟩ | ⟨z, q⟩
    · cases e
    · rw [sg z]
      exact s.or j n q
  · rcases set_lt q with ⟨_, _, e⟩ | ⟨z, q⟩
    · cases e
    · rw [sg z]
      exact (s.ex p hp).2 j d q
theorem Rel.wipe {F H : Hp} {σ : L2.St} {ρ : Env} {xx : XX} (r : Rel c F H σ ρ xx) : ∀ vs : List Nat, Rel c F H (wipe σ vs) (wipeE ρ vs) xx
  | [] => r
  | v :: vs => ⟨r.w, (Rel.wipe r vs).s.forget v⟩
/-- a plain slot comes back -/
theorem Slots.recall {F H : Hp} {σ : L2.St} {ρ : Env} {xx : XX} {i : Nat} {x : Sl} (s : Slots c F H (σ.set i none) ρ xx) (hp : plainS x = true) (hx : ∀ d, x = .im d → ∃ v, σ[i]? = some (some v) ∧ At c.K F v d) : Slots c F H σ (ρ.set i x) xx := by
  have sg : ∀ {j : Nat}, i ≠ j → (σ.set i none)[j]? = σ[j]? := fun h => by rw [List.getElem?_set, if_neg h]
  refine ⟨by simpa using s.len, fun j d q => ?_, fun j d q => ?_, fun j k d e b q1 q2 s1 s2 => ?_, fun j n q => ?_, ou_set (by intro m z; subst z; cases hp) s.ou, fun p hpx => ⟨(s.ex p hpx).1, fun j d q => ?_⟩, s.xd⟩
  · rcases set_lt q with ⟨z, _, e⟩ | ⟨z, q⟩
    · rw [← z]
      exact hx d e
    · rw [← sg z]
      exact s.im j d q
  · rcases set_lt q with ⟨_, _, e⟩ | ⟨z, q⟩
    · subst e
      cases hp
    · rw [← sg z]
      exact s.ow j d q
  · rcases set_lt q1 with ⟨_, _, e⟩ | ⟨z, q1⟩
    · subst e
      cases hp
    · rcases set_lt q2 with ⟨_, _, e⟩ | ⟨z2, q2⟩
      · subst e
        cases hp
      · rw [← sg z] at s1
        rw [← sg z2] at s2
        exact s.dj j k d _ b q1 q2 s1 s2
  · rcases set_lt q with ⟨_, _, e⟩ | ⟨z, q⟩
    · subst e
      cases hp
    · rw [← sg z]
      exact s.or j n q
  · rcases set_lt q with ⟨_, _, e⟩ | ⟨z, q⟩
    · subst e
      cases hp
    · rw [← sg z]
      exact (s.ex p hpx).2 j d q
theorem wipe_get {σ : L2.St} {i : Nat} : ∀ {vs : List Nat}, i ∉ vs → (wipe σ vs)[i]? = σ[i]?
  | [], _ => rfl
  | v :: vs, h => by
    show ((wipe σ vs).set v none)[i]? = σ[i]?
    rw [List.getElem?_set, if_neg (fun z => h (by rw [z]; exact List.mem_cons_self ..)), wipe_get (fun z => h (List.mem_cons_of_mem _ z))]
theorem Rel.back {F H F' H' : Hp} {σ : L2.St} {ρ0 : Env} {xx yy : XX} (r0 : Rel c F H σ ρ0 yy) (e : Ex F F') : ∀ (vs : List Nat) (ρ : Env), okV ρ0 vs → Rel c F' H' (L2.wipe σ vs) ρ xx → Rel c F' H' σ (backE ρ0 ρ vs) xx
  | [], ρ, _, r => r
  | v :: vs, ρ, ok, r => by
    obtain ⟨nd, pl⟩ := ok
    rw [List.nodup_cons] at nd
    have hv := pl v (List.mem_cons_self ..)
    refine Rel.back r0 e vs _ ⟨nd.2, fun j hj => pl j (List.mem_cons_of_mem _ hj)⟩ ⟨r.w, Slots.recall (σ := L2.wipe σ vs) r.s hv fun d ed => ?_⟩
    have g : ρ0[v]? = some (.im d) := by
      rw [List.getD_eq_getElem?_getD] at ed
      cases q : ρ0[v]? with
      | none => rw [q] at ed; cases ed
      | some x => rw [q] at ed; exact congrArg some ed
    obtain ⟨u, h1, h2⟩ := r0.s.im v d g
    exact ⟨u, by rw [wipe_get nd.1]; exact h1, h2.mono e⟩
def lcL (t : TM) (b : BM) (f : DM) (vs : List Nat) (K : List D → Env → Prop) : List D → List D → Env → Prop
  | [], acc, ρ => K acc ρ
  | d :: ds, acc, ρ => t d ρ fun ρ1 => b ρ1 fun k ρ2 => if k = true then f ρ2 fun y ρ3 => lcL t b f vs K ds (acc ++ [y]) (wipeE ρ3 vs) else lcL t b f vs K ds acc (wipeE ρ2 vs)
def dLc (i : IM) (t : TM) (b : BM) (f : DM) (vs : List Nat) : DM := fun ρ P => i ρ fun ds ρ1 => ds.length ≤ 1000000 ∧ okV ρ1 vs ∧ lcL t b f vs (fun acc ρ' => P (.list acc) (backE ρ1 ρ' vs)) ds [] (wipeE ρ1 vs)
theorem lc_use {i : IM} {t : TM} {b : BM} {f : DM} {vs js : List Nat} (hj : ∀ j ∈ js, j ∈ vs) {wi : TI} {g : TG} {tt : TT} {te : TE} (e1 : wi = tI c i) (e2 : g = tG c js t) (e3 : tt = tT c b) (e4 : te = tD c f) :
    ∀ σ H Q, tN c (dLc i t b f vs) σ H Q → tLc wi g tt te vs σ H Q := by
  subst e1 e2 e3 e4
  rintro σ H Q ⟨F, ρ, xx, P, rel, q, k⟩
  refine ⟨F, ρ, xx, _, rel, q, fun ds ρ1 J F1 H1 ⟨hlen, hok, q1⟩ e1 r1 ok A hA => ?_⟩
  obtain ⟨rA, frA⟩ := Fresh.new (o := .lst []) (d := .d (.list [])) r1 hA ⟨[], upd_same, .nil⟩
  refine ⟨fun n m H' => ∃ F' ρ' acc, Ex F1 F' ∧ Rel c F' H' (wipe σ vs) ρ' ((A, .d (.list acc)) :: xx) ∧ m = ds.length - n ∧ n ≤ ds.length ∧ acc.length ≤ n ∧ lcL t b f vs (fun acc ρ' => P (.list acc) (backE ρ1 ρ' vs)) (ds.drop n) acc ρ',
    ⟨ds.length, F1, _, [], Ex.refl F1, (rA.pushX frA).wipe vs, by omega, Nat.zero_le _, Nat.zero_le _, by rw [List.drop_zero]; exact q1⟩, ?_⟩
  rintro n m H' ⟨F', ρ', acc, e2, r2, rfl, hn, ha, q2⟩
  obtain ⟨o1, o2⟩ := ok n F' H' (wipe σ vs) ρ' _ e2 r2
  by_cases hlt : n < ds.length
  · have hd : ds[n]? = some ds[n] := List.getElem?_eq_getElem hlt
    obtain ⟨go, yl⟩ := o1 _ hd
    rw [List.drop_eq_getElem_cons hlt] at q2
    have q2 : t ds[n] ρ' fun ρ2 => b ρ2 fun k ρ3 => if k = true then f ρ3 fun y ρ4 => lcL t b f vs (fun acc ρ' => P (.list acc) (backE ρ1 ρ' vs)) (ds.drop (n + 1)) (acc ++ [y]) (wipeE ρ4 vs) else lcL t b f vs (fun acc ρ' => P (.list acc) (backE ρ1 ρ' vs)) (ds.drop (n + 1)) acc (wipeE ρ3 vs) := q2
    refine .inr ⟨go, fun H2 => ∃ F2 ρ2 acc2, Ex F1 F2 ∧ Rel c F2 H2 (wipe σ vs) ρ2 ((A, .d (.list acc2)) :: xx) ∧ acc2.length ≤ n + 1 ∧ lcL t b f vs (fun acc ρ' => P (.list acc) (backE ρ1 ρ' vs)) (ds.drop (n + 1)) acc2 ρ2,
      fun H2 ⟨F2, ρ2, acc2, a1, a2, a3, a4⟩ => ⟨ds.length - (n + 1), by omega, F2, ρ2, acc2, a1, a2, rfl, by omega, a3, a4⟩, fun v H2 y => ?_⟩
    obtain ⟨F2, e3, r3, a3⟩ := yl v H2 y
    refine ⟨F2, ρ', _, _, _, r3, a3, q2, fun ρ4 σ4 F4 H4 q4 on e4 r4 => ⟨?_, F4, ρ4, _, _, r4, q4, fun bb ρ5 F5 H5 q5 e5 r5 => ?_⟩⟩
    · have h := on vs hj
      rw [h]
      -- wiping twice
      have w2 : ∀ (us : List Nat) (σ : L2.St) (i : Nat), i ∈ us → (wipe σ us).set i none = wipe σ us := fun us => by
        induction us with
        | nil => intro σ i hi; cases hi
        | cons u us ih =>
          intro σ i hi
          show ((wipe σ us).set u none).set i none = (wipe σ us).set u none
          by_cases e : u = i
          · subst e
            rw [List.set_set]
          · rw [List.set_comm _ _ e, ih σ i ((List.mem_cons.mp hi).resolve_left fun z => e z.symm)]
      have w3 : ∀ (us ws : List Nat) (σ : L2.St), (∀ i ∈ us, i ∈ ws) → wipe (wipe σ ws) us = wipe σ ws := fun us => by
        induction us with
        | nil => intro ws σ _; rfl
        | cons u us ih =>
          intro ws σ hs
          show (wipe (wipe σ ws) us).set u none = wipe σ ws
          rw [ih ws σ fun i hi => hs i (List.mem_cons_of_mem _ hi)]
          exact w2 ws σ u (hs u (List.mem_cons_self ..))
      exact w3 vs vs σ fun _ h => h
    · have hw : wipe σ4 vs = wipe σ vs := by
        have h := on vs hj
        rw [h]
        have w2 : ∀ (us : List Nat) (σ : L2.St) (i : Nat), i ∈ us → (wipe σ us).set i none = wipe σ us := fun us => by
          induction us with
          | nil => intro σ i hi; cases hi
          | cons u us ih =>
            intro σ i hi
            show ((wipe σ us).set u none).set i none = (wipe σ us).set u none
            by_cases e : u = i
            · subst e
              rw [List.set_set]
            · rw [List.set_comm _ _ e, ih σ i ((List.mem_cons.mp hi).resolve_left fun z => e z.symm)]
        have w3 : ∀ (us ws : List Nat) (σ : L2.St), (∀ i ∈ us, i ∈ ws) → wipe (wipe σ ws) us = wipe σ ws := fun us => by
          induction us with
          | nil => intro ws σ _; rfl
          | cons u us ih =>
            intro ws σ hs
            show (wipe (wipe σ ws) us).set u none = wipe σ ws
            rw [ih ws σ fun i hi => hs i (List.mem_cons_of_mem _ hi)]
            exact w2 ws σ u (hs u (List.mem_cons_self ..))
        exact w3 vs vs σ fun _ h => h
      cases bb with
      | false =>
        rw [if_neg Bool.false_ne_true] at q5
        show ∃ F' ρ' acc2, _
        refine ⟨F5, wipeE ρ5 vs, acc, ((e2.trans e3).trans e4).trans e5, ?_, by omega, q5⟩
        have := r5.wipe vs
        rw [hw] at this
        exact this
      | true =>
        rw [if_pos rfl] at q5
        show tD c f σ4 H5 _
        refine ⟨F5, ρ5, _, _, r5, q5, fun y ρ6 u F6 H6 q6 e6 r6 a6 => ?_⟩
        obtain ⟨vv, g1, g2⟩ := (r6.s.ex (A, .d (.list acc)) (List.mem_cons_self ..)).1.o
        have r7 := r6.mutX (o := .lst (vv ++ [u])) (d' := .d (.list (acc ++ [y]))) ⟨_, upd_same, g2.append (.cons a6 .nil)⟩
        refine ⟨vv, g1, szl (by rw [g2.length]; omega), F6, wipeE ρ6 vs, acc ++ [y], (((e2.trans e3).trans e4).trans e5).trans e6, ?_, by rw [List.length_append]; simp only [List.length_singleton]; omega, q6⟩
        have := r7.wipe vs
        rw [hw] at this
        exact this
  · have en : n = ds.length := by omega
    subst en
    rw [List.drop_length] at q2
    have q2 : P (.list acc) (backE ρ1 ρ' vs) := q2
    obtain ⟨r5, fr⟩ := (Rel.back r1 e2 vs ρ' hok r2).popX
    exact .inl ⟨o2 rfl, k _ _ A F' H' q2 (e1.trans e2) r5 fr⟩
def bYes : BM := fun ρ P => P true ρ
theorem dts_nil {X : Cx} : PTs X [] (tT c bYes) := ⟨fun pins s σ H Q I ⟨F, ρ, xx, P, rel, q, k⟩ => pts_nil.run pins s σ H Q I (k true ρ F H q (Ex.refl F) rel)⟩
theorem n_of_d {f : DM} : ∀ σ H Q, tD c f σ H Q → tN c f σ H Q := fun σ H Q ⟨F, ρ, xx, P, r, q, k⟩ => ⟨F, ρ, xx, P, r, q, fun d ρ' a F' H' p e r' fr => by
  obtain ⟨F2, e2, at_, r2⟩ := fr.freeze r'
  exact k d ρ' (.ref a) F2 H' p (e.trans e2) r2 at_⟩
variable {X : Cx} {elt tg iter : Expr} {ifs : List Expr} {scope : Scope} {own : List (Str × Nat)} {pos : Pos} {i : IM} {t : TM} {js : List Nat} {b : BM} {f : DM}
theorem dn_lc (hc : X.calm = true) (hN : X.N.Nodup) (hi : PI X tg iter (tI c i)) (ok : BlkOk X.N X.env.scope scope own) (hj : ∀ j ∈ js, j ∈ own.map (·.2))
    (hg : ∀ (s : Shared) (H : Hp) (C : Addr) (cl : List (Str × Addr)) (fp : List Addr), PG (X.blk s H scope (compEnvC scope cl C X.env) fp) tg (tG c js t)) (ht : ∀ (s : Shared) (H : Hp) (C : Addr) (cl : List (Str × Addr)) (fp : List Addr), PTs (X.blk s H scope (compEnvC scope cl C X.env) fp) ifs (tT c b))
    (he : ∀ (s : Shared) (H : Hp) (C : Addr) (cl : List (Str × Addr)) (fp : List Addr), PE (X.blk s H scope (compEnvC scope cl C X.env) fp) elt (tD c f)) (hs : ∀ x, foldedSetIterable iter X.env x = pure x := by intro _; rfl) :
    PE X (.ListComp elt [⟨tg, iter, ifs, 0⟩] scope pos) (tN c (dLc i t b f (own.map (·.2)))) := PE.to (pe_lc hc hN hi ok hg ht he hs) (lc_use hj rfl rfl rfl rfl)
theorem dp_setLcN {n : Nat} {y : Str} {py spos : Pos} (hc : X.calm = true) (hN : X.N.Nodup) (hy : X.N[n]? = some y) (hyl : X.env.scope.names.lookup y = some .local)
    (hsw : swapsWith (.ListComp elt [⟨tg, iter, ifs, 0⟩] scope pos) (some (.Name y py)) spos.line X.env = pure true) (hi : PI X tg iter (tI c i)) (ok : BlkOk X.N X.env.scope scope own) (hj : ∀ j ∈ js, j ∈ own.map (·.2))
    (hg : ∀ (s : Shared) (H : Hp) (C : Addr) (cl : List (Str × Addr)) (fp : List Addr), PG (X.blk s H scope (compEnvC scope cl C X.env) fp) tg (tG c js t)) (ht : ∀ (s : Shared) (H : Hp) (C : Addr) (cl : List (Str × Addr)) (fp : List Addr), PTs (X.blk s H scope (compEnvC scope cl C X.env) fp) ifs (tT c b))
    (he : ∀ (s : Shared) (H : Hp) (C : Addr) (cl : List (Str × Addr)) (fp : List Addr), PE (X.blk s H scope (compEnvC scope cl C X.env) fp) elt (tD c f)) (hs : ∀ x, foldedSetIterable iter X.env x = pure x := by intro _; rfl) :
    PS X (.Assign [.Name y py] (.ListComp elt [⟨tg, iter, ifs, 0⟩] scope pos) spos) (tS c (sSetN n (dLc i t b f (own.map (·.2))))) :=
  PS.to (ps_setLc hc hN hy hyl hsw hi ok hg ht he hs) fun Z σ H h => by
    have q : tAsg (tN c (dLc i t b f (own.map (·.2)))) (gName n) Z σ H := setN_use rfl Z σ H h
    exact lc_use hj rfl rfl rfl rfl σ H _ q
theorem dp_setLc {n : Nat} {y : Str} {py spos : Pos} (hc : X.calm = true) (hN : X.N.Nodup) (hy : X.N[n]? = some y) (hyl : X.env.scope.names.lookup y = some .local)
    (hsw : swapsWith (.ListComp elt [⟨tg, iter, ifs, 0⟩] scope pos) (some (.Name y py)) spos.line X.env = pure true) (hi : PI X tg iter (tI c i)) (ok : BlkOk X.N X.env.scope scope own) (hj : ∀ j ∈ js, j ∈ own.map (·.2))
    (hg : ∀ (s : Shared) (H : Hp) (C : Addr) (cl : List (Str × Addr)) (fp : List Addr), PG (X.blk s H scope (compEnvC scope cl C X.env) fp) tg (tG c js t)) (ht : ∀ (s : Shared) (H : Hp) (C : Addr) (cl : List (Str × Addr)) (fp : List Addr), PTs (X.blk s H scope (compEnvC scope cl C X.env) fp) ifs (tT c b))
    (he : ∀ (s : Shared) (H : Hp) (C : Addr) (cl : List (Str × Addr)) (fp : List Addr), PE (X.blk s H scope (compEnvC scope cl C X.env) fp) elt (tD c f)) (hs : ∀ x, foldedSetIterable iter X.env x = pure x := by intro _; rfl) :
    PS X (.Assign [.Name y py] (.ListComp elt [⟨tg, iter, ifs, 0⟩] scope pos) spos) (tS c (sSet n (dLc i t b f (own.map (·.2))))) :=
  PS.to (ps_setLc hc hN hy hyl hsw hi ok hg ht he hs) fun Z σ H h => by
    have q : tAsg (tD c (dLc i t b f (own.map (·.2)))) (gName n) Z σ H := set_use rfl Z σ H h
    exact lc_use hj rfl rfl rfl rfl σ H _ (n_of_d σ H _ q)
end
end DL
namespace DL
open PySem L2
structure FnG (pr : Program) (wd : PySem.World) (K : PySem.W.Frag) (gl : Str → Option Value) (bas : Heap) (k : Nat) (f : Addr) (fd : FuncData) (ps : List Str) (sp : Sp) : Prop where
  many : ∀ vs H Q E, sp vs H Q E → vs.length = ps.length
  go : ∀ (A : Around) (out : List PySem.Env) (sh : Shared) (H : Hp) (ar : Args) (us : List Value) (vs : List V) (Q : VK) (E : XK), A.guards = some [] → Room k A →
    Env0 pr wd K gl bas A out sh H → BindsTo sh fd ar (ps.zip us) → Vals vs us → sp vs H Q E → codeAny (model pr wd) A (.call (.ref f) ar) (CR CX0 out pr wd H sh Q E) sh
theorem FnG.more {pr : Program} {wd : PySem.World} {K : PySem.W.Frag} {gl : Str → Option Value} {bas : Heap} {j k : Nat} {f : Addr} {fd : FuncData} {ps : List Str} {sp : Sp} (F : FnG pr wd K gl bas j f fd ps sp) (h : j ≤ k) : FnG pr wd K gl bas k f fd ps sp :=
  ⟨F.many, fun A out sh H ar us vs Q E g r => F.go A out sh H ar us vs Q E g (r.mono h)⟩
theorem FnG.of {pr : Program} {wd : PySem.World} {K : PySem.W.Frag} {gl : Str → Option Value} {bas : Heap} {k : Nat} {f : Addr} {x qual : Str} {st : Stmt} {fd : FuncData} {N ps : List Str} {sp : Sp} (F : L2.Fun K x qual st f fd) (S : FnScope N ps (defScope st))
    (len : (∀ vs H Q E, sp vs H Q E → vs.length = ps.length))
    (body : ∀ (cdv : Value) (A : Around) (out : List PySem.Env) (sh : Shared) (H : Hp) (vs : List V) (Q : VK) (E : XK), A.guards = some [] → Room k (A.deeper (PyProof.Rows.envOfC qual (defScope st) sh.heap.objs.size f cdv)) → sp vs H Q E →
      ∃ t, PSs (cxOf CX0 pr wd K gl bas N qual (defScope st) f cdv A out sh H E).nox (defBody st) t ∧ t { nx := fun _ H' => Q .non H', rt := Q } (start N vs) H) : FnG pr wd K gl bas (k + 1) f fd ps sp := by
  obtain ⟨oc, od, kV, doc, pm, an, cdv, ct, osl, efd, lk, hc⟩ := F.ex
  refine ⟨len, fun A out sh H ar us vs Q E hg room env bnd vals says => ?_⟩
  have heapK : K.In sh.heap := PySem.W.Frag.In.keeps env.mod.kin fun b o e => (env.bs b o e).1
  have noLim : sh.heap.NoLimit := Heap.NoLimit.keeps env.mod.nolimit fun b o e => (env.bs b o e).1
  have kinds : ∀ y ∈ ps.zip us, (defScope st).names.lookup y.1 = some .local ∨ ((defScope st).names.lookup y.1 = some .cell ∧ ((cellsFrom (sh.heap.objs.size + 1) (defScope st).names []).lookup y.1).isSome = true) := by
    rintro ⟨n, v⟩ hy
    exact (S.par n (List.of_mem_zip hy).1).imp id fun q => ⟨q, PySem.W.cellsFrom_some _ _ _ (.inl q)⟩
  rw [efd] at lk bnd
  refine codeAny_call_function room.depth (heapK _ _ lk) rfl S.co S.gen rfl (PySem.W.codeRec_of heapK hc) (bnd _ _ _ _ (wpAny_newFunctionEnv_cells S.kind kinds ?_))
  intro env1 he s1 xc
  subst he
  refine ⟨noLim.keeps xc.toInCall.keep, codeAny_func ?_⟩
  obtain ⟨t, ht, hq⟩ := body cdv A out sh H vs Q E hg (room.deeper _) says
  have inv : Inv (cxOf CX0 pr wd K gl bas N qual (defScope st) f cdv A out sh H E) [] (start N vs) H s1 := inv_start S room.hd env (len _ _ _ _ says) vals xc
  refine wpAny_mono (ht.nox.run [] s1 (start N vs) H _ inv hq) ?_ fun _ _ z => z
  intro fl s2 hs
  cases fl with
  | ret u =>
    (obtain ⟨v, σ', H', J, rv, q⟩ := hs)
    exact ⟨v, H', J.os, J.bare, J.base, J.hok, rv, q⟩
  | next =>
    obtain ⟨σ', H', J, q⟩ := hs
    exact ⟨V.non, H', J.os, J.bare, J.base, J.hok, rfl, q⟩
  | brk => exact (hs.choose_spec.choose_spec.2 : False).elim
  | cont => exact (hs.choose_spec.choose_spec.2 : False).elim
section
variable {X : Cx} {k : Nat} {f : Addr} {fd : FuncData} {ps : List Str} {sp : Sp} {x : Str} {p pos : Pos} {e : Expr} {es : List Expr} {t : TA}
theorem pe_callG (F : FnG X.prog X.w X.K X.mg X.base k f fd ps sp) (hg : X.A.guards = some []) (hr : Room k X.A) (gx : Gl X x) (hm : X.mg x = some (.ref f)) (hk : PySem.W.keepIn X.K (.ref f) = true) (hb : Binds X.K fd ps [])
    (ha : PA X (e :: es) t) (hdb : (x == ("__debug__" : Str)) = false := by decide)
    (he : starEach (e :: es) X.env = (false, eval e X.env) :: starEach es X.env := by rfl)
    (hpl : (backTo pos (starEach es X.env)).any (·.1) = false := by rfl) :
    PE X (.Call (.Name x p) (e :: es) [] pos) (tCall sp [] (fun _ _ _ => False) t) := by
  constructor
  intro pins s σ H Q I h
  refine wpAny_Call_Name_kw (ld_glob I gx hm (PySem.W.callWith_K (h₀ := X.base) I.ok.mod.kin hk (thn (ha.run pos pins s σ H _ I h) ?_) he hpl) hdb)
  rintro us s1 ⟨vs, H1, I1, r, q⟩
  refine ⟨I1.kIn, ?_⟩
  rw [List.append_nil] at q
  have hl : us.length = ps.length := by rw [← r.length]; exact F.many _ _ _ _ q
  have bd := hb s1 us I1.kIn (by rw [List.append_nil]; exact hl)
  rw [List.append_nil] at bd
  refine wpAny_call (codeAny_mono (F.go X.A X.stack s1 H1 ⟨us, []⟩ us vs Q _ hg hr I1.env0 bd r q) ?_)
  intro res s' hq
  match res, hq with
  | .error _, z => exact (z : False).elim
  | .ok (.ret u), z => exact I1.after z
end
/-- what a def says of its arguments and of the count of the source: S as m P: from these some d comes back, the count being m' then, with P d m' -/
abbrev SpD := List Ar → Nat → (D → Nat → Prop) → Prop
/-- the source is passed as the first argument, if at all -/
def oraAt (as : List Ar) : Prop := ∀ i, as[i]? = some Ar.ora → i = 0
def spD (K : PySem.W.Frag) (R : Orc) (n : Nat) (S : SpD) : Sp := fun vs H Q _ => ∃ (q : Option Addr) (F : Hp) (as : List Ar) (m : Nat) (P : D → Nat → Prop), World R q F H F H ∧ Paired (ArAt ⟨K, R, q, F, H⟩ F) vs as ∧ as.length = n ∧ oraAt as ∧ (q = none ∨ as[0]? = some .ora) ∧ (∀ p, q = some p → R.cnt p H ≤ m) ∧ S as m P ∧
  ∀ d m' v F' H', P d m' → World R q F H F' H' → (∀ p, q = some p → R.cnt p H' ≤ m') → At K F' v d → Q v H'
theorem paired_len {α β : Type} {R : α → β → Prop} : ∀ {xs : List α} {ys : List β}, Paired R xs ys → xs.length = ys.length
  | _, _, .nil => rfl
  | _, _, .cons _ t => congrArg Nat.succ (paired_len t)
theorem paired_get {α β : Type} {R : α → β → Prop} : ∀ {xs : List α} {ys : List β} {i : Nat} {y : β}, Paired R xs ys → ys[i]? = some y → ∃ x, xs[i]? = some x ∧ R x y
  | _, _, 0, _, .cons h _, e => by cases e; exact ⟨_, rfl, h⟩
  | _, _, i + 1, _, .cons _ t, e => paired_get (i := i) t e
/-- a call that draws nothing -/
def isD : Ar → Bool
  | .d _ => true
  | .ora => false
def dCall (n : Nat) (S : SpD) (f : AM) : DM := fun ρ P => f ρ fun as ρ1 => as.length = n ∧ as.all isD = true ∧ S as 0 fun d _ => P d ρ1
/-- a call that draws, the source standing in slot i -/
def dCallO (i n : Nat) (S : SpD) (f : AM) : DM := fun ρ P => f ρ fun as ρ1 => as.length = n ∧ as.head?.map isD = some false ∧ as.tail.all isD = true ∧ match ρ1[i]? with
  | some (.ora m) => S as m fun d m' => P d (ρ1.set i (.ora m'))
  | _ => False
theorem all_isD {as : List Ar} (h : as.all isD = true) (i : Nat) : as[i]? ≠ some .ora := fun e => by
  have := List.all_eq_true.mp h _ (List.mem_of_getElem? e)
  cases this
section
variable {X : Cx} {c : Cn} {k : Nat} {f : Addr} {fd : FuncData} {ps : List Str} {S : SpD} {x : Str} {p pos : Pos} {e : Expr} {es : List Expr} {fa : AM} {n : Nat}
theorem de_call (hK : X.K = c.K) (F : FnG X.prog X.w X.K X.mg X.base k f fd ps (spD X.K c.R n S)) (hg : X.A.guards = some []) (hr : Room k X.A) (gx : Gl X x) (hm : X.mg x = some (.ref f)) (hk : PySem.W.keepIn X.K (.ref f) = true) (hb : Binds X.K fd ps [])
    (ha : PA X (e :: es) (tAr c fa)) (hdb : (x == ("__debug__" : Str)) = false := by decide) (he : starEach (e :: es) X.env = (false, eval e X.env) :: starEach es X.env := by rfl) (hpl : (backTo pos (starEach es X.env)).any (·.1) = false := by rfl) :
    PE X (.Call (.Name x p) (e :: es) [] pos) (tD c (dCall n S fa)) := by
  refine PE.to (pe_callG F hg hr gx hm hk hb ha hdb he hpl) ?_
  rintro σ H Q ⟨F0, ρ, xx, P, rel, q, k0⟩
  refine ⟨F0, ρ, xx, _, rel, q, ?_⟩
  rintro as ρ1 vs F1 H1 ⟨hl, hd, hs⟩ e1 r1 pr
  rw [List.append_nil]
  have w0 : World c.R none F1 H1 F1 H1 := World.start r1.w.fh (fun _ _ z => z) fun _ z => nomatch z
  have pr' : Paired (ArAt ⟨X.K, c.R, none, F1, H1⟩ F1) vs as := by
    clear hs hl
    induction pr with
    | nil => exact .nil
    | @cons v a vs' as' h1 h2 ih =>
      (simp only [List.all_cons, Bool.and_eq_true] at hd)
      cases a with
      | d y =>
        refine .cons ?_ (ih hd.2)
        show At X.K F1 v y
        rw [hK]
        exact h1
      | ora => cases hd.1
  refine ⟨none, F1, as, 0, _, w0, pr', hl, fun i z => absurd z (all_isD hd i), .inl rfl, (fun _ z => nomatch z), hs, ?_⟩
  intro d m' v F2 H2 pd wd _ at_
  rw [hK] at at_
  exact k0 d ρ1 v F2 H2 pd (e1.trans wd.ff) (r1.stepN wd) at_
theorem de_callO {i : Nat} (hK : X.K = c.K) (F : FnG X.prog X.w X.K X.mg X.base k f fd ps (spD X.K c.R n S)) (hg : X.A.guards = some []) (hr : Room k X.A) (gx : Gl X x) (hm : X.mg x = some (.ref f)) (hk : PySem.W.keepIn X.K (.ref f) = true) (hb : Binds X.K fd ps [])
    (ha : PA X (e :: es) (tAr c fa)) (hdb : (x == ("__debug__" : Str)) = false := by decide) (he : starEach (e :: es) X.env = (false, eval e X.env) :: starEach es X.env := by rfl) (hpl : (backTo pos (starEach es X.env)).any (·.1) = false := by rfl) :
    PE X (.Call (.Name x p) (e :: es) [] pos) (tD c (dCallO i n S fa)) := by
  refine PE.to (pe_callG F hg hr gx hm hk hb ha hdb he hpl) ?_
  rintro σ H Q ⟨F0, ρ, xx, P, rel, q, k0⟩
  refine ⟨F0, ρ, xx, _, rel, q, ?_⟩
  rintro as ρ1 vs F1 H1 ⟨hl, hh, hd, hs⟩ e1 r1 pr
  rw [List.append_nil]
  split at hs
  · rename_i m em
    obtain ⟨u, h1, h2, h3⟩ := r1.s.or i m em
    have h0 : as[0]? = some Ar.ora := by
      cases as with
      | nil => cases hh
      | cons a t =>
        cases a with
        | d y => cases hh
        | ora => rfl
    refine ⟨c.p, F1, as, m, _, r1.w.here, ?_, hl, fun j z => ?_, .inr h0, fun y z => ?_, hs, ?_⟩
    · rw [hK]
      exact pr
    · cases j with
      | zero => rfl
      | succ j =>
        cases as with
        | nil => cases z
        | cons a t => exact absurd z (all_isD hd j)
    · rw [h1] at z
      cases z
      exact h3
    · intro d m' v F2 H2 pd wd hc at_
      rw [hK] at at_
      exact k0 d _ v F2 H2 pd (e1.trans wd.ff) (r1.drew wd em hc) at_
  · exact hs.elim
end
def arSl (m : Nat) : Ar → Sl
  | .d x => .im x
  | .ora => .ora m
def startE (N : Nat) (as : List Ar) (m : Nat) : Env := as.map (arSl m) ++ List.replicate (N - as.length) .no
theorem rel_start {K : PySem.W.Frag} {R : Orc} {q : Option Addr} {F H : Hp} {vs : List V} {as : List Ar} {N : List Str} {m : Nat} (w : World R q F H F H) (h : Paired (ArAt ⟨K, R, q, F, H⟩ F) vs as) (ho : oraAt as) (hm : ∀ p, q = some p → R.cnt p H ≤ m) : Rel ⟨K, R, q, F, H⟩ F H (start N vs) (startE N.length as m) [] := by
  have hl := paired_len h
  have get : ∀ (i : Nat) (s : Sl), (startE N.length as m)[i]? = some s → s = .no ∨ ∃ a v, as[i]? = some a ∧ vs[i]? = some v ∧ s = arSl m a ∧ (start N vs)[i]? = some (some v) := by
    intro i s e
    unfold startE at e
    unfold L2.start
    by_cases hi : i < as.length
    · rw [List.getElem?_append_left (by simpa using hi), List.getElem?_map] at e
      rw [List.getElem?_append_left (by simpa [hl] using hi), List.getElem?_map]
      have e1 : as[i]? = some as[i] := List.getElem?_eq_getElem hi
      have e2 : vs[i]? = some (vs[i]'(by rw [hl]; exact hi)) := List.getElem?_eq_getElem _
      rw [e1] at e
      cases e
      exact .inr ⟨_, _, e1, e2, rfl, by rw [e2]; rfl⟩
    · rw [List.getElem?_append_right (by simpa using hi), List.getElem?_replicate] at e
      split at e
      · cases e
        exact .inl rfl
      · cases e
  have atOf : ∀ {i : Nat} {a : Ar} {v : V}, as[i]? = some a → vs[i]? = some v → ArAt ⟨K, R, q, F, H⟩ F v a := by
    intro i a v h1 h2
    obtain ⟨v', g1, g2⟩ := paired_get h h1
    rw [h2] at g1
    cases g1
    exact g2
  refine ⟨w, ?_, ?_, ?_, ?_, ?_, ?_, (fun p hp => nomatch hp), List.nodup_nil⟩
  · unfold startE L2.start
    simp [hl]
  · intro i d e
    rcases get i _ e with z | ⟨a, v, g1, g2, g3, g4⟩
    · cases z
    · cases a with
      | d x => cases g3; exact ⟨v, g4, atOf g1 g2⟩
      | ora => cases g3
  · intro i d e
    rcases get i _ e with z | ⟨a, v, g1, g2, g3, g4⟩
    · cases z
    · cases a <;> cases g3
  · intro i j d e b z
    rcases get i _ z with z | ⟨a, v, g1, g2, g3, g4⟩
    · cases z
    · cases a <;> cases g3
  · intro i n e
    rcases get i _ e with z | ⟨a, v, g1, g2, g3, g4⟩
    · cases z
    · cases a with
      | d x => cases g3
      | ora =>
        obtain ⟨q', e1, e2⟩ := atOf g1 g2
        cases g3
        cases e2
        exact ⟨q', e1, g4, hm q' e1⟩
  · have one : ∀ {i n : Nat}, (startE N.length as m)[i]? = some (.ora n) → i = 0 := by
      intro i n e
      rcases get i _ e with z | ⟨a, v, g1, g2, g3, g4⟩
      · cases z
      · cases a with
        | d x => cases g3
        | ora => exact ho i g1
    intro i j a b e1 e2
    exact (one e1).trans (one e2).symm
/-- what a body says, as a promise -/
def raw (g : SM) (N : Nat) : SpD := fun as m P =>
  g ⟨fun (ρ : DL.Env) => match ρ[0]? with
    | some (Sl.ora m') => P .none m'
    | _ => as.head?.map isD ≠ some false ∧ P .none 0,
  fun (d : D) (ρ : DL.Env) => match ρ[0]? with
    | some (Sl.ora m') => P d m'
    | _ => as.head?.map isD ≠ some false ∧ P d 0, fun _ => False, fun _ => False⟩ (startE N as m)
/-- a def by its body in data -/
theorem FnG.data {pr : Program} {wd : PySem.World} {K : PySem.W.Frag} {gl : Str → Option Value} {bas : Heap} {k n : Nat} {f : Addr} {x qual : Str} {st : Stmt} {fd : FuncData} {N ps : List Str} {R : Orc} {g : SM} (F : L2.Fun K x qual st f fd) (Sc : FnScope N ps (defScope st)) (hn : n = ps.length)
    (body : ∀ (cdv : Value) (A : Around) (out : List PySem.Env) (sh : Shared) (H : Hp) (E : XK) (q : Option Addr) (F : Hp), A.guards = some [] → Room k (A.deeper (PyProof.Rows.envOfC qual (defScope st) sh.heap.objs.size f cdv)) →
      PSs (cxOf CX0 pr wd K gl bas N qual (defScope st) f cdv A out sh H E).nox (defBody st) (tS ⟨K, R, q, F, H⟩ g)) : FnG pr wd K gl bas (k + 1) f fd ps (spD K R n (raw g N.length)) := by
  refine FnG.of F Sc (fun vs H Q E ⟨q, F0, as, m, P, w, pa, hl, _⟩ => by rw [paired_len pa, hl, hn]) fun cdv A out sh H vs Q E hg hr ⟨q, F0, as, m, P, w, pa, hl, ho, hq, hm, says, k0⟩ => ?_
  have fin : ∀ (d : D) (v : V) (ρ' : DL.Env) (σ' : L2.St) (F' H' : Hp), (match ρ'[0]? with
      | some (Sl.ora m') => P d m'
      | _ => as.head?.map isD ≠ some false ∧ P d 0) → Rel ⟨K, R, q, F0, H⟩ F' H' σ' ρ' [] → At K F' v d → Q v H' := by
    intro d v ρ' σ' F' H' p r a
    split at p
    · rename_i m' e
      obtain ⟨y, h1, _, h3⟩ := r.s.or 0 m' e
      exact k0 d m' v F' H' p r.w (fun z hz => by
        have hz' : q = some z := hz
        have h1' : q = some y := h1
        rw [hz'] at h1'
        cases h1'
        exact h3) a
    · obtain ⟨p1, p2⟩ := p
      have qn : q = none := hq.resolve_right fun z => p1 (by
        cases as with
        | nil => cases z
        | cons b t => cases z; rfl)
      exact k0 d 0 v F' H' p2 r.w (fun z hz => by rw [qn] at hz; cases hz) a
  refine ⟨_, body cdv A out sh H E q F0 hg hr, F0, _, [], _, rel_start w pa ho hm, says, ?_, ?_, ?_, ?_⟩
  · exact fun ρ' σ' F' H' p e r => fin .none .non ρ' σ' F' H' p r .non
  · exact fun d v ρ' σ' F' H' p r a => fin d v ρ' σ' F' H' p r a
  · exact fun ρ' σ' F' H' p => p.elim
  · exact fun ρ' σ' F' H' p => p.elim
theorem pss_some {X : Cx} {st : List Stmt} {ι : Type} {t : ι → TS} (h : ∀ i, PSs X st (t i)) : PSs X st (fun Z σ H => ∃ i, t i Z σ H) := ⟨fun pins s σ H Z I ⟨i, q⟩ => (h i).run pins s σ H Z I q⟩
end DL
namespace DL
open PySem L2
/-- a def under its name -/
def Cd (pr : Program) (wd : PySem.World) (K : PySem.W.Frag) (gl : Str → Option Value) (bas : Heap) (R : Orc) (k : Nat) (x : Str) (n : Nat) (S : SpD) : Prop :=
  ∃ (f : Addr) (fd : FuncData) (ps : List Str), FnG pr wd K gl bas k f fd ps (spD K R n S) ∧ gl x = some (.ref f) ∧ PySem.W.keepIn K (.ref f) = true ∧ Binds K fd ps []
theorem Cd.more {pr : Program} {wd : PySem.World} {K : PySem.W.Frag} {gl : Str → Option Value} {bas : Heap} {R : Orc} {j k : Nat} {x : Str} {n : Nat} {S : SpD} (C : Cd pr wd K gl bas R j x n S) (h : j ≤ k) : Cd pr wd K gl bas R k x n S := by
  obtain ⟨f, fd, ps, F, a, b, d⟩ := C
  exact ⟨f, fd, ps, F.more h, a, b, d⟩
theorem de_cd {X : Cx} {c : Cn} {k n : Nat} {S : SpD} {x : Str} {p pos : Pos} {e : Expr} {es : List Expr} {fa : AM} (C : Cd X.prog X.w X.K X.mg X.base c.R k x n S) (hK : X.K = c.K) (hg : X.A.guards = some []) (hr : Room k X.A) (gx : Gl X x)
    (ha : PA X (e :: es) (tAr c fa)) (hdb : (x == ("__debug__" : Str)) = false := by decide) (he : starEach (e :: es) X.env = (false, eval e X.env) :: starEach es X.env := by rfl) (hpl : (backTo pos (starEach es X.env)).any (·.1) = false := by rfl) :
    PE X (.Call (.Name x p) (e :: es) [] pos) (tD c (dCall n S fa)) := by
  obtain ⟨f, fd, ps, F, a, b, d⟩ := C
  exact de_call hK F hg hr gx a b d ha hdb he hpl
theorem hu64 {A : Around} {k : Nat} (hr : Room k A) : A.units + 64 < cLine := by have := hr.un; omega
theorem hu65 {A : Around} {k : Nat} (hr : Room k A) : A.units + 65 < cLine := by have := hr.un; omega
theorem de_cdO {X : Cx} {c : Cn} {k n i : Nat} {S : SpD} {x : Str} {p pos : Pos} {e : Expr} {es : List Expr} {fa : AM} (C : Cd X.prog X.w X.K X.mg X.base c.R k x n S) (hK : X.K = c.K) (hg : X.A.guards = some []) (hr : Room k X.A) (gx : Gl X x)
    (ha : PA X (e :: es) (tAr c fa)) (hdb : (x == ("__debug__" : Str)) = false := by decide) (he : starEach (e :: es) X.env = (false, eval e X.env) :: starEach es X.env := by rfl) (hpl : (backTo pos (starEach es X.env)).any (·.1) = false := by rfl) :
    PE X (.Call (.Name x p) (e :: es) [] pos) (tD c (dCallO i n S fa)) := by
  obtain ⟨f, fd, ps, F, a, b, d⟩ := C
  exact de_callO hK F hg hr gx a b d ha hdb he hpl
end DL
namespace DL
open PySem L2
section
variable {X : Cx} {c : Cn} {e a b : Expr} {pos : Pos}
def tyN : D → String
  | .none => "NoneType"
  | .bool _ => "bool"
  | .int _ => "int"
  | .str _ => "str"
  | .list _ => "list"
  | .tuple _ => "tuple"
  | .dict _ => "dict"
theorem tyx_of {F H : Hp} {v : V} {d : D} (e : Ex F H) (b : Bo c F H v d) : TyX c.K H v (.type (tyN d)) := by
  have a := b.at e
  have sq : ∀ {p : Addr} {o : HO} {T : String}, Rd H p o → (H p = some o → TyX c.K H (.ref p) (.type T)) → (∀ q, H p = some (.frz q o) → TyX c.K H (.ref p) (.type T)) → TyX c.K H (.ref p) (.type T) :=
    fun h k1 k2 => h.elim k1 fun ⟨q, z⟩ => k2 q z
  clear b
  cases a with
  | non => exact .base .non
  | bl b => exact .base (.bl b)
  | int i => exact .base (.int i)
  | str x => exact .base (.str x)
  | lst s t =>
    rcases s with h | ⟨o, its, n, h1, h2, _⟩
    · exact sq h (fun z => .base (.lst z)) fun q z => .base (.frz z)
    · exact .kList h1 h2
  | tup s t =>
    rcases s with h | ⟨o, its, n, h1, h2, _⟩
    · exact sq h (fun z => .base (.tup z)) fun q z => .fTuple z
    · exact .kTuple h1 h2
  | dk r n l t => exact sq r (fun z => .base (.dK z)) fun q z => .fDict z
  | dt r l t => exact .base (.dT r)
def dIsi (T : String) (f : HM) : DM := fun ρ P => f ρ fun h ρ1 => see ρ1 h fun d => ∃ k, kitB (tyN d) T = some k ∧ P (.bool k) ρ1
theorem de_isi {T : String} {y : Str} {p p2 : Pos} {f : HM} (hK : X.K = c.K) (hg : Gl X "isinstance") (hm : X.mg "isinstance" = none) (hy : Gl X y) (hmy : X.mg y = none) (hv : bootBuiltins y = some (.type T)) (ha : PE X e (tH c f))
    (hb : bootBuiltins "isinstance" = some (.builtin "isinstance") := by decide +kernel) (hn : y ≠ "__name__" := by decide) (hd : (y == ("__debug__" : Str)) = false := by decide)
    (s1 : starEach [e, .Name y p2] X.env = (false, eval e X.env) :: starEach [.Name y p2] X.env := by rfl) (s2 : starEach [.Name y p2] X.env = (false, eval (.Name y p2) X.env) :: starEach [] X.env := by rfl) (hpl : (backTo pos (starEach [.Name y p2] X.env)).any (·.1) = false := by rfl) :
    PE X (.Call (.Name "isinstance" p) [e, .Name y p2] [] pos) (tD c (dIsi T f)) := by
  refine PE.to (pe_callB call_isi hg hm hb (pa_cons ha (pa_cons (pe_bltn (v := .ty T) hy hmy hv rfl hn hd) pa_nil s2) s1) (by decide) (by decide) s1 hpl) ?_
  rintro σ H Q ⟨F, ρ, xx, P, rel, q, k⟩
  refine ⟨F, ρ, xx, _, rel, q, fun h ρ1 v F1 H1 q1 e1 r1 h1 => ?_⟩
  obtain ⟨d, bo, b, hk, q2⟩ := see_bo r1 h1 q1
  have ty := tyx_of r1.w.fh bo
  rw [← hK] at ty
  exact ⟨v, .ty T, _, _, b, rfl, .ty T, ty, kit_ty hk, k _ ρ1 _ F1 H1 q2 e1 r1 (.bl b)⟩
def gIn : G2 := fun x y P => match y with
  | .list ds => okD x ∧ okD y ∧ P (.bool (ds.any fun z => PyData.eqv z x))
  | _ => False
def gNotIn : G2 := fun x y P => match y with
  | .list ds => okD x ∧ okD y ∧ P (.bool (!ds.any fun z => PyData.eqv z x))
  | _ => False
theorem sem_in (hK : X.K = c.K) (hu : X.A.units + 65 < cLine) : Sem2 X c (compareOp .In) gIn := by
  refine ⟨_, op_inD hu, fun F H σ ρ xx x y vx vy P Q r bx by_ g k => ?_⟩
  unfold gIn at g
  split at g
  · rename_i ds
    obtain ⟨ox, oy, q⟩ := g
    have a1 := (bx.at r.w.fh).dp ox.nod
    have a2 := (by_.at r.w.fh).dp oy.nod
    rw [← hK] at a1 a2
    exact ⟨x, ds, a1, a2, ox, oy, k _ _ F H q (Ex.refl F) r (.bl _)⟩
  · exact g.elim
theorem sem_notin (hK : X.K = c.K) (hu : X.A.units + 65 < cLine) : Sem2 X c (compareOp .NotIn) gNotIn := by
  refine ⟨_, op_notInD hu, fun F H σ ρ xx x y vx vy P Q r bx by_ g k => ?_⟩
  unfold gNotIn at g
  split at g
  · rename_i ds
    obtain ⟨ox, oy, q⟩ := g
    have a1 := (bx.at r.w.fh).dp ox.nod
    have a2 := (by_.at r.w.fh).dp oy.nod
    rw [← hK] at a1 a2
    exact ⟨x, ds, a1, a2, ox, oy, k _ _ F H q (Ex.refl F) r (.bl _)⟩
  · exact g.elim
def dNeg (f : DM) : DM := fun ρ P => f ρ fun d ρ1 => match d with
  | .int i => P (.int (-i)) ρ1
  | _ => False
theorem de_neg {f : DM} (ha : PE X a (tD c f)) : PE X (.UnaryOp .USub a pos) (tD c (dNeg f)) := PE.to (pe_un un_neg ha) fun σ H Q ⟨F, ρ, xx, P, rel, q, k⟩ => ⟨F, ρ, xx, _, rel, q, fun d ρ1 v F1 H1 q1 e1 r1 a1 => by
  split at q1
  · cases a1
    exact ⟨_, rfl, k _ ρ1 _ F1 H1 q1 e1 r1 (.int _)⟩
  · exact q1.elim⟩
def gIadd : G2 := fun x y P => match x, y with
  | .int i, .int j => P (.int (i + j))
  | _, _ => False
def gIsub : G2 := fun x y P => match x, y with
  | .int i, .int j => P (.int (i - j))
  | _, _ => False
theorem sem_iadd : Sem2 X c (inplaceOp .Add) gIadd := by
  refine ⟨_, iop_add, fun F H σ ρ xx x y vx vy P Q r bx by_ g k => ?_⟩
  unfold gIadd at g
  split at g
  · cases bo_int bx
    cases bo_int by_
    exact ⟨_, _, rfl, rfl, k _ _ F H g (Ex.refl F) r (.int _)⟩
  · exact g.elim
theorem sem_isub : Sem2 X c (inplaceOp .Sub) gIsub := by
  refine ⟨_, iop_sub, fun F H σ ρ xx x y vx vy P Q r bx by_ g k => ?_⟩
  unfold gIsub at g
  split at g
  · cases bo_int bx
    cases bo_int by_
    exact ⟨_, _, rfl, rfl, k _ _ F H g (Ex.refl F) r (.int _)⟩
  · exact g.elim
theorem ref_of_bo {F H : Hp} {v : V} {d : D} (b : Bo c F H v d) : (∃ a, v = .ref a) ∨ (d = .none ∧ v = .non) ∨ (∃ i, d = .int i ∧ v = .int i) ∨ (∃ i, d = .bool i ∧ v = .bl i) ∨ (∃ i, d = .str i ∧ v = .str i) := by
  rcases b with b | ⟨a, rfl, _⟩
  · cases b with
    | non => exact .inr (.inl ⟨rfl, rfl⟩)
    | bl b => exact .inr (.inr (.inr (.inl ⟨_, rfl, rfl⟩)))
    | int i => exact .inr (.inr (.inl ⟨_, rfl, rfl⟩))
    | str x => exact .inr (.inr (.inr (.inr ⟨_, rfl, rfl⟩)))
    | lst s t => exact .inl ⟨_, rfl⟩
    | tup s t => exact .inl ⟨_, rfl⟩
    | dk r n l t => exact .inl ⟨_, rfl⟩
    | dt r l t => exact .inl ⟨_, rfl⟩
  · exact .inl ⟨a, rfl⟩
def rRp (K : PySem.W.Frag) : List V → Hp → VK → Prop := fun vs H Q => ∃ a d, vs = [.ref a] ∧ Dp K H (.ref a) d ∧ nod d = true ∧ d.showable = true ∧ d.depth ≤ 60 ∧ d.shown.length ≤ 1000000 ∧ Q (.str d.shown) H
end
mutual
theorem nod_dict : ∀ d : D, nod d = true → d.hasDict = false
  | .none, _ => by simp [PyData.hasDict]
  | .bool _, _ => by simp [PyData.hasDict]
  | .int _, _ => by simp [PyData.hasDict]
  | .str _, _ => by simp [PyData.hasDict]
  | .list xs, h => by
    simp only [PyData.hasDict]
    exact nod_dictAll xs (by simpa [nod] using h)
  | .tuple xs, h => by
    simp only [PyData.hasDict]
    exact nod_dictAll xs (by simpa [nod] using h)
  | .dict _, h => by simp [nod] at h
theorem nod_dictAll : ∀ ds : List D, nodAll ds = true → PyData.hasDictAll ds = false
  | [], _ => by simp [PyData.hasDictAll]
  | x :: xs, h => by
    simp only [nodAll, Bool.and_eq_true] at h
    simp only [PyData.hasDictAll, Bool.or_eq_false_iff]
    exact ⟨nod_dict x h.1, nod_dictAll xs h.2⟩
end
section
variable {X : Cx} {c : Cn} {e a b : Expr} {pos : Pos}
theorem call_rp (hg : X.A.guards = some []) (hu : X.A.units + 64 < cLine) : CallR X (.builtin "repr") (rRp X.K) := by
  (intro pins s σ H xs us Q I r h)
  obtain ⟨a, d, rfl, hd, h1, h2, h3, h4, q⟩ := h
  obtain ⟨u, rfl, rv⟩ := vals1 r
  cases rv
  obtain ⟨as, rd⟩ := Dp.reads I d _ _ hd rfl
  refine repr_of_reads' rd h2 (PyData.noDict_hsm (nod_dict _ h1)) hg (by omega) (fun _ _ e => e) (fun h' u tk hk => ⟨.str d.shown, H, I.kept hk, ⟨u, rfl⟩, q⟩) (sz h4)
end
end DL
namespace DL
open PySem L2
section
variable {X : Cx} {c : Cn} {e a b : Expr} {pos : Pos}
def ownL (ρ : Env) (i : Nat) (k : List D → Prop) : Prop := match ρ[i]? with
  | some (.ow (.list ds)) => k ds
  | _ => False
theorem ownL_get {F H : Hp} {σ : L2.St} {ρ : Env} {xx : XX} (r : Rel c F H σ ρ xx) {i : Nat} {k : List D → Prop} (h : ownL ρ i k) : ∃ ds p vs, ρ[i]? = some (.ow (.list ds)) ∧ σ[i]? = some (some (.ref p)) ∧ H p = some (.lst vs) ∧ AtAll c.K F vs ds ∧ k ds := by
  unfold ownL at h
  split at h
  · rename_i ds e
    obtain ⟨p, g1, g2⟩ := r.s.ow i _ e
    obtain ⟨vs, h1, h2⟩ := g2.o
    exact ⟨ds, p, vs, e, g1, h1, h2, h⟩
  · exact h.elim
def sApp (i : Nat) (f : DM) : SM := fun E ρ => ownL ρ i (fun _ => True) ∧ f ρ fun d ρ1 => ownL ρ1 i fun ds => ds.length < 1000000 ∧ E.nx (ρ1.set i (.ow (.list (ds ++ [d]))))
theorem app_use {i : Nat} {f : DM} {te : TE} (et : te = tD c f) (hK : X.K = c.K) : ∀ Z σ H, tS c (sApp i f) Z σ H → tDrop (tBM X.K "list" rAppend (tVar i) (tCons te tNil)) Z σ H := by
  subst et
  rintro Z σ H ⟨F, ρ, xx, E, rel, ⟨q0, q⟩, n, rr, b, t⟩
  obtain ⟨ds0, p0, vs0, g1, g2, g3, g4, _⟩ := ownL_get rel q0
  refine ⟨.ref p0, g2, .inl ⟨rfl, vs0, SqL.of g3⟩, F, ρ, xx, _, rel, q, fun d ρ1 v F1 H1 q1 e1 r1 a1 => ?_⟩
  obtain ⟨ds, p, vs, h1, h2, h3, h4, hl, hn⟩ := ownL_get r1 q1
  have ep : p0 = p := by
    rw [g2] at h2
    cases h2
    rfl
  subst ep
  refine ⟨p0, vs, v, rfl, rfl, h3, szl (by rw [h4.length]; omega), ?_⟩
  exact n _ σ F1 _ hn e1 (r1.mut h1 h2 ⟨_, upd_same, h4.append (.cons a1 .nil)⟩)
theorem dp_app {x : Str} {i : Nat} {px apos cpos : Pos} {f : DM} (hK : X.K = c.K) (ho : PE X (.Name x px) (tVar i)) (ha : PE X e (tD c f))
    (hbase : attributeBase (.Name x px) "append" X.env (eval (.Name x px) X.env) = eval (.Name x px) X.env := by rfl)
    (hfew : ((backTo cpos (starEach [e] X.env)).all (fun x => !x.1)
        && (backToKw cpos (keywordEach [] X.env)).all (fun x => x.1.isSome)
      && decide (([e] : List Expr).length + ([] : List Keyword).length
          + (if ([] : List Keyword).isEmpty then 0 else 1) < 30)) = true := by rfl)
    (hline : (apos.endLine == cpos.line) = true := by rfl) (hs : starEach [e] X.env = (false, eval e X.env) :: starEach [] X.env := by rfl) (hplain : (backTo cpos (starEach [] X.env)).any (·.1) = false := by rfl)
    (hsw : swapsWith (.Call (.Attribute (.Name x px) "append" apos) [e] [] cpos) none pos.line X.env = pure false := by rfl) : PS X (.Expr (.Call (.Attribute (.Name x px) "append" apos) [e] [] cpos) pos) (tS c (sApp i f)) :=
  PS.to (ps_expr (pe_bm PySem.F.plainAttrs_list PySem.F.slot_list_append PySem.F.type_list_append mt_append ho (pa_cons ha pa_nil hs) hbase hfew hline hs hplain) hsw) (app_use rfl hK)
def sPut (i : Nat) (fi fe : DM) : SM := fun E ρ => fe ρ fun d ρ1 => ownL ρ1 i (fun _ => True) ∧ fi ρ1 fun k ρ2 => ownL ρ2 i fun ds => match k with
  | .int z => ∃ j, ixN ds.length z = some j ∧ E.nx (ρ2.set i (.ow (.list (ds.set j d))))
  | _ => False
theorem put_use {i : Nat} {fi fe : DM} {te ti : TE} (et : te = tD c fe) (ei : ti = tD c fi) : ∀ Z σ H, tS c (sPut i fi fe) Z σ H → tAsg te (L2.gSub (tVar i) ti rSetL) Z σ H := by
  subst et ei
  rintro Z σ H ⟨F, ρ, xx, E, rel, q, n, rr, b, t⟩
  refine ⟨F, ρ, xx, _, rel, q, fun d ρ1 v F1 H1 ⟨q0, q1⟩ e1 r1 a1 => ?_⟩
  obtain ⟨ds0, p0, vs0, g1, g2, g3, g4, _⟩ := ownL_get r1 q0
  refine ⟨.ref p0, g2, F1, ρ1, xx, _, r1, q1, fun k ρ2 u F2 H2 q2 e2 r2 a2 => ?_⟩
  obtain ⟨ds, p, vs, h1, h2, h3, h4, hk⟩ := ownL_get r2 q2
  have ep : p0 = p := by
    rw [g2] at h2
    cases h2
    rfl
  subst ep
  split at hk
  · rename_i z
    cases a2
    obtain ⟨j, hj, hn⟩ := hk
    refine ⟨p0, vs, z, j, rfl, rfl, h3, by rw [h4.length]; exact hj, ?_⟩
    exact n _ σ F2 _ hn (e1.trans e2) (r2.mut h1 h2 ⟨_, upd_same, h4.set (a1.mono e2) j⟩)
  · exact hk.elim
end
end DL
namespace DL
open PySem L2
section
variable {X : Cx} {c : Cn} {e a b : Expr} {pos : Pos}
theorem dp_put {x : Str} {i : Nat} {ix : Expr} {px tpos : Pos} {fi fe : DM} (ho : PE X (.Name x px) (tVar i)) (hi : PE X ix (tD c fi)) (he : PE X e (tD c fe))
    (hsub : ∀ v, assign (.Subscript (.Name x px) ix tpos) X.env v = (do
      let ov ← holding [v] (eval (.Name x px) X.env)
      let iv ← holding [v, ov] (eval ix X.env)
      standAt tpos
      (holding [v, ov, iv] (setItem ov iv v))
      release [v, ov, iv] []) := by intro _; rfl)
    (hs : swapsWithSole [.Subscript (.Name x px) ix tpos] e pos.line X.env = pure false := by rfl) (hw : swappedStores [.Subscript (.Name x px) ix tpos] e X.env = pure none := by rfl)
    (h1 : (assignEach [.Subscript (.Name x px) ix tpos] X.env).map (·.2) = [assign (.Subscript (.Name x px) ix tpos) X.env] := by rfl) : PS X (.Assign [.Subscript (.Name x px) ix tpos] e pos) (tS c (sPut i fi fe)) :=
  PS.to (ps_asg he (pg_sub ho hi set_list hsub) hs hw h1) (put_use rfl rfl)
def ofStrs : List D → Option (List Str)
  | [] => some []
  | .str x :: r => (ofStrs r).map (x :: ·)
  | _ => none
theorem ofStrs_eq : ∀ {ds : List D} {ns : List Str}, ofStrs ds = some ns → ds = ns.map PyData.str
  | [], ns, h => by cases h; rfl
  | .str x :: r, ns, h => by
    unfold ofStrs at h
    cases e : ofStrs r with
    | none => (rw [e] at h; cases h)
    | some m =>
      rw [e] at h
      cases h
      rw [ofStrs_eq e]
      rfl
  | .none :: _, _, h => by cases h
  | .bool _ :: _, _, h => by cases h
  | .int _ :: _, _, h => by cases h
  | .list _ :: _, _, h => by cases h
  | .tuple _ :: _, _, h => by cases h
  | .dict _ :: _, _, h => by cases h
def sParNN (i j : Nat) (f g : DM) : SM := fun E ρ => f ρ fun d ρ1 => g ρ1 fun d' ρ2 => E.nx ((ρ2.set i (.ow d)).set j (.ow d'))
theorem parNN_use {i j : Nat} (hij : i ≠ j) {f g : DM} : ∀ Z σ H, tS c (sParNN i j f g) Z σ H → tPar i j (tCons (tN c f) (tCons (tN c g) tNil)) Z σ H := by
  rintro Z σ H ⟨F, ρ, xx, E, rel, q, n, rr, b, t⟩
  refine ⟨F, ρ, xx, _, rel, q, fun d ρ1 p F1 H1 q1 e1 r1 f1 => ?_⟩
  refine ⟨F1, ρ1, (p, d) :: xx, _, r1.pushX f1, q1, fun d' ρ2 p' F2 H2 q2 e2 r2 f2 => ?_⟩
  obtain ⟨r3, f3⟩ := r2.popX
  have ne : p ≠ p' := fun z => f2.nx (p, d) (List.mem_cons_self ..) z
  -- put the first, then the second
  have r4 := r3.putO i f3
  have f4 : Fresh c F2 H2 (σ.set i (some (.ref p))) (ρ2.set i (.ow d)) xx p' d' := by
    refine ⟨f2.own, fun k z hk hs => ?_, fun q hq => f2.nx q (List.mem_cons_of_mem _ hq)⟩
    rcases set_lt hk with ⟨ek, hlt, _⟩ | ⟨hne, hk⟩
    · subst ek
      rw [get_set_eq (by rw [← r3.s.len]; exact hlt)] at hs
      cases hs
      exact ne rfl
    · rw [get_set_ne hne] at hs
      exact f2.ne k z hk hs
  exact ⟨_, _, rfl, n _ _ F2 H2 q2 (e1.trans e2) (r4.putO j f4)⟩
theorem dp_parNN {x y : Str} {i j : Nat} {f g : DM} {px py pt : Pos} {kt k2 : Nat} {pt2 : Pos} (hc : X.calm = true) (hN : X.N.Nodup) (hi : X.N[i]? = some x) (hj : X.N[j]? = some y) (hij : i ≠ j)
    (hx : X.env.scope.names.lookup x = some .local) (hy : X.env.scope.names.lookup y = some .local) (ha : PE X a (tN c f)) (hb : PE X b (tN c g))
    (hw : (swappedStores [.Tuple [.Name x px, .Name y py] kt pt] (.Tuple [a, b] k2 pt2) X.env = pure (some [x, y])))
    (hs : swapsWithSole [.Tuple [.Name x px, .Name y py] kt pt] (.Tuple [a, b] k2 pt2) pos.line X.env = pure false := by rfl)
    (s1 : starEach [a, b] X.env = (false, eval a X.env) :: starEach [b] X.env := by rfl) (s2 : starEach [b] X.env = (false, eval b X.env) :: starEach [] X.env := by rfl) :
    PS X (.Assign [.Tuple [.Name x px, .Name y py] kt pt] (.Tuple [a, b] k2 pt2) pos) (tS c (sParNN i j f g)) :=
  PS.to (ps_par hc hN hi hj hij hx hy (pa_cons ha (pa_cons hb pa_nil s2) s1) hw hs) (parNN_use hij)
end
end DL
namespace DL
open PySem L2
section
variable {X : Cx} {c : Cn} {e a b e3 : Expr} {pos : Pos}
theorem dts_one {b : BM} (h : PT X e (tT c b)) : PTs X [e] (tT c b) := pts_one h
end
end DL
namespace DL
open PySem L2
section
variable {X : Cx} {c : Cn}
def gNeS : G2 := fun x y P => match x, y with
  | .str a, .str b => P (.bool (!decide (a = b)))
  | _, _ => False
theorem dec_strs {a b : Str} : decide (V.str a = V.str b) = decide (a = b) := by
  by_cases h : a = b
  · subst h
    simp
  · simp [h]
theorem sem_neS : Sem2 X c (compareOp .NotEq) gNeS := by
  refine ⟨_, op_ne, fun F H σ ρ xx x y vx vy P Q r bx by_ g k => ?_⟩
  unfold gNeS at g
  split at g
  · cases bo_str bx
    cases bo_str by_
    refine ⟨rfl, ?_⟩
    rw [dec_strs]
    exact k _ _ F H g (Ex.refl F) r (.bl _)
  · exact g.elim
end
end DL
namespace DL
open PySem L2 PySem.Spec PyProof.Rows
section
variable {pr : Program} {wd : PySem.World} {A : Around} {cp tg nx src el : Expr} {fs : List Expr} {gens : List Comprehension} {sc0 : Scope} {ps0 : Pos} {l : Nat} {acc : Value} {ce : PySem.Env} {R : Result → Shared → Prop}
abbrev tests (ce : PySem.Env) (fs : List Expr) : Sem Bool := forIn fs true fun q r => if r = true then do let k ← isTrue q ce (eval q ce); pure (ForInStep.yield k) else pure (ForInStep.yield r)
/-- one turn: what is asked where an item comes, and where none -/
def TurnOk (pr : Program) (wd : PySem.World) (A : Around) (ce : PySem.Env) (tg : Expr) (fs : List Expr) (N : Value → Shared → Prop) (stop done : Shared → Prop) (inner : Shared → Prop) (it : Value) (s : Shared) : Prop :=
  wpAny (model pr wd) A (pyNext it) (fun r s1 => match r with
    | none => stop s1
    | some v => wpAny (model pr wd) A (letOwnedTupleGo tg it v) (fun _ s2 => wpAny (model pr wd) A (assign tg ce v) (fun _ s3 =>
        wpAny (model pr wd) A (tests ce fs) (fun k s4 => if k = true then inner s4 else done s4) N s3) N s2) N s1) N s
/-- behind the tests: the next clause's own loop -/
def nestW (pr : Program) (wd : PySem.World) (A : Around) (ce : PySem.Env) (N : Value → Shared → Prop) (cp nx : Expr) (l : Nat) (acc : Value) (done : Shared → Prop) (s : Shared) : Prop :=
  wpAny (model pr wd) A (eval nx ce) (fun x s1 => wpAny (model pr wd) A (pyIter x) (fun j s2 => codeAny (model pr wd) A (.compStart cp (l + 1) j acc ce) (fun r s' => match r with
    | .ok _ => done s'
    | .error _ => False) s2) N s1) N s
/-- behind the tests: the element is put in -/
def addW (pr : Program) (wd : PySem.World) (A : Around) (ce : PySem.Env) (N : Value → Shared → Prop) (el : Expr) (acc : Value) (done : Shared → Prop) (s : Shared) : Prop :=
  wpAny (model pr wd) A (eval el ce) (fun x s1 => wpAny (model pr wd) A (call (.builtin "set.add") [acc, x]) (fun _ s2 => done s2) N s1) N s
theorem loop_nest (hf : ∀ x, foldedSetIterable nx ce x = pure x)
    (eqn : ∀ it, compTurn (.SetComp el gens sc0 ps0) l it acc ce = (do
      standAt src.pos
      match ← pyNext it with
      | none => pure (.done .next)
      | some v =>
        letOwnedTupleGo tg it v
        assign tg ce v
        let mut ok := true
        for q in fs do
          if ok then ok ← isTrue q ce (eval q ce)
        if ok then
          let x ← eval nx ce
          standAt nx.pos
          let x ← foldedSetIterable nx ce x
          let _ ← runOwn (.compStart (.SetComp el gens sc0 ps0) (l + 1) (← holding [x] (pyIter x)) acc ce) ce
        again (.compLoop (.SetComp el gens sc0 ps0) l it acc ce)))
    (V : Nat → Shared → Prop) {it : Value} {s : Shared} (turn : ∀ n s, V n s → TurnOk pr wd A ce tg fs (notedBy (model pr wd) A ce fun e s' => R (.error e) s') (R (.ok .next)) (fun s' => ∃ m, m < n ∧ V m s') (nestW pr wd A ce (notedBy (model pr wd) A ce fun e s' => R (.error e) s') (.SetComp el gens sc0 ps0) nx l acc fun s' => ∃ m, m < n ∧ V m s') it s)
    (n : Nat) (h : V n s) : codeAny (model pr wd) A (.compLoop (.SetComp el gens sc0 ps0) l it acc ce) R s := by
  refine codeAny_loop rfl V ?_ n h
  intro n s hv
  show wpAny _ A ((compTurn (.SetComp el gens sc0 ps0) l it acc ce).onRaise (fun e => do noteFrame e ce; theTreesLotGoes e)) _ _ s
  refine wpAny_noted ?_
  rw [eqn]
  refine wpAny_bind (wpAny_standAt (wpAny_bind (wpAny_mono (turn n s hv) ?_ fun _ _ z => z)))
  intro r s1 h1
  match r, h1 with
  | none, h1 => exact wpAny_pure h1
  | some v, h1 =>
    refine wpAny_bind (wpAny_mono h1 ?_ fun _ _ z => z)
    intro _ s2 h2
    refine wpAny_bind (wpAny_mono h2 ?_ fun _ _ z => z)
    intro _ s3 h3
    refine wpAny_bind (wpAny_mono h3 ?_ fun _ _ z => z)
    intro k s4 h4
    cases k with
    | false => exact wpAny_pure ⟨rfl, h4⟩
    | true =>
      refine wpAny_bind (wpAny_mono h4 ?_ fun _ _ z => z)
      intro x s5 h5
      refine wpAny_bind (wpAny_standAt (wpAny_bind (wpAny_of_eq (hf x) (wpAny_bind (wpAny_holding (wpAny_mono h5 ?_ fun _ _ z => z))))))
      intro j s6 h6
      (refine wpAny_bind (wpAny_runOwn ?_))
      rw [Around.mark_none]
      refine codeAny_mono h6 ?_
      intro r s7 h7
      match r, h7 with
      | .ok f, h7 => first | exact wpAny_pure ⟨rfl, h7⟩ | exact wpAny_bind (wpAny_pure (wpAny_pure ⟨rfl, h7⟩))
      | .error e, h7 => exact h7.elim
theorem loop_add
    (eqn : ∀ it, compTurn (.SetComp el gens sc0 ps0) l it acc ce = (do
      standAt src.pos
      match ← pyNext it with
      | none => pure (.done .next)
      | some v =>
        letOwnedTupleGo tg it v
        assign tg ce v
        let mut ok := true
        for q in fs do
          if ok then ok ← isTrue q ce (eval q ce)
        if ok then
          (do let v ← eval el ce; standAt el.pos; let _ ← call (.builtin "set.add") [acc, v])
        again (.compLoop (.SetComp el gens sc0 ps0) l it acc ce)))
    (V : Nat → Shared → Prop) {it : Value} {s : Shared} (turn : ∀ n s, V n s → TurnOk pr wd A ce tg fs (notedBy (model pr wd) A ce fun e s' => R (.error e) s') (R (.ok .next)) (fun s' => ∃ m, m < n ∧ V m s') (addW pr wd A ce (notedBy (model pr wd) A ce fun e s' => R (.error e) s') el acc fun s' => ∃ m, m < n ∧ V m s') it s)
    (n : Nat) (h : V n s) : codeAny (model pr wd) A (.compLoop (.SetComp el gens sc0 ps0) l it acc ce) R s := by
  refine codeAny_loop rfl V ?_ n h
  intro n s hv
  show wpAny _ A ((compTurn (.SetComp el gens sc0 ps0) l it acc ce).onRaise (fun e => do noteFrame e ce; theTreesLotGoes e)) _ _ s
  refine wpAny_noted ?_
  rw [eqn]
  refine wpAny_bind (wpAny_standAt (wpAny_bind (wpAny_mono (turn n s hv) ?_ fun _ _ z => z)))
  intro r s1 h1
  match r, h1 with
  | none, h1 => exact wpAny_pure h1
  | some v, h1 =>
    refine wpAny_bind (wpAny_mono h1 ?_ fun _ _ z => z)
    intro _ s2 h2
    refine wpAny_bind (wpAny_mono h2 ?_ fun _ _ z => z)
    intro _ s3 h3
    refine wpAny_bind (wpAny_mono h3 ?_ fun _ _ z => z)
    intro k s4 h4
    cases k with
    | false => exact wpAny_pure ⟨rfl, h4⟩
    | true =>
      refine wpAny_bind (wpAny_bind (wpAny_mono h4 ?_ fun _ _ z => z))
      intro x s5 h5
      refine wpAny_bind (wpAny_standAt (wpAny_bind (wpAny_mono h5 ?_ fun _ _ z => z)))
      exact fun _ s6 h6 => wpAny_pure (wpAny_pure ⟨rfl, h6⟩)
theorem start_any {s : Shared} {it : Value} (plain : ((clausesOf (.SetComp el gens sc0 ps0))[l]?).elim false (·.is_async != 0) = false) (h0 : codeAny (model pr wd) A (.compLoop (.SetComp el gens sc0 ps0) l it acc ce) R s)
    (h : wpAny (model pr wd) A (pyIter it) (fun j s' => codeAny (model pr wd) A (.compLoop (.SetComp el gens sc0 ps0) l j acc ce) R s') (notedBy (model pr wd) A ce fun e s' => R (.error e) s') s) : codeAny (model pr wd) A (.compStart (.SetComp el gens sc0 ps0) l it acc ce) R s := by
  refine codeAny_of_tree ?_
  show wpAny _ _ ((compStart (.SetComp el gens sc0 ps0) l it acc ce).onRaise (fun e => do noteFrame e ce; standAt theWindowsPlace)) _ _ s
  refine wpAny_notedAt ?_
  unfold compStart
  rw [plain]
  (rw [if_neg Bool.false_ne_true])
  (show wpAny _ _ (ask >>= _) _ _ s)
  (refine wpAny_bind (wpAny_askSetting (wpAny_ite ?_)))
  split
  · first
      | (exact wpAny_bind (wpAny_pure (wpAny_pure (And.intro rfl h0))))
      | (exact wpAny_pure (And.intro rfl h0))
  · (refine wpAny_bind (wpAny_rule ?_))
    split
    · exact wpAny_bind (wpAny_standAt (wpAny_bind (wpAny_mono h (fun j s' z => wpAny_pure (And.intro rfl z)) fun _ _ z => z)))
    · first
        | exact wpAny_bind (wpAny_pure (wpAny_bind (wpAny_mono h (fun j s' z => wpAny_pure (And.intro rfl z)) fun _ _ z => z)))
        | exact wpAny_bind (wpAny_mono h (fun j s' z => wpAny_pure (And.intro rfl z)) fun _ _ z => z)
end
end DL
namespace DL
open PySem L2 PySem.Spec PyProof.Rows
abbrev noE : Value → Shared → Prop := fun _ _ => False
/-- what stands behind a clause's tests -/
abbrev LvU := L2.St → Hp → (Hp → Prop) → Prop
/-- it keeps the block's context, and reaches Nx -/
def InOk (B : Cx) (inner : (Shared → Prop) → Shared → Prop) (t : LvU) (own : List Nat) : Prop := ∀ (pins : List (Addr × Obj)) (s : Shared) (σ : L2.St) (H : Hp) (Nx : Hp → Prop) (done : Shared → Prop), Inv B pins σ H s → t σ H Nx →
  (∀ (σ' : L2.St) (H' : Hp) (s' : Shared), Inv B pins σ' H' s' → (L2.wipe σ own).length = σ'.length → (∀ (j : Nat) v, (L2.wipe σ own)[j]? = some (some v) → σ'[j]? = some (some v)) → Nx H' → done s') → inner done s
/-- a clause's turns -/
abbrev Turns (J : It) (g : TG) (tt : TT) (vs : List Nat) (σ : L2.St) (U : LvU) (Fin : Hp → Prop) (W : Nat → Nat → Hp → Prop) : Prop := ∀ i m H, W i m H →
  (J.stop i H ∧ Fin H) ∨ (J.go i H ∧ ∃ Nx : Hp → Prop, (∀ G, Nx G → ∃ m', m' < m ∧ W (i + 1) m' G) ∧ ∀ x G, J.yld i H x G → g x (L2.wipe σ vs) G fun σ2 H2 => L2.wipe σ2 vs = L2.wipe σ vs ∧ tt σ2 H2 fun b H3 => if b = true then U σ2 H3 Nx else Nx H3)
/-- slots that know what the block's own slots knew -/
structure Knows (σ σ' : L2.St) (vs : List Nat) : Prop where
  l : (L2.wipe σ vs).length = σ'.length
  k : ∀ (j : Nat) v, (L2.wipe σ vs)[j]? = some (some v) → σ'[j]? = some (some v)
theorem wipe_off {σ : L2.St} {i : Nat} : ∀ {vs : List Nat}, i ∉ vs → (L2.wipe σ vs)[i]? = σ[i]?
  | [], _ => rfl
  | v :: vs, h => (List.getElem?_set_ne fun e => h (by rw [e]; exact List.mem_cons_self)).trans (wipe_off fun m => h (List.mem_cons_of_mem _ m))
theorem Knows.of_eq {σ σ' : L2.St} {vs : List Nat} (e : L2.wipe σ' vs = L2.wipe σ vs) : Knows σ σ' vs := ⟨by rw [← e, wipe_length], fun j v q => (L2.wipe_some (show (L2.wipe σ' vs)[j]? = _ from e ▸ q)).1⟩
theorem Knows.within {σ σ1 σ2 : L2.St} {vs own : List Nat} (a : L2.wipe σ1 vs = L2.wipe σ vs) (hv : ∀ i ∈ own, i ∈ vs) (hl : (L2.wipe σ1 own).length = σ2.length) (hk : ∀ (j : Nat) v, (L2.wipe σ1 own)[j]? = some (some v) → σ2[j]? = some (some v)) : Knows σ σ2 vs where
  l := by rw [← a, wipe_length, ← hl, wipe_length]
  k j v q := by
    have z := L2.wipe_some (show (L2.wipe σ1 vs)[j]? = _ from a ▸ q)
    exact hk j v ((wipe_off fun m => z.2 (hv j m)).trans z.1)
section
variable {Y : Cx} {pins : List (Addr × Obj)} {tg : Expr} {fs : List Expr} {g : TG} {tt : TT} {vs own : List Nat} {σ : L2.St} {it : Addr} {fp : List Addr} {tn : Nat → Heap → Prop} {J : It} {W : Nat → Nat → Hp → Prop} {Fin : Hp → Prop} {U : LvU} {act : (Shared → Prop) → Shared → Prop}
theorem wpF {α : Type} {t : Sem α} {Q Q' : α → Shared → Prop} {M : Model} {A : Around} {E : Value → Shared → Prop} {s : Shared} (h : wpAny M A t Q noE s) (q : ∀ a s, Q a s → Q' a s) : wpAny M A t Q' E s := wpAny_mono h q fun _ _ z => z.elim
/-- with no way out by an error -/
theorem wpX {α : Type} {t : Sem α} {Q Q' : α → Shared → Prop} {E : Value → Shared → Prop} {s : Shared} (hx : Y.xe = noE) (h : wpAny (model Y.prog Y.w) Y.A t Q Y.xe s) (q : ∀ a s, Q a s → Q' a s) : wpAny (model Y.prog Y.w) Y.A t Q' E s := wpF (by rw [hx] at h; exact h) q
/-- how things stand ahead of a turn -/
def Ahead (Y : Cx) (pins : List (Addr × Obj)) (σw : L2.St) (fp : List Addr) (tn : Nat → Heap → Prop) (W : Nat → Nat → Hp → Prop) (m : Nat) (s : Shared) : Prop := ∃ i G, Inv Y pins σw G s ∧ tn i s.heap ∧ (∀ b ∈ fp, G b = none) ∧ W i m G
/-- what the iterator stands on was held through a turn, and goes free -/
theorem Ahead.next {σ' : L2.St} {G : Hp} {s7 s : Shared} {i m : Nat} (T : Turn Y.prog Y.w Y.K tg J fp it tn) (I : Inv Y (pins ++ pinsAt fp s7.heap) σ' G s) (kn : Knows σ σ' vs) (st : tn i s7.heap) (w : W i m G) : Ahead Y pins (L2.wipe σ vs) fp tn W m s := by
  have held : ∀ b ∈ fp, ∀ o, s7.heap.get? b = some o → _ := fun b mb o e => I.pin (b, o) (List.mem_append_right _ (List.mem_append_right _ (mem_pinsAt mb e)))
  exact ⟨i, G, I.unpinned.weak kn.l kn.k, T.keep i _ _ st fun b mb o e => (held b mb o e).1, fun b mb => (T.obj i _ st b mb).elim fun o q => (held b mb o q.1).2.1, w⟩
/-- one turn -/
theorem turn_ok {N : Value → Shared → Prop} {stop : Shared → Prop} {n : Nat} {s : Shared} (hx : Y.xe = noE) (hc : Y.calm = true) (T : Turn Y.prog Y.w Y.K tg J fp it tn) (pg : PG Y tg g) (pt : PTs Y fs tt) (hv : ∀ i ∈ own, i ∈ vs)
    (still : ∀ (σ' : L2.St) (G : Hp) (s' : Shared), Inv Y pins σ' G s' → (∀ b ∈ fp, G b = none) → ∀ b ∈ fp, FpOk Y pins G b) (turns : Turns J g tt vs σ U Fin W) (hU : InOk Y act U own)
    (over : ∀ (G : Hp) (s' : Shared), Inv Y pins (L2.wipe σ vs) G s' → Fin G → stop s') (h : Ahead Y pins (L2.wipe σ vs) fp tn W n s) :
    TurnOk Y.prog Y.w Y.A Y.env tg fs N stop (fun s' => ∃ m, m < n ∧ Ahead Y pins (L2.wipe σ vs) fp tn W m s') (act fun s' => ∃ m, m < n ∧ Ahead Y pins (L2.wipe σ vs) fp tn W m s') (.ref it) s := by
  obtain ⟨i, G, I, st, no, w⟩ := h
  have free := still _ G s I no
  rcases turns i n G w with ⟨a, b⟩ | ⟨a, Nx, less, step⟩
  · exact wpF (T.done Y rfl rfl rfl hc i pins s _ G noE I free st a) fun r s' q => q.1 ▸ over G s' q.2 b
  · refine wpF (T.item Y rfl rfl rfl hc i pins s _ G noE I free st a) ?_
    rintro _ s1 ⟨u, rfl, q⟩
    refine wpF q ?_
    rintro _ s2 ⟨x, G2, I2, ru, y, st2, no2⟩
    have go : ∀ (σ' : L2.St) (G' : Hp) (s' : Shared), Inv Y (pins ++ pinsAt fp s2.heap) σ' G' s' → Knows σ σ' vs → Nx G' → ∃ m, m < n ∧ Ahead Y pins (L2.wipe σ vs) fp tn W m s' := fun σ' G' s' I' kn nx =>
      (less G' nx).elim fun m q => ⟨m, q.1, .next T I' kn st2 q.2⟩
    refine wpX hx (pg.run _ s2 _ G2 x u _ (I2.pinned (still _ G2 s2 I2 no2) (T.obj _ _ st2)) ru (step x G2 y)) ?_
    rintro _ s3 ⟨σ3, G3, I3, e3, q3⟩
    refine wpX hx (pt.run _ s3 σ3 G3 _ I3 q3) ?_
    rintro b s4 ⟨G4, I4, q4⟩
    match b, q4 with
    | false, q4 => exact go σ3 G4 s4 I4 (.of_eq e3) q4
    | true, q4 => exact hU _ s4 σ3 G4 Nx _ I4 q4 fun σ' G' s' I' l k nx => go σ' G' s' I' (.within e3 hv l k) nx
end
/-- a block stands open over a new container: what is known within, and what the end gives back -/
structure Opened (X : Cx) (pins : List (Addr × Obj)) (σ : L2.St) (own : List Nat) (Y : Cx) (fp : List Addr) (tn : Nat → Heap → Prop) (C : Addr) (G : Hp) (s : Shared) : Prop where
  inv : Inv Y [] (L2.wipe σ own) G s
  st : tn 0 s.heap
  no : ∀ b ∈ fp, G b = none
  still : ∀ (σ' : L2.St) (G' : Hp) (s' : Shared), Inv Y [] σ' G' s' → (∀ b ∈ fp, G' b = none) → ∀ b ∈ fp, FpOk Y [] G' b
  back : ∀ (σ' : L2.St) (G' : Hp) (s' : Shared), Inv Y [] σ' G' s' → Inv X pins σ G' s' ∧ (∃ m, s'.heap.Ns C m) ∧ FpOk X pins G' C
abbrev heapIn (h : Heap) (scope : Scope) : Heap := pushCells (h.push { cls := .type "dict", data := .dict #[] }) scope.names
abbrev envIn (X : Cx) (h : Heap) (scope : Scope) : PySem.Env := compEnvC scope (cellsFrom (h.objs.size + 1) scope.names (cloFrom X.env.cells scope.names [])) h.objs.size X.env
theorem Opened.of {X : Cx} {pins : List (Addr × Obj)} {σ : L2.St} {H : Hp} {s s3 : Shared} {tg : Expr} {J : It} {fp : List Addr} {it : Addr} {tn : Nat → Heap → Prop} {scope : Scope} {own : List (Str × Nat)} {o : HO} {ob : Obj} (hN : X.N.Nodup) (ok : BlkOk X.N X.env.scope scope own)
    (T : Turn X.prog X.w X.K tg J fp it tn) (st : tn 0 s.heap) (free : ∀ b ∈ fp, FpOk X pins H b) (e3 : s3.heap = s.heap.push ob) (I : Inv X pins σ (upd H s.heap.objs.size o) s3) :
    Opened X pins σ (own.map (·.2)) (X.blk s3 (upd H s.heap.objs.size o) scope (envIn X s3.heap scope) fp) fp tn s3.heap.objs.size (upd H s.heap.objs.size o) { s3 with heap := heapIn s3.heap scope } := by
  have lt : ∀ b ∈ fp, b < s.heap.objs.size := fun b mb => (T.obj 0 _ st b mb).elim fun _ q => Heap.lt_size q.1
  have free3 : ∀ b ∈ fp, FpOk X pins (upd H s.heap.objs.size o) b := fun b mb => ⟨(upd_ne (Nat.ne_of_lt (lt b mb))).trans (free b mb).1, (free b mb).2⟩
  have pushed : ∀ b z, s.heap.get? b = some z → s3.heap.get? b = some z := fun b z q => by rw [e3]; exact Heap.get?_push_of_some _ q
  exact {
    inv := block_start I ok hN fun b mb => ⟨free3 b mb, by rw [e3, Heap.size_push]; exact Nat.lt_succ_of_lt (lt b mb)⟩
    st := T.keep 0 _ _ st fun b _ z q => pushCells_keeps _ _ _ _ (Heap.get?_push_of_some _ (pushed b z q))
    no := fun b mb => (free3 b mb).1
    still := fun σ' G' s' J' n b mb =>
      have away := J'.ok.exf b mb
      ⟨n b mb, away.1, J'.ok.exfs b mb, .inl mb, away.2, fun p hp => (List.not_mem_nil hp).elim⟩
    back := fun σ' G' s' J' => by
      refine ⟨I.call' J'.os J'.base J'.hok J'.bare fun b mb => ?_, J'.loc.elim fun m q => ⟨m, q.1⟩, I.fpOk (Nat.le_refl _) J'.free⟩
      obtain ⟨-, f1, f2, f3, f4, f5⟩ := free3 b mb
      exact ⟨f3, f1, f4, f5⟩ }
/-- one turn of the block's outermost clause -/
theorem Opened.turn {X Y : Cx} {p0 : List (Addr × Obj)} {σ : L2.St} {vs own : List Nat} {fp : List Addr} {tn : Nat → Heap → Prop} {C it : Addr} {G0 : Hp} {s0 : Shared} (op : Opened X p0 σ vs Y fp tn C G0 s0) {tg : Expr} {fs : List Expr} {g : TG} {tt : TT} {J : It} {W : Nat → Nat → Hp → Prop} {Fin : Hp → Prop} {U : LvU} {act : (Shared → Prop) → Shared → Prop}
    {N : Value → Shared → Prop} {stop : Shared → Prop} {n : Nat} {s : Shared} (a : Ahead Y [] (L2.wipe σ vs) fp tn W n s) (hx : Y.xe = noE) (hc : Y.calm = true) (T : Turn Y.prog Y.w Y.K tg J fp it tn) (pg : PG Y tg g) (pt : PTs Y fs tt) (hv : ∀ i ∈ own, i ∈ vs) (turns : Turns J g tt vs σ U Fin W) (hU : InOk Y act U own)
    (over : ∀ (G : Hp) (s' : Shared) (m : Str → Option Value), Inv X p0 σ G s' → s'.heap.Ns C m → FpOk X p0 G C → Fin G → stop s') :
    TurnOk Y.prog Y.w Y.A Y.env tg fs N stop (fun s' => ∃ m, m < n ∧ Ahead Y [] (L2.wipe σ vs) fp tn W m s') (act fun s' => ∃ m, m < n ∧ Ahead Y [] (L2.wipe σ vs) fp tn W m s') (.ref it) s :=
  turn_ok hx hc T pg pt hv op.still turns hU (fun G s' J' z => (op.back _ G s' J').2.1.elim fun m q => over G s' m (op.back _ G s' J').1 q (op.back _ G s' J').2.2 z) a
/-- the names that a block takes from around it have their cells -/
theorem cells_there {X : Cx} {pins : List (Addr × Obj)} {σ : L2.St} {H : Hp} {s : Shared} {scope : Scope} {own : List (Str × Nat)} (I : Inv X pins σ H s) (ok : BlkOk X.N X.env.scope scope own) : ∀ y ∈ scope.names, y.2 = .free → ∃ c, X.env.cells.lookup y.1 = some c :=
  fun y my e => I.ok.has _ (ok.free y my e)
end DL
namespace DL
open PySem L2 PySem.Spec PyProof.Rows
/-- the reading of a clause's loop -/
def tLp (wi : TI) (g : TG) (tt : TT) (inner : L2.St → Hp → (Hp → Prop) → Prop) (vs : List Nat) : L2.St → Hp → (Hp → Prop) → Prop := fun σ H Nx => wi σ H fun J H1 => ∃ W : Nat → Nat → Hp → Prop, (∃ m, W 0 m H1) ∧ ∀ i m H, W i m H →
  (J.stop i H ∧ Nx H) ∨ (J.go i H ∧ ∃ Nx1 : Hp → Prop, (∀ H', Nx1 H' → ∃ m', m' < m ∧ W (i + 1) m' H') ∧ ∀ x H', J.yld i H x H' → g x (L2.wipe σ vs) H' fun σ2 H2 => L2.wipe σ2 vs = L2.wipe σ vs ∧ tt σ2 H2 fun b H3 => if b = true then inner σ2 H3 Nx1 else Nx1 H3)
/-- the reading of the element -/
def tPutS (w : PySem.World) (Sx : Addr) (te : TE) : L2.St → Hp → (Hp → Prop) → Prop := fun σ H Nx => te σ H fun y H4 => ∃ (k : Int) (S : Int → Bool) (n : Nat), y = .int k ∧ H4 Sx = some (SetO w Sx S n) ∧ n + 1 < scanBound ∧ Nx (upd H4 Sx (SetO w Sx (fun j => S j || decide (j = k)) (if S k = true then n else n + 1)))
section
variable {B : Cx}
theorem in_add {el : Expr} {te : TE} {Sx : Addr} {own : List Nat} {N : Value → Shared → Prop} (hx : B.xe = noE) (he : PE B el te) : InOk B (addW B.prog B.w B.A B.env N el (.ref Sx)) (tPutS B.w Sx te) own := by
  intro pins s σ H Nx done I h k
  have he' := he.run pins s σ H _ I h
  rw [hx] at he'
  refine wpF he' ?_
  rintro x s1 ⟨y, H1, I1, r1, kk, S, n, rfl, hS, hz, nx⟩
  have ad := mt_sadd (X := B) pins s1 σ H1 (.ref Sx) [.int kk] (.ref Sx) [x] (fun _ H' => Nx H') I1 rfl (.cons r1 .nil) ⟨Sx, kk, S, n, rfl, rfl, hS, hz, nx⟩
  rw [hx] at ad
  refine wpF ad ?_
  rintro _ s2 ⟨y2, H2, I2, _, q2⟩
  refine k σ H2 s2 I2 (wipe_length _ _) ?_ q2
  exact fun j v e => (L2.wipe_some e).1
/-- a clause within: its loop, from what stands behind its tests -/
theorem in_loop {tg1 it1 : Expr} {ifs1 : List Expr} {wi1 : TI} {g1 : TG} {tt1 : TT} {t2 : L2.St → Hp → (Hp → Prop) → Prop} {vs1 vs2 : List Nat} {cp : Expr} {l : Nat} {acc : Value} {N : Value → Shared → Prop} {inn : (Value → Shared → Prop) → (Shared → Prop) → Shared → Prop} (hx : B.xe = noE) (hc : B.calm = true) (hv : ∀ i ∈ vs2, i ∈ vs1)
    (hi : PI B tg1 it1 wi1) (hg : PG B tg1 g1) (ht : PTs B ifs1 tt1) (h2 : ∀ N, InOk B (inn N) t2 vs2)
    (plain : ((clausesOf cp)[l + 1]?).elim false (·.is_async != 0) = false)
    (start : ∀ {R : Result → Shared → Prop} {s : Shared} {it : Value}, codeAny (model B.prog B.w) B.A (.compLoop cp (l + 1) it acc B.env) R s → wpAny (model B.prog B.w) B.A (pyIter it) (fun j s' => codeAny (model B.prog B.w) B.A (.compLoop cp (l + 1) j acc B.env) R s') (notedBy (model B.prog B.w) B.A B.env fun e s' => R (.error e) s') s → codeAny (model B.prog B.w) B.A (.compStart cp (l + 1) it acc B.env) R s)
    (loop : ∀ {R : Result → Shared → Prop} (V : Nat → Shared → Prop) {it : Value} {s : Shared}, (∀ n s, V n s → TurnOk B.prog B.w B.A B.env tg1 ifs1 (notedBy (model B.prog B.w) B.A B.env fun e s' => R (.error e) s') (R (.ok .next)) (fun s' => ∃ m, m < n ∧ V m s') (inn (notedBy (model B.prog B.w) B.A B.env fun e s' => R (.error e) s') fun s' => ∃ m, m < n ∧ V m s') it s) → ∀ n, V n s → codeAny (model B.prog B.w) B.A (.compLoop cp (l + 1) it acc B.env) R s) :
    InOk B (nestW B.prog B.w B.A B.env N cp it1 l acc) (tLp wi1 g1 tt1 t2 vs1) vs1 := by
  intro pins s σ H Nx done I h k
  refine wpX hx (hi.run pins s σ H _ I h) fun x s1 q => wpF (by rw [hx] at q; exact q) ?_
  rintro _ s2 ⟨it, fp, tn, J, G, rfl, I2, T, st, free, W, ⟨m0, w0⟩, turns⟩
  have main : codeAny (model B.prog B.w) B.A (.compLoop cp (l + 1) (.ref it) acc B.env) (fun r s' => match r with
      | .ok _ => done s'
      | .error _ => False) s2 :=
    loop (Ahead B pins (L2.wipe σ vs1) fp tn W) (fun n s3 a => turn_ok hx hc T hg ht hv (fun _ _ _ _ no b mb => ⟨no b mb, (free b mb).2⟩) turns (h2 _) (fun G3 s4 I4 z => k _ G3 s4 I4 rfl (fun _ _ e => e) z) a) m0
      ⟨0, G, I2.weak (wipe_length _ _) (fun j v e => (L2.wipe_some e).1), st, fun b mb => (free b mb).1, w0⟩
  exact start main (T.self B.A 0 _ _ _ st main)
end
end DL
namespace DL
open PySem L2 PySem.Spec PyProof.Rows
/-- a set of ints: the outermost loop of its comprehension; t: what stands behind the tests -/
def tSetN (w : PySem.World) (wi : TI) (g : TG) (tt : TT) (t : Addr → L2.St → Hp → (Hp → Prop) → Prop) (vs : List Nat) : TE := fun σ H Q => wi σ H fun J H1 => ∀ D, H1 D = none → ∃ W : Nat → Nat → Hp → Prop, (∃ m, W 0 m (upd H1 D (SetO w D (fun _ => false) 0))) ∧ ∀ i m H, W i m H →
  (J.stop i H ∧ Q (.ref D) H) ∨ (J.go i H ∧ ∃ Nx : Hp → Prop, (∀ H', Nx H' → ∃ m', m' < m ∧ W (i + 1) m' H') ∧ ∀ x H', J.yld i H x H' → g x (L2.wipe σ vs) H' fun σ2 H2 => L2.wipe σ2 vs = L2.wipe σ vs ∧ tt σ2 H2 fun b H3 => if b = true then t D σ2 H3 Nx else Nx H3)
section
variable {X : Cx} {el tg iter nx : Expr} {ifs : List Expr} {gs : List Comprehension} {scope : Scope} {own : List (PySem.Str × Nat)} {pos : Pos} {wi : TI} {g : TG} {tt : TT} {t : Addr → L2.St → Hp → (Hp → Prop) → Prop} {vs2 : List Nat}
theorem pe_setN (hc : X.calm = true) (hN : X.N.Nodup) (hi : PI X tg iter wi) (ok : BlkOk X.N X.env.scope scope own) (hv : ∀ i ∈ vs2, i ∈ own.map (·.2))
    (hg : ∀ (s : Shared) (H : Hp) (C : Addr) (cl : List (PySem.Str × Addr)) (fp : List Addr), PG (X.blk s H scope (compEnvC scope cl C X.env) fp) tg g)
    (ht : ∀ (s : Shared) (H : Hp) (C : Addr) (cl : List (PySem.Str × Addr)) (fp : List Addr), PTs (X.blk s H scope (compEnvC scope cl C X.env) fp) ifs tt)
    (hin : ∀ (s : Shared) (H : Hp) (C : Addr) (cl : List (PySem.Str × Addr)) (fp : List Addr) (D : Addr) (N : Value → Shared → Prop), InOk (X.blk s H scope (compEnvC scope cl C X.env) fp) (nestW X.prog X.w X.A (compEnvC scope cl C X.env) N (.SetComp el (⟨tg, iter, ifs, 0⟩ :: gs) scope pos) nx 0 (.ref D)) (t D) vs2)
    (eqn : ∀ (acc it : Value) (ce : PySem.Env), compTurn (.SetComp el (⟨tg, iter, ifs, 0⟩ :: gs) scope pos) 0 it acc ce = (do
      standAt iter.pos
      match ← pyNext it with
      | none => pure (.done .next)
      | some v =>
        letOwnedTupleGo tg it v
        assign tg ce v
        let mut ok := true
        for q in ifs do
          if ok then ok ← isTrue q ce (eval q ce)
        if ok then
          let x ← eval nx ce
          standAt nx.pos
          let x ← foldedSetIterable nx ce x
          let _ ← runOwn (.compStart (.SetComp el (⟨tg, iter, ifs, 0⟩ :: gs) scope pos) (0 + 1) (← holding [x] (pyIter x)) acc ce) ce
        again (.compLoop (.SetComp el (⟨tg, iter, ifs, 0⟩ :: gs) scope pos) 0 it acc ce)))
    (hs : ∀ x, foldedSetIterable iter X.env x = pure x := by intro _; rfl) (hs1 : ∀ ce x, foldedSetIterable nx ce x = pure x := by intro _ _; rfl) :
    PE X (.SetComp el (⟨tg, iter, ifs, 0⟩ :: gs) scope pos) (tSetN X.w wi g tt t (own.map (·.2))) := by
  constructor
  intro pins s σ H Q I h
  rw [PpSet.eval_SetComp]
  show wpAny (model X.prog X.w) X.A (comprehension (.SetComp el (⟨tg, iter, ifs, 0⟩ :: gs) scope pos) scope X.env _ (newSet (.type "set")) false (eval iter X.env) none) _ X.xe s
  refine wpAny_comprehension_free (use := none) rfl hs (closure_ok (cells_there I ok)) ok.kind (fun y my e => (ok.uniq y my).trans (congrArg some e)) (thn (hi.run pins s σ H _ I h) fun xv s1 hx => thn hx ?_)
  rintro itv s2 ⟨it, fp, tn, J, H2, rfl, I2, T, st, free, q⟩
  refine PpSet.newSet_ok (newEnv_comp ?_)
  obtain ⟨W, ⟨m0, w0⟩, turns⟩ := q s2.heap.objs.size (I2.hok.fresh (Nat.le_refl _))
  have op := Opened.of hN ok T st free rfl (I2.laid (t' := s2.toks) (fun b o e => Heap.get?_push_of_some _ e) (Nat.le_refl _) (setO_new (setR_fresh X.w)))
  have main := loop_nest (pr := X.prog) (wd := X.w) (A := X.A) (R := compPost (model X.prog X.w) X.A X.xe none (EP X pins σ Q) (.ref s2.heap.objs.size) _) (src := iter) (nx := nx) (tg := tg) (fs := ifs) (it := .ref it) (hs1 _) (fun it => eqn _ it _) (Ahead _ [] _ fp tn W)
    (fun n s3 a => op.turn a rfl hc T (hg _ _ _ _ _) (ht _ _ _ _ _) hv turns (hin _ _ _ _ _ _ _) fun G s4 ns I5 hns fC z =>
      ⟨ns, hns, fun h2 sb => ⟨.ref s2.heap.objs.size, G, I5.turned (t' := s4.toks) (fun b o hb e => (sb.2 b hb).trans e) fC.1 fC.2.1 fC.2.2.2.1 fC.2.2.2.2.1 fC.2.2.2.2.2, rfl, z⟩⟩) m0 ⟨0, _, op.inv, op.st, op.no, w0⟩
  exact start_any rfl main (T.self X.A 0 _ _ _ op.st main)
end
end DL
namespace DL
open PySem L2 PySem.Spec PyProof.Rows
theorem wipe_in {σ : L2.St} {i : Nat} : ∀ {vs : List Nat}, i ∈ vs → (L2.wipe σ vs)[i]? = σ[i]?.map fun _ => none
  | v :: vs, h => by
    show ((L2.wipe σ vs).set v none)[i]? = _
    rw [List.getElem?_set]
    by_cases e : v = i
    · subst e
      rw [if_pos rfl, wipe_length]
      by_cases l : v < σ.length
      · rw [if_pos l, List.getElem?_eq_getElem l]
        rfl
      · rw [if_neg l, List.getElem?_eq_none (by omega)]
        rfl
    · rw [if_neg e]
      exact wipe_in ((List.mem_cons.mp h).resolve_left fun z => e z.symm)
theorem wipe_wipe {σ : L2.St} {us vs : List Nat} (h : ∀ i ∈ us, i ∈ vs) : L2.wipe (L2.wipe σ us) vs = L2.wipe σ vs := by
  refine List.ext_getElem? fun i => ?_
  by_cases hi : i ∈ vs
  · rw [wipe_in hi, wipe_in hi]
    by_cases hu : i ∈ us
    · rw [wipe_in hu]
      cases σ[i]? <;> rfl
    · rw [wipe_out hu]
  · rw [wipe_out hi, wipe_out hi, wipe_out fun z => hi (h i z)]
abbrev NM := Env → List Int → (List Int → Env → Prop) → Prop
def insI (k : Int) (acc : List Int) : List Int := if k ∈ acc then acc else acc ++ [k]
abbrev SetD (w : PySem.World) (a : Addr) (acc : List Int) : HO := SetO w a (fun j => decide (j ∈ acc)) acc.length
def nAdd (f : DM) : NM := fun ρ acc K => f ρ fun y ρ' => match y with
  | .int k => acc.length < 64 ∧ K (insI k acc) ρ'
  | _ => False
def lpI (t : TM) (b : BM) (inner : NM) (vs : List Nat) (K : List Int → Env → Prop) : List D → List Int → Env → Prop
  | [], acc, ρ => K acc ρ
  | d :: ds, acc, ρ => t d ρ fun ρ1 => b ρ1 fun k ρ2 => if k = true then inner ρ2 acc fun acc' ρ3 => lpI t b inner vs K ds acc' (wipeE ρ3 vs) else lpI t b inner vs K ds acc (wipeE ρ2 vs)
def nLoop (i : IM) (t : TM) (b : BM) (inner : NM) (vs : List Nat) : NM := fun ρ acc K => i ρ fun ds ρ1 => lpI t b inner vs K ds acc (wipeE ρ1 vs)
section
variable {c : Cn} {w : PySem.World}
def tIn (c : Cn) (w : PySem.World) (vsl : List Nat) (inner : NM) (D : Addr) : L2.St → Hp → (Hp → Prop) → Prop := fun σ H Nx => ∃ F ρ xx acc Kp, Rel c F H σ ρ ((D, .o (SetD w D acc)) :: xx) ∧ inner ρ acc Kp ∧
  ∀ acc' ρ' F' H', Kp acc' ρ' → Ex F F' → Rel c F' H' (L2.wipe σ vsl) ρ' ((D, .o (SetD w D acc')) :: xx) → Nx H'
theorem insI_set {a : Addr} {k : Int} {acc : List Int} : SetO w a (fun j => (fun j => decide (j ∈ acc)) j || decide (j = k)) (if (fun j => decide (j ∈ acc)) k = true then acc.length else acc.length + 1) = SetD w a (insI k acc) := by
  unfold insI
  by_cases h : k ∈ acc
  · rw [if_pos h]
    have e : (fun j => (fun j => decide (j ∈ acc)) j || decide (j = k)) = fun j => decide (j ∈ acc) := funext fun j => by
      by_cases z : j = k
      · subst z
        simp [h]
      · simp [z]
    rw [e, if_pos (by simpa using h)]
  · rw [if_neg h]
    have e : (fun j => (fun j => decide (j ∈ acc)) j || decide (j = k)) = fun j => decide (j ∈ acc ++ [k]) := funext fun j => by
      by_cases z : j = k
      · subst z
        simp
      · simp [z]
    rw [e, if_neg (by simpa using h)]
    unfold SetD
    rw [List.length_append]
    rfl
theorem scan_ok {n : Nat} (h : n < 64) : n + 1 < scanBound := by
  have : 64 < scanBound := by decide +kernel
  omega
theorem putS_use {f : DM} {te : TE} (et : te = tD c f) {D : Addr} : ∀ σ H Nx, tIn c w [] (nAdd f) D σ H Nx → tPutS w D te σ H Nx := by
  subst et
  rintro σ H Nx ⟨F, ρ, xx, acc, Kp, rel, q, k⟩
  refine ⟨F, ρ, _, _, rel, q, ?_⟩
  intro y ρ' v F' H' p e r' a
  cases y with
  | int z =>
    cases a
    obtain ⟨hl, hk⟩ := p
    have hD : H' D = some (SetD w D acc) := (r'.s.ex _ (List.mem_cons_self ..)).1.o
    refine ⟨z, _, _, rfl, hD, scan_ok hl, ?_⟩
    rw [insI_set]
    exact k _ ρ' F' _ hk e (r'.mutX (d' := .o (SetD w D (insI z acc))) upd_same)
  | none => exact p.elim
  | bool _ => exact p.elim
  | str _ => exact p.elim
  | list _ => exact p.elim
  | tuple _ => exact p.elim
  | dict _ => exact p.elim
/-- the loop over a walked list, from its reading in data -/
theorem lpI_use {t : TM} {b : BM} {inner : NM} {vs vs2 js : List Nat} (hj : ∀ j ∈ js, j ∈ vs) (h2 : ∀ j ∈ vs2, j ∈ vs) {Sx : Addr} {J : It} {ds : List D} {F1 H1 : Hp} {σ : L2.St} {xx : XX} {Kp : List Int → Env → Prop} {Stop : Hp → Prop} {ρ1 : Env} {acc1 : List Int}
    (ok : ItOk c J ds F1) (rel : Rel c F1 H1 (L2.wipe σ vs) ρ1 ((Sx, .o (SetD w Sx acc1)) :: xx)) (q : lpI t b inner vs Kp ds acc1 ρ1)
    (hs : ∀ acc' ρ' F' H', Kp acc' ρ' → Ex F1 F' → Rel c F' H' (L2.wipe σ vs) ρ' ((Sx, .o (SetD w Sx acc')) :: xx) → Stop H') :
    ∃ W : Nat → Nat → Hp → Prop, (∃ m, W 0 m H1) ∧ ∀ i m H, W i m H →
      (J.stop i H ∧ Stop H) ∨ (J.go i H ∧ ∃ Nx1 : Hp → Prop, (∀ H', Nx1 H' → ∃ m', m' < m ∧ W (i + 1) m' H') ∧ ∀ x H', J.yld i H x H' → tG c js t x (L2.wipe σ vs) H' fun σ2 H2 => L2.wipe σ2 vs = L2.wipe σ vs ∧ tT c b σ2 H2 fun b H3 => if b = true then tIn c w vs2 inner Sx σ2 H3 Nx1 else Nx1 H3) := by
  refine ⟨fun i m H' => ∃ F' ρ' acc, Ex F1 F' ∧ Rel c F' H' (L2.wipe σ vs) ρ' ((Sx, .o (SetD w Sx acc)) :: xx) ∧ m = ds.length - i ∧ i ≤ ds.length ∧ lpI t b inner vs Kp (ds.drop i) acc ρ', ⟨ds.length, F1, ρ1, acc1, Ex.refl F1, rel, by omega, Nat.zero_le _, by rw [List.drop_zero]; exact q⟩, ?_⟩
  rintro i m H' ⟨F', ρ', acc, e2, r2, rfl, hi, q2⟩
  obtain ⟨o1, o2⟩ := ok i F' H' _ ρ' _ e2 r2
  by_cases hlt : i < ds.length
  · have hd : ds[i]? = some ds[i] := List.getElem?_eq_getElem hlt
    obtain ⟨go, yl⟩ := o1 _ hd
    rw [List.drop_eq_getElem_cons hlt] at q2
    have q2 : t ds[i] ρ' fun ρ1 => b ρ1 fun k ρ2 => if k = true then inner ρ2 acc fun acc' ρ3 => lpI t b inner vs Kp (ds.drop (i + 1)) acc' (wipeE ρ3 vs) else lpI t b inner vs Kp (ds.drop (i + 1)) acc (wipeE ρ2 vs) := q2
    refine .inr ⟨go, fun H2 => ∃ F2 ρ2 acc2, Ex F1 F2 ∧ Rel c F2 H2 (L2.wipe σ vs) ρ2 ((Sx, .o (SetD w Sx acc2)) :: xx) ∧ lpI t b inner vs Kp (ds.drop (i + 1)) acc2 ρ2, fun H2 ⟨F2, ρ2, acc2, a1, a2, a3⟩ => ⟨ds.length - (i + 1), by omega, F2, ρ2, acc2, a1, a2, rfl, by omega, a3⟩, fun x H2 y => ?_⟩
    obtain ⟨F2, e3, r3, a3⟩ := yl x H2 y
    refine ⟨F2, ρ', _, ds[i], _, r3, a3, q2, fun ρ4 σ4 F4 H4 q4 on e4 r4 => ?_⟩
    have hw : L2.wipe σ4 vs = L2.wipe σ vs := by
      rw [on vs hj]
      exact wipe_wipe fun _ z => z
    refine ⟨hw, F4, ρ4, _, _, r4, q4, fun bb ρ5 F5 H5 q5 e5 r5 => ?_⟩
    cases bb with
    | false =>
      rw [if_neg Bool.false_ne_true] at q5
      (rw [if_neg Bool.false_ne_true])
      refine ⟨F5, wipeE ρ5 vs, acc, ((e2.trans e3).trans e4).trans e5, ?_, q5⟩
      have := r5.wipe vs
      rw [hw] at this
      exact this
    | true =>
      rw [if_pos rfl] at q5
      rw [if_pos rfl]
      refine ⟨F5, ρ5, xx, acc, _, r5, q5, fun acc' ρ6 F6 H6 q6 e6 r6 => ?_⟩
      refine ⟨F6, wipeE ρ6 vs, acc', (((e2.trans e3).trans e4).trans e5).trans e6, ?_, q6⟩
      have := r6.wipe vs
      rw [wipe_wipe h2, hw] at this
      exact this
  · have en : i = ds.length := by omega
    subst en
    rw [List.drop_length] at q2
    exact .inl ⟨o2 rfl, hs acc ρ' F' H' q2 e2 r2⟩
theorem nLoop_use {i : IM} {t : TM} {b : BM} {inner : NM} {vs vs2 js : List Nat} {wi : TI} {g : TG} {tt : TT} (hj : ∀ j ∈ js, j ∈ vs) (h2 : ∀ j ∈ vs2, j ∈ vs) (ei : wi = tI c i) (eg : g = tG c js t) (et : tt = tT c b) {D : Addr} :
    ∀ σ H Nx, tIn c w vs (nLoop i t b inner vs) D σ H Nx → tLp wi g tt (tIn c w vs2 inner D) vs σ H Nx := by
  subst ei eg et
  rintro σ H Nx ⟨F, ρ, xx, acc, Kp, rel, q, k⟩
  refine ⟨F, ρ, _, _, rel, q, fun ds ρ1 J F1 H1 q1 e1 r1 ok => ?_⟩
  exact lpI_use hj h2 ok (r1.wipe vs) q1 fun acc' ρ' F' H' a b c => k acc' ρ' F' H' a (e1.trans b) c
/-- sorted({..}) -/
def dSS (i : IM) (t : TM) (b : BM) (inner : NM) (vs : List Nat) : DM := fun ρ P => i ρ fun ds ρ1 => okV ρ1 vs ∧ lpI t b inner vs (fun acc ρ' => acc.length < 64 ∧ ∀ ns : List Int, ns.Pairwise (· < ·) → (∀ k : Int, k ∈ ns ↔ k ∈ acc) → P (.list (ns.map PyData.int)) (backE ρ1 ρ' vs)) ds [] (wipeE ρ1 vs)
theorem ss_use {i : IM} {t : TM} {b : BM} {inner : NM} {vs vs2 js : List Nat} {wi : TI} {g : TG} {tt : TT} (hj : ∀ j ∈ js, j ∈ vs) (h2 : ∀ j ∈ vs2, j ∈ vs) (ei : wi = tI c i) (eg : g = tG c js t) (et : tt = tT c b) :
    ∀ σ H Q, tN c (dSS i t b inner vs) σ H Q → tCB (rSortedSet w) (tCons (tSetN w wi g tt (tIn c w vs2 inner) vs) tNil) σ H Q := by
  subst ei eg et
  rintro σ H Q ⟨F, ρ, xx, P, rel, q, k⟩
  refine ⟨F, ρ, xx, _, rel, q, fun ds ρ1 J F1 H1 ⟨hok, q1⟩ e1 r1 ok D hD => ?_⟩
  obtain ⟨rD, fD⟩ := Fresh.new (o := SetD w D []) (d := .o (SetD w D [])) r1 hD upd_same
  have e0 : SetO w D (fun _ => false) 0 = SetD w D [] := by
    have : (fun _ : Int => false) = fun j => decide (j ∈ ([] : List Int)) := funext fun j => by simp
    rw [this]
    rfl
  rw [e0]
  refine lpI_use hj h2 ok ((rD.pushX fD).wipe vs) q1 ?_
  rintro acc ρ' F' H' ⟨hl, hp⟩ e2 r2
  obtain ⟨r3, f3⟩ := (Rel.back r1 e2 vs ρ' hok r2).popX
  refine ⟨D, _, _, rfl, f3.own.o, hl, fun ns p hs hm _ hpn => ?_⟩
  obtain ⟨r4, f4⟩ := Fresh.new (o := .lst (ns.map V.int)) (d := .d (.list (ns.map PyData.int))) r3 hpn ⟨_, upd_same, AtAll.ofInts ns⟩
  refine k _ _ p F' _ (hp ns hs fun z => ?_) (e1.trans e2) r4 f4
  rw [hm z]
  exact decide_eq_true_iff
end
end DL
namespace DL
open PySem L2 PySem.Spec PyProof.Rows
theorem tI_mono {c : Cn} {i : IM} {σ : L2.St} {H : Hp} {R R' : It → Hp → Prop} (h : ∀ J H, R J H → R' J H) : tI c i σ H R → tI c i σ H R' := fun ⟨F, ρ, xx, P, rel, q, k⟩ => ⟨F, ρ, xx, P, rel, q, fun ds ρ' J F' H' a b d e => h J H' (k ds ρ' J F' H' a b d e)⟩
theorem tG_mono {c : Cn} {js : List Nat} {t : TM} {v : V} {σ : L2.St} {H : Hp} {R R' : L2.St → Hp → Prop} (h : ∀ J H, R J H → R' J H) : tG c js t v σ H R → tG c js t v σ H R' := fun ⟨F, ρ, xx, d, P, rel, a, q, k⟩ => ⟨F, ρ, xx, d, P, rel, a, q, fun ρ' σ' F' H' a b e f => h σ' H' (k ρ' σ' F' H' a b e f)⟩
theorem tT_mono {c : Cn} {t : BM} {σ : L2.St} {H : Hp} {R R' : Bool → Hp → Prop} (h : ∀ J H, R J H → R' J H) : tT c t σ H R → tT c t σ H R' := fun ⟨F, ρ, xx, P, rel, q, k⟩ => ⟨F, ρ, xx, P, rel, q, fun b ρ' F' H' a e f => h b H' (k b ρ' F' H' a e f)⟩
theorem lp_mono {c : Cn} {i : IM} {t : TM} {b : BM} {js vs : List Nat} {u u' : L2.St → Hp → (Hp → Prop) → Prop} (h : ∀ σ H Nx, u σ H Nx → u' σ H Nx) : ∀ σ H Nx, tLp (tI c i) (tG c js t) (tT c b) u vs σ H Nx → tLp (tI c i) (tG c js t) (tT c b) u' vs σ H Nx := by
  intro σ H Nx
  refine tI_mono ?_
  rintro J H1 ⟨W, w0, step⟩
  refine ⟨W, w0, fun i m H w => (step i m H w).imp id ?_⟩
  rintro ⟨go, N1, hN, st⟩
  refine ⟨go, N1, hN, fun x H' y => tG_mono ?_ (st x H' y)⟩
  rintro σ2 H2 ⟨e, q⟩
  refine ⟨e, tT_mono ?_ q⟩
  intro k H3 q
  cases k with
  | false => exact q
  | true => exact h _ _ _ q
section
variable {X : Cx} {c : Cn} {el t0 i0 t1 i1 t2 i2 : Expr} {if0 if1 if2 : List Expr} {scope : Scope} {own : List (PySem.Str × Nat)} {pos spos p : Pos}
/-- sorted({el for t0 in i0 for t1 in i1 for t2 in i2}) -/
theorem dn_ss3 {I0 I1 I2 : IM} {T0 T1 T2 : TM} {B0 B1 B2 : BM} {f : DM} {vs1 vs2 js0 js1 js2 : List Nat} (hc : X.calm = true) (hN : X.N.Nodup) (ok : BlkOk X.N X.env.scope scope own)
    (hg : Gl X "sorted") (hm : X.mg "sorted" = none)
    (h0 : PI X t0 i0 (tI c I0)) (j0 : ∀ j ∈ js0, j ∈ own.map (·.2)) (j1 : ∀ j ∈ js1, j ∈ vs1) (j2 : ∀ j ∈ js2, j ∈ vs2) (v1 : ∀ j ∈ vs1, j ∈ own.map (·.2)) (v2 : ∀ j ∈ vs2, j ∈ vs1)
    (g0 : ∀ (s : Shared) (H : Hp) (C : Addr) (cl : List (PySem.Str × Addr)) (fp : List Addr), PG (X.blk s H scope (compEnvC scope cl C X.env) fp) t0 (tG c js0 T0))
    (b0 : ∀ (s : Shared) (H : Hp) (C : Addr) (cl : List (PySem.Str × Addr)) (fp : List Addr), PTs (X.blk s H scope (compEnvC scope cl C X.env) fp) if0 (tT c B0))
    (h1 : ∀ (s : Shared) (H : Hp) (C : Addr) (cl : List (PySem.Str × Addr)) (fp : List Addr), PI (X.blk s H scope (compEnvC scope cl C X.env) fp) t1 i1 (tI c I1))
    (g1 : ∀ (s : Shared) (H : Hp) (C : Addr) (cl : List (PySem.Str × Addr)) (fp : List Addr), PG (X.blk s H scope (compEnvC scope cl C X.env) fp) t1 (tG c js1 T1))
    (b1 : ∀ (s : Shared) (H : Hp) (C : Addr) (cl : List (PySem.Str × Addr)) (fp : List Addr), PTs (X.blk s H scope (compEnvC scope cl C X.env) fp) if1 (tT c B1))
    (h2 : ∀ (s : Shared) (H : Hp) (C : Addr) (cl : List (PySem.Str × Addr)) (fp : List Addr), PI (X.blk s H scope (compEnvC scope cl C X.env) fp) t2 i2 (tI c I2))
    (g2 : ∀ (s : Shared) (H : Hp) (C : Addr) (cl : List (PySem.Str × Addr)) (fp : List Addr), PG (X.blk s H scope (compEnvC scope cl C X.env) fp) t2 (tG c js2 T2))
    (b2 : ∀ (s : Shared) (H : Hp) (C : Addr) (cl : List (PySem.Str × Addr)) (fp : List Addr), PTs (X.blk s H scope (compEnvC scope cl C X.env) fp) if2 (tT c B2))
    (he : ∀ (s : Shared) (H : Hp) (C : Addr) (cl : List (PySem.Str × Addr)) (fp : List Addr), PE (X.blk s H scope (compEnvC scope cl C X.env) fp) el (tD c f))
    (hv : bootBuiltins "sorted" = some (.builtin "sorted") := by decide +kernel)
    (f0 : ∀ x, foldedSetIterable i0 X.env x = pure x := by intro _; rfl) (f1 : ∀ ce x, foldedSetIterable i1 ce x = pure x := by intro _ _; rfl) (f2 : ∀ ce x, foldedSetIterable i2 ce x = pure x := by intro _ _; rfl)
    (st : starEach [.SetComp el [⟨t0, i0, if0, 0⟩, ⟨t1, i1, if1, 0⟩, ⟨t2, i2, if2, 0⟩] scope spos] X.env = (false, eval (.SetComp el [⟨t0, i0, if0, 0⟩, ⟨t1, i1, if1, 0⟩, ⟨t2, i2, if2, 0⟩] scope spos) X.env) :: starEach [] X.env := by rfl)
    (pl : (backTo pos (starEach [] X.env)).any (·.1) = false := by rfl) :
    PE X (.Call (.Name "sorted" p) [.SetComp el [⟨t0, i0, if0, 0⟩, ⟨t1, i1, if1, 0⟩, ⟨t2, i2, if2, 0⟩] scope spos] [] pos) (tN c (dSS I0 T0 B0 (nLoop I1 T1 B1 (nLoop I2 T2 B2 (nAdd f) vs2) vs1) (own.map (·.2)))) := by
  refine PE.to (pe_callB (cr_sortedSet hc) hg hm hv (pa_cons (pe_setN (vs2 := vs1) (t := tIn c X.w vs1 (nLoop I1 T1 B1 (nLoop I2 T2 B2 (nAdd f) vs2) vs1)) hc hN h0 ok v1 g0 b0 ?_ (fun _ _ _ => rfl) f0 f1) pa_nil st) (by decide) (by decide) st pl) (ss_use j0 v1 rfl rfl rfl)
  intro s H C cl fp D N
  have L2' : ∀ N, InOk (X.blk s H scope (compEnvC scope cl C X.env) fp) (nestW X.prog X.w X.A (compEnvC scope cl C X.env) N (.SetComp el [⟨t0, i0, if0, 0⟩, ⟨t1, i1, if1, 0⟩, ⟨t2, i2, if2, 0⟩] scope spos) i2 1 (.ref D)) (tLp (tI c I2) (tG c js2 T2) (tT c B2) (tPutS X.w D (tD c f)) vs2) vs2 := by
    intro N
    refine in_loop (B := X.blk s H scope (compEnvC scope cl C X.env) fp) (vs2 := []) (inn := fun N => addW X.prog X.w X.A (compEnvC scope cl C X.env) N el (.ref D)) rfl hc (fun _ z => nomatch z) (h2 s H C cl fp) (g2 s H C cl fp) (b2 s H C cl fp) (fun N => in_add (B := X.blk s H scope (compEnvC scope cl C X.env) fp) rfl (he s H C cl fp)) rfl ?_ ?_
    · exact fun a b => start_any rfl a b
    · exact fun V it s' turn n h => loop_add (src := i2) (fun _ => rfl) V turn n h
  have use2 : InOk (X.blk s H scope (compEnvC scope cl C X.env) fp) (nestW X.prog X.w X.A (compEnvC scope cl C X.env) N (.SetComp el [⟨t0, i0, if0, 0⟩, ⟨t1, i1, if1, 0⟩, ⟨t2, i2, if2, 0⟩] scope spos) i1 0 (.ref D)) (tLp (tI c I1) (tG c js1 T1) (tT c B1) (tLp (tI c I2) (tG c js2 T2) (tT c B2) (tPutS X.w D (tD c f)) vs2) vs1) vs1 := by
    refine in_loop (B := X.blk s H scope (compEnvC scope cl C X.env) fp) (vs2 := vs2) (inn := fun N => nestW X.prog X.w X.A (compEnvC scope cl C X.env) N (.SetComp el [⟨t0, i0, if0, 0⟩, ⟨t1, i1, if1, 0⟩, ⟨t2, i2, if2, 0⟩] scope spos) i2 1 (.ref D)) rfl hc v2 (h1 s H C cl fp) (g1 s H C cl fp) (b1 s H C cl fp) L2' rfl ?_ ?_
    · exact fun a b => start_any rfl a b
    · exact fun V it s' turn n h => loop_nest (src := i1) (nx := i2) (f2 _) (fun _ => rfl) V turn n h
  intro pins s1 σ H1 Nx done I h k
  refine use2 pins s1 σ H1 Nx done I ?_ k
  have step2 : ∀ σ H Nx, tIn c X.w vs2 (nLoop I2 T2 B2 (nAdd f) vs2) D σ H Nx → tLp (tI c I2) (tG c js2 T2) (tT c B2) (tPutS X.w D (tD c f)) vs2 σ H Nx := fun σ H Nx z => by
    have y := nLoop_use (w := X.w) (vs2 := []) (wi := tI c I2) (g := tG c js2 T2) (tt := tT c B2) j2 (fun _ q => nomatch q) rfl rfl rfl σ H Nx z
    exact lp_mono (fun σ H Nx => putS_use rfl σ H Nx) σ H Nx y
  exact lp_mono step2 σ H1 Nx (nLoop_use (wi := tI c I1) (g := tG c js1 T1) (tt := tT c B1) j1 v2 rfl rfl rfl σ H1 Nx h)
end
end DL
namespace DL
open PySem L2
theorem hd_d {x : D} {as : List Ar} : ((Ar.d x :: as).head?).map isD ≠ some false := by simp [isD]
theorem k_int : kitB "int" "int" = some true := by decide +kernel
theorem k_ib : kitB "int" "bool" = some false := by decide +kernel
theorem k_tt : kitB "tuple" "tuple" = some true := by decide +kernel
theorem k_ss : kitB "str" "str" = some true := by decide +kernel
/-- a comprehension whose items are told by a function -/
theorem lcL_map {t : TM} {f : DM} {vs : List Nat} {K : List D → DL.Env → Prop} {ρ : DL.Env} (g : D → D) : ∀ (ds acc : List D), (∀ d ∈ ds, ∀ Q : D → DL.Env → Prop, (∀ ρ3, wipeE ρ3 vs = ρ → Q (g d) ρ3) → t d ρ fun ρ1 => f ρ1 Q) → K (acc ++ ds.map g) ρ → lcL t bYes f vs K ds acc ρ
  | [], acc, _, hk => by
    show K acc ρ
    simpa using hk
  | d :: ds, acc, h, hk => by
    refine h d (List.mem_cons_self ..) _ fun ρ3 e => ?_
    show lcL t bYes f vs K ds (acc ++ [g d]) (wipeE ρ3 vs)
    rw [e]
    exact lcL_map g ds (acc ++ [g d]) (fun d' hd => h d' (List.mem_cons_of_mem _ hd)) (by simpa using hk)
theorem signs_eq (z : Str) : signs z = z.cps.toList.map fun n => PyData.str ⟨#[n]⟩ := rfl
theorem ofBools_true : ∀ n : Nat, ofBools (List.replicate n (.bool true)) = some (List.replicate n true)
  | 0 => rfl
  | n + 1 => by
    have h := ofBools_true n
    rw [List.replicate_succ, List.replicate_succ]
    show (ofBools (List.replicate n (.bool true))).map (true :: ·) = _
    rw [h]
    rfl
end DL
namespace DL
open PySem L2
mutual
theorem eqv_refl : ∀ d : D, nod d = true → PyData.eqv d d = true
  | .none, _ => (by simp [PyData.eqv])
  | .bool _, _ => (by simp [PyData.eqv])
  | .int _, _ => (by simp [PyData.eqv])
  | .str _, _ => (by simp [PyData.eqv])
  | .list xs, h => by
    simp only [PyData.eqv]
    exact eqv_reflAll xs (by simpa [nod] using h)
  | .tuple xs, h => by
    simp only [PyData.eqv]
    exact eqv_reflAll xs (by simpa [nod] using h)
  | .dict _, h => by simp [nod] at h
theorem eqv_reflAll : ∀ ds : List D, nodAll ds = true → PyData.eqvAll ds ds = true
  | [], _ => rfl
  | x :: xs, h => by
    simp only [nodAll, Bool.and_eq_true] at h
    simp only [PyData.eqvAll, Bool.and_eq_true]
    exact ⟨eqv_refl x h.1, eqv_reflAll xs h.2⟩
end
end DL
namespace DL
open PySem L2
def kC : Key := .inr "cells"
def kL : Key := .inr "left"
def kS : Key := .inr "spot"
structure SrcAt (H : Hp) (q c l : Addr) (cs ls : List Int) (k : Nat) : Prop where
  dq : H q = some (.dK [(kC, .ref c), (kL, .ref l), (kS, .int k)])
  dc : H c = some (.lst (cs.map V.int))
  dl : H l = some (.lst (ls.map V.int))
  ne : c ≠ l
  nc : cs.length ≤ 100
  nl : ls.length ≤ 100
def spotOf : Option HO → Nat
  | some (.dK [_, _, (_, .int k)]) => k.toNat
  | _ => 0
theorem SrcAt.foot {H : Hp} {q c l : Addr} {cs ls : List Int} {k : Nat} (s : SrcAt H q c l cs ls k) {a : Addr} (h : Foot [] (some q) H a) : a = q ∨ a = c ∨ a = l := by
  rcases h with (h | ⟨kvs, y, h1, h2⟩) | ⟨t, ht, _⟩
  · exact .inl h
  · rw [s.dq] at h1
    cases h1
    simp only [List.mem_cons, Prod.mk.injEq, List.not_mem_nil, or_false] at h2
    rcases h2 with ⟨_, h⟩ | ⟨_, h⟩ | ⟨_, h⟩
    · cases h; exact .inr (.inl rfl)
    · cases h; exact .inr (.inr rfl)
    · cases h
  · cases ht
theorem SrcAt.fq {H : Hp} {q : Addr} : Foot [] (some q) H q := .inl (.inl rfl)
theorem SrcAt.fc {H : Hp} {q c l : Addr} {cs ls : List Int} {k : Nat} (s : SrcAt H q c l cs ls k) : Foot [] (some q) H c := .inl (.inr ⟨_, kC, s.dq, List.mem_cons_self ..⟩)
theorem SrcAt.fl {H : Hp} {q c l : Addr} {cs ls : List Int} {k : Nat} (s : SrcAt H q c l cs ls k) : Foot [] (some q) H l := .inl (.inr ⟨_, kL, s.dq, List.mem_cons_of_mem _ (List.mem_cons_self ..)⟩)
theorem foot_two {T : List (Addr × Str)} {H : Hp} {q a : Addr} (h : Foot [] (some q) H a) : Foot T (some q) H a := by
  rcases h with h | ⟨t, ht, _⟩
  · exact .inl h
  · cases ht
theorem foot_parts {T : List (Addr × Str)} {H : Hp} {q a : Addr} (h : Foot T (some q) H a) : Foot [] (some q) H a ∨ ∃ t ∈ T, a = t.1 ∨ ∃ (ps : Array Value) (pos : Pos), H t.1 = some (.tbl ps) ∧ codeAmong pos ps.toList = some (Value.ref a) := h.elim (fun z => .inl (.inl z)) .inr
/-- the tables of code objects, as they stand -/
theorem tabs_al {T : List (Addr × Str)} {H : Hp} {a : Addr} (t : LamX.Tabs T H) (h : ∃ t ∈ T, a = t.1 ∨ ∃ (ps : Array Value) (pos : Pos), H t.1 = some (.tbl ps) ∧ codeAmong pos ps.toList = some (Value.ref a)) : (∃ ps, H a = some (.tbl ps)) ∨ ∃ x, H a = some (LamX.CodeO a x) := by
  obtain ⟨p, hp, h⟩ := h
  obtain ⟨ps, h1, h2, h3⟩ := t p hp
  rcases h with rfl | ⟨ps', pos, h, hm⟩
  · exact .inl ⟨ps, h1⟩
  · rw [h1] at h
    cases h
    obtain ⟨c, e1, e2⟩ := h3 pos _ hm
    cases e1
    exact .inr ⟨_, e2⟩
theorem tabs_keep {T : List (Addr × Str)} {H H' : Hp} (t : LamX.Tabs T H) (k : ∀ a, (∃ t ∈ T, a = t.1 ∨ ∃ (ps : Array Value) (pos : Pos), H t.1 = some (.tbl ps) ∧ codeAmong pos ps.toList = some (Value.ref a)) → H' a = H a) : LamX.Tabs T H' := fun p hp => by
  obtain ⟨ps, h1, h2, h3⟩ := t p hp
  refine ⟨ps, (k p.1 ⟨p, hp, .inl rfl⟩).trans h1, h2, fun pos cv hc => ?_⟩
  (obtain ⟨c, e1, e2⟩ := h3 pos cv hc)
  subst e1
  exact ⟨c, rfl, (k c ⟨p, hp, .inr ⟨ps, pos, h1, hc⟩⟩).trans e2⟩
def srcOrcT (T : List (Addr × Str)) : Orc where
  T := T
  I q H := (∃ c l cs ls k, SrcAt H q c l cs ls k) ∧ LamX.Tabs T H
  cnt q H := spotOf (H q)
  al q H a h f := by
    obtain ⟨⟨c, l, cs, ls, k, s⟩, t⟩ := h
    rcases foot_parts f with f | f
    · rcases s.foot f with rfl | rfl | rfl
      · rw [s.dq]; exact Option.some_ne_none _
      · rw [s.dc]; exact Option.some_ne_none _
      · rw [s.dl]; exact Option.some_ne_none _
    · rcases tabs_al t f with ⟨_, e⟩ | ⟨_, e⟩
      · rw [e]; exact Option.some_ne_none _
      · rw [e]; exact Option.some_ne_none _
  st q H H' h e := by
    obtain ⟨⟨c, l, cs, ls, k, s⟩, t⟩ := h
    exact ⟨⟨c, l, cs, ls, k, ⟨(e q (foot_two SrcAt.fq)).trans s.dq, (e c (foot_two s.fc)).trans s.dc, (e l (foot_two s.fl)).trans s.dl, s.ne, s.nc, s.nl⟩⟩, tabs_keep t fun a h => e a (.inr h)⟩
  sc q H H' h e := by rw [e q (foot_two SrcAt.fq)]
abbrev srcOrc : Orc := srcOrcT []
/-- H' is H but for the source, which may have new parts -/
structure Tou (q : Addr) (H H' : Hp) : Prop where
  kp : ∀ a, H a ≠ none → ¬ Foot [] (some q) H a → H' a = H a
  dom : ∀ a, H a ≠ none → H' a ≠ none
  ft : ∀ a, Foot [] (some q) H' a → Foot [] (some q) H a ∨ H a = none
theorem Tou.trans {q : Addr} {H H' H'' : Hp} (a : Tou q H H') (b : Tou q H' H'') : Tou q H H'' := by
  refine ⟨fun x h f => ?_, fun x h => b.dom x (a.dom x h), fun x h => ?_⟩
  · rw [b.kp x (a.dom x h) fun z => (a.ft x z).elim f h, a.kp x h f]
  · rcases b.ft x h with h | h
    · exact a.ft x h
    · refine .inr ?_
      cases z : H x with
      | none => rfl
      | some o => exact absurd h (a.dom x (by rw [z]; exact Option.some_ne_none o))
/-- what is of the tables is not of the source -/
theorem tab_no {T : List (Addr × Str)} {H : Hp} {q c l a : Addr} {cs ls : List Int} {k : Nat} (s : SrcAt H q c l cs ls k) (t : LamX.Tabs T H) (h : ∃ t ∈ T, a = t.1 ∨ ∃ (ps : Array Value) (pos : Pos), H t.1 = some (.tbl ps) ∧ codeAmong pos ps.toList = some (Value.ref a)) : H a ≠ none ∧ ¬ Foot [] (some q) H a := by
  have tl := tabs_al t h
  refine ⟨fun z => ?_, fun f => ?_⟩
  · rcases tl with ⟨_, e⟩ | ⟨_, e⟩ <;> rw [e] at z <;> cases z
  · rcases s.foot f with rfl | rfl | rfl
    · rcases tl with ⟨_, e⟩ | ⟨_, e⟩ <;> rw [s.dq] at e <;> cases e
    · rcases tl with ⟨_, e⟩ | ⟨_, e⟩ <;> rw [s.dc] at e <;> cases e
    · rcases tl with ⟨_, e⟩ | ⟨_, e⟩ <;> rw [s.dl] at e <;> cases e
theorem Tou.world {T : List (Addr × Str)} {q : Addr} {F H H' : Hp} (t : Tou q H H') (w : World (srcOrcT T) (some q) F H F H) (i : ∃ c l cs ls k, SrcAt H' q c l cs ls k) : World (srcOrcT T) (some q) F H F H' := by
  have al : ∀ a, F a ≠ none → H a ≠ none := fun a h z => by
    cases e : F a with
    | none => exact h e
    | some o =>
      have := w.fh a o e
      rw [z] at this
      cases this
  obtain ⟨⟨c, l, cs, ls, k, s⟩, tb⟩ := w.or q rfl
  have same : ∀ a, (∃ t ∈ T, a = t.1 ∨ ∃ (ps : Array Value) (pos : Pos), H t.1 = some (.tbl ps) ∧ codeAmong pos ps.toList = some (Value.ref a)) → H' a = H a := fun a h => t.kp a (tab_no s tb h).1 (tab_no s tb h).2
  have ft : ∀ a, Foot T (some q) H' a → Foot T (some q) H a ∨ H a = none := fun a z => by
    rcases foot_parts z with z | ⟨y, hy, z⟩
    · exact (t.ft a z).imp foot_two id
    · rw [same y.1 ⟨y, hy, .inl rfl⟩] at z
      exact .inl (.inr ⟨y, hy, z⟩)
  have kp : ∀ a, H a ≠ none → ¬ Foot T (some q) H a → H' a = H a := fun a h f => t.kp a h fun z => f (foot_two z)
  refine ⟨Ex.refl F, fun a o e => ?_, fun a o e f => ⟨?_, fun z => ?_⟩, t.dom, fun _ _ e => e, fun a h z => ?_, fun y e => ?_⟩
  · have h0 : F a ≠ none := by rw [e]; exact Option.some_ne_none o
    rw [kp a (al a h0) (w.ft a h0)]
    exact w.fh a o e
  · rw [kp a (by rw [e]; exact Option.some_ne_none o) f]
    exact e
  · rcases ft a z with z | z
    · exact f z
    · rw [e] at z
      cases z
  · rcases ft a z with z | z
    · exact w.ft a h z
    · exact al a h z
  · cases e
    exact ⟨i, tabs_keep tb same⟩
/-- a new object -/
theorem Tou.new {q p : Addr} {o : HO} {H : Hp} (hp : H p = none) (hq : H q ≠ none) : Tou q H (upd H p o) := by
  have nq : q ≠ p := fun z => hq (by rw [z]; exact hp)
  refine ⟨fun a h _ => upd_ne fun z => h (by rw [z]; exact hp), fun a h => ?_, fun a h => .inl ?_⟩
  · by_cases z : a = p
    · exact absurd (by rw [z]; exact hp) h
    · rw [upd_ne z]
      exact h
  · exact (Foot.eqv (T := []) (p := some q) (fun y e => by cases e; exact upd_ne nq) (fun _ _ ht => nomatch ht) a).mp h
theorem SrcAt.new {H : Hp} {q c l p : Addr} {cs ls : List Int} {k : Nat} {o : HO} (s : SrcAt H q c l cs ls k) (hp : H p = none) : SrcAt (upd H p o) q c l cs ls k :=
  ⟨(upd_ne (ne_of_none s.dq hp)).trans s.dq, (upd_ne (ne_of_none s.dc hp)).trans s.dc, (upd_ne (ne_of_none s.dl hp)).trans s.dl, s.ne, s.nc, s.nl⟩
theorem SrcAt.setS {H : Hp} {q c l : Addr} {cs ls : List Int} {k : Nat} (s : SrcAt H q c l cs ls k) (k' : Nat) : SrcAt (upd H q (.dK [(kC, .ref c), (kL, .ref l), (kS, .int k')])) q c l cs ls k' := by
  have qc : c ≠ q := fun e => by have := s.dc; rw [e, s.dq] at this; cases this
  have ql : l ≠ q := fun e => by have := s.dl; rw [e, s.dq] at this; cases this
  exact ⟨upd_same, (upd_ne qc).trans s.dc, (upd_ne ql).trans s.dl, s.ne, s.nc, s.nl⟩
theorem SrcAt.setV {H : Hp} {q c l : Addr} {cs ls : List Int} {k : Nat} (s : SrcAt H q c l cs ls k) (ls' : List Int) (z : ls'.length ≤ 100) : SrcAt (upd H l (.lst (ls'.map V.int))) q c l cs ls' k := by
  have ql : q ≠ l := fun e => by have := s.dl; rw [← e, s.dq] at this; cases this
  exact ⟨(upd_ne ql).trans s.dq, (upd_ne s.ne).trans s.dc, upd_same, s.ne, s.nc, z⟩
/-- a store into the dict, or into its list -/
theorem Tou.putQ {H : Hp} {q c l l' : Addr} {cs ls : List Int} {k : Nat} {v : V} (s : SrcAt H q c l cs ls k) (hl : l' = l ∨ H l' = none) (nv : ∀ a, v ≠ .ref a) : Tou q H (upd H q (.dK [(kC, .ref c), (kL, .ref l'), (kS, v)])) := by
  refine ⟨fun a h f => upd_ne fun z => f (by rw [z]; exact SrcAt.fq), fun a h => ?_, fun a h => ?_⟩
  · by_cases z : a = q
    · rw [z, upd_same]; exact Option.some_ne_none _
    · rw [upd_ne z]; exact h
  · rcases h with (h | ⟨kvs, y, h1, h2⟩) | ⟨_, ht, _⟩
    · exact .inl (.inl (.inl h))
    · rw [upd_same] at h1
      cases h1
      simp only [List.mem_cons, Prod.mk.injEq, List.not_mem_nil, or_false] at h2
      rcases h2 with ⟨_, h⟩ | ⟨_, h⟩ | ⟨_, h⟩
      · cases h; exact .inl s.fc
      · cases h
        rcases hl with hl | hl
        · rw [hl]; exact .inl s.fl
        · exact .inr hl
      · exact absurd h.symm (nv a)
    · cases ht
theorem Tou.putL {H : Hp} {q c l : Addr} {cs ls : List Int} {k : Nat} {o : HO} (s : SrcAt H q c l cs ls k) : Tou q H (upd H l o) := by
  have ql : q ≠ l := fun e => by have := s.dl; rw [← e, s.dq] at this; cases this
  refine ⟨fun a h f => upd_ne fun z => f (by rw [z]; exact s.fl), fun a h => ?_, fun a h => .inl ?_⟩
  · by_cases z : a = l
    · rw [z, upd_same]; exact Option.some_ne_none _
    · rw [upd_ne z]; exact h
  · exact (Foot.eqv (T := []) (p := some q) (fun y e => by cases e; exact upd_ne ql) (fun _ _ ht => nomatch ht) a).mp h
theorem SrcAt.spot {T : List (Addr × Str)} {H : Hp} {q c l : Addr} {cs ls : List Int} {k : Nat} (s : SrcAt H q c l cs ls k) : (srcOrcT T).cnt q H = k := by
  show spotOf (H q) = k
  rw [s.dq]
  rfl
theorem okD_ints (ns : List Int) : okD (.list (ns.map PyData.int)) := by
  have h1 : ∀ ms : List Int, PyData.canLayAll0 (ms.map PyData.int) = true := fun ms => by
    induction ms with
    | nil => rfl
    | cons m r ih => exact Bool.and_eq_true_iff.mpr ⟨rfl, ih⟩
  have h2 : ∀ ms : List Int, PyData.depthAll (ms.map PyData.int) ≤ 1 := fun ms => by
    induction ms with
    | nil => simp [PyData.depthAll]
    | cons m r ih => simp only [List.map_cons, PyData.depthAll, PyData.depth]; omega
  show SeqAt.shaped _ = true
  unfold SeqAt.shaped
  rw [Bool.and_eq_true_iff]
  refine ⟨h1 ns, decide_eq_true ?_⟩
  simp only [PyData.depth]
  have := h2 ns
  omega
theorem dp_ints {K : PySem.W.Frag} {H : Hp} {a : Addr} {ns : List Int} (h : H a = some (.lst (ns.map V.int))) : Dp K H (.ref a) (.list (ns.map PyData.int)) :=
  (At.lst (.inl (.inl h)) (AtAll.ofInts ns)).dp (okD_ints ns).nod
end DL
namespace DL
open PySem L2
section
variable {H : Hp} {q c l : Addr} {cs ls : List Int} {k : Nat} {σ : L2.St} {Q : VK}
theorem rdC (s : SrcAt H q c l cs ls k) (h0 : σ[0]? = some (some (.ref q))) (h : Q (.ref c) H) : tDGet (tVar 0) (tC (.str "cells")) σ H Q := ⟨_, h0, q, _, rfl, DGet.k (k := kC) s.dq, h⟩
theorem rdL (s : SrcAt H q c l cs ls k) (h0 : σ[0]? = some (some (.ref q))) (h : Q (.ref l) H) : tDGet (tVar 0) (tC (.str "left")) σ H Q := ⟨_, h0, q, _, rfl, DGet.k (k := kL) s.dq, h⟩
theorem rdS (s : SrcAt H q c l cs ls k) (h0 : σ[0]? = some (some (.ref q))) (h : Q (.int k) H) : tDGet (tVar 0) (tC (.str "spot")) σ H Q := ⟨_, h0, q, _, rfl, DGet.k (k := kS) s.dq, h⟩
end
end DL
namespace DL
open PySem L2
def leftLen (q : Addr) (H : Hp) : Nat := match H q with
  | some (.dK [_, (_, .ref l), _]) => (match H l with
    | some (.lst xs) => xs.length
    | _ => 0)
  | _ => 0
theorem SrcAt.len {H : Hp} {q c l : Addr} {cs ls : List Int} {k : Nat} (s : SrcAt H q c l cs ls k) : leftLen q H = ls.length := by
  unfold leftLen
  rw [s.dq]
  simp only
  rw [s.dl]
  simp
section
variable {K : PySem.W.Frag} {q c l : Addr} {cs ls : List Int} {k : Nat} {H H0 : Hp} {σ : L2.St}
theorem put_kS {c l : Addr} {k : Nat} {v : V} : putK [(kC, V.ref c), (kL, V.ref l), (kS, V.int k)] kS v = [(kC, V.ref c), (kL, V.ref l), (kS, v)] := rfl
theorem small3 : 3 < sizeLine := by decide +kernel
end
end DL
namespace DL
open PySem L2
end DL
namespace DL
open PySem L2
end DL
namespace DL
open PySem L2
variable {X : Cx} {c : Cn}
theorem rel_look {p : Str × NameKind → Bool} {x : Str} : ∀ {ns : List (Str × NameKind)}, ns.lookup x = some .cell ∨ ns.lookup x = some .free →
    (ns.map fun (n, k) => if (k == .free && p (n, k)) = true then (n, NameKind.cell) else (n, k)).lookup x = some .cell ∨ (ns.map fun (n, k) => if (k == .free && p (n, k)) = true then (n, NameKind.cell) else (n, k)).lookup x = some .free
  | [], h => by simp at h
  | (n, k) :: r, h => by
    have ih := @rel_look p x r
    show List.lookup x ((if (k == .free && p (n, k)) = true then (n, NameKind.cell) else (n, k)) :: _) = _ ∨ List.lookup x ((if (k == .free && p (n, k)) = true then (n, NameKind.cell) else (n, k)) :: _) = _
    cases hx : x == n with
    | true =>
      (simp only [List.lookup_cons, hx] at h)
      by_cases hc : (k == .free && p (n, k)) = true
      · rw [if_pos hc]
        left
        simp [List.lookup_cons, hx]
      · rw [if_neg hc]
        (simp only [List.lookup_cons, hx])
        exact h
    | false =>
      (simp only [List.lookup_cons, hx] at h)
      by_cases hc : (k == .free && p (n, k)) = true
      · rw [if_pos hc]
        (simp only [List.lookup_cons, hx])
        exact ih h
      · rw [if_neg hc]
        (simp only [List.lookup_cons, hx])
        exact ih h
theorem blkOk_in {N N' : List Str} {E : PySem.Env} {s : Scope} {cl : List (Str × Addr)} {C : Addr} {e : PySem.Env} {scope : Scope} {own : List (Str × Nat)} (hN : N' = N) (he : E = compEnvC s cl C e) (h : blkC N s scope own = true) : BlkOk N' E.scope scope own := by
  subst hN
  subst he
  have b := blkOk_by h
  refine ⟨b.kind, b.uniq, b.ix, fun y hy hf => ?_, b.own⟩
  have := rel_look (p := fun z => e.scope.kind == .function && e.kindOf z.1 == some .cell) (b.free y hy hf)
  simpa [compEnvC, relabel, Bool.and_assoc] using this
end DL
namespace DL
open PySem L2
section
variable {X : Cx} {c : Cn}
theorem strs_vs {K : PySem.W.Frag} {F : Hp} : ∀ {vs : List V} {zs : List Str}, AtAll K F vs (zs.map PyData.str) → vs = zs.map V.str
  | _, [], h => by cases h; rfl
  | _, z :: zs, h => by
    cases h with
    | cons a t =>
      cases a
      rw [strs_vs t]
      rfl
/-- a text in a tuple of texts -/
def gInS : G2 := fun x y P => match x, y with
  | .str a, .tuple ds => ∃ zs, ofStrs ds = some zs ∧ P (.bool (zs.any fun z => z == a))
  | _, _ => False
theorem sem_inS (hK : X.K = c.K) : Sem2 X c (compareOp .In) gInS := by
  refine ⟨_, op_in_seq, fun F H σ ρ xx x y vx vy P Q r bx by_ g k => ?_⟩
  unfold gInS at g
  split at g
  · rename_i a ds
    obtain ⟨zs, ez, q⟩ := g
    cases bo_str bx
    obtain ⟨p, xs, rfl, f2, s2, t2⟩ := bo_tup r.w.fh by_
    rw [ofStrs_eq ez] at t2
    have e := strs_vs t2
    subst e
    refine ⟨p, _, rfl, .inr (by rw [hK]; exact s2), rfl, ?_, ?_⟩
    · rw [List.all_eq_true]
      intro v hv
      obtain ⟨z, _, rfl⟩ := List.mem_map.mp hv
      rfl
    · have ea : inV (.str a) (zs.map V.str) = zs.any fun z => z == a := by
        unfold inV
        rw [List.any_map]
        rfl
      show Q (.bl (if false = true then !inV (.str a) (zs.map V.str) else inV (.str a) (zs.map V.str))) H
      rw [if_neg Bool.false_ne_true, ea]
      exact k _ _ F H q (Ex.refl F) r (.bl _)
  · exact g.elim
/-- in a list, or a text in a tuple of texts -/
def gInU : G2 := fun x y P => match y with
  | .list ds => gIn x (.list ds) P
  | y => gInS x y P
theorem sem_inU (hK : X.K = c.K) (hu : X.A.units + 65 < cLine) : Sem2 X c (compareOp .In) gInU := by
  obtain ⟨r1, o1, h1⟩ := sem_in hK hu (X := X) (c := c)
  obtain ⟨r2, o2, h2⟩ := sem_inS hK (X := X) (c := c)
  refine ⟨_, o1.or o2, fun F H σ ρ xx x y vx vy P Q r bx by_ g k => ?_⟩
  unfold gInU at g
  split at g
  · exact .inl (h1 F H σ ρ xx x _ vx vy P Q r bx by_ g k)
  · exact .inr (h2 F H σ ρ xx x _ vx vy P Q r bx by_ g k)
variable {x : Str} {p pos : Pos} {e : Expr} {es : List Expr} {fh : HLM} {g : GC}
end
end DL
namespace DL
open PySem L2
end DL
namespace DL
open PySem L2
end DL
namespace DL
open PySem L2
structure SrcB (H : Hp) (q c l : Addr) (cs ls : List Int) (k : Nat) : Prop extends SrcAt H q c l cs ls k where
  len : ls.length = cs.length
  nz : cs ≠ []
theorem tabs_nil {H : Hp} : LamX.Tabs [] H := fun p hp => nomatch hp
def srcOrcB : Orc where
  T := []
  I q H := ∃ c l cs ls k, SrcB H q c l cs ls k
  cnt q H := spotOf (H q)
  al q H a h f := by
    obtain ⟨c, l, cs, ls, k, s⟩ := h
    exact srcOrc.al q H a ⟨⟨c, l, cs, ls, k, s.toSrcAt⟩, tabs_nil⟩ f
  st q H H' h e := by
    obtain ⟨c, l, cs, ls, k, s⟩ := h
    exact ⟨c, l, cs, ls, k, ⟨⟨(e q SrcAt.fq).trans s.dq, (e c s.fc).trans s.dc, (e l s.fl).trans s.dl, s.ne, s.nc, s.nl⟩, s.len, s.nz⟩⟩
  sc q H H' h e := by rw [e q SrcAt.fq]
theorem SrcB.spot {H : Hp} {q c l : Addr} {cs ls : List Int} {k : Nat} (s : SrcB H q c l cs ls k) : srcOrcB.cnt q H = k := SrcAt.spot (T := []) s.toSrcAt
theorem Tou.worldB {q : Addr} {F H H' : Hp} (t : Tou q H H') (w : World srcOrcB (some q) F H F H) (i : srcOrcB.I q H') : World srcOrcB (some q) F H F H' := by
  obtain ⟨c, l, cs, ls, k, s⟩ := i
  have w0 : World srcOrc (some q) F H F H := ⟨w.ff, w.fh, w.kp, w.dom, w.fn, w.ft, fun p e => by
    obtain ⟨c, l, cs, ls, k, s⟩ := w.or p e
    exact ⟨⟨c, l, cs, ls, k, s.toSrcAt⟩, tabs_nil⟩⟩
  have w1 := t.world w0 ⟨c, l, cs, ls, k, s.toSrcAt⟩
  exact ⟨w1.ff, w1.fh, w1.kp, w1.dom, w1.fn, w1.ft, fun p e => by
    cases e
    exact ⟨c, l, cs, ls, k, s⟩⟩
def spBegunB (K : PySem.W.Frag) : Sp := fun vs H Q _ => ∃ (a : Addr) (ns : List Int), vs = [.ref a] ∧ SqL K H a (ns.map V.int) ∧ ns.length ≤ 63 ∧
  ∀ q c l cs ls H', (∀ b o, H b = some o → H' b = some o) → H q = none → H c = none → H l = none → SrcB H' q c l cs ls 0 → Q (.ref q) H'
/-- a call that leaves all that stands touches no source -/
theorem Tou.of_world {R : Orc} {q : Addr} {F H F' H' : Hp} (w : World R none F H F' H') (hq : H q ≠ none) : Tou q H H' := by
  have kp : ∀ a, H a ≠ none → H' a = H a := fun a h => by
    cases e : H a with
    | none => exact absurd e h
    | some o => exact (w.kp a o e fun z => z).1
  exact ⟨fun a h _ => kp a h, w.dom, fun a h => .inl ((Foot.eqv (T := []) (p := some q) (fun y e => by cases e; exact kp q hq) (fun _ _ ht => nomatch ht) a).mp h)⟩
theorem SrcAt.of_world {R : Orc} {q c l : Addr} {cs ls : List Int} {k : Nat} {F H F' H' : Hp} (s : SrcAt H q c l cs ls k) (w : World R none F H F' H') : SrcAt H' q c l cs ls k := by
  have kp : ∀ a o, H a = some o → H' a = some o := fun a o e => (w.kp a o e fun z => z).1
  exact ⟨kp _ _ s.dq, kp _ _ s.dc, kp _ _ s.dl, s.ne, s.nc, s.nl⟩
section
variable {X : Cx} {c : Cn} {a b : Expr} {pos : Pos}
def sParIN (i j : Nat) (f g : DM) : SM := fun E ρ => f ρ fun d ρ1 => g ρ1 fun d' ρ2 => E.nx ((ρ2.set j (.ow d')).set i (.im d))
theorem call_reprB : CallR X (.builtin "repr") (fun xs H Q => ∃ b, xs = [.bl b] ∧ Q (.str (if b then "True" else "False")) H) := by
  (intro pins s σ H xs us Q I r h)
  obtain ⟨b, rfl, q⟩ := h
  obtain ⟨u, rfl, rv⟩ := vals1 r
  cases (show u = Value.bool b from rv)
  exact P.repr_of_bool ⟨.str _, H, I.tok _, ⟨_, by cases b <;> rfl⟩, q⟩
end
end DL
namespace DL
open PySem L2
section
variable {X : Cx} {c : Cn}
theorem call_reprI : CallR X (.builtin "repr") (fun xs H Q => (∃ i : Int, xs = [.int i] ∧ i.natAbs.log2 < 1920 ∧ Q (.str (toString i)) H) ∨ (xs = [.non] ∧ Q (.str "None") H)) := by
  (intro pins s σ H xs us Q I r h)
  rcases h with ⟨i, rfl, hl, q⟩ | ⟨rfl, q⟩
  · obtain ⟨u, rfl, rv⟩ := vals1 r
    obtain ⟨t, rfl⟩ := (show ∃ t, u = Value.int i t from rv)
    exact P.repr_of_int hl ⟨.str _, H, I.tok _, ⟨_, rfl⟩, q⟩
  · obtain ⟨u, rfl, rv⟩ := vals1 r
    cases (show u = Value.none from rv)
    exact P.repr_of_none ⟨.str _, H, I.tok _, ⟨_, rfl⟩, q⟩
end
end DL
namespace DL
open PySem L2
section
variable {X : Cx} {c : Cn} {e a b : Expr} {pos : Pos}
def dPop (i : Nat) : DM := fun ρ P => ownL ρ i fun ds => match ds[ds.length - 1]? with
  | some d => P d (ρ.set i (.ow (.list ds.dropLast)))
  | none => False
theorem de_pop {x : Str} {i : Nat} {px apos cpos : Pos} (ho : PE X (.Name x px) (tVar i))
    (hbase : attributeBase (.Name x px) "pop" X.env (eval (.Name x px) X.env) = eval (.Name x px) X.env := by rfl)
    (hline : (apos.endLine == cpos.line) = true := by rfl) : PE X (.Call (.Attribute (.Name x px) "pop" apos) [] [] cpos) (tD c (dPop i)) := by
  refine PE.to (pe_bm0 PySem.F.plainAttrs_list PySem.F.slot_list_pop PySem.F.type_list_pop mt_pop ho hbase hline) ?_
  rintro σ H Q ⟨F, ρ, xx, P, rel, q, k⟩
  obtain ⟨ds, p, vs, g1, g2, g3, g4, q⟩ := ownL_get rel q
  split at q
  · rename_i d e
    obtain ⟨v, h1, h2⟩ := g4.get e
    refine ⟨.ref p, g2, .inl ⟨rfl, vs, SqL.of g3⟩, p, vs, v, rfl, rfl, g3, by rw [g4.length]; exact h1, ?_⟩
    exact k d _ v F _ q (Ex.refl F) (rel.mut g1 g2 ⟨_, upd_same, g4.dropLast⟩) h2
  · exact q.elim
theorem AtAll.repN {K : PySem.W.Frag} {H : Hp} {vs : List V} {ds : List D} (h : AtAll K H vs ds) : ∀ n : Nat, AtAll K H (List.replicate n vs).flatten (List.replicate n ds).flatten
  | 0 => .nil
  | n + 1 => by
    (rw [List.replicate_succ, List.replicate_succ, List.flatten_cons, List.flatten_cons])
    exact h.append (AtAll.repN h n)
def dRep (f g : DM) : DM := fun ρ P => f ρ fun l ρ1 => g ρ1 fun k ρ2 => match l, k with
  | .list ds, .int z => -(2 ^ 63) ≤ z ∧ z < 2 ^ 63 ∧ ds.length * z.toNat ≤ 1000000 ∧ P (.list (List.replicate z.toNat ds).flatten) ρ2
  | _, _ => False
theorem dn_rep {f g : DM} (ha : PE X a (tN c f)) (hb : PE X b (tD c g)) : PE X (.BinOp a .Mult b pos) (tN c (dRep f g)) := by
  refine PE.to (pe_op op_rep ha hb) ?_
  rintro σ H Q ⟨F, ρ, xx, P, rel, q, k⟩
  refine ⟨F, ρ, xx, _, rel, q, fun l ρ1 p F1 H1 q1 e1 r1 f1 => ?_⟩
  refine ⟨F1, ρ1, (p, XO.d l) :: xx, _, r1.pushX f1, q1, fun k' ρ2 u F2 H2 q2 e2 r2 a2 => ?_⟩
  split at q2
  · cases a2
    obtain ⟨r3, f3⟩ := r2.popX
    obtain ⟨vs, h1, h2⟩ := f3.own.o
    refine ⟨p, _, vs, rfl, rfl, h1, q2.1, q2.2.1, sz (by rw [h2.length]; exact q2.2.2.1), fun p' hp => ?_⟩
    obtain ⟨r4, f4⟩ := Fresh.new (o := .lst (List.replicate _ vs).flatten) (d := .d (.list _)) r3 hp ⟨_, upd_same, h2.repN _⟩
    exact k _ ρ2 p' F2 _ q2.2.2.2 (e1.trans e2) r4 f4
  · exact q2.elim
def okR : D → Prop
  | .none => True
  | .bool _ => True
  | .int i => i.natAbs.log2 < 1920
  | .list xs => nod (.list xs) = true ∧ (PyData.list xs).showable = true ∧ (PyData.list xs).depth ≤ 60 ∧ (PyData.list xs).shown.length ≤ 1000000
  | .tuple xs => nod (.tuple xs) = true ∧ (PyData.tuple xs).showable = true ∧ (PyData.tuple xs).depth ≤ 60 ∧ (PyData.tuple xs).shown.length ≤ 1000000
  | _ => False
def shA : D → Str
  | .none => "None"
  | .bool b => (if b then "True" else "False")
  | .int i => toString i
  | d => d.shown
def gReprA : GC := fun ds P => match ds with
  | [d] => okR d ∧ P (.str (shA d))
  | _ => False
def rRa (K : PySem.W.Frag) : List V → Hp → VK → Prop := fun vs H Q => rRp K vs H Q ∨ ((∃ i : Int, vs = [.int i] ∧ i.natAbs.log2 < 1920 ∧ Q (.str (toString i)) H) ∨ (vs = [.non] ∧ Q (.str "None") H)) ∨ ∃ b, vs = [.bl b] ∧ Q (.str (if b then "True" else "False")) H
theorem call_ra (hg : X.A.guards = some []) (hu : X.A.units + 64 < cLine) : CallR X (.builtin "repr") (rRa X.K) := by
  (intro pins s σ H xs us Q I r h)
  rcases h with h | h | h
  · exact call_rp hg hu pins s σ H xs us Q I r h
  · exact call_reprI pins s σ H xs us Q I r h
  · exact call_reprB pins s σ H xs us Q I r h
theorem sem_reprA (hK : X.K = c.K) (hg : X.A.guards = some []) (hu : X.A.units + 64 < cLine) : SemC X c (.builtin "repr") gReprA := by
  refine ⟨_, call_ra hg hu, fun F H σ ρ xx ds vs P Q r bs g k => ?_⟩
  have key : ∀ d, ds = [d] → (∀ v, Bo c F H v d → ∃ a, v = .ref a) → (nod d = true ∧ d.showable = true ∧ d.depth ≤ 60 ∧ d.shown.length ≤ 1000000) → P (.str d.shown) → rRp X.K vs H Q := fun d hds hv gd gp => by
    subst hds
    obtain ⟨v, rfl, b⟩ := pr1 bs
    obtain ⟨a, rfl⟩ := hv v b
    obtain ⟨g1, g2, g3, g4⟩ := gd
    have a1 := (b.at r.w.fh).dp g1
    rw [← hK] at a1
    exact ⟨a, d, rfl, a1, g1, g2, g3, g4, k _ _ F H gp (Ex.refl F) r (.str _)⟩
  unfold gReprA at g
  split at g
  · rename_i d
    obtain ⟨g, gp⟩ := g
    cases d with
    | none =>
      obtain ⟨v, rfl, b⟩ := pr1 bs
      have e : v = .non := of_decide_eq_true (isN_dec b)
      subst e
      exact .inr (.inl (.inr ⟨rfl, k _ _ F H gp (Ex.refl F) r (.str _)⟩))
    | bool b =>
      obtain ⟨v, rfl, b⟩ := pr1 bs
      cases bo_bl b
      exact .inr (.inr ⟨_, rfl, k _ _ F H gp (Ex.refl F) r (.str _)⟩)
    | int i =>
      obtain ⟨v, rfl, b⟩ := pr1 bs
      cases bo_int b
      exact .inr (.inl (.inl ⟨_, rfl, g, k _ _ F H gp (Ex.refl F) r (.str _)⟩))
    | list xs =>
      refine .inl (key _ rfl (fun v b => ?_) g gp)
      rcases ref_of_bo b with z | ⟨z, _⟩ | ⟨_, z, _⟩ | ⟨_, z, _⟩ | ⟨_, z, _⟩
      · exact z
      all_goals cases z
    | tuple xs =>
      refine .inl (key _ rfl (fun v b => ?_) g gp)
      rcases ref_of_bo b with z | ⟨z, _⟩ | ⟨_, z, _⟩ | ⟨_, z, _⟩ | ⟨_, z, _⟩
      · exact z
      all_goals cases z
    | str x => exact g.elim
    | dict kd => exact g.elim
  · exact g.elim
end
end DL
namespace DL
open PySem L2 PySem.Spec PyProof.Rows
theorem lawG {pr : Program} {wd : PySem.World} {K : PySem.W.Frag} {gl gb : PySem.Str → Option Value} {k : Nat} {fa a : Addr} {fd : FuncData} {x : PySem.Str} {sp : Sp} {s : Shared} {vs : List Value} {ns : List Int}
    (inK : K.In s.heap) (nsG : s.heap.Ns mainGlobals gl) (nsB : s.heap.Ns builtinsNs gb) (bb : ∀ y : PySem.Str, y ≠ "__name__" → gb y = bootBuiltins y) (lim : s.heap.NoLimit) (gen : s.gens = #[])
    (ha : s.heap.get? a = some { cls := .type "list", data := .seq vs.toArray }) (hi : IntsAre vs ns) (hl : ns.length ≤ sizeLine) (room : Room k callerA)
    (F : ∀ bas : Heap, K.In bas → bas.Ns mainGlobals gl → FnG pr wd K gl bas k fa fd [x] sp) (bind : ∀ (s : Shared) (u : Value), BindsTo s fd ⟨[u], []⟩ [(x, u)])
    (says : ∀ H : Hp, SqL K H a (ns.map V.int) → sp [.ref a] H (fun v _ => v = .bl true) fun _ _ _ => False) :
    codeAny (model pr wd) callerA (.call (.ref fa) ⟨[.ref a], []⟩) (fun r s' => r = .ok (.ret (.bool true)) ∧ OldK s.heap s'.heap ∧ s'.os = s.os ∧ AllBare s'.gens) s := by
  have vals := L2.vals_ints hi
  -- the heap H that the def sees: nothing, or the script alone, which stays as it is
  have run : ∀ (H : Hp), (∀ b o, H b = some o → b = a ∧ ∃ ob xs, o = .frz ob (.lst xs)) → SqL K H a (ns.map V.int) → HOk pr wd H s.heap → (H a ≠ none → K.lookup a = none) →
      codeAny (model pr wd) callerA (.call (.ref fa) ⟨[.ref a], []⟩) (fun r s' => r = .ok (.ret (.bool true)) ∧ OldK s.heap s'.heap ∧ s'.os = s.os ∧ AllBare s'.gens) s := by
    intro H only sq hok notK
    have plain : ∀ {b : Addr} {o : Obj}, s.heap.get? b = some o → (∀ es n, o.data = .dict es n → H b = none) := by
      intro b o e es n ed
      cases z : H b with
      | none => rfl
      | some u =>
        obtain ⟨rfl, _⟩ := only b u z
        rw [ha] at e
        cases e
        exact absurd (ed : Data.seq vs.toArray _ = Data.dict es n) (fun y => by cases y)
    have nsOf : ∀ {b : Addr} {m : PySem.Str → Option Value}, s.heap.Ns b m → (hidT s.heap H).Ns b m := by
      rintro b m ⟨o, es, n, e, ed, r⟩
      exact ⟨o, es, n, hidT_get e (plain e es n ed), ed, r⟩
    have inB : K.In (hidT s.heap H) := by
      intro b o e
      refine hidT_get (inK b o e) ?_
      cases z : H b with
      | none => rfl
      | some u =>
        obtain ⟨rfl, _⟩ := only b u z
        rw [notK (by rw [z]; exact Option.some_ne_none u)] at e
        cases e
    obtain ⟨mc, l1, l2⟩ := lim
    have md : Mod K gl (hidT s.heap H) := ⟨inB, nsOf nsG, ⟨gb, nsOf nsB, bb⟩, ⟨mc, nsOf l1, l2⟩⟩
    have env : Env0 pr wd K gl (hidT s.heap H) callerA [] s H := ⟨rfl, md, fun b o e => of_hidT e, Nat.le_of_eq (hidT_size _ _), trivial, fun b hb => (nomatch hb), hok, .of_eq gen⟩
    refine codeAny_mono ((F _ inB (nsOf nsG)).go callerA [] s H ⟨[.ref a], []⟩ [.ref a] [.ref a] _ _ rfl room env (bind s (.ref a)) (.cons rfl .nil) (says H sq)) ?_
    intro r s' z
    match r, z with
    | .error e, z => exact (z : False).elim
    | .ok (.ret u), ⟨v, H', os, bare, un, hok', rv, q⟩ =>
      have q : v = .bl true := q
      subst q
      cases (show u = Value.bool true from rv)
      refine ⟨rfl, OldK.of_keep ?_, os, bare⟩
      intro b o e
      cases z : H b with
      | none => exact un.keep b o e z (fun y => nomatch y) (by simp)
      | some u =>
        obtain ⟨_, ob, xs, rfl⟩ := only b u z
        obtain ⟨p1, _⟩ := hok b _ z
        obtain ⟨p2, _⟩ := hok' b _ (un.frzs b ob _ z)
        rw [e] at p1
        cases p1
        exact p2
  have len := hi.length
  cases z : K.lookup a with
  | some o =>
    have e := inK a o z
    rw [ha] at e
    cases e
    refine run (fun _ => none) (fun _ _ e => nomatch e) (.inr ⟨_, vs.toArray, _, z, rfl, rfl, rfl, ?_, by simpa using vals⟩) (fun _ _ e => nomatch e) fun e => absurd rfl e
    rw [List.size_toArray, len]
    exact hl
  | none =>
    have at1 : ∀ o, (fun b => if b = a then some (HO.frz { cls := .type "list", data := .seq vs.toArray } (.lst (ns.map V.int))) else none) a = some o → o = HO.frz { cls := .type "list", data := .seq vs.toArray } (.lst (ns.map V.int)) := by
      intro o e
      have e : (if a = a then some (HO.frz { cls := .type "list", data := .seq vs.toArray } (.lst (ns.map V.int))) else none) = some o := e
      rw [if_pos rfl] at e
      exact (Option.some.inj e).symm
    refine run (fun b => if b = a then some (HO.frz { cls := .type "list", data := .seq vs.toArray } (.lst (ns.map V.int))) else none) (fun b o e => ?_) (.inl (.inr ⟨{ cls := .type "list", data := .seq vs.toArray }, if_pos rfl⟩)) (fun b o e => ?_) fun _ => z
    · by_cases h : b = a
      · subst h
        exact ⟨rfl, _, _, at1 o e⟩
      · have e : (if b = a then some (HO.frz { cls := .type "list", data := .seq vs.toArray } (.lst (ns.map V.int))) else none) = some o := e
        rw [if_neg h] at e
        cases e
    · by_cases h : b = a
      · subst h
        rw [at1 o e]
        exact ⟨ha, by rw [List.length_map]; exact hl, vs, _, vals, ha⟩
      · have e : (if b = a then some (HO.frz { cls := .type "list", data := .seq vs.toArray } (.lst (ns.map V.int))) else none) = some o := e
        rw [if_neg h] at e
        cases e
theorem walkG {l : PySem.W.OpenLaw} {n k : Nat} {q : Program} {loose : List PySem.Str} {XP : (PySem.Str → Option Value) → Heap → Prop} {YP : PySem.World → Heap → Prop} {d : DefRec} {K : Params → PySem.W.Frag} {sp : PySem.World → Sp} {x : PySem.Str}
    (hn : l.most = some n) (hn2 : n ≤ sizeLine) (hdf : d.params.defaults = []) (room : Room k callerA) (hY : ∀ (wd : PySem.World) (h : Heap), YP wd h → (K wd.params).In h)
    (F : ∀ (wd : PySem.World) (gl : PySem.Str → Option Value) (fa : Addr) (h : Heap), (K wd.params).In h → h.Ns mainGlobals gl → gl d.name = some (.ref fa) →
      ∃ fd : FuncData, (∀ (s : Shared) (u : Value), BindsTo s fd ⟨[u], []⟩ [(x, u)]) ∧ ∀ bas : Heap, (K wd.params).In bas → bas.Ns mainGlobals gl → FnG l.prog wd (K wd.params) gl bas k fa fd [x] (sp wd))
    (says : ∀ (wd : PySem.World) (H : Hp) (a : Addr) (ns : List Int), ns.length ≤ n → SqL (K wd.params) H a (ns.map V.int) → sp wd [.ref a] H (fun v _ => v = .bl true) fun _ _ _ => False) :
    PySem.W.WalkO q loose XP YP l.row.toRowW d [] (fun f vs => PySem.call f vs)
      := by
  refine Att.attach_callB hn hdf ?_
  intro wd s0 s1 gl gb fa o pm cd doc a vs ns G Y ho hd hcd hgl hobj hints hlen _ hg
  obtain ⟨fd, hb, hF⟩ := F wd gl fa _ (hY wd _ Y) G.T.g hgl
  exact lawG (hY wd _ Y) G.T.g G.T.b G.T.builtins G.T.nolimit hg hobj hints (Nat.le_trans hlen hn2) room hF hb fun H sq => says wd H a ns hlen sq
end DL
namespace DL
open PySem L2
structure FnX (pr : Program) (wd : PySem.World) (K : PySem.W.Frag) (gl : Str → Option Value) (bas : Heap) (k : Nat) (f : Addr) (fd : FuncData) (ps : List Str) (sp : Sp) : Prop where
  many : ∀ vs H Q E, sp vs H Q E → vs.length = ps.length
  go : ∀ (A : Around) (out : List PySem.Env) (sh : Shared) (H : Hp) (ar : Args) (us : List Value) (vs : List V) (Q : VK) (E : XK), A.guards = some [] → Room k A →
    Env0 pr wd K gl bas A out sh H → BindsTo sh fd ar (ps.zip us) → Vals vs us → sp vs H Q E → codeAny (model pr wd) A (.call (.ref f) ar) (CR (L2.CX pr wd) out pr wd H sh Q E) sh
theorem FnX.more {pr : Program} {wd : PySem.World} {K : PySem.W.Frag} {gl : Str → Option Value} {bas : Heap} {j k : Nat} {f : Addr} {fd : FuncData} {ps : List Str} {sp : Sp} (F : FnX pr wd K gl bas j f fd ps sp) (h : j ≤ k) : FnX pr wd K gl bas k f fd ps sp :=
  ⟨F.many, fun A out sh H ar us vs Q E g r => F.go A out sh H ar us vs Q E g (r.mono h)⟩
theorem FnX.of {pr : Program} {wd : PySem.World} {K : PySem.W.Frag} {gl : Str → Option Value} {bas : Heap} {k : Nat} {f : Addr} {x qual : Str} {st : Stmt} {fd : FuncData} {N ps : List Str} {sp : Sp} (F : L2.Fun K x qual st f fd) (S : FnScope N ps (defScope st))
    (len : (∀ vs H Q E, sp vs H Q E → vs.length = ps.length))
    (body : ∀ (cdv : Value) (A : Around) (out : List PySem.Env) (sh : Shared) (H : Hp) (vs : List V) (Q : VK) (E : XK), A.guards = some [] → Room k (A.deeper (PyProof.Rows.envOfC qual (defScope st) sh.heap.objs.size f cdv)) → sp vs H Q E →
      ∃ t, PSs (cxOf (L2.CX pr wd) pr wd K gl bas N qual (defScope st) f cdv A out sh H E) (defBody st) t ∧ t { nx := fun _ H' => Q .non H', rt := Q } (start N vs) H) : FnX pr wd K gl bas (k + 1) f fd ps sp := by
  obtain ⟨oc, od, kV, doc, pm, an, cdv, ct, osl, efd, lk, hc⟩ := F.ex
  refine ⟨len, fun A out sh H ar us vs Q E hg room env bnd vals says => ?_⟩
  have heapK : K.In sh.heap := PySem.W.Frag.In.keeps env.mod.kin fun b o e => (env.bs b o e).1
  have noLim : sh.heap.NoLimit := Heap.NoLimit.keeps env.mod.nolimit fun b o e => (env.bs b o e).1
  have kinds : ∀ y ∈ ps.zip us, (defScope st).names.lookup y.1 = some .local ∨ ((defScope st).names.lookup y.1 = some .cell ∧ ((cellsFrom (sh.heap.objs.size + 1) (defScope st).names []).lookup y.1).isSome = true) := by
    rintro ⟨n, v⟩ hy
    exact (S.par n (List.of_mem_zip hy).1).imp id fun q => ⟨q, PySem.W.cellsFrom_some _ _ _ (.inl q)⟩
  rw [efd] at lk bnd
  refine codeAny_call_function room.depth (heapK _ _ lk) rfl S.co S.gen rfl (PySem.W.codeRec_of heapK hc) (bnd _ _ _ _ (wpAny_newFunctionEnv_cells S.kind kinds ?_))
  intro env1 he s1 xc
  subst he
  refine ⟨noLim.keeps xc.toInCall.keep, codeAny_func ?_⟩
  obtain ⟨t, ht, hq⟩ := body cdv A out sh H vs Q E hg (room.deeper _) says
  have inv : Inv (cxOf (L2.CX pr wd) pr wd K gl bas N qual (defScope st) f cdv A out sh H E) [] (start N vs) H s1 := inv_start S room.hd env (len _ _ _ _ says) vals xc
  refine wpAny_mono (ht.run [] s1 (start N vs) H _ inv hq) ?_ fun _ _ z => z
  intro fl s2 hs
  cases fl with
  | ret u =>
    (obtain ⟨v, σ', H', J, rv, q⟩ := hs)
    exact ⟨v, H', J.os, J.bare, J.base, J.hok, rv, q⟩
  | next =>
    obtain ⟨σ', H', J, q⟩ := hs
    exact ⟨V.non, H', J.os, J.bare, J.base, J.hok, rfl, q⟩
  | brk => exact (hs.choose_spec.choose_spec.2 : False).elim
  | cont => exact (hs.choose_spec.choose_spec.2 : False).elim
section
variable {X : Cx} {k : Nat} {f : Addr} {fd : FuncData} {ps : List Str} {sp : Sp} {E : L2.St → XK} {x : Str} {p pos : Pos} {e : Expr} {es : List Expr} {t : TA}
theorem pe_callX (F : FnX X.prog X.w X.K X.mg X.base k f fd ps sp) (hg : X.A.guards = some []) (hr : Room k X.A) (gx : Gl X x) (hm : X.mg x = some (.ref f)) (hk : PySem.W.keepIn X.K (.ref f) = true) (hb : Binds X.K fd ps []) (hx : ∀ σ, PassesAt (L2.CX X.prog X.w) X σ (E σ))
    (ha : PA X (e :: es) t) (hdb : (x == ("__debug__" : Str)) = false := by decide)
    (he : starEach (e :: es) X.env = (false, eval e X.env) :: starEach es X.env
      := by rfl)
    (hpl : (backTo pos (starEach es X.env)).any (·.1) = false
      := by rfl) :
    PE X (.Call (.Name x p) (e :: es) [] pos)
      (tCallS sp E t) := by
  constructor
  intro pins s σ H Q I h
  refine wpAny_Call_Name_kw (ld_glob I gx hm (PySem.W.callWith_K (h₀ := X.base) I.ok.mod.kin hk (thn (ha.run pos pins s σ H _ I h) ?_) he hpl) hdb)
  rintro us s1 ⟨vs, H1, I1, r, q⟩
  refine ⟨I1.kIn, ?_⟩
  have hl : us.length = ps.length := by rw [← r.length]; exact F.many _ _ _ _ q
  have bd := hb s1 us I1.kIn (by rw [List.append_nil]; exact hl)
  rw [List.append_nil] at bd
  refine wpAny_call (codeAny_mono (F.go X.A X.stack s1 H1 ⟨us, []⟩ us vs Q _ hg hr I1.env0 bd r q) ?_)
  intro res s' hq
  match res, hq with
  | .error er, z => exact hx σ pins H1 s1 er s' I1 z
  | .ok (.ret u), z => exact I1.after z
end
structure Exn where
  c : Str
  v : Option (Str × D)
def ExAt (gl : Str → Option Value) (K : PySem.W.Frag) (F H : Hp) (x : Exn) (cls : Value) (d : Option Addr) : Prop :=
  ∃ C, gl x.c = some (.ref C) ∧ cls = .ref C ∧ match x.v with
    | none => d = none
    | some (f, y) => ∃ a v, d = some a ∧ H a = some (.xd [(f, v)]) ∧ At K F v y
abbrev SpX := List Ar → Nat → (D → Nat → Prop) → (Exn → Nat → Prop) → Prop
def spX (K : PySem.W.Frag) (gl : Str → Option Value) (R : Orc) (n : Nat) (S : SpX) : Sp := fun vs H Q E => ∃ (q : Option Addr) (F : Hp) (as : List Ar) (m : Nat) (P : D → Nat → Prop) (PX : Exn → Nat → Prop),
  World R q F H F H ∧ Paired (ArAt ⟨K, R, q, F, H⟩ F) vs as ∧ as.length = n ∧ oraAt as ∧ (q = none ∨ as[0]? = some .ora) ∧ (∀ p, q = some p → R.cnt p H ≤ m) ∧ S as m P PX ∧
  (∀ d m' v F' H', P d m' → World R q F H F' H' → (∀ p, q = some p → R.cnt p H' ≤ m') → At K F' v d → Q v H') ∧
  ∀ x m' cls dd F' H', PX x m' → World R q F H F' H' → (∀ p, q = some p → R.cnt p H' ≤ m') → ExAt gl K F' H' x cls dd → E cls dd H'
/-- the wish of a frame about exceptions -/
def wx (gl : Str → Option Value) (c : Cn) (px : Exn → Env → Prop) : WX := fun cls dd σ H => ∃ F ρ xx x, Rel c F H σ ρ xx ∧ px x ρ ∧ ExAt gl c.K F H x cls dd
def dCallX (n : Nat) (S : SpX) (px : Exn → Env → Prop) (f : AM) : DM := fun ρ P => f ρ fun as ρ1 => as.length = n ∧ as.all isD = true ∧ S as 0 (fun d _ => P d ρ1) (fun x _ => px x ρ1)
def CdX (pr : Program) (wd : PySem.World) (K : PySem.W.Frag) (gl : Str → Option Value) (bas : Heap) (R : Orc) (k : Nat) (x : Str) (n : Nat) (S : SpX) : Prop :=
  ∃ (f : Addr) (fd : FuncData) (ps : List Str), FnX pr wd K gl bas k f fd ps (spX K gl R n S) ∧ gl x = some (.ref f) ∧ PySem.W.keepIn K (.ref f) = true ∧ Binds K fd ps []
theorem CdX.more {pr : Program} {wd : PySem.World} {K : PySem.W.Frag} {gl : Str → Option Value} {bas : Heap} {R : Orc} {j k : Nat} {x : Str} {n : Nat} {S : SpX} (C : CdX pr wd K gl bas R j x n S) (h : j ≤ k) : CdX pr wd K gl bas R k x n S := by
  obtain ⟨f, fd, ps, F, a, b, d⟩ := C
  exact ⟨f, fd, ps, F.more h, a, b, d⟩
theorem de_cdX {X : Cx} {c : Cn} {k n : Nat} {S : SpX} {px : Exn → Env → Prop} {x : Str} {p pos : Pos} {e : Expr} {es : List Expr} {fa : AM} (tk : Takes X (wx X.mg c px)) (C : CdX X.prog X.w X.K X.mg X.base c.R k x n S) (hK : X.K = c.K) (hg : X.A.guards = some []) (hr : Room k X.A) (gx : Gl X x)
    (ha : PA X (e :: es) (tAr c fa)) (hdb : (x == ("__debug__" : Str)) = false := by decide) (he : starEach (e :: es) X.env = (false, eval e X.env) :: starEach es X.env := by rfl) (hpl : (backTo pos (starEach es X.env)).any (·.1) = false := by rfl) :
    PE X (.Call (.Name x p) (e :: es) [] pos) (tD c (dCallX n S px fa)) := by
  obtain ⟨f, fd, ps, F, hm, hk, hb⟩ := C
  refine PE.to (pe_callX F hg hr gx hm hk hb (fun σ => passAt tk σ) ha hdb he hpl) ?_
  rintro σ H Q ⟨F0, ρ, xx, P, rel, q, k0⟩
  refine ⟨F0, ρ, xx, _, rel, q, ?_⟩
  rintro as ρ1 vs F1 H1 ⟨hl, hd, hs⟩ e1 r1 pr
  have w0 : World c.R none F1 H1 F1 H1 := World.start r1.w.fh (fun _ _ z => z) fun _ z => nomatch z
  have pr' : Paired (ArAt ⟨X.K, c.R, none, F1, H1⟩ F1) vs as := by
    clear hs hl
    induction pr with
    | nil => exact .nil
    | @cons v a vs' as' h1 h2 ih =>
      (simp only [List.all_cons, Bool.and_eq_true] at hd)
      cases a with
      | d y =>
        refine .cons ?_ (ih hd.2)
        show At X.K F1 v y
        rw [hK]
        exact h1
      | ora => cases hd.1
  refine ⟨none, F1, as, 0, _, _, w0, pr', hl, fun i z => absurd z (all_isD hd i), .inl rfl, (fun _ z => nomatch z), hs, ?_, ?_⟩
  · intro d m' v F2 H2 pd wd _ at_
    rw [hK] at at_
    exact k0 d ρ1 v F2 H2 pd (e1.trans wd.ff) (r1.stepN wd) at_
  · intro x m' cls dd F2 H2 pd wd _ at_
    rw [hK] at at_
    exact ⟨F2, ρ1, xx, x, r1.stepN wd, pd, at_⟩
/-- what a body says, with its exceptions -/
def rawX (g : (Exn → Env → Prop) → SM) (N : Nat) : SpX := fun as m P PX =>
  g (fun x ρ => match ρ[0]? with
    | some (Sl.ora m') => PX x m'
    | _ => as.head?.map isD ≠ some false ∧ PX x 0)
  ⟨fun (ρ : DL.Env) => match ρ[0]? with
    | some (Sl.ora m') => P .none m'
    | _ => as.head?.map isD ≠ some false ∧ P .none 0,
  fun (d : D) (ρ : DL.Env) => match ρ[0]? with
    | some (Sl.ora m') => P d m'
    | _ => as.head?.map isD ≠ some false ∧ P d 0, fun _ => False, fun _ => False⟩ (startE N as m)
theorem FnX.data {pr : Program} {wd : PySem.World} {K : PySem.W.Frag} {gl : Str → Option Value} {bas : Heap} {k n : Nat} {f : Addr} {x qual : Str} {st : Stmt} {fd : FuncData} {N ps : List Str} {R : Orc} {g : (Exn → Env → Prop) → SM} (F : L2.Fun K x qual st f fd) (Sc : FnScope N ps (defScope st)) (hn : n = ps.length)
    (body : ∀ (cdv : Value) (A : Around) (out : List PySem.Env) (sh : Shared) (H : Hp) (E : XK) (q : Option Addr) (F : Hp) (px : Exn → Env → Prop), A.guards = some [] → Room k (A.deeper (PyProof.Rows.envOfC qual (defScope st) sh.heap.objs.size f cdv)) →
      Takes (cxOf (L2.CX pr wd) pr wd K gl bas N qual (defScope st) f cdv A out sh H E) (wx gl ⟨K, R, q, F, H⟩ px) →
      PSs (cxOf (L2.CX pr wd) pr wd K gl bas N qual (defScope st) f cdv A out sh H E) (defBody st) (tS ⟨K, R, q, F, H⟩ (g px))) : FnX pr wd K gl bas (k + 1) f fd ps (spX K gl R n (rawX g N.length)) := by
  refine FnX.of F Sc (fun vs H Q E ⟨q, F0, as, m, P, PX, w, pa, hl, _⟩ => by rw [paired_len pa, hl, hn]) fun cdv A out sh H vs Q E hg hr ⟨q, F0, as, m, P, PX, w, pa, hl, ho, hq, hm, says, k0, kx⟩ => ?_
  have cnt : ∀ {ρ' : DL.Env} {σ' : L2.St} {F' H' : Hp} {xx : XX} {PP : Nat → Prop}, (match ρ'[0]? with
      | some (Sl.ora m') => PP m'
      | _ => as.head?.map isD ≠ some false ∧ PP 0) → Rel ⟨K, R, q, F0, H⟩ F' H' σ' ρ' xx → ∃ m', PP m' ∧ ∀ z, q = some z → R.cnt z H' ≤ m' := by
    intro ρ' σ' F' H' xx PP p r
    split at p
    · rename_i m' e
      obtain ⟨y, h1, _, h3⟩ := r.s.or 0 m' e
      refine ⟨m', p, fun z hz => ?_⟩
      have h1' : q = some y := h1
      rw [hz] at h1'
      cases h1'
      exact h3
    · obtain ⟨p1, p2⟩ := p
      have qn : q = none := hq.resolve_right fun z => p1 (by
        cases as with
        | nil => cases z
        | cons b t => cases z; rfl)
      exact ⟨0, p2, fun z hz => by rw [qn] at hz; cases hz⟩
  have fin : ∀ (d : D) (v : V) (ρ' : DL.Env) (σ' : L2.St) (F' H' : Hp), (match ρ'[0]? with
      | some (Sl.ora m') => P d m'
      | _ => as.head?.map isD ≠ some false ∧ P d 0) → Rel ⟨K, R, q, F0, H⟩ F' H' σ' ρ' [] → At K F' v d → Q v H' := by
    intro d v ρ' σ' F' H' p r a
    obtain ⟨m', h1, h2⟩ := cnt (PP := P d) p r
    exact k0 d m' v F' H' h1 r.w h2 a
  refine ⟨_, body cdv A out sh H E q F0 (fun x ρ => match ρ[0]? with
    | some (Sl.ora m') => PX x m'
    | _ => as.head?.map isD ≠ some false ∧ PX x 0) hg hr ?_, F0, _, [], _, rel_start w pa ho hm, says, ?_, ?_, ?_, ?_⟩
  · refine (takes_of (E := E) rfl rfl rfl rfl).imp fun cls dd σ H' ⟨F', ρ', xx, x, r, p, a⟩ => ?_
    obtain ⟨m', h1, h2⟩ := cnt (PP := PX x) p r
    exact kx x m' cls dd F' H' h1 r.w h2 a
  · exact fun ρ' σ' F' H' p e r => fin .none .non ρ' σ' F' H' p r .non
  · exact fun d v ρ' σ' F' H' p r a => fin d v ρ' σ' F' H' p r a
  · exact fun ρ' σ' F' H' p => p.elim
  · exact fun ρ' σ' F' H' p => p.elim
def spInit (K : PySem.W.Frag) (C : Addr) (fld : Option Str) : Sp := fun vs H Q _ => ∃ a v, vs = [.ref a, v] ∧ H a = some (exo a C none) ∧ OexC K C ∧ match fld with
  | none => Q .non H
  | some f => ∀ dx, H dx = none → dx ≠ a → Q .non (upd (upd H dx (exd dx [(f, v)])) a (exo a C (some dx)))
def ClsAt (pr : Program) (wd : PySem.World) (K : PySem.W.Frag) (gl : Str → Option Value) (bas : Heap) (name : Str) (fld : Option Str) : Prop :=
  ∃ (C fI : Addr) (fd : FuncData) (ps : List Str), gl name = some (.ref C) ∧ OexC K C ∧ PySem.W.findIn K (.ref C) "__init__" = some (some (.ref fI)) ∧ PySem.W.typeIn K (.ref fI) = some (.type "function") ∧ FnOk pr wd K gl bas CX0 1 fI fd ps (spInit K C fld) ∧ Binds K fd ps [] ∧ PySem.W.exmOne K (.ref C) (.ref C) = some true
def sRaise (name : Str) (fld : Option Str) (fe : DM) (px : Exn → Env → Prop) : SM := fun _ ρ => fe ρ fun y ρ1 => px ⟨name, fld.map fun f => (f, y)⟩ ρ1
section
variable {X : Cx} {c : Cn} {k : Nat} {name : Str} {p pos pos' : Pos} {e : Expr} {fe : DM} {px : Exn → Env → Prop}
theorem dp_raise1 {f : Str} (Ck : ClsAt X.prog X.w X.K X.mg X.base name (some f)) (tk : Takes X (wx X.mg c px)) (hK : X.K = c.K) (hc : X.calm = true) (hr : Room 2 X.A) (gx : Gl X name) (ha : PE X e (tD c fe))
    (hdb : (name == ("__debug__" : Str)) = false := by decide) (he : starEach [e] X.env = (false, eval e X.env) :: starEach [] X.env := by rfl) (hpl : (backTo pos' (starEach [] X.env)).any (·.1) = false := by rfl) :
    PS X (.Raise (some (.Call (.Name name p) [e] [] pos')) none pos) (tS c (sRaise name (some f) fe px)) := by
  obtain ⟨C, fI, fd, ps, hm, T, iC, tI, F1, hb, _⟩ := Ck
  refine PS.to (ps_raise hc tk (pmk_oex T iC tI F1 hr hb .nil pass0 gx hm (pa_cons ha pa_nil he) hdb he hpl)) ?_
  rintro Z σ H ⟨F, ρ, xx, E, rel, q, n, r, b, t⟩
  refine ⟨F, ρ, xx, _, rel, q, fun y ρ1 v F1 H1 q1 e1 r1 a1 => ?_⟩
  refine ⟨by show 1 ≤ 1000; omega, fun a ha => ⟨a, v, rfl, upd_same, T, fun dx hd ne => ⟨rfl, dx, [(f, v)], upd_same, ?_, ?_, ?_⟩⟩⟩
  · rw [upd_ne ne, upd_same]
  · rw [upd_ne ne] at hd
    exact hd
  · have hd1 : H1 dx = none := by
      rw [upd_ne ne] at hd
      exact hd
    have eh : upd (del (upd (upd (upd H1 a (exo a C none)) dx (exd dx [(f, v)])) a (exo a C (some dx))) a) dx (.xd [(f, v)]) = upd H1 dx (.xd [(f, v)]) := by
      funext b
      by_cases hb : b = dx
      · rw [hb, upd_same, upd_same]
      · rw [upd_ne hb, upd_ne hb]
        by_cases hb2 : b = a
        · rw [hb2, del_same, ha]
        · rw [del_ne hb2, upd_ne hb2, upd_ne hb, upd_ne hb2]
    rw [eh]
    exact ⟨F1, ρ1, xx, _, r1.stepN (r1.w.newO (.xd [(f, v)]) hd1), q1, C, hm, rfl, dx, v, rfl, upd_same, a1⟩
end
theorem Rel.bare {c : Cn} {F H : Hp} {σ : L2.St} {ρ : List Sl} {xx : XX} (r : Rel c F H σ ρ xx) : Rel c F H σ ρ [] :=
  ⟨r.w, ⟨r.s.len, r.s.im, r.s.ow, r.s.dj, r.s.or, r.s.ou, (fun _ hp => nomatch hp), List.nodup_nil⟩⟩
def tS0 (c : Cn) (g : SM) : TS := fun Z σ H => ∃ F ρ E, Rel c F H σ ρ [] ∧ g E ρ ∧ (∀ ρ' σ' F' H', E.nx ρ' → Rel c F' H' σ' ρ' [] → Z.nx σ' H') ∧ (∀ d v ρ' σ' F' H', E.rt d ρ' → Rel c F' H' σ' ρ' [] → At c.K F' v d → Z.rt v H') ∧
  (∀ ρ' σ' F' H', E.bk ρ' → Rel c F' H' σ' ρ' [] → Z.bk σ' H') ∧ (∀ ρ' σ' F' H', E.ct ρ' → Rel c F' H' σ' ρ' [] → Z.ct σ' H')
theorem tS0.to {c : Cn} {g : SM} {Z : Ends} {σ : L2.St} {H : Hp} : tS0 c g Z σ H → tS c g Z σ H := fun ⟨F, ρ, E, rel, q, n, r, b, t⟩ =>
  ⟨F, ρ, [], E, rel, q, fun ρ' σ' F' H' p _ rr => n ρ' σ' F' H' p rr, r, fun ρ' σ' F' H' p _ rr => b ρ' σ' F' H' p rr, fun ρ' σ' F' H' p _ rr => t ρ' σ' F' H' p rr⟩
section
variable {X : Cx} {c : Cn} {st : Stmt} {rest : List Stmt} {g h : SM}
theorem s0_of (h1 : PS X st (tS c g)) : PS X st (tS0 c g) := PS.to h1 fun _ _ _ q => q.to
theorem s0_one (h1 : PS X st (tS0 c g)) : PSs X [st] (tS0 c g) := pss_one h1
theorem s0_cons (h1 : PS X st (tS0 c g)) (h2 : PSs X rest (tS0 c h)) : PSs X (st :: rest) (tS0 c (sSeq g h)) :=
  PSs.to (pss_cons h1 h2) fun Z σ H ⟨F, ρ, E, rel, q, n, r, b, t⟩ => ⟨F, ρ, _, rel, q, fun ρ' σ' F' H' p rel' => ⟨F', ρ', E, rel', p, n, r, b, t⟩, r, b, t⟩
end
theorem FnG.data0 {pr : Program} {wd : PySem.World} {K : PySem.W.Frag} {gl : Str → Option Value} {bas : Heap} {k n : Nat} {f : Addr} {x qual : Str} {st : Stmt} {fd : FuncData} {N ps : List Str} {R : Orc} {g : SM} (F : L2.Fun K x qual st f fd) (Sc : FnScope N ps (defScope st)) (hn : n = ps.length)
    (body : ∀ (cdv : Value) (A : Around) (out : List PySem.Env) (sh : Shared) (H : Hp) (E : XK) (q : Option Addr) (F : Hp), A.guards = some [] → Room k (A.deeper (PyProof.Rows.envOfC qual (defScope st) sh.heap.objs.size f cdv)) →
      PSs (cxOf CX0 pr wd K gl bas N qual (defScope st) f cdv A out sh H E).nox (defBody st) (tS0 ⟨K, R, q, F, H⟩ g)) : FnG pr wd K gl bas (k + 1) f fd ps (spD K R n (raw g N.length)) := by
  refine FnG.of F Sc (fun vs H Q E ⟨q, F0, as, m, P, w, pa, hl, _⟩ => by rw [paired_len pa, hl, hn]) fun cdv A out sh H vs Q E hg hr ⟨q, F0, as, m, P, w, pa, hl, ho, hq, hm, says, k0⟩ => ?_
  have fin : ∀ (d : D) (v : V) (ρ' : DL.Env) (σ' : L2.St) (F' H' : Hp), (match ρ'[0]? with
      | some (Sl.ora m') => P d m'
      | _ => as.head?.map isD ≠ some false ∧ P d 0) → Rel ⟨K, R, q, F0, H⟩ F' H' σ' ρ' [] → At K F' v d → Q v H' := by
    intro d v ρ' σ' F' H' p r a
    split at p
    · rename_i m' e
      obtain ⟨y, h1, _, h3⟩ := r.s.or 0 m' e
      exact k0 d m' v F' H' p r.w (fun z hz => by
        have hz' : q = some z := hz
        have h1' : q = some y := h1
        rw [hz'] at h1'
        cases h1'
        exact h3) a
    · obtain ⟨p1, p2⟩ := p
      have qn : q = none := hq.resolve_right fun z => p1 (by
        cases as with
        | nil => cases z
        | cons b t => cases z; rfl)
      exact k0 d 0 v F' H' p2 r.w (fun z hz => by rw [qn] at hz; cases hz) a
  refine ⟨_, body cdv A out sh H E q F0 hg hr, F0, _, _, rel_start w pa ho hm, says, ?_, ?_, ?_, ?_⟩
  · exact fun ρ' σ' F' H' p r => fin .none .non ρ' σ' F' H' p r .non
  · exact fun d v ρ' σ' F' H' p r a => fin d v ρ' σ' F' H' p r a
  · exact fun ρ' σ' F' H' p => p.elim
  · exact fun ρ' σ' F' H' p => p.elim
end DL
namespace DL
theorem exm_own {K : PySem.W.Frag} {S : PySem.Addr} (h1 : PySem.W.subIn K (.ref S) (.type "BaseException") = some true) (h2 : PySem.W.isClsIn K S = true) (h3 : PySem.W.typeIn K (.ref S) = some (.type "type")) (h4 : PySem.W.subIn K (.ref S) (.ref S) = some true) : PySem.W.exmOne K (.ref S) (.ref S) = some true := by
  have h2 : (PySem.W.clsIn K S).isSome = true := h2
  unfold PySem.W.exmOne PySem.W.kitCls
  simp [h1, h2, h3, h4]
end DL
namespace DL
open PySem L2
end DL
namespace DL
open PySem PyProof.Rows L2 RZ
/-- how far both are gone -/
structure MixGone (z t u p q a b : Addr) (n : Nat) (h : Heap) : Prop where
  zip : IsZip h z t u .none
  its : IsPair h t (.ref p) (.ref q)
  two : ∃ x y, IsPair h u x y
  fst : h.IsTupleIter p a n
  snd : h.IsListIter q b n
theorem five {z t u p q c : Addr} {P : Addr → Prop} (hc : c ∈ [z, t, u, p, q]) (h1 : P z) (h2 : P t) (h3 : P u) (h4 : P p) (h5 : P q) : P c := by
  simp only [List.mem_cons, List.not_mem_nil, or_false] at hc
  rcases hc with rfl | rfl | rfl | rfl | rfl <;> assumption
theorem MixGone.there {z t u p q a b : Addr} {n : Nat} {h : Heap} (m : MixGone z t u p q a b n h) {c : Addr} (hc : c ∈ [z, t, u, p, q]) :
    ∃ o, h.get? c = some o ∧ ∀ v, o.data ≠ .cell v := by
  obtain ⟨k1, k2, ⟨x, y, k3⟩, ⟨o4, e4, _, f4⟩, ⟨o5, e5, _, f5⟩⟩ := m
  refine five (P := fun c => ∃ o, h.get? c = some o ∧ ∀ v, o.data ≠ .cell v) hc ⟨_, k1, ?_⟩ ⟨_, k2, ?_⟩ ⟨_, k3, ?_⟩ ⟨o4, e4, ?_⟩ ⟨o5, e5, ?_⟩
  · exact fun v e => nomatch e
  · exact fun v e => nomatch e
  · exact fun v e => nomatch e
  · exact fun v e => by
      rw [f4] at e
      cases e
  · exact fun v e => by
      rw [f5] at e
      cases e
theorem MixGone.keep {z t u p q a b : Addr} {n : Nat} {h h' : Heap} (m : MixGone z t u p q a b n h) (k : ∀ c, c ∈ [z, t, u, p, q] → ∀ o, h.get? c = some o → h'.get? c = some o) : MixGone z t u p q a b n h' := by
  obtain ⟨k1, k2, ⟨x, y, k3⟩, k4, k5⟩ := m
  have kz := k z (by simp)
  have kt := k t (by simp)
  have ku := k u (by simp)
  have kp := k p (by simp)
  have kq := k q (by simp)
  exact ⟨kz _ k1, kt _ k2, ⟨x, y, ku _ k3⟩, k4.at kp, k5.at kq⟩
end DL
namespace DL
open PySem L2
/-- the class C: the field f of its exceptions can be read -/
def FldOf (K : PySem.W.Frag) (gl : Str → Option Value) (cn f : Str) : Prop := ∃ C, gl cn = some (.ref C) ∧ XfC K C ∧ PySem.W.findIn K (.ref C) f = some none
/-- where the suite stands: slot i holds the exception at a, whose field f is y -/
def Caught (c : Cn) (a C : Addr) (i : Nat) (cls : Value) (d : Option Addr) (f : Str) (y : D) (F H : Hp) (σ : L2.St) : Prop :=
  σ[i]? = some (some (.ref a)) ∧ cls = .ref C ∧ ∃ dd v, d = some dd ∧ H dd = some (.xd [(f, v)]) ∧ At c.K F v y
def tFd (c : Cn) (a C : Addr) (i : Nat) (cls : Value) (d : Option Addr) (f : Str) (sh : D → D) : TE := fun σ H Q => ∃ F ρ xx y, Rel c F H σ ρ xx ∧ Caught c a C i cls d f y F H σ ∧
  ∀ v F' H', Ex F F' → Rel c F' H' σ ρ xx → At c.K F' v (sh y) → Q v H'
section
variable {X : Cx} {c : Cn} {a C : Addr} {i : Nat} {oe : Obj} {cls : Value} {d : Option Addr} {pn : List (Addr × Obj)} {n f : Str} {p pos pos2 : Pos}
theorem fd_bare (hK : X.K = c.K) (T : XfC X.K C) (hno : PySem.W.findIn X.K (.ref C) f = some none) (hz : Zc cls d oe) (hf : ∃ vs, oe.data = .fields vs) (hv : PE (X.suite a ((a, oe) :: pn)) (.Name n p) (tVar i))
    (hb : attributeBase (.Name n p) f X.env (eval (.Name n p) X.env) = eval (.Name n p) X.env := by rfl) :
    PE (X.suite a ((a, oe) :: pn)) (.Attribute (.Name n p) f pos) (tFd c a C i cls d f fun y => y) := by
  refine PE.to (pe_xf T hno hz hf hv hb) ?_
  rintro σ H Q ⟨F, ρ, xx, y, rel, ⟨h1, h2, dd, v, h3, h4, h5⟩, k⟩
  exact ⟨_, h1, rfl, h2, dd, _, v, h3, h4, by simp, k v F H (Ex.refl F) rel h5⟩
end
/-- try: body / except cn as (slot i): (slot j) = sh of its field f -/
def sTryF (cn f : Str) (i j : Nat) (sh : D → D) (gb : (Exn → Env → Prop) → SM) : SM := fun E ρ =>
  gb (fun x ρ' => x.c = cn ∧ i < ρ'.length ∧ ∃ y, x.v = some (f, y) ∧ E.nx (((ρ'.set i .no).set j (.im (sh y))).set i .no)) E ρ
section
variable {X : Cx} {c : Cn}
theorem dp_tryF {cn f n m : Str} {i j : Nat} {sh : D → D} {body : List Stmt} {ev : Expr} {np pm ps pos pos' : Pos} {gb : (Exn → Env → Prop) → SM} (hs : X.stack = X.env :: X.outer) (hf : X.env.frame = some X.env.locals)
    (hN : X.N.Nodup) (hi : X.N[i]? = some n) (hln : X.env.kindOf n = some .local) (hj : X.N[j]? = some m) (hx : Loc X.env.scope m) (Ck : ClsAt X.prog X.w X.K X.mg X.base cn (some f)) (Fk : FldOf X.K X.mg cn f) (gx : Gl X cn)
    (hb : ∀ (px : Exn → Env → Prop) (pn : List (Addr × Obj)) (xe : Value → Shared → Prop), Takes (X.tr pn xe) (wx X.mg c px) → PassesOwn (model X.prog X.w) X.A X.env xe → PSs (X.tr pn xe) body (tS c (gb px)))
    (hv : ∀ (a C : Addr) (oe : Obj) (cls : Value) (d : Option Addr) (pn : List (Addr × Obj)), XfC X.K C → PySem.W.findIn X.K (.ref C) f = some none → Zc cls d oe → (∃ vs, oe.data = .fields vs) → PE (X.suite a ((a, oe) :: pn)) ev (tFd c a C i cls d f sh))
    (hsw : swapsWith ev (some (.Name m pm)) ps.line X.env = pure false := by rfl) (hfn : X.fn m = true ∨ X.env.scope.names.lookup m = some .local := by first | exact .inl rfl | exact .inr rfl)
    (hdb : (cn == ("__debug__" : Str)) = false := by decide) :
    PS X (.Try body [.ExceptHandler (some (.Name cn np)) (some n) [.Assign [.Name m pm] ev ps] pos'] [] [] pos) (tS0 c (sTryF cn f i j sh gb)) := by
  obtain ⟨C, fI, fd, pps, hm, T, iC, tI, F1, hbi, hex⟩ := Ck
  obtain ⟨C', hm', xf, hno⟩ := Fk
  rw [hm] at hm'
  cases hm'
  refine PS.to (ps_try_as (c := .ref C) (i := i) (Wout := fun _ _ _ _ => False) (tb := fun W Z σ H => ∃ px, (∀ cls d σ' H', wx X.mg c px cls d σ' H' → W cls d σ' H') ∧ tS c (gb px) Z σ H)
    (ts := fun a cls d => tAsg (tFd c a C i cls d f sh) (gName j)) hs hf hN hi hln ⟨gx, hdb, .inl hm⟩ takes0 (fun W pn xe tk po => ?_) fun a oe cls d pn hz hfl => ?_) ?_
  · exact ⟨fun pins s σ H Z I ⟨px, hw, q⟩ => (hb px pn xe (tk.imp hw) po).run pins s σ H Z I q⟩
  · exact pss_one (ps_set (X := X.suite a ((a, oe) :: pn)) hN hj hx (hv a C oe cls d pn xf hno hz hfl) hsw hfn)
  · rintro Z σ H ⟨F, ρ, E, rel, q, nn, r, b, t⟩
    refine ⟨fun x ρ' => x.c = cn ∧ i < ρ'.length ∧ ∃ y, x.v = some (f, y) ∧ E.nx (((ρ'.set i .no).set j (.im (sh y))).set i .no), ?_, (show tS0 c (gb _) Z σ H from ⟨F, ρ, E, rel, q, nn, r, b, t⟩).to⟩
    rintro cls d σ' H' ⟨F', ρ', xx', x, rel', ⟨hx, hil, y, hxv, p⟩, C', hm', rfl, hfd⟩
    rw [hx, hm] at hm'
    cases hm'
    rw [hxv] at hfd
    obtain ⟨dd, v, h3, h4, h5⟩ := hfd
    refine ⟨true, hex, fun _ a _ => ?_, fun z => nomatch z⟩
    have rel0 : Rel c F' H' (σ'.set i (some (.ref a))) (ρ'.set i .no) [] := ⟨rel'.w, rel'.bare.s.put i (fun _ e => by cases e) (fun _ e => by cases e) (by intro m z; cases z)⟩
    refine ⟨F', _, [], y, rel0, ⟨get_set_eq (by rw [← rel'.s.len]; exact hil), rfl, dd, v, h3, h4, h5⟩, fun v' F2 H2 e2 r2 a2 => ?_⟩
    have r3 := r2.putI j a2
    exact nn _ _ F2 H2 p ⟨r3.w, r3.s.forget i⟩
end
end DL
namespace DL
open PySem PyProof.Rows L2
end DL
namespace DL
open PySem PyProof.Rows L2
section
variable {X : Cx} {c : Cn} {x : Str} {e : Expr} {pos : Pos}
def gNotB : G2 := fun x y P => match x, y with
  | .bool a, .bool b => P (.bool (!decide (a = b)))
  | _, _ => False
theorem sem_notb : Sem2 X c (compareOp .IsNot) gNotB := by
  refine ⟨_, op_notBl, fun F H σ ρ xx x y vx vy P Q r bx by_ g k => ?_⟩
  unfold gNotB at g
  split at g
  · cases bo_bl bx
    cases bo_bl by_
    exact ⟨_, _, rfl, rfl, k _ _ F H g (Ex.refl F) r (.bl _)⟩
  · exact g.elim
end
end DL
namespace DL
open PySem PyProof.Rows L2
def CdD (pr : Program) (wd : PySem.World) (K : PySem.W.Frag) (gl : Str → Option Value) (bas : Heap) (R : Orc) (k : Nat) (x : Str) (n : Nat) (dds : List D) (S : SpD) : Prop :=
  ∃ (f : Addr) (fd : FuncData) (ps : List Str) (ds : List Value) (dvs : List V), FnG pr wd K gl bas k f fd ps (spD K R (n + dds.length) S) ∧ gl x = some (.ref f) ∧ PySem.W.keepIn K (.ref f) = true ∧ Binds K fd ps ds ∧ Vals dvs ds ∧ ∀ F, AtAll K F dvs dds
theorem CdD.more {pr : Program} {wd : PySem.World} {K : PySem.W.Frag} {gl : Str → Option Value} {bas : Heap} {R : Orc} {j k : Nat} {x : Str} {n : Nat} {dds : List D} {S : SpD} (C : CdD pr wd K gl bas R j x n dds S) (h : j ≤ k) : CdD pr wd K gl bas R k x n dds S := by
  obtain ⟨f, fd, ps, ds, dvs, F, a, b, d, e, u⟩ := C
  exact ⟨f, fd, ps, ds, dvs, F.more h, a, b, d, e, u⟩
end DL
namespace DL
open PySem L2
end DL
namespace DL
open PySem L2
section
variable {c : Cn} {F H : Hp} {σ : L2.St} {ρ : DL.Env} {xx yy : XX}
theorem Rel.perm (r : Rel c F H σ ρ xx) (p : xx.Perm yy) : Rel c F H σ ρ yy :=
  ⟨r.w, ⟨r.s.len, r.s.im, r.s.ow, r.s.dj, r.s.or, r.s.ou, fun q hq => r.s.ex q (p.mem_iff.mpr hq), (p.map (·.1)).nodup_iff.mp r.s.xd⟩⟩
theorem Rel.freezeO {a : Addr} {o : HO} (r0 : Rel c F H σ ρ ((a, .o o) :: xx)) : Ex F (upd F a o) ∧ Rel c (upd F a o) H σ ρ xx := by
  obtain ⟨r, h⟩ := r0.popX
  have ho : H a = some o := h.own.o
  have ef : Ex F (upd F a o) := Ex.new h.own.f
  refine ⟨ef, ⟨⟨r.w.ff.trans ef, fun b u q => ?_, r.w.kp, r.w.dom, fun b g f => ?_, fun b g => ?_, r.w.or⟩, ⟨r.s.len, fun j x q => ?_, fun j x q => ?_, r.s.dj, r.s.or, r.s.ou, fun p hp => ?_, r.s.xd⟩⟩⟩
  · by_cases z : b = a
    · subst z
      rw [upd_same] at q
      cases q
      exact ho
    · rw [upd_ne z] at q
      exact r.w.fh b u q
  · by_cases z : b = a
    · subst z
      exact absurd h.own.y g
    · rw [upd_ne z]
      exact r.w.fn b g f
  · by_cases z : b = a
    · subst z
      exact h.own.n
    · rw [upd_ne z] at g
      exact r.w.ft b g
  · obtain ⟨v, g1, g2⟩ := r.s.im j x q
    exact ⟨v, g1, g2.mono ef⟩
  · obtain ⟨b, g1, g2⟩ := r.s.ow j x q
    have hb : b ≠ a := fun zz => by
      subst zz
      exact h.ne j x q g1
    exact ⟨b, g1, ⟨g2.o.mono ef rfl, by rw [upd_ne hb]; exact g2.f, g2.y, g2.n⟩⟩
  · obtain ⟨g2, gn⟩ := r.s.ex p hp
    exact ⟨⟨g2.o.mono ef rfl, by rw [upd_ne (h.nx p hp)]; exact g2.f, g2.y, g2.n⟩, gn⟩
theorem Fresh.toO {a : Addr} {ds : List D} (h : Fresh c F H σ ρ xx a (.d (.list ds))) : ∃ vs, AtAll c.K F vs ds ∧ Fresh c F H σ ρ xx a (.o (.lst vs)) := by
  obtain ⟨vs, h1, h2⟩ := h.own.o
  exact ⟨vs, h2, ⟨h1, h.own.f, h.own.y, h.own.n⟩, h.ne, h.nx⟩
/-- a list of lists at A, its rows at as -/
structure Nest (K : PySem.W.Frag) (F : Hp) (A : Addr) (as : List Addr) (rows : List (List D)) : Prop where
  o : F A = some (.lst (as.map V.ref))
  n : as.length = rows.length
  r : ∀ (k : Nat) (a : Addr) (r : List D), as[k]? = some a → rows[k]? = some r → ∃ vs, F a = some (.lst vs) ∧ AtAll K F vs r
theorem Nest.mono {K : PySem.W.Frag} {F F' : Hp} {A : Addr} {as : List Addr} {rows : List (List D)} (h : Nest K F A as rows) (e : Ex F F') : Nest K F' A as rows :=
  ⟨e _ _ h.o, h.n, fun k a r h1 h2 => let ⟨vs, q1, q2⟩ := h.r k a r h1 h2; ⟨vs, e _ _ q1, q2.mono e⟩⟩
theorem rows_at {K : PySem.W.Frag} {F : Hp} : ∀ (as : List Addr) (rows : List (List D)), as.length = rows.length → (∀ (k : Nat) (a : Addr) (r : List D), as[k]? = some a → rows[k]? = some r → ∃ vs, F a = some (.lst vs) ∧ AtAll K F vs r) → AtAll K F (as.map V.ref) (rows.map PyData.list)
  | [], [], _, _ => .nil
  | [], _ :: _, h, _ => (by simp at h)
  | _ :: _, [], h, _ => (by simp at h)
  | a :: as, r :: rows, h, k => by
    obtain ⟨vs, q1, q2⟩ := k 0 a r rfl rfl
    exact .cons (.lst (.inl (.inl q1)) q2) (rows_at as rows (by simpa using h) fun j a r h1 h2 => k (j + 1) a r h1 h2)
theorem Nest.at {K : PySem.W.Frag} {F : Hp} {A : Addr} {as : List Addr} {rows : List (List D)} (h : Nest K F A as rows) : At K F (.ref A) (.list (rows.map PyData.list)) := .lst (.inl (.inl h.o)) (rows_at as rows h.n h.r)
/-- its objects were not there: not in G, not at the beginning -/
structure Newly (G H0 : Hp) (A : Addr) (as : List Addr) : Prop where
  g : ∀ a ∈ A :: as, G a = none
  h : ∀ a ∈ A :: as, H0 a = none
  nd : (A :: as).Nodup
theorem wipe_set2 : ∀ (us : List Nat) (σ : L2.St) (i : Nat), i ∈ us → (wipe σ us).set i none = wipe σ us
  | [], _, _, h => nomatch h
  | u :: us, σ, i, h => by
    show ((wipe σ us).set u none).set i none = (wipe σ us).set u none
    by_cases e : u = i
    · subst e
      rw [List.set_set]
    · rw [List.set_comm _ _ e, wipe_set2 us σ i ((List.mem_cons.mp h).resolve_left fun z => e z.symm)]
theorem wipe_wipe9 : ∀ (us ws : List Nat) (σ : L2.St), (∀ i ∈ us, i ∈ ws) → wipe (wipe σ ws) us = wipe σ ws
  | [], _, _, _ => rfl
  | u :: us, ws, σ, h => by
    show (wipe (wipe σ ws) us).set u none = wipe σ ws
    rw [wipe_wipe9 us ws σ fun i hi => h i (List.mem_cons_of_mem _ hi)]
    exact wipe_set2 ws σ u (h u (List.mem_cons_self ..))
/-- [a new list for each] -/
theorem lcN_use {i : IM} {t : TM} {f : DM} {vs js : List Nat} {Q : VK} (hj : ∀ j ∈ js, j ∈ vs) (rel : Rel c F H σ ρ xx) {ds : List D} {rows : List (List D)} (hl : ds.length = rows.length) (hm : ds.length ≤ 100000)
    (hi : i ρ fun ds' ρ' => ds' = ds ∧ ρ' = ρ) (ok : okV ρ vs) (hb : backE ρ (wipeE ρ vs) vs = ρ)
    (hel : ∀ (n : Nat) (d : D) (r : List D), ds[n]? = some d → rows[n]? = some r → t d (wipeE ρ vs) fun ρ1 => f ρ1 fun y ρ2 => y = .list r ∧ wipeE ρ2 vs = wipeE ρ vs)
    (k : ∀ (A : Addr) (as : List Addr) (F' H' : Hp), Ex F F' → Nest c.K F' A as rows → Newly F c.H0 A as → Rel c F' H' σ ρ xx → Q (.ref A) H') :
    tLc (tI c i) (tG c js t) (tT c bYes) (tN c f) vs σ H Q := by
  refine ⟨F, ρ, xx, _, rel, hi, fun ds' ρ1 J F1 H1 q1 e1 r1 iok A hA => ?_⟩
  obtain ⟨rfl, rfl⟩ := q1
  obtain ⟨rA, frA⟩ := Fresh.new (o := .lst []) (d := .o (.lst [])) r1 hA upd_same
  refine ⟨fun n m H' => ∃ (F' : Hp) (as : List Addr), Ex F1 F' ∧ n ≤ ds'.length ∧ as.length = n ∧ m = ds'.length - n ∧
      (∀ (k : Nat) (a : Addr) (r : List D), as[k]? = some a → rows[k]? = some r → ∃ vs, F' a = some (.lst vs) ∧ AtAll c.K F' vs r) ∧
      (∀ a ∈ as, F1 a = none ∧ c.H0 a = none ∧ F' a ≠ none) ∧ as.Nodup ∧ Rel c F' H' (wipe σ vs) (wipeE ρ1 vs) ((A, .o (.lst (as.map V.ref))) :: xx),
    ⟨ds'.length, F1, [], Ex.refl F1, Nat.zero_le _, rfl, by omega, (fun k a r z => by simp at z), (fun a z => by cases z), List.nodup_nil, (rA.pushX frA).wipe vs⟩, ?_⟩
  rintro n m H' ⟨F', as, e2, hn, la, rfl, hr, hf, nd, r2⟩
  obtain ⟨o1, o2⟩ := iok n F' H' (wipe σ vs) _ _ e2 r2
  by_cases hlt : n < ds'.length
  · have hd : ds'[n]? = some ds'[n] := List.getElem?_eq_getElem hlt
    have hlt2 : n < rows.length := by omega
    have hrw : rows[n]? = some rows[n] := List.getElem?_eq_getElem hlt2
    obtain ⟨go, yl⟩ := o1 _ hd
    have q2 := hel n _ _ hd hrw
    refine .inr ⟨go, fun H2 => ∃ (F' : Hp) (as : List Addr), Ex F1 F' ∧ as.length = n + 1 ∧
      (∀ (k : Nat) (a : Addr) (r : List D), as[k]? = some a → rows[k]? = some r → ∃ vs, F' a = some (.lst vs) ∧ AtAll c.K F' vs r) ∧
      (∀ a ∈ as, F1 a = none ∧ c.H0 a = none ∧ F' a ≠ none) ∧ as.Nodup ∧ Rel c F' H2 (wipe σ vs) (wipeE ρ1 vs) ((A, .o (.lst (as.map V.ref))) :: xx),
      fun H2 ⟨F2, as2, a1, a2, a3, a4, a5, a6⟩ => ⟨ds'.length - (n + 1), by omega, F2, as2, a1, by omega, a2, rfl, a3, a4, a5, a6⟩, fun v H2 y => ?_⟩
    obtain ⟨F2, e3, r3, a3⟩ := yl v H2 y
    refine ⟨F2, _, _, _, _, r3, a3, q2, fun ρ4 σ4 F4 H4 q4 on e4 r4 => ?_⟩
    have hw : wipe σ4 vs = wipe σ vs := by
      rw [on vs hj]
      exact wipe_wipe9 vs vs σ fun _ h => h
    refine ⟨by first | (rw [hw, wipe_wipe9 vs vs σ fun _ h => h]; done) | (rw [hw]; done) | exact hw, F4, ρ4, _, fun b ρ' => b = true ∧ ρ' = ρ4, r4, ⟨rfl, rfl⟩, fun bb ρ5 F5 H5 q5 e5 r5 => ?_⟩
    obtain ⟨rfl, rfl⟩ := q5
    rw [if_pos rfl]
    refine ⟨F5, ρ5, _, _, r5, q4, fun y ρ6 u F6 H6 q6 e6 r6 f6 => ?_⟩
    obtain ⟨rfl, ew⟩ := q6
    obtain ⟨us, ua, fo⟩ := f6.toO
    have ho : H6 A = some (.lst (as.map V.ref)) := (r6.s.ex (A, .o (.lst (as.map V.ref))) (List.mem_cons_self ..)).1.o
    obtain ⟨e7, r7⟩ := (r6.pushX fo).freezeO
    have eF : Ex F' (upd F6 u (.lst us)) := (((e3.trans e4).trans e5).trans e6).trans e7
    have r8 := r7.mutX (o := .lst (as.map V.ref ++ [V.ref u])) (d' := .o (.lst (as.map V.ref ++ [V.ref u]))) (show upd H6 A _ A = _ from upd_same)
    have r9 := r8.wipe vs
    rw [hw, ew] at r9
    have fu : F1 u = none := by
      cases e : F1 u with
      | none => rfl
      | some o =>
        have z := fo.own.f
        rw [e6 _ _ (e5 _ _ (e4 _ _ (e3 _ _ (e2 _ _ e))))] at z
        cases z
    have nu : u ∉ as := fun z => by
      obtain ⟨_, _, h3⟩ := hf u z
      cases e : F' u with
      | none => exact h3 e
      | some o =>
        have z := fo.own.f
        rw [e6 _ _ (e5 _ _ (e4 _ _ (e3 _ _ e)))] at z
        cases z
    refine ⟨as.map V.ref, ho, szl (by rw [List.length_map]; omega), upd F6 u (.lst us), as ++ [u], e2.trans eF, by rw [List.length_append, la]; rfl, fun k a r h1 h2 => ?_, fun a ha => ?_, ?_, ?_⟩
    · by_cases hk : k < as.length
      · rw [List.getElem?_append_left hk] at h1
        obtain ⟨ws, g1, g2⟩ := hr k a r h1 h2
        exact ⟨ws, eF _ _ g1, g2.mono eF⟩
      · have hk2 : k = n := by
          have := (List.getElem?_eq_some_iff.mp h1).1
          rw [List.length_append] at this
          simp at this
          omega
        subst hk2
        rw [List.getElem?_append_right (by omega), la, Nat.sub_self] at h1
        cases h1
        rw [hrw] at h2
        cases h2
        exact ⟨us, upd_same, ua.mono e7⟩
    · rcases List.mem_append.mp ha with z | z
      · obtain ⟨h1, h2, h3⟩ := hf a z
        refine ⟨h1, h2, fun q => ?_⟩
        cases e : F' a with
        | none => exact h3 e
        | some o =>
          rw [eF _ _ e] at q
          cases q
      · (rw [List.mem_singleton.mp z])
        exact ⟨fu, fo.own.y, by rw [upd_same]; exact Option.some_ne_none _⟩
    · refine List.nodup_append.mpr ⟨nd, by simp, fun a h1 b h2 z => ?_⟩
      rw [List.mem_singleton.mp h2] at z
      exact nu (z ▸ h1)
    · rw [List.map_append]
      exact r9
  · have en : n = ds'.length := by omega
    subst en
    obtain ⟨r5, fr⟩ := (Rel.back r1 e2 vs _ ok r2).popX
    rw [hb] at r5 fr
    obtain ⟨e6, r6⟩ := (r5.pushX fr).freezeO
    refine .inl ⟨o2 rfl, k A as _ H' (e1.trans (e2.trans e6)) ⟨upd_same, by omega, fun k a r h1 h2 => ?_⟩ ⟨fun a ha => ?_, fun a ha => ?_, ?_⟩ r6⟩
    · obtain ⟨ws, g1, g2⟩ := hr k a r h1 h2
      exact ⟨ws, e6 _ _ g1, g2.mono e6⟩
    · rcases List.mem_cons.mp ha with rfl | z
      · cases e : F a with
        | none => rfl
        | some o =>
          have q := fr.own.f
          rw [e2 _ _ (e1 _ _ e)] at q
          cases q
      · obtain ⟨h1, _, _⟩ := hf a z
        cases e : F a with
        | none => rfl
        | some o =>
          rw [e1 _ _ e] at h1
          cases h1
    · rcases List.mem_cons.mp ha with rfl | z
      · exact fr.own.y
      · exact (hf a z).2.1
    · rw [List.nodup_cons]
      refine ⟨fun z => ?_, nd⟩
      exact (hf A z).2.2 fr.own.f
end
end DL
namespace DL
open PySem L2
section
variable {K : PySem.W.Frag} {R : Orc} {F H : Hp} {v0 vc : V} {i j r w : Int} {s : Str} {rest : List D}
def wE (r w i j : Int) (s : Str) (rest : List D) : DL.Env := [.im (.tuple [.int r, .int w]), .no, .im (.int i), .im (.int j), .im (.tuple (.str s :: rest)), .no]
/-- the row at a, and all else -/
structure WI (K : PySem.W.Frag) (R : Orc) (F G Hw : Hp) (a U : Addr) (as : List Addr) (e : DL.Env) (σ : L2.St) (ds : List D) (H' : Hp) : Prop where
  x : ∃ F' us', Ex G F' ∧ Rel ⟨K, R, none, F, Hw⟩ F' H' σ e [(a, .o (.lst us'))] ∧ AtAll K F' us' ds
  u : H' U = some (.lst (as.map V.ref))
theorem WI.row {G Hw H' : Hp} {a U : Addr} {as : List Addr} {e : DL.Env} {σ : L2.St} {ds : List D} (h : WI K R F G Hw a U as e σ ds H') : ∃ us', H' a = some (.lst us') ∧ us'.length = ds.length := by
  obtain ⟨F', us', _, r, at_⟩ := h.x
  exact ⟨us', (r.s.ex (a, .o (.lst us')) (List.mem_cons_self ..)).1.o, at_.length⟩
theorem WI.put {G Hw H' : Hp} {a U : Addr} {as : List Addr} {e : DL.Env} {σ : L2.St} {ds : List D} {F2 : Hp} {us' : List V} {v : V} {d : D} {k : Nat} (hU : a ≠ U) (ef : Ex G F2) (r : Rel ⟨K, R, none, F, Hw⟩ F2 H' σ e [(a, .o (.lst us'))]) (ha : AtAll K F2 us' ds) (hu : H' U = some (.lst (as.map V.ref))) (hv : At K F2 v d) :
    WI K R F G Hw a U as e σ (ds.set k d) (upd H' a (.lst (us'.set k v))) :=
  ⟨⟨F2, us'.set k v, ef, r.mutX (show upd H' a _ a = _ from upd_same), ha.set hv k⟩, by rw [upd_ne (Ne.symm hU)]; exact hu⟩
end
section
variable {K : PySem.W.Frag} {R : Orc} {F H : Hp} {v0 vc : V} {i j r w : Int} {s : Str} {rest : List D} {Hw : Hp} {a U : Addr} {as : List Addr} {x : Option V} {ds : List D} {Z : Ends}
theorem WI.step {G : Hp} {F2 H2 : Hp} {us : List V} {e : DL.Env} {σ : L2.St} (hw : Hw U = some (.lst (as.map V.ref))) (ef : Ex G F2) (r2 : Rel ⟨K, R, none, F, Hw⟩ F2 H2 σ e [(a, .o (.lst us))]) (ha : AtAll K F2 us ds) : WI K R F G Hw a U as e σ ds H2 :=
  ⟨⟨F2, us, ef, r2, ha⟩, (r2.w.kp U _ hw fun z => z).1⟩
end
end DL
namespace DL
open PySem L2
end DL
namespace DL
open PySem L2
section
variable {X : Cx} {c : Cn} {a b e3 : Expr} {pos : Pos}
def sParINN (i j l : Nat) (f g h : DM) : SM := fun E ρ => f ρ fun d ρ1 => g ρ1 fun d' ρ2 => h ρ2 fun d2 ρ3 => E.nx (((ρ3.set i (.im d)).set j (.ow d')).set l (.ow d2))
theorem parINN_use {i j l : Nat} (hij : i ≠ j) (hil : i ≠ l) (hjl : j ≠ l) {f g h : DM} : ∀ Z σ H, tS c (sParINN i j l f g h) Z σ H → tPar3 i j l (tCons (tD c f) (tCons (tN c g) (tCons (tN c h) tNil))) Z σ H := by
  rintro Z σ H ⟨F, ρ, xx, E, rel, q, n, rr, b, t⟩
  refine ⟨F, ρ, xx, _, rel, q, fun d ρ1 v F1 H1 q1 e1 r1 a1 => ?_⟩
  refine ⟨F1, ρ1, xx, _, r1, q1, fun d' ρ2 p F2 H2 q2 e2 r2 f2 => ?_⟩
  refine ⟨F2, ρ2, (p, d') :: xx, _, r2.pushX f2, q2, fun d2 ρ3 p' F3 H3 q3 e3 r3 f3 => ?_⟩
  obtain ⟨r4, f4⟩ := r3.popX
  have ne : p ≠ p' := fun z => f3.nx (p, d') (List.mem_cons_self ..) z
  have r5 := r4.putI i (a1.mono (e2.trans e3))
  have keep : ∀ {F H : Hp} {σ : L2.St} {ρ : List Sl} {xx : XX} {q : Addr} {d : XO} {v : V} {x : D}, Fresh c F H σ ρ xx q d → Fresh c F H (σ.set i (some v)) (ρ.set i (.im x)) xx q d := fun f => by
    refine ⟨f.own, fun k z hk hs => ?_, f.nx⟩
    rcases set_lt hk with ⟨ek, hlt, hz⟩ | ⟨hne, hk⟩
    · cases hz
    · rw [get_set_ne hne] at hs
      exact f.ne k z hk hs
  have g4 := keep (v := v) (x := d) f4
  have r6 := r5.putO j g4
  have g3 : Fresh c F3 H3 (σ.set i (some v)) (ρ3.set i (.im d)) xx p' d2 := keep ⟨f3.own, f3.ne, fun q hq => f3.nx q (List.mem_cons_of_mem _ hq)⟩
  have f5 : Fresh c F3 H3 ((σ.set i (some v)).set j (some (.ref p))) ((ρ3.set i (.im d)).set j (.ow d')) xx p' d2 := by
    refine ⟨g3.own, fun k z hk hs => ?_, g3.nx⟩
    rcases set_lt hk with ⟨ek, hlt, _⟩ | ⟨hne, hk⟩
    · subst ek
      rw [get_set_eq (by rw [← r5.s.len]; exact hlt)] at hs
      cases hs
      exact ne rfl
    · rw [get_set_ne hne] at hs
      exact g3.ne k z hk hs
  exact ⟨_, _, _, rfl, n _ _ F3 H3 q3 (e1.trans (e2.trans e3)) (r6.putO l f5)⟩
theorem dp_parINN {x y z : Str} {i j l : Nat} {f g h : DM} {px py pz pt : Pos} {kt k2 : Nat} {pt2 : Pos} (hc : X.calm = true) (hN : X.N.Nodup) (hi : X.N[i]? = some x) (hj : X.N[j]? = some y) (hl : X.N[l]? = some z) (hij : i ≠ j) (hil : i ≠ l) (hjl : j ≠ l)
    (hx : X.env.scope.names.lookup x = some .local) (hy : X.env.scope.names.lookup y = some .local) (hz : X.env.scope.names.lookup z = some .local) (ha : PE X a (tD c f)) (hb : PE X b (tN c g)) (hd : PE X e3 (tN c h))
    (hw : swappedStores [.Tuple [.Name x px, .Name y py, .Name z pz] kt pt] (.Tuple [a, b, e3] k2 pt2) X.env = pure (some [x, y, z]))
    (hs : swapsWithSole [.Tuple [.Name x px, .Name y py, .Name z pz] kt pt] (.Tuple [a, b, e3] k2 pt2) pos.line X.env = pure false := by rfl)
    (s1 : starEach [a, b, e3] X.env = (false, eval a X.env) :: starEach [b, e3] X.env := by rfl) (s2 : starEach [b, e3] X.env = (false, eval b X.env) :: starEach [e3] X.env := by rfl) (s3 : starEach [e3] X.env = (false, eval e3 X.env) :: starEach [] X.env := by rfl) :
    PS X (.Assign [.Tuple [.Name x px, .Name y py, .Name z pz] kt pt] (.Tuple [a, b, e3] k2 pt2) pos) (tS c (sParINN i j l f g h)) :=
  PS.to (ps_par3 hc hN hi hj hl hij hil hjl hx hy hz (pa_cons ha (pa_cons hb (pa_cons hd pa_nil s3) s2) s1) hw hs) (parINN_use hij hil hjl)
end
end DL
namespace DL
open PySem L2
end DL
namespace DL
open PySem L2 PyProof.Rows
/-- p, of the class cls, has been caught where the slots are σ and the heap is H -/
structure Catch (X : Cx) (pins : List (Addr × Obj)) (p : Addr) (cls : Value) (d : Option Addr) (σ : L2.St) (H : Hp) (s : Shared) : Prop where
  ok : X.Ok
  new : H p = none
  air : ∃ (B : Heap) (sI : Shared), Inv X pins σ H sI ∧ (∀ b o, sI.heap.get? b = some o → b ∉ frs X.stack → B.get? b = some o) ∧ sI.heap.UpToSlots s.heap ∧ s.os = sI.os ∧ AllBare s.gens ∧ HandSPX.FlyingZ B X.stack p (Zc cls d) s.heap
theorem frs_local {X : Cx} (hs : X.stack = X.env :: X.outer) (hf : X.env.frame = some X.env.locals) : frs X.stack = X.env.locals :: X.fs := by
  rw [hs]
  exact List.filterMap_cons_some hf
section
variable {X : Cx} {pins : List (Addr × Obj)} {p : Addr} {cls : Value} {d : Option Addr} {σ : L2.St} {H : Hp} {s : Shared} {D : Ends}
namespace Catch
theorem inv (c : Catch X pins p cls d σ H s) : Inv X pins σ H s := c.air.elim fun _ q => q.elim fun _ ⟨I, nb, up, os, ag, fl⟩ => I.landed nb fl.1 up os ag
/-- it is no frame of the stack, and it is new to the heap ahead -/
theorem out (c : Catch X pins p cls d σ H s) : p ∉ frs X.stack := fun m => by
  obtain ⟨B, sI, I, nb, up, os, ag, fl⟩ := c.air
  obtain ⟨ob, vs, e, _, hd⟩ := fl.there
  obtain ⟨o', o2, e2, q⟩ := fl.2.2.1.mem m
  cases Option.some.inj (e.symm.trans e2)
  exact q vs hd
theorem fresh (c : Catch X pins p cls d σ H s) : X.ex = [] → X.s_0.heap.get? p = none ∧ ∀ q ∈ X.pn ++ pins, q.1 ≠ p := by
  intro hx
  have out := c.out
  obtain ⟨B, sI, I, nb, up, os, ag, fl⟩ := c.air
  have unseen : ∀ o, sI.heap.get? p ≠ some o := fun o e => by
    have z := (nb p o e out).symm.trans fl.2.1
    cases z
  constructor
  · refine Option.eq_none_iff_forall_not_mem.mpr fun o e => ?_
    obtain ⟨o2, q⟩ := I.base.there p o e (by rw [hx]; exact List.not_mem_nil)
    exact unseen o2 q
  · exact fun q m z => unseen q.2 (z ▸ (I.pin q m).1)
/-- the context in which a suite runs -/
theorem held (c : Catch X pins p cls d σ H s) (hs : X.stack = X.env :: X.outer) (hf : X.env.frame = some X.env.locals) : p ≠ X.env.locals ∧ p ∉ X.fs ∧ ∃ ob, s.heap.get? p = some ob ∧ Zc cls d ob ∧ (∃ vs, ob.data = .fields vs) ∧ Inv (X.suite p ((p, ob) :: (X.pn ++ pins))) [] σ H s := by
  have out := c.out
  rw [frs_local hs hf] at out
  obtain ⟨n1, n2⟩ := List.ne_and_not_mem_of_not_mem_cons out
  obtain ⟨B, sI, I, nb, up, os, ag, fl⟩ := id c.air
  obtain ⟨ob, vs, e, z, hd⟩ := fl.there
  exact ⟨n1, n2, ob, e, z, ⟨vs, hd⟩, c.inv.suite e hd c.new n1 n2⟩
/-- a clause's class is read -/
theorem reads {x : Str} {v : Value} {np : Pos} {Q E : Value → Shared → Prop} (c : Catch X pins p cls d σ H s) (hs : X.stack = X.env :: X.outer) (hf : X.env.frame = some X.env.locals) (hc : Names X x v) (q : Q v s) : wpAny (model X.prog X.w) (X.A.mark (some (.ref p))) (eval (.Name x np) X.env) Q E s := by
  obtain ⟨_, _, ob, _, _, _, S⟩ := c.held hs hf
  rcases hc with ⟨g, nd, m | ⟨m, b, nn⟩⟩
  · exact ld_glob (X := X.suite p ((p, ob) :: (X.pn ++ pins))) S g m q nd
  · exact ld_blt (X := X.suite p ((p, ob) :: (X.pn ++ pins))) S g m b q nn nd
end Catch
end
end DL
namespace DL
open PySem L2 PyProof.Rows
end DL
namespace DL
open PySem L2 PyProof.Rows
end DL
namespace DL
open PySem L2
def CdXD (pr : Program) (wd : PySem.World) (K : PySem.W.Frag) (gl : Str → Option Value) (bas : Heap) (R : Orc) (k : Nat) (x : Str) (n : Nat) (dds : List D) (S : SpX) : Prop :=
  ∃ (f : Addr) (fd : FuncData) (ps : List Str) (ds : List Value) (dvs : List V), FnX pr wd K gl bas k f fd ps (spX K gl R (n + dds.length) S) ∧ gl x = some (.ref f) ∧ PySem.W.keepIn K (.ref f) = true ∧ Binds K fd ps ds ∧ Vals dvs ds ∧ ∀ F, AtAll K F dvs dds
theorem CdXD.more {pr : Program} {wd : PySem.World} {K : PySem.W.Frag} {gl : Str → Option Value} {bas : Heap} {R : Orc} {j k : Nat} {x : Str} {n : Nat} {dds : List D} {S : SpX} (C : CdXD pr wd K gl bas R j x n dds S) (h : j ≤ k) : CdXD pr wd K gl bas R k x n dds S := by
  obtain ⟨f, fd, ps, ds, dvs, F, a, b, d, e, u⟩ := C
  exact ⟨f, fd, ps, ds, dvs, F.more h, a, b, d, e, u⟩
section
variable {X : Cx} {c : Cn} {a b : Expr} {pos : Pos}
def dCat (fa fb : HM) : DM := fun ρ P => fa ρ fun x ρ1 => fb ρ1 fun y ρ2 => see ρ2 x fun dx => see ρ2 y fun dy => match dx, dy with
  | .list xs, .list ys => xs.length + ys.length ≤ 1000000 ∧ P (.list (xs ++ ys)) ρ2
  | _, _ => False
theorem dn_cat {fa fb : HM} (hK : X.K = c.K) (ha : PE X a (tH c fa)) (hb : PE X b (tH c fb)) : PE X (.BinOp a .Add b pos) (tN c (dCat fa fb)) := by
  refine PE.to (pe_op op_catLL ha hb) ?_
  rintro σ H Q ⟨F, ρ, xx, P, rel, q, k⟩
  refine ⟨F, ρ, xx, _, rel, q, fun x ρ1 v F1 H1 q1 e1 r1 h1 => ⟨F1, ρ1, xx, _, r1, q1, fun y ρ2 u F2 H2 q2 e2 r2 h2 => ?_⟩⟩
  obtain ⟨dx, bx, q3⟩ := see_bo r2 (h1.mono e2) q2
  obtain ⟨dy, by_, q4⟩ := see_bo r2 h2 q3
  have ex := r2.w.fh
  split at q4
  · obtain ⟨p, xs, rfl, s1, t1⟩ := bo_lst ex bx
    obtain ⟨p2, ys, rfl, s2, t2⟩ := bo_lst ex by_
    refine ⟨p, p2, xs, ys, rfl, rfl, by rw [hK]; exact s1, by rw [hK]; exact s2, sz (by rw [t1.length, t2.length]; exact q4.1), fun p' hp => ?_⟩
    obtain ⟨r4, f4⟩ := Fresh.new (o := .lst (xs ++ ys)) (d := .d (.list _)) r2 hp ⟨_, upd_same, t1.append t2⟩
    exact k _ ρ2 p' F2 _ q4.2 (e1.trans e2) r4 f4
  · exact q4.elim
end
end DL
namespace DL
open PySem L2
end DL
namespace DL
open PySem L2 PySem.Spec PyProof.Rows
mutual
def nkD : D → Option NestedKey
  | .none => some .none
  | .int i => some (.num i)
  | .str x => some (.text x)
  | .tuple ds => (nkAll ds).map .tup
  | _ => none
def nkAll : List D → Option (List NestedKey)
  | [] => some []
  | d :: ds => match nkD d, nkAll ds with
    | some k, some ks => some (k :: ks)
    | _, _ => none
end
theorem nkAll_cons {d : D} {ds : List D} {ks : List NestedKey} (h : nkAll (d :: ds) = some ks) : ∃ k ks', nkD d = some k ∧ nkAll ds = some ks' ∧ ks = k :: ks' := by
  unfold nkAll at h
  split at h
  · rename_i k ks' h1 h2
    cases h
    exact ⟨k, ks', h1, h2, rfl⟩
  · cases h
mutual
theorem nk_inj : ∀ (d e : D) (k : NestedKey), nkD d = some k → nkD e = some k → d = e
  | .none, e, k, h1, h2 => by
    cases (show some NestedKey.none = some k from h1)
    cases e with
    | none => rfl
    | bool b => cases (show (none : Option NestedKey) = some _ from h2)
    | int i => cases (show some (NestedKey.num i) = some .none from h2)
    | str x => cases (show some (NestedKey.text x) = some .none from h2)
    | list xs => cases (show (none : Option NestedKey) = some _ from h2)
    | dict xs => cases (show (none : Option NestedKey) = some _ from h2)
    | tuple xs =>
      obtain ⟨ks, _, z⟩ := Option.map_eq_some_iff.mp (show (nkAll xs).map NestedKey.tup = some _ from h2)
      cases z
  | .bool b, e, k, h1, h2 => by cases (show (none : Option NestedKey) = some _ from h1)
  | .list xs, e, k, h1, h2 => by cases (show (none : Option NestedKey) = some _ from h1)
  | .dict xs, e, k, h1, h2 => by cases (show (none : Option NestedKey) = some _ from h1)
  | .int i, e, k, h1, h2 => by
    cases (show some (NestedKey.num i) = some k from h1)
    cases e with
    | none => cases (show some NestedKey.none = some (.num i) from h2)
    | bool b => cases (show (none : Option NestedKey) = some _ from h2)
    | int j => cases (show some (NestedKey.num j) = some (.num i) from h2); rfl
    | str x => cases (show some (NestedKey.text x) = some (.num i) from h2)
    | list xs => cases (show (none : Option NestedKey) = some _ from h2)
    | dict xs => cases (show (none : Option NestedKey) = some _ from h2)
    | tuple xs =>
      obtain ⟨ks, _, z⟩ := Option.map_eq_some_iff.mp (show (nkAll xs).map NestedKey.tup = some _ from h2)
      cases z
  | .str x, e, k, h1, h2 => by
    cases (show some (NestedKey.text x) = some k from h1)
    cases e with
    | none => cases (show some NestedKey.none = some (.text x) from h2)
    | bool b => cases (show (none : Option NestedKey) = some _ from h2)
    | int j => cases (show some (NestedKey.num j) = some (.text x) from h2)
    | str y => cases (show some (NestedKey.text y) = some (.text x) from h2); rfl
    | list xs => cases (show (none : Option NestedKey) = some _ from h2)
    | dict xs => cases (show (none : Option NestedKey) = some _ from h2)
    | tuple xs =>
      obtain ⟨ks, _, z⟩ := Option.map_eq_some_iff.mp (show (nkAll xs).map NestedKey.tup = some _ from h2)
      cases z
  | .tuple xs, e, k, h1, h2 => by
    obtain ⟨ks, h1', rfl⟩ := Option.map_eq_some_iff.mp (show (nkAll xs).map NestedKey.tup = some _ from h1)
    cases e with
    | none => cases (show some NestedKey.none = some (.tup ks) from h2)
    | bool b => cases (show (none : Option NestedKey) = some _ from h2)
    | int j => cases (show some (NestedKey.num j) = some (.tup ks) from h2)
    | str y => cases (show some (NestedKey.text y) = some (.tup ks) from h2)
    | list xs => cases (show (none : Option NestedKey) = some _ from h2)
    | dict xs => cases (show (none : Option NestedKey) = some _ from h2)
    | tuple ys =>
      obtain ⟨ks', h2', z⟩ := Option.map_eq_some_iff.mp (show (nkAll ys).map NestedKey.tup = some _ from h2)
      cases z
      rw [nkAll_inj xs ys ks h1' h2']
theorem nkAll_inj : ∀ (ds es : List D) (ks : List NestedKey), nkAll ds = some ks → nkAll es = some ks → ds = es
  | [], [], _, _, _ => rfl
  | [], e :: es, ks, h1, h2 => by
    obtain ⟨_, _, _, _, rfl⟩ := nkAll_cons h2
    cases (show some ([] : List NestedKey) = some _ from h1)
  | d :: ds, [], ks, h1, h2 => by
    obtain ⟨_, _, _, _, rfl⟩ := nkAll_cons h1
    cases (show some ([] : List NestedKey) = some _ from h2)
  | d :: ds, e :: es, ks, h1, h2 => by
    obtain ⟨k, ks', a1, a2, rfl⟩ := nkAll_cons h1
    obtain ⟨k', ks'', b1, b2, z⟩ := nkAll_cons h2
    cases z
    rw [nk_inj d e k a1 b1, nkAll_inj ds es ks' a2 b2]
end
section
variable {X : Cx} {pins : List (Addr × Obj)} {σ : L2.St} {H F : Hp} {s : Shared}
mutual
theorem nk_is (I : Inv X pins σ H s) (e : Ex F H) : ∀ (d : D) (v : V) (u : Value) (k : NestedKey), At X.K F v d → nkD d = some k → RelV v u → NestedIs s.heap k u
  | .none, v, u, k, a, h, r => by
    cases (show some NestedKey.none = some k from h)
    cases a
    cases (show u = Value.none from r)
    exact .none
  | .bool b, v, u, k, a, h, r => by cases (show (none : Option NestedKey) = some _ from h)
  | .list xs, v, u, k, a, h, r => by cases (show (none : Option NestedKey) = some _ from h)
  | .dict xs, v, u, k, a, h, r => by cases (show (none : Option NestedKey) = some _ from h)
  | .int i, v, u, k, a, h, r => by
    cases (show some (NestedKey.num i) = some k from h)
    cases a
    (obtain ⟨t, rfl⟩ := (show ∃ t, u = Value.int i t from r))
    exact .int i t
  | .str x, v, u, k, a, h, r => by
    cases (show some (NestedKey.text x) = some k from h)
    cases a
    (obtain ⟨t, rfl⟩ := (show ∃ t, u = Value.str x t from r))
    exact .text x t
  | .tuple ds, v, u, k, a, h, r => by
    obtain ⟨ks, h', rfl⟩ := Option.map_eq_some_iff.mp (show (nkAll ds).map NestedKey.tup = some _ from h)
    cases a with
    | tup sq al =>
      rename_i p xs
      cases (show u = Value.ref p from r)
      obtain ⟨its, rv, ⟨o, ho, hc, n, hd⟩, _⟩ := I.tuple (e.st sq)
      exact .tup ho hc hd (nkAll_is I e ds xs its ks al h' rv)
theorem nkAll_is (I : Inv X pins σ H s) (e : Ex F H) : ∀ (ds : List D) (vs : List V) (us : List Value) (ks : List NestedKey), AtAll X.K F vs ds → nkAll ds = some ks → Vals vs us → NestedAll s.heap ks us
  | [], vs, us, ks, a, h, r => by
    cases (show some ([] : List NestedKey) = some _ from h)
    cases a
    cases r
    exact .nil
  | d :: ds, vs, us, ks, a, h, r => by
    obtain ⟨k, ks', h1, h2, rfl⟩ := nkAll_cons h
    cases a with
    | cons ad al =>
      cases r with
      | cons r1 r2 => exact .cons (nk_is I e d _ _ k ad h1 r1) (nkAll_is I e ds _ _ ks' al h2 r2)
end
end
abbrev NE (β : Type) := NestedKey × Addr × β
def ndE (w : PySem.World) (x : NE Value) : DictEntry := ⟨x.1.hash w, .ref x.2.1, x.2.2⟩
def PV : NE V → NE Value → Prop := fun p q => p.1 = q.1 ∧ p.2.1 = q.2.1 ∧ RelV p.2.2 q.2.2
def NDV (w : PySem.World) (a : Addr) (xs : List (NE V)) (h : Heap) : Prop := xs.length ≤ sizeLine ∧ (a == sysModules) = false ∧ ∃ vs, Paired PV xs vs ∧ ∃ o es ep, h.get? a = some o ∧ o.ExactDict ∧ o.data = .dict es ep ∧ es.toList = vs.map (ndE w) ∧ (vs.map (·.1)).Nodup
def NDO (w : PySem.World) (a : Addr) (xs : List (NE V)) : HO := .ext (NDV w a xs)
/-- a datum whose object is a key -/
def KeyAt (K : PySem.W.Frag) (F : Hp) (b : Addr) (k : NestedKey) (d : D) : Prop := At K F (.ref b) d ∧ nkD d = some k ∧ k.depth ≤ 8
def KeysAt (K : PySem.W.Frag) (F : Hp) (xs : List (NE V)) : Prop := ∀ p ∈ xs, ∃ d, KeyAt K F p.2.1 p.1 d
theorem paired_mem {α β : Type} {R : α → β → Prop} : ∀ {xs : List α} {ys : List β} {y : β}, Paired R xs ys → y ∈ ys → ∃ x ∈ xs, R x y
  | _, _, _, .nil, h => nomatch h
  | x :: xs, z :: ys, y, .cons r t, h => by
    (rcases List.mem_cons.mp h with rfl | h)
    · exact ⟨x, List.mem_cons_self .., r⟩
    · obtain ⟨x', m, q⟩ := paired_mem t h
      exact ⟨x', List.mem_cons_of_mem _ m, q⟩
theorem nd_dict {X : Cx} {pins : List (Addr × Obj)} {σ : L2.St} {H F : Hp} {s : Shared} {a : Addr} {xs : List (NE V)} (I : Inv X pins σ H s) (e : Ex F H) (h : H a = some (NDO X.w a xs)) (hk : KeysAt X.K F xs) :
    xs.length ≤ sizeLine ∧ (a == sysModules) = false ∧ ∃ vs, Paired PV xs vs ∧ s.heap.DictOfH (nestedKind X.prog X.w) a vs := by
  obtain ⟨⟨z, hd, vs, pp, o, es, ep, ho, h1, h2, h3, h4⟩, _⟩ := (show ObjOk X.prog X.w H s.heap a (NDO X.w a xs) from I.hok a _ h)
  refine ⟨z, hd, vs, pp, o, es, ep, ho, h1, h2, h3, fun q hq => ?_, h4⟩
  obtain ⟨p, mp, e1, e2, _⟩ := paired_mem pp hq
  obtain ⟨d, a1, a2, a3⟩ := hk p mp
  rw [← e1, ← e2]
  exact ⟨nk_is I e d _ _ _ a1 a2 rfl, a3⟩
def valN (xs : List (NE V)) (k : NestedKey) : Option V := (xs.find? fun p => decide (p.1 = k)).map (·.2.2)
theorem paired_val {k : NestedKey} : ∀ {xs : List (NE V)} {vs : List (NE Value)}, Paired PV xs vs → RelO (valN xs k) ((atKey vs k).map (·.2))
  | _, _, .nil => True.intro
  | p :: ps, q :: qs, .cons ⟨h1, _, h2⟩ t => by
    by_cases e : p.1 = k
    · (have e' : q.1 = k := h1.symm.trans e)
      (have b : atKey (q :: qs) k = some q.2 := by simp [atKey, List.find?_cons, e'])
      have a : valN (p :: ps) k = some p.2.2 := by simp [valN, List.find?_cons, e]
      rw [a, b]
      exact h2
    · (have e' : ¬ q.1 = k := fun z => e (h1.trans z))
      (have b : atKey (q :: qs) k = atKey qs k := by simp [atKey, List.find?_cons, e'])
      have a : valN (p :: ps) k = valN ps k := by simp [valN, List.find?_cons, e]
      rw [a, b]
      exact paired_val t
theorem valN_some {xs : List (NE V)} {k : NestedKey} {v : V} (h : valN xs k = some v) : ∃ p ∈ xs, p.1 = k ∧ p.2.2 = v := by
  obtain ⟨p, hp, rfl⟩ := Option.map_eq_some_iff.mp h
  exact ⟨p, List.mem_of_find?_eq_some hp, by simpa using List.find?_some hp, rfl⟩
def rNotN (K : PySem.W.Frag) (w : PySem.World) : R2 := fun x y H Q => ∃ a b xs k d F, x = .ref b ∧ y = .ref a ∧ H a = some (NDO w a xs) ∧ Ex F H ∧ KeysAt K F xs ∧ KeyAt K F b k d ∧ Q (.bl (!(valN xs k).isSome)) H
section
variable {X : Cx} {od kx vx : PySem.Expr} {pos pos' : Pos} {td ty tv : TE}
theorem nd_room {A : Around} (hu : A.units + 64 < cLine) {P : Program} {w : PySem.World} : (nestedKind P w).room A.in1 := by
  show A.units + 1 + 8 < cLine
  omega
theorem op_notN (hu : X.A.units + 64 < cLine) : OpR X (compareOp .NotIn) (rNotN X.K X.w) := by
  rintro pins s σ H x y v u Q I rx ry ⟨a, b, xs, k, d, F, rfl, rfl, h, ex, hk, ⟨k1, k2, k3⟩, q⟩
  cases (show v = Value.ref b from rx)
  (cases (show u = Value.ref a from ry))
  obtain ⟨z, hd, vs, pp, dd⟩ := nd_dict I ex h hk
  refine wpAny_notIn_heap (nd_room hu) (k := k) ⟨nk_is I ex d _ _ _ k1 k2 rfl, k3⟩ hd dd ?_
  have qq := (paired_val (k := k) pp).isSome_eq
  rw [Option.isSome_map] at qq
  rw [← qq]
  exact ⟨.bl (!(valN xs k).isSome), H, I.tok _, rfl, q⟩
end
end DL
namespace DL
open PySem L2
section
variable {rs : SpD} {c : Cn} {w : PySem.World} {F H : Hp} {v0 v1 v2 : V} {a : Addr} {sc co : D} {ths : List D} {g : D → D}
/-- what the dict tells -/
def ThOk (K : PySem.W.Frag) (F : Hp) (g : D → D) (xs : List (NE V)) : Prop := ∀ p ∈ xs, ∃ d, KeyAt K F p.2.1 p.1 d ∧ At K F p.2.2 (g d)
theorem ThOk.mono {K : PySem.W.Frag} {F' : Hp} {xs : List (NE V)} (e : Ex F F') (h : ThOk K F g xs) : ThOk K F' g xs := fun p hp => let ⟨d, ⟨a, b, c⟩, z⟩ := h p hp; ⟨d, ⟨a.mono e, b, c⟩, z.mono e⟩
theorem ThOk.val {K : PySem.W.Frag} {xs : List (NE V)} {k : NestedKey} {v : V} {d : D} (h : ThOk K F g xs) (e : valN xs k = some v) (hk : nkD d = some k) : At K F v (g d) := by
  obtain ⟨p, mp, rfl, rfl⟩ := valN_some e
  obtain ⟨d', ⟨_, q, _⟩, z⟩ := h p mp
  rw [nk_inj d d' _ hk q]
  exact z
end
end DL
namespace DL
open PySem L2 PySem.Spec PyProof.Rows
end DL
namespace DL
open PySem L2 PySem.Spec PyProof.Rows
end DL
namespace DL
open PySem L2
end DL
namespace DL
open PySem L2
def rgOk (a b : Int) : Prop := -1000000 ≤ a ∧ a ≤ 1000000 ∧ -1000000 ≤ b ∧ b ≤ 1000000
theorem rgOk.ok {a b : Int} (h : rgOk a b) : RgOk a b := by
  obtain ⟨h1, h2, h3, h4⟩ := h
  exact ⟨by omega, by omega, by omega, by omega, by omega⟩
theorem at_rg {K : PySem.W.Frag} {H : Hp} (a b : Int) : AtAll K H (rgV a b) (rgD a b) := by
  unfold rgV rgD
  induction List.range (b - a).toNat with
  | nil => exact .nil
  | cons i l ih => exact .cons (.int _) ih
def dLstRg1 (f : DM) : DM := fun ρ P => f ρ fun d ρ1 => match d with
  | .int n => rgOk 0 n ∧ P (.list (rgD 0 n)) ρ1
  | _ => False
section
variable {X : Cx} {c : Cn} {a b : PySem.Expr} {p p' pos pos' : Pos} {f g : DM}
theorem dn_lstRg1 (hc : X.calm = true) (hg : Gl X "list") (hm : X.mg "list" = none) (hg' : Gl X "range") (hm' : X.mg "range" = none) (ha : PE X a (tD c f)) (na : starEach [a] X.env = (false, eval a X.env) :: starEach [] X.env := by rfl)
    (nb : starEach [.Call (.Name "range" p') [a] [] pos'] X.env = (false, eval (.Call (.Name "range" p') [a] [] pos') X.env) :: starEach [] X.env := by rfl) :
    PE X (.Call (.Name "list" p) [.Call (.Name "range" p') [a] [] pos'] [] pos) (tN c (dLstRg1 f)) := by
  refine PE.to (pe_listRg hc hg hm (prg_1 hg' hm' ha na) nb) ?_
  rintro σ H Q ⟨F, ρ, xx, P, rel, q, k⟩
  refine ⟨F, ρ, xx, _, rel, q, fun d ρ1 v F1 H1 q1 e1 r1 a1 => ?_⟩
  split at q1
  · rename_i n
    cases a1
    refine ⟨n, rfl, q1.1.ok, fun q hq => ?_⟩
    obtain ⟨r2, fr⟩ := Fresh.new (o := .lst (rgV 0 n)) (d := .d (.list (rgD 0 n))) r1 hq ⟨_, upd_same, at_rg 0 n⟩
    exact k _ ρ1 _ _ _ q1.2 e1 r2 fr
  · exact q1.elim
end
end DL
namespace DL
open PySem L2
end DL
namespace DL.Am
open PySem L2 DL
end DL.Am
namespace DL.Lz
open PySem Sem
section
variable {prog : Program} {w : PySem.World} {A : Around} {E : Value → Shared → Prop} {s : Shared} {z t u p q : Addr} {fa fb : List Addr} {na nb i : Nat} {Pa Pb : Nat → Value → Prop} {Sa Sb : Nat → Heap → Prop}
/-- where a zip stands: its parts, and no pair out or one that is alive -/
structure Zat (z t u p q L : Addr) (Sa Sb : Nat → Heap → Prop) (i : Nat) (h : Heap) : Prop where
  its : IsPair h t (.ref p) (.ref q)
  a : Sa i h
  b : Sb i h
  z : (IsZip h z t u .none ∧ ∃ x y, IsPair h u x y) ∨ ∃ (T : Addr) (f : Bool) (oT : Obj), IsZipHeld h z t u T f ∧ h.get? T = some oT ∧ T ≠ z ∧ T ≠ p ∧ T ≠ q ∧ T ≠ L
theorem Zat.keep {L : Addr} {h h' : Heap} {prog : Program} {w : PySem.World} {A : Around} (S : ZipSep2 z t u p q fa fb) (Da : Draws prog w A p fa na Pa Sa) (Db : Draws prog w A q fb nb Pb Sb) (st : Zat z t u p q L Sa Sb i h) (k : ∀ b o, b ≠ L → h.get? b = some o → h'.get? b = some o) (nz : L ≠ z) (nt : L ≠ t) (nu : L ≠ u) (na' : L ∉ fa) (nb' : L ∉ fb) : Zat z t u p q L Sa Sb i h' := by
  refine ⟨k _ _ (Ne.symm nt) st.its, Da.frame _ _ _ st.a fun b hb o e => k b o (fun x => na' (x ▸ hb)) e, Db.frame _ _ _ st.b fun b hb o e => k b o (fun x => nb' (x ▸ hb)) e, ?_⟩
  rcases st.z with ⟨hz, x0, y0, hu⟩ | ⟨T, f, oT, hz, hT, t1, t2, t3, t4⟩
  · exact .inl ⟨k _ _ (Ne.symm nz) hz, x0, y0, k _ _ (Ne.symm nu) hu⟩
  · exact .inr ⟨T, f, oT, k _ _ (Ne.symm nz) hz, k _ _ t4 hT, t1, t2, t3, t4⟩
end
end DL.Lz
namespace DL.Lz
open PySem PyProof.Rows L2 RZ
end DL.Lz
namespace DL
open PySem L2 PyProof.Rows
end DL
namespace DL.Lz
open PySem Sem PyProof.Rows L2 RZ
abbrev IsZf (h : Heap) (z t u : Addr) (v : Value) (f : Bool) : Prop := h.get? z = some { cls := .type "zip", dict := none, data := .fields #[v, .bool f, .bool false, .ref t, .ref u], slots := #[] }
section
variable {prog : Program} {w : PySem.World} {A : Around} {E : Value → Shared → Prop} {s : Shared} {z t u p q : Addr} {fa fb : List Addr} {na nb i : Nat} {Pa Pb : Nat → Value → Prop} {Sa Sb : Nat → Heap → Prop} {x0 y0 v : Value} {f : Bool}
/-- fresh, or with a pair out of which nothing is known -/
def Zn (z t u : Addr) (h : Heap) : Prop := ∃ v f, IsZf h z t u v f ∧ (v = .none ∨ ∃ T : Addr, v = rawInt T)
end
/-- how far both are gone -/
structure NmGone (z t u p q a b : Addr) (n : Nat) (h : Heap) : Prop where
  zip : Zn z t u h
  its : IsPair h t (.ref p) (.ref q)
  two : ∃ x y, IsPair h u x y
  fst : h.IsTupleIter p a n
  snd : h.IsTupleIter q b n
section
variable {z t u p q a b : Addr} {n : Nat} {h h' : Heap}
theorem NmGone.there (m : NmGone z t u p q a b n h) {c : Addr} (hc : c ∈ [z, t, u, p, q]) : ∃ o, h.get? c = some o ∧ ∀ v, o.data ≠ .cell v := by
  obtain ⟨⟨v1, f1, k1, _⟩, k2, ⟨x, y, k3⟩, ⟨o4, e4, _, f4⟩, ⟨o5, e5, _, f5⟩⟩ := m
  refine five (P := fun c => ∃ o, h.get? c = some o ∧ ∀ v, o.data ≠ .cell v) hc ⟨_, k1, nofun⟩ ⟨_, k2, nofun⟩ ⟨_, k3, nofun⟩ ⟨o4, e4, fun v e => ?_⟩ ⟨o5, e5, fun v e => ?_⟩
  · rw [f4] at e
    cases e
  · rw [f5] at e
    cases e
end
end DL.Lz
namespace DL
open PySem L2 PyProof.Rows
def Zk (H : Hp) (v : V) : Prop := ∃ (a : Addr) (o : Obj) (u : HO), v = .ref a ∧ H a = some (.frz o u) ∧ o.cls = .type "tuple" ∧ o.dict = none
/-- what a def promises that hands out such a tuple -/
def spZ (K : PySem.W.Frag) (R : Orc) (n : Nat) (S : SpD) : Sp := fun vs H Q _ => ∃ (q : Option Addr) (F : Hp) (as : List Ar) (m : Nat) (P : D → Nat → Prop), World R q F H F H ∧ Paired (ArAt ⟨K, R, q, F, H⟩ F) vs as ∧ as.length = n ∧ oraAt as ∧ (q = none ∨ as[0]? = some .ora) ∧ (∀ p, q = some p → R.cnt p H ≤ m) ∧ S as m P ∧
  ∀ d m' v F' H', P d m' → World R q F H F' H' → (∀ p, q = some p → R.cnt p H' ≤ m') → At K F' v d → Zk H' v → Q v H'
def CdZ (pr : Program) (wd : PySem.World) (K : PySem.W.Frag) (gl : Str → Option Value) (bas : Heap) (R : Orc) (k : Nat) (x : Str) (n : Nat) (S : SpD) : Prop :=
  ∃ (f : Addr) (fd : FuncData) (ps : List Str), FnG pr wd K gl bas k f fd ps (spZ K R n S) ∧ gl x = some (.ref f) ∧ PySem.W.keepIn K (.ref f) = true ∧ Binds K fd ps []
section
variable {pr : Program} {wd : PySem.World} {K : PySem.W.Frag} {gl : Str → Option Value} {bas : Heap} {R : Orc} {j k n : Nat} {x : Str} {S : SpD}
theorem CdZ.more (C : CdZ pr wd K gl bas R j x n S) (h : j ≤ k) : CdZ pr wd K gl bas R k x n S := by
  obtain ⟨f, fd, ps, F, rest⟩ := C
  exact ⟨f, fd, ps, F.more h, rest⟩
end
end DL
namespace DL.Ms
open PySem L2 PySem.Spec PyProof.Rows
end DL.Ms
namespace DL
open PySem L2 PySem.Spec PyProof.Rows
end DL
namespace DL
open PySem L2
end DL
namespace DL
open PySem L2
end DL
namespace DL
open PySem L2 PyProof.Rows
abbrev TD := List (List Key × D)
def keyD (k : List Key) : D := .tuple (k.map KD)
def tdD (xs : TD) : D := .dict (xs.map fun p => (keyD p.1, p.2))
/-- what stands in the heap's dict, entry by entry -/
def TAt (K : PySem.W.Frag) (F : Hp) (kvs : List (List Key × V)) (xs : TD) : Prop := Paired (fun (p : List Key × V) (q : List Key × D) => p.1 = q.1 ∧ At K F p.2 q.2) kvs xs
section
variable {K : PySem.W.Frag} {F F' H : Hp} {a : Addr}
theorem TAt.mono (e : Ex F F') {kvs : List (List Key × V)} {xs : TD} (h : TAt K F kvs xs) : TAt K F' kvs xs := by
  unfold TAt at h ⊢
  induction h with
  | nil => exact .nil
  | cons h t ih => exact .cons ⟨h.1, h.2.mono e⟩ ih
theorem tat_len {kvs : List (List Key × V)} {xs : TD} (h : TAt K F kvs xs) : kvs.length = xs.length := by
  unfold TAt at h
  induction h with
  | nil => rfl
  | cons h t ih => rw [List.length_cons, List.length_cons, ih]
theorem tat_split {kvs : List (List Key × V)} {xs : TD} (h : TAt K F kvs xs) : ∃ (ks : List (List Key)) (vs : List V) (ds : List D), kvs = ks.zip vs ∧ ks.length = vs.length ∧ AtAll K F vs ds ∧ (xs.map fun p => (keyD p.1, p.2)) = (ks.map fun k => PyData.tuple (k.map KD)).zip ds := by
  unfold TAt at h
  induction h with
  | nil => exact ⟨[], [], [], rfl, rfl, .nil, rfl⟩
  | @cons p q t u h _ ih =>
    obtain ⟨ks, vs, ds, e1, e2, e3, e4⟩ := ih
    refine ⟨p.1 :: ks, p.2 :: vs, q.2 :: ds, ?_, by rw [List.length_cons, List.length_cons, e2], .cons h.2 e3, ?_⟩
    · rw [e1]
      rfl
    · rw [List.map_cons, e4, h.1]
      rfl
theorem KD_inj {k j : Key} (h : KD k = KD j) : k = j := by
  cases k <;> cases j <;> simp [KD] at h <;> simp [h]
theorem KDs_inj : ∀ {ks js : List Key}, ks.map KD = js.map KD → ks = js
  | [], [], _ => rfl
  | [], _ :: _, h => (by simp at h)
  | _ :: _, [], h => (by simp at h)
  | k :: ks, j :: js, h => by
    (rw [List.map_cons, List.map_cons] at h)
    injection h with h1 h2
    rw [KD_inj h1, KDs_inj h2]
theorem tat_make : ∀ (ks : List (List Key)) (vs : List V) (ds : List D) (xs : TD), ks.length = vs.length → AtAll K F vs ds → (xs.map fun p => (keyD p.1, p.2)) = (ks.map fun k => PyData.tuple (k.map KD)).zip ds → TAt K F (ks.zip vs) xs
  | [], vs, ds, xs, _, _, e => by
    have : xs = [] := List.map_eq_nil_iff.mp e
    rw [this]
    exact .nil
  | k :: ks, [], _, _, hl, _, _ => by simp at hl
  | k :: ks, v :: vs, _, xs, hl, .cons h t, e => by
    cases xs with
    | nil => cases e
    | cons q xs =>
      rw [List.map_cons, List.map_cons, List.zip_cons_cons] at e
      injection e with e1 e2
      injection e1 with e3 e4
      unfold keyD at e3
      injection e3 with e3
      refine .cons ⟨(KDs_inj e3).symm, by rw [e4]; exact h⟩ (tat_make ks vs _ xs (by simpa using hl) t e2)
theorem no_KD {ks : List Key} {ds : List D} {xs : TD} (hn : ks ≠ []) (hl : ks.length = ds.length) (e : (xs.map fun p => (keyD p.1, p.2)) = (ks.map KD).zip ds) : False := by
  cases ks with
  | nil => exact hn rfl
  | cons k ks =>
    cases ds with
    | nil => simp at hl
    | cons d ds =>
      cases xs with
      | nil => cases e
      | cons q xs =>
        rw [List.map_cons, List.map_cons, List.zip_cons_cons] at e
        injection e with e1 e2
        injection e1 with e3 e4
        unfold keyD at e3
        cases k <;> simp [KD] at e3
theorem own_td {xs : TD} (h : OwnO K F H a (tdD xs)) : ∃ kvs, H a = some (.dT kvs) ∧ TAt K F kvs xs := by
  rcases h with ⟨ks, vs, ds, h0, hn, hl, h1, h2⟩ | ⟨ks, vs, ds, h0, hl, h1, h2⟩
  · exact (no_KD hn (hl.trans h2.length) h0).elim
  · exact ⟨_, h1, tat_make ks vs ds xs hl h2 h0⟩
theorem td_own {kvs : List (List Key × V)} {xs : TD} (h : H a = some (.dT kvs)) (t : TAt K F kvs xs) : OwnO K F H a (tdD xs) := by
  obtain ⟨ks, vs, ds, e1, e2, e3, e4⟩ := tat_split t
  exact .inr ⟨ks, vs, ds, e4, e2, by rw [← e1]; exact h, e3⟩
theorem at_td {v : V} {xs : TD} (h : At K F v (tdD xs)) : ∃ a kvs, v = .ref a ∧ F a = some (.dT kvs) ∧ TAt K F kvs xs := by
  generalize e : tdD xs = d at h
  cases h with
  | @dk a ks vs ds r hn hl t =>
    have e : (xs.map fun p => (keyD p.1, p.2)) = (ks.map KD).zip ds := by
      unfold tdD at e
      injection e
    exact (no_KD hn (hl.trans t.length) e).elim
  | @dt a ks vs ds r hl t =>
    have e : (xs.map fun p => (keyD p.1, p.2)) = (ks.map fun k => PyData.tuple (k.map KD)).zip ds := by
      unfold tdD at e
      injection e
    exact ⟨a, _, rfl, r, tat_make ks vs ds xs hl t e⟩
  | _ => cases e
theorem tat_val {kvs : List (List Key × V)} {xs : TD} (h : TAt K F kvs xs) (k : List Key) : match valV kvs k, (xs.find? fun p => decide (p.1 = k)).map (·.2) with
    | some v, some d => At K F v d
    | none, none => True
    | _, _ => False := by
  unfold TAt at h
  induction h with
  | nil => exact trivial
  | @cons p q t u h _ ih =>
    by_cases z : p.1 = k
    · have z2 : q.1 = k := h.1 ▸ z
      rw [valV_pos z, List.find?_cons_of_pos (by simpa using z2)]
      exact h.2
    · have z2 : ¬ q.1 = k := h.1 ▸ z
      rw [valV_neg z, List.find?_cons_of_neg (by simpa using z2)]
      exact ih
/-- what the dict has under a key -/
def getT (xs : TD) (k : List Key) : Option D := (xs.find? fun p => decide (p.1 = k)).map (·.2)
def putT (xs : TD) (k : List Key) (d : D) : TD := if (getT xs k).isSome = true then xs.map (fun p => if p.1 = k then (p.1, d) else p) else xs ++ [(k, d)]
theorem tat_some {kvs : List (List Key × V)} {xs : TD} (h : TAt K F kvs xs) (k : List Key) : (valV kvs k).isSome = (getT xs k).isSome := by
  have := tat_val h k
  unfold getT
  cases e1 : valV kvs k <;> cases e2 : (xs.find? fun p => decide (p.1 = k)).map (·.2) <;> rw [e1, e2] at this
  · rfl
  · exact this.elim
  · exact this.elim
  · rfl
theorem tat_get {kvs : List (List Key × V)} {xs : TD} (h : TAt K F kvs xs) {k : List Key} {d : D} (e : getT xs k = some d) : ∃ v, valV kvs k = some v ∧ At K F v d := by
  have := tat_val h k
  unfold getT at e
  rw [e] at this
  cases e1 : valV kvs k with
  | none => rw [e1] at this; exact this.elim
  | some v => rw [e1] at this; exact ⟨v, rfl, this⟩
theorem tat_put {kvs : List (List Key × V)} {xs : TD} (h : TAt K F kvs xs) {k : List Key} {v : V} {d : D} (hv : At K F v d) : TAt K F (putK kvs k v) (putT xs k d) := by
  have hs := tat_some h k
  rw [← valV_any] at hs
  unfold putK putT
  by_cases z : (kvs.any fun kv => decide (kv.1 = k)) = true
  · rw [if_pos z, if_pos (hs ▸ z)]
    clear hs z
    unfold TAt at h ⊢
    induction h with
    | nil => exact .nil
    | @cons p q t u h _ ih =>
      refine .cons ?_ ih
      dsimp only
      by_cases z : p.1 = k
      · rw [if_pos z, if_pos (h.1 ▸ z)]
        exact ⟨h.1, hv⟩
      · rw [if_neg z, if_neg (h.1 ▸ z)]
        exact h
  · rw [if_neg z, if_neg (hs ▸ z)]
    exact Paired.snoc h ⟨rfl, hv⟩
theorem getT_put (xs : TD) (k j : List Key) (d : D) : getT (putT xs k d) j = if j = k then some d else getT xs j := by
  have snoc : ∀ xs : TD, getT xs k = none → getT (xs ++ [(k, d)]) j = if j = k then some d else getT xs j := by
    intro xs
    induction xs with
    | nil =>
      intro _
      by_cases z : j = k
      · subst z
        rw [if_pos rfl]
        simp [getT]
      · rw [if_neg z]
        have : ¬ k = j := fun e => z e.symm
        simp [getT, this]
    | cons p xs ih =>
      intro e
      have hp : ¬ p.1 = k := fun z => by simp [getT, z] at e
      have e' : getT xs k = none := by
        simpa [getT, hp] using e
      have ih := ih e'
      by_cases z : p.1 = j
      · have zk : ¬ j = k := fun q => hp (z.trans q)
        rw [if_neg zk]
        simp [getT, z]
      · simp only [getT, List.cons_append] at ih ⊢
        rw [List.find?_cons_of_neg (by simpa using z), List.find?_cons_of_neg (by simpa using z)]
        exact ih
  unfold putT
  by_cases z : (getT xs k).isSome = true
  · rw [if_pos z]
    have all : ∀ xs : TD, getT (xs.map fun p => if p.1 = k then (p.1, d) else p) j = (getT xs j).map fun x => if j = k then d else x := by
      intro xs
      induction xs with
      | nil => rfl
      | cons p xs ih =>
        have ep : (if p.1 = k then (p.1, d) else p).1 = p.1 := by split <;> rfl
        by_cases q : p.1 = j
        · simp only [getT, List.map_cons]
          rw [List.find?_cons_of_pos (by rw [ep]; simpa using q), List.find?_cons_of_pos (by simpa using q)]
          by_cases w : j = k
          · rw [if_pos (q.trans w)]
            simp [w]
          · rw [if_neg fun y => w (q.symm.trans y)]
            simp [w]
        · simp only [getT, List.map_cons] at ih ⊢
          rw [List.find?_cons_of_neg (by rw [ep]; simpa using q), List.find?_cons_of_neg (by simpa using q)]
          exact ih
    rw [all]
    by_cases w : j = k
    · subst w
      rw [if_pos rfl]
      obtain ⟨x, hx⟩ := Option.isSome_iff_exists.mp z
      rw [hx]
      simp
    · rw [if_neg w]
      cases getT xs j <;> simp [w]
  · rw [if_neg z]
    exact snoc xs (by
      cases e : getT xs k with
      | none => rfl
      | some x => rw [e] at z; exact absurd rfl z)
theorem putT_len (xs : TD) (k : List Key) (d : D) : (putT xs k d).length ≤ xs.length + 1 := by
  unfold putT
  split
  · rw [List.length_map]
    omega
  · rw [List.length_append]
    exact Nat.le_refl _
end
theorem hu1 {A : Around} {k : Nat} (hr : Room k A) : A.units + 1 < cLine := by have := hr.un; omega
section
variable {X : Cx} {c : Cn} {pos : Pos}
def dNewT : DM := fun ρ P => P (tdD []) ρ
theorem dn_newT : PE X (.Dict [] [] pos) (tN c dNewT) := PE.to pe_dnewT fun σ H Q ⟨F, ρ, xx, P, rel, q, k⟩ p hp => by
  obtain ⟨r2, fr⟩ := Fresh.new (o := .dT []) (d := .d <| tdD []) rel hp (td_own upd_same .nil)
  exact k _ ρ p F _ q (Ex.refl F) r2 fr
/-- the dict that a slot holds -/
def slotT (ρ : Env) (i : Nat) (xs : TD) : Prop := ρ[i]? = some (.im (tdD xs)) ∨ ρ[i]? = some (.ow (tdD xs))
theorem slot_at {F H : Hp} {σ : L2.St} {ρ : Env} {xx : XX} (r : Rel c F H σ ρ xx) {i : Nat} {xs : TD} (h : slotT ρ i xs) : ∃ a kvs, σ[i]? = some (some (.ref a)) ∧ H a = some (.dT kvs) ∧ TAt c.K F kvs xs := by
  rcases h with h | h
  · obtain ⟨v, h1, h2⟩ := r.s.im i _ h
    obtain ⟨a, kvs, rfl, h3, h4⟩ := at_td h2
    exact ⟨a, kvs, h1, r.w.fh _ _ h3, h4⟩
  · obtain ⟨a, h1, h2⟩ := r.s.ow i _ h
    obtain ⟨kvs, h3, h4⟩ := own_td h2.o
    exact ⟨a, kvs, h1, h3, h4⟩
/-- a key as it is written: a tuple of some expressions -/
def keyOk (ds : List D) (k : List Key) : Prop := ds = k.map KD
theorem key_vs {F : Hp} {vs : List V} {ds : List D} {k : List Key} (h : AtAll c.K F vs ds) (e : ds = k.map KD) : vs = k.map kV := by
  subst e
  induction k generalizing vs with
  | nil => cases h; rfl
  | cons k ks ih =>
    cases h with
    | cons h t =>
      rw [ih t]
      cases k with
      | inl i => cases h; rfl
      | inr s => cases h; rfl
def dGetT (i : Nat) (f : LM) : DM := fun ρ P => (match ρ[i]? with
  | some (.im _) => True
  | some (.ow _) => True
  | _ => False) ∧ f ρ fun ds ρ1 => ds.length ≤ 1000000 ∧ ∃ k xs d, keyOk ds k ∧ slotT ρ1 i xs ∧ getT xs k = some d ∧ P d ρ1
def sPutT (i : Nat) (f : LM) (g : DM) : SM := fun E ρ => g ρ fun d ρ1 => (match ρ1[i]? with
  | some (.im _) => True
  | some (.ow _) => True
  | _ => False) ∧ f ρ1 fun ds ρ2 => ds.length ≤ 1000000 ∧ ∃ k xs, keyOk ds k ∧ ρ2[i]? = some (.ow (tdD xs)) ∧ xs.length < 1000000 ∧ E.nx (ρ2.set i (.ow (tdD (putT xs k d))))
theorem slot_some {F H : Hp} {σ : L2.St} {ρ : Env} {xx : XX} (r : Rel c F H σ ρ xx) {i : Nat} (h : match ρ[i]? with
  | some (.im _) => True
  | some (.ow _) => True
  | _ => False) : ∃ v, σ[i]? = some (some v) := by
  split at h
  · rename_i d e
    obtain ⟨v, g, _⟩ := r.s.im i d e
    exact ⟨v, g⟩
  · rename_i d e
    obtain ⟨a, g, _⟩ := r.s.ow i d e
    exact ⟨_, g⟩
  · exact h.elim
variable {es : List Expr} {x1 i : Nat} {o e value : Expr} {f : LM} {g : DM} {p1 p2 p3 : Pos}
/-- the tuple of a key is made -/
theorem tup_use {σ : L2.St} {H : Hp} {F : Hp} {ρ : Env} {xx : XX} {P : List D → Env → Prop} {Q : VK} (rel : Rel c F H σ ρ xx) (q : f ρ fun ds ρ1 => ds.length ≤ 1000000 ∧ P ds ρ1)
    (k : ∀ (ds : List D) (ρ1 : Env) (vs : List V) (F1 : Hp) (H1 : Hp) (p : Addr), P ds ρ1 → Ex F F1 → Rel c F1 (upd H1 p (.tup vs)) σ ρ1 xx → H1 p = none → AtAll c.K F1 vs ds → Q (.ref p) (upd H1 p (.tup vs))) :
    tTup (tL c f) σ H Q := ⟨F, ρ, xx, _, rel, q, fun ds ρ1 vs F1 H1 q1 e1 r1 a1 => ⟨sz (by rw [a1.length]; exact q1.1), fun p hp => by
    have e2 := r1.efF (.tup vs) hp
    exact k ds ρ1 vs _ H1 p q1.2 (e1.trans e2) (r1.newF _ hp) hp (a1.mono e2)⟩⟩
theorem de_getT (hu : X.A.units + 1 < cLine) (h : PA X es (tL c f)) (hv : PE X o (tVar i)) (hs : NoSl (.Tuple es x1 p1) := by exact fun _ _ => rfl) : PE X (.Subscript o (.Tuple es x1 p1) pos) (tD c (dGetT i f)) :=
  PE.to (pe_dget hu hv (pe_tup h) hs) fun σ H Q ⟨F, ρ, xx, P, rel, ⟨q0, q⟩, k⟩ => by
    obtain ⟨v0, hv0⟩ := slot_some rel q0
    refine ⟨v0, hv0, ?_⟩
    refine tup_use rel q fun ds ρ1 vs F1 H1 p ⟨ks, xs, d, e1, e2, e3, e4⟩ ef r1 hp av => ?_
    obtain ⟨a, kvs, s1, s2, s3⟩ := slot_at r1 e2
    rw [hv0] at s1
    cases s1
    have ev := key_vs av e1
    subst ev
    obtain ⟨v, g1, g2⟩ := tat_get s3 e3
    have dg := DGet.t (kvs := kvs) (k := ks) s2 (upd_same (H := H1) (a := p) (o := .tup (ks.map kV)))
    rw [g1] at dg
    exact ⟨a, v, rfl, dg, k _ _ _ _ _ e4 ef r1 g2⟩
theorem ps_putT (hu : X.A.units + 1 < cLine) (h : PA X es (tL c f)) (hv : PE X o (tVar i)) (he : PE X value (tD c g)) (hs : swapsWith value (some (.Subscript o (.Tuple es x1 p1) p2)) pos.line X.env = pure false := by rfl) : PS X (.Assign [.Subscript o (.Tuple es x1 p1) p2] value pos) (tS c (sPutT i f g)) :=
  PS.to (ps_dput hu hv (pe_tup h) he hs) fun Z σ H ⟨F, ρ, xx, E, rel, q, n, r, b, t⟩ => by
    refine ⟨F, ρ, xx, _, rel, q, fun d ρ1 v F1 H1 ⟨q0, q1⟩ e1 r1 a1 => ?_⟩
    obtain ⟨v0, hv0⟩ := slot_some r1 q0
    refine ⟨v0, hv0, ?_⟩
    refine tup_use r1 q1 fun ds ρ2 vs F2 H2 p ⟨ks, xs, g1, g2, g3, g4⟩ ef r2 hp av => ?_
    obtain ⟨a, s1, s2⟩ := r2.s.ow i _ g2
    obtain ⟨kvs, s3, s4⟩ := own_td s2.o
    rw [hv0] at s1
    cases s1
    have ev := key_vs av g1
    subst ev
    have tp := tat_put s4 (k := ks) (a1.mono ef)
    refine ⟨a, _, rfl, DPut.t s3 upd_same (szl (by rw [tat_len s4]; omega)), n _ _ F2 _ g4 (e1.trans ef) (r2.mut g2 hv0 (td_own upd_same tp))⟩
end
end DL
namespace DL
open PySem L2
end DL
namespace DL
open PySem L2
section
variable {X : Cx} {c : Cn}
/-- arguments, some of them slots -/
abbrev Ar2 := Ar ⊕ Nat
abbrev AM2 := Env → (List Ar2 → Env → Prop) → Prop
def A2At (c : Cn) (F : Hp) (σ : L2.St) : V → Ar2 → Prop
  | v, .inl x => ArAt c F v x
  | v, .inr i => σ[i]? = some (some v)
theorem A2At.mono {F F' : Hp} {σ : L2.St} (e : Ex F F') {v : V} {x : Ar2} (h : A2At c F σ v x) : A2At c F' σ v x := by
  cases x with
  | inl x => exact ArAt.mono e h
  | inr i => exact h
variable {e : Expr} {es : List Expr}
variable {k : Nat} {f : Addr} {fd : FuncData} {ps : List Str} {S : SpD} {x : Str} {p pos : Pos} {fa : AM2} {n i : Nat}
end
end DL
namespace DL
open PySem L2
end DL
namespace DL
open PySem L2
end DL
namespace DL
open PySem L2 PyProof.Rows
end DL
namespace PySem.W
open PySem L2 PySem.Spec PyProof.Rows
end PySem.W
namespace DL
open PySem L2 PySem.Spec PyProof.Rows
/-- what is known of a caught exception -/
def ExcO (p : Addr) (cls : Value) (d : Option Addr) : HO := .ext fun h => ∃ (oe : Obj) (vs : Array Value), h.get? p = some oe ∧ Zc cls d oe ∧ oe.data = .fields vs
end DL
namespace DL
open PySem L2 PySem.Spec PyProof.Rows
/-- the names of a clause's classes -/
inductive NmOk (X : Cx) : List Expr → List Value → Prop
  | nil : NmOk X [] []
  | cons {x : Str} {c : Value} {p : Pos} {es : List Expr} {cs : List Value} (h : Names X x c) (r : NmOk X es cs) (hs : starEach (.Name x p :: es) X.env = (false, eval (.Name x p) X.env) :: starEach es X.env := by rfl) : NmOk X (.Name x p :: es) (c :: cs)
theorem Catch.names {X : Cx} {pins : List (Addr × Obj)} {p : Addr} {cls : Value} {d : Option Addr} {σ : L2.St} {H : Hp} {s : Shared} {pp : Pos} {Q : List Value → Shared → Prop} {E : Value → Shared → Prop} {es : List Expr} {cs : List Value} (c : Catch X pins p cls d σ H s) (hs : X.stack = X.env :: X.outer) (hf : X.env.frame = some X.env.locals) (hn : NmOk X es cs) (q : Q cs s) :
    wpAny (model X.prog X.w) (X.A.mark (some (.ref p))) (spliced (backTo pp (starEach es X.env))) Q E s := by
  induction hn generalizing Q with
  | nil => exact wpAny_items_nil q
  | cons one _ star more => exact wpAny_items_cons (c.reads hs hf one (more q)) star
end DL
namespace PySem.W
open PySem L2 PySem.Spec PyProof.Rows
end PySem.W
namespace DL
open PySem L2 PySem.Spec PyProof.Rows
/-- the fields of a caught exception, if it has some -/
def DcAt (d : Option Addr) (H : Hp) : Prop := d = none ∨ ∃ dd fs, d = some dd ∧ H dd = some (.xd fs)
end DL
namespace DL
open PySem L2 PySem.Spec PyProof.Rows
open PySem.Builtin in
/-! ### of which class an exception is -/
/-- a row: the class, its word, its field -/
structure FR where
  c : Str
  w : Str
  f : Option Str
/-- what is known of the exception classes by their names -/
structure ClsOk (K : PySem.W.Frag) (gl : Str → Option Value) (rs : List FR) (y : Str) (B : Addr) : Prop where
  g : gl y = some (.ref B)
  e : ExcC K B
  x : XfC K B
  k : ∀ r ∈ rs, ∃ C, gl r.c = some (.ref C) ∧ PySem.W.kitOne K (.ref B) (.ref C) = some (decide (y = r.c)) ∧ PySem.W.exmOne K (.ref B) (.ref C) = some (decide (y = r.c))
  f : ∀ r ∈ rs, r.c = y → ∀ n, r.f = some n → PySem.W.findIn K (.ref B) n = some none
/-- the state within: p the exception, L the list -/
structure FSt (K : PySem.W.Frag) (gl : Str → Option Value) (rs : List FR) (y : Str) (B p L : Addr) (fv : Option (Str × V)) (acc : List V) (σ : L2.St) (H : Hp) : Prop where
  c : ClsOk K gl rs y B
  s0 : σ = [some (.ref p), some (.ref L)]
  hp : ∃ d, H p = some (ExcO p (.ref B) d) ∧ (match fv with
    | none => d = none
    | some (n, v) => ∃ dd, d = some dd ∧ H dd = some (.xd [(n, v)]))
  hl : H L = some (.lst acc)
  al : acc.length ≤ 20
section
variable {X : Cx} {rs : List FR}
theorem FSt.dc {K : PySem.W.Frag} {gl : Str → Option Value} {y : Str} {B p L : Addr} {fv : Option (Str × V)} {acc : List V} {σ : L2.St} {H : Hp} (s : FSt K gl rs y B p L fv acc σ H) : ∃ d, H p = some (ExcO p (.ref B) d) ∧ DcAt d H := by
  obtain ⟨d, h1, h2⟩ := s.hp
  refine ⟨d, h1, ?_⟩
  cases fv with
  | none => exact .inl h2
  | some x =>
    obtain ⟨dd, h3, h4⟩ := h2
    exact .inr ⟨dd, _, h3, h4⟩
section
variable {K : PySem.W.Frag} {gl : Str → Option Value} {y : Str} {B p L : Addr} {fv : Option (Str × V)} {acc : List V} {σ : L2.St} {H : Hp} {tend : TS} {D : Ends}
theorem FSt.next (s : FSt K gl rs y B p L fv acc σ H) {T : Addr} {xs : List V} (hT : H T = none) (ha : acc.length ≤ 19) : FSt K gl rs y B p L fv (acc ++ [.ref T]) σ (upd (upd H T (.tup xs)) L (.lst (acc ++ [.ref T]))) := by
  have ne : ∀ b o, H b = some o → (∀ l, o ≠ .lst l) → upd (upd H T (.tup xs)) L (.lst (acc ++ [.ref T])) b = some o := fun b o e n => by
    rw [upd_ne, upd_ne (ne_of_none e hT)]
    · exact e
    · intro z
      rw [z, s.hl] at e
      exact n _ (Option.some.inj e).symm
  obtain ⟨d, h1, h2⟩ := s.hp
  refine ⟨s.c, s.s0, ⟨d, ne _ _ h1 (fun l z => by unfold ExcO at z; cases z), ?_⟩, upd_same, by rw [List.length_append, List.length_singleton]; omega⟩
  cases fv with
  | none => exact h2
  | some z =>
    obtain ⟨dd, h3, h4⟩ := h2
    exact ⟨dd, h3, ne _ _ h4 fun l z => by cases z⟩
end
end
end DL
namespace DL
open PySem L2 PySem.Spec PyProof.Rows LamX
/-- the making of a lambda: nothing, or a new code object and a table that has grown by it -/
def Mk (P : Addr) (q : Str) (H H1 : Hp) : Prop := H1 = H ∨ ∃ (c : Addr) (ps more : Array Value), H c = none ∧ H P = some (.tbl ps) ∧ H1 = upd (upd H P (.tbl (ps ++ more))) c (CodeO c q) ∧ ∀ (pos : Pos) (cv : Value), codeAmong pos (ps ++ more).toList = some cv → codeAmong pos ps.toList = some cv ∨ cv = .ref c
abbrev rowAt (pos : Pos) (c : Addr) : Array Value := #[rawInt pos.line, rawInt pos.col, .ref c]
theorem Mk.of {P : Addr} {q : Str} {H : Hp} {ps : Array Value} {c : Addr} {pos : Pos} (tri : TriplesOk ps.toList) (at_ : H P = some (.tbl ps)) (new : H c = none) : Mk P q H (upd (upd H P (.tbl (ps ++ rowAt pos c))) c (CodeO c q)) :=
  .inr ⟨c, ps, _, new, at_, rfl, fun p cv e => among_app _ tri (by rw [Array.toList_append] at e; exact e)⟩
end DL
namespace DL
open PySem L2 PySem.Spec PyProof.Rows LamX
end DL
namespace DL
open PySem L2 PySem.Spec PyProof.Rows LamX
end DL
namespace DL
open PySem L2 PySem.Spec PyProof.Rows LamX
abbrev oT : Obj := { cls := .none, data := .fields #[] }
end DL
namespace DL
open PySem L2 PySem.Spec PyProof.Rows LamX
open PySem.W (nsIn findIn subIn hasDictIn specialIn takesIn mroIn kitOne exmOne)
end DL
namespace DL
open PySem L2 PySem.Spec PyProof.Rows LamX
end DL
namespace DL
open PySem L2 PySem.Spec PyProof.Rows
end DL
namespace PySem
end PySem
namespace DL
open PySem L2 PySem.Spec PyProof.Rows
end DL
namespace DL
open PySem L2 PySem.Spec PyProof.Rows
end DL
namespace DL
open PySem L2 PySem.Spec PyProof.Rows LamX
/-- what a name of such a lambda may be, in a def that knows the names NS -/
def KindD (sc : Scope) (NS : List Str) (x : Str) : NameKind → Prop
  | .cell => False
  | .local => x ∉ NS
  | .free => sc.names.lookup x = some .cell ∨ sc.names.lookup x = some .free
  | _ => True
/-- such a lambda -/
structure LamD (sc scope : Scope) (NS : List Str) : Prop where
  plain : scope.kind = .function ∧ scope.isCoroutine = false ∧ scope.isGenerator = false
  each : ∀ y ∈ scope.names, KindD sc NS y.1 y.2
section
variable {sc scope : Scope} {NS : List Str} (L : LamD sc scope NS) {y : Str × NameKind} (m : y ∈ scope.names)
include L m
theorem LamD.new (z : y.2 = .local) : y.1 ∉ NS := by
  have := L.each y m
  rw [z] at this
  exact this
theorem LamD.up (z : y.2 = .free) : sc.names.lookup y.1 = some .cell ∨ sc.names.lookup y.1 = some .free := by
  have := L.each y m
  rw [z] at this
  exact this
end
section
variable {X : Cx} {H : Hp} {s : Shared} {σ : L2.St} {pins : List (Addr × Obj)}
theorem LamD.has {scope : Scope} (L : LamD X.env.scope scope X.N) (ok : X.Ok) : ∀ y ∈ scope.names, y.2 = .free → ∃ c, X.env.cells.lookup y.1 = some c := fun y m z => ok.has _ (L.up m z)
end
end DL
namespace DL
open PySem L2 PySem.Spec PyProof.Rows
section
variable {X : Cx} {c : Cn} {a b : Expr} {pos : Pos}
theorem tupIN_use {i j : Nat} (hij : i ≠ j) (hK : X.K = c.K) {f g : DM} : ∀ Z σ H, tS c (sParIN i j f g) Z σ H → tAsg (tTup (tCons (tD c f) (tCons (tN c g) tNil))) (gTup X.K 2 (L2.gCons (gName i) (L2.gCons (gName j) L2.gNil))) Z σ H := by
  rintro Z σ H ⟨F, ρ, xx, E, rel, q, n, rr, bb, t⟩
  refine ⟨F, ρ, xx, _, rel, q, fun d ρ1 v F1 H1 q1 e1 r1 a1 => ?_⟩
  refine ⟨F1, ρ1, xx, _, r1, q1, fun d' ρ2 p F2 H2 q2 e2 r2 f2 => ?_⟩
  refine ⟨by show 2 ≤ sizeLine; decide, fun T hT => ?_⟩
  refine ⟨T, [v, .ref p], rfl, .inl (.inl upd_same), rfl, ?_⟩
  refine ⟨v, _, rfl, .ref p, _, rfl, rfl, ?_⟩
  have held := r2.pushX f2
  have laid := held.w.newF (.tup [v, .ref p]) hT
  obtain ⟨r3, f3⟩ := (held.stepN laid).popX
  have z := n _ _ _ _ q2 (e1.trans (e2.trans laid.ff)) ((r3.putO j f3).putI i (a1.mono (e2.trans laid.ff)))
  rw [List.set_comm _ _ (Ne.symm hij)] at z
  exact z
theorem dp_tupIN {x y : Str} {i j : Nat} {f g : DM} {px py pt : Pos} {kt k2 : Nat} {pt2 : Pos} (hc : X.calm = true) (hN : X.N.Nodup) (hK : X.K = c.K) (hi : X.N[i]? = some x) (hj : X.N[j]? = some y) (hij : i ≠ j)
    (hx : Loc X.env.scope x) (hy : Loc X.env.scope y) (fx : X.fn x = true ∨ X.env.scope.names.lookup x = some .local) (fy : X.fn y = true ∨ X.env.scope.names.lookup y = some .local) (ha : PE X a (tD c f)) (hb : PE X b (tN c g))
    (hs : swapsWithSole [.Tuple [.Name x px, .Name y py] kt pt] (.Tuple [a, b] k2 pt2) pos.line X.env = pure false := by rfl)
    (hw : swappedStores [.Tuple [.Name x px, .Name y py] kt pt] (.Tuple [a, b] k2 pt2) X.env = pure none := by rfl)
    (s1 : starEach [a, b] X.env = (false, eval a X.env) :: starEach [b] X.env := by rfl) (s2 : starEach [b] X.env = (false, eval b X.env) :: starEach [] X.env := by rfl)
    (h1 : (assignEach [.Tuple [.Name x px, .Name y py] kt pt] X.env).map (·.2) = [assign (.Tuple [.Name x px, .Name y py] kt pt) X.env] := by rfl) :
    PS X (.Assign [.Tuple [.Name x px, .Name y py] kt pt] (.Tuple [a, b] k2 pt2) pos) (tS c (sParIN i j f g)) :=
  PS.to (ps_asg (pe_tup (pa_cons ha (pa_cons hb pa_nil s2) s1)) (pg_tup hc (pgs_cons (pg_name hN hi hx fx) (pgs_cons (pg_name hN hj hy fy) pgs_nil))) hs hw h1) (tupIN_use hij hK)
end
end DL
namespace DL
open PySem L2 PySem.Spec PyProof.Rows
end DL
namespace DL.Lz
open PySem PyProof.Rows L2 RZ
end DL.Lz
namespace DL
open PySem L2 PySem.Spec PyProof.Rows LamX
end DL
namespace DL
open PySem L2 PySem.Spec PyProof.Rows
end DL
namespace DL.Lz
open PySem PyProof.Rows L2 RZ
/-- how far both are gone -/
structure NlGone (z t u p q a b : Addr) (n : Nat) (h : Heap) : Prop where
  zip : Zn z t u h
  its : IsPair h t (.ref p) (.ref q)
  two : ∃ x y, IsPair h u x y
  fst : h.IsListIter p a n
  snd : h.IsListIter q b n
section
variable {z t u p q a b : Addr} {n : Nat} {h h' : Heap}
theorem NlGone.there (m : NlGone z t u p q a b n h) {c : Addr} (hc : c ∈ [z, t, u, p, q]) : ∃ o, h.get? c = some o ∧ ∀ v, o.data ≠ .cell v := by
  obtain ⟨⟨v1, f1, k1, _⟩, k2, ⟨x, y, k3⟩, ⟨o4, e4, _, f4⟩, ⟨o5, e5, _, f5⟩⟩ := m
  refine five (P := fun c => ∃ o, h.get? c = some o ∧ ∀ v, o.data ≠ .cell v) hc ⟨_, k1, nofun⟩ ⟨_, k2, nofun⟩ ⟨_, k3, nofun⟩ ⟨o4, e4, fun v e => ?_⟩ ⟨o5, e5, fun v e => ?_⟩
  · rw [f4] at e
    cases e
  · rw [f5] at e
    cases e
end
end DL.Lz
namespace DL
open PySem L2
section
variable {X : Cx} {c : Cn} {a b e3 : Expr} {pos : Pos}
theorem AtAll.eraseIdx {K : PySem.W.Frag} {H : Hp} : ∀ {vs : List V} {ds : List D} (n : Nat), AtAll K H vs ds → AtAll K H (vs.eraseIdx n) (ds.eraseIdx n)
  | _, _, _, .nil => .nil
  | _, _, 0, .cons _ t => t
  | _, _, n + 1, .cons a t => .cons a (AtAll.eraseIdx n t)
def dPopA (i : Nat) (f : DM) : DM := fun ρ P => ownL ρ i (fun _ => True) ∧ f ρ fun k ρ1 => ownL ρ1 i fun ds => ∃ n : Nat, k = .int (n : Int) ∧ n < 1000000 ∧ ∃ d, ds[n]? = some d ∧ P d (ρ1.set i (.ow (.list (ds.eraseIdx n))))
theorem pop_at {n m : Nat} (h : n < m) : seqIndex? (n : Int) m = some n := by
  unfold seqIndex?
  have h1 : ¬ (n : Int) < 0 := by omega
  have h2 : (0 : Int) ≤ n := by omega
  have h3 : (n : Int) < m := by omega
  simp [h1, h2, h3]
theorem de_popA {x : Str} {i : Nat} {e : Expr} {px apos cpos : Pos} {f : DM} (ho : PE X (.Name x px) (tVar i)) (he : PE X e (tD c f))
    (hbase : attributeBase (.Name x px) "pop" X.env (eval (.Name x px) X.env) = eval (.Name x px) X.env := by rfl)
    (hfew : ((backTo cpos (starEach [e] X.env)).all (fun x => !x.1)
        && (backToKw cpos (keywordEach [] X.env)).all (fun x => x.1.isSome)
      && decide (([e] : List Expr).length + ([] : List Keyword).length
          + (if ([] : List Keyword).isEmpty then 0 else 1) < 30)) = true := by rfl)
    (hplain : (backTo cpos (starEach [] X.env)).any (·.1) = false := by rfl) (hline : (apos.endLine == cpos.line) = true := by rfl)
    (hs : starEach [e] X.env = (false, eval e X.env) :: starEach [] X.env := by rfl) :
    PE X (.Call (.Attribute (.Name x px) "pop" apos) [e] [] cpos) (tD c (dPopA i f)) := by
  refine PE.to (pe_bm PySem.F.plainAttrs_list PySem.F.slot_list_pop PySem.F.type_list_pop mt_popAt ho (pa_cons he pa_nil hs) hbase hfew hline hs hplain) ?_
  rintro σ H Q ⟨F, ρ, xx, P, rel, ⟨q0, q⟩, k⟩
  obtain ⟨ds0, p0, vs0, -, g2, g3, -, -⟩ := ownL_get rel q0
  refine ⟨.ref p0, g2, .inl ⟨rfl, vs0, SqL.of g3⟩, F, ρ, xx, _, rel, q, fun d ρ1 v F1 H1 q1 e1 r1 a1 => ?_⟩
  obtain ⟨ds, p, vs, h1, h2, h3, h4, n, rfl, hn, dd, hd, qq⟩ := ownL_get r1 q1
  rw [g2] at h2
  cases h2
  cases a1
  obtain ⟨w, hw, aw⟩ := h4.get hd
  have lt : n < vs.length := (List.getElem?_eq_some_iff.mp hw).1
  refine ⟨p0, vs, (n : Int), n, w, rfl, rfl, h3, by omega, by omega, pop_at lt, hw, ?_⟩
  exact k dd _ w F1 _ qq e1 (r1.mut h1 g2 ⟨_, upd_same, h4.eraseIdx n⟩) aw
end
end DL
namespace DL
open PySem L2 PySem.Spec PyProof.Rows
end DL
namespace DL
open PySem L2
section
variable {X : Cx} {c : Cn}
def rvD (n : Int) : List D := (List.range n.toNat).map fun i => .int (n - 1 - (i : Nat))
theorem itOk_rev {n : Int} {F : Hp} : ItOk c (Itc (0 + (((n - 0).toNat : Nat) : Int) - 1) (-1) (n - 0).toNat) (rvD n) F := by
  intro i F' H σ ρ xx e r
  have l : (rvD n).length = n.toNat := by simp [rvD]
  refine ⟨fun d hd => ?_, fun hl => ?_⟩
  · have lt : i < n.toNat := by
      have := (List.getElem?_eq_some_iff.mp hd).1
      omega
    have ed : d = .int (n - 1 - (i : Nat)) := by
      unfold rvD at hd
      rw [List.getElem?_map, List.getElem?_range lt] at hd
      exact (Option.some.inj hd).symm
    refine ⟨show i < (n - 0).toNat by omega, fun x H' ⟨eh, y⟩ => ?_⟩
    subst eh y ed
    have ev : 0 + (((n - 0).toNat : Nat) : Int) - 1 + (i : Nat) * (-1) = n - 1 - (i : Nat) := by omega
    rw [ev]
    exact ⟨F', Ex.refl _, r, .int _⟩
  · show (n - 0).toNat ≤ i
    omega
def iRev1 (f : DM) : IM := fun ρ P => f ρ fun d ρ1 => match d with
  | .int n => (-(2 ^ 62) ≤ n ∧ n < 2 ^ 62) ∧ P (rvD n) ρ1
  | _ => False
theorem di_rev1 {tg a : Expr} {f : DM} {p p2 pos pos2 : Pos} (hg : Gl X "reversed") (hm : X.mg "reversed" = none) (hg2 : Gl X "range") (hm2 : X.mg "range" = none) (ha : PE X a (tD c f))
    (na : starEach [a] X.env = (false, eval a X.env) :: starEach [] X.env := by rfl)
    (hs : starEach [.Call (.Name "range" p2) [a] [] pos2] X.env = (false, eval (.Call (.Name "range" p2) [a] [] pos2) X.env) :: starEach [] X.env := by rfl) :
    PI X tg (.Call (.Name "reversed" p) [.Call (.Name "range" p2) [a] [] pos2] [] pos) (tI c (iRev1 f)) := by
  refine PI.to (pi_revR hg hm (prg_1 hg2 hm2 ha na) hs) ?_
  rintro σ H R ⟨F, ρ, xx, P, rel, q, k⟩
  refine ⟨F, ρ, xx, _, rel, q, fun d ρ1 v F1 H1 q1 e1 r1 a1 => ?_⟩
  split at q1
  · rename_i n
    cases a1
    exact ⟨n, rfl, by omega, by omega, q1.1.1, q1.1.2, k _ ρ1 _ F1 H1 q1.2 e1 r1 itOk_rev⟩
  · exact q1.elim
end
def nestX (A : Addr) (as : List Addr) (rows : List (List Int)) : XX := (A, .o (.lst (as.map V.ref))) :: (as.zip rows).map fun p => (p.1, .o (.lst (p.2.map V.int)))
def rowsN (rows : List (List Int)) : D := .list (rows.map fun r => .list (r.map PyData.int))
theorem zip_keys {β : Type} : ∀ (as : List Addr) (rows : List (List Int)) (f : Addr × List Int → XO), as.length = rows.length → ((as.zip rows).map fun p => (p.1, f p)).map (·.1) = as
  | [], _, _, _ => rfl
  | a :: as, [], _, h => by simp at h
  | a :: as, r :: rows, f, h => by
    rw [List.zip_cons_cons, List.map_cons, List.map_cons, zip_keys (β := β) as rows f (by simpa using h)]
theorem nest_keys {A : Addr} {as : List Addr} {rows : List (List Int)} (h : as.length = rows.length) : (nestX A as rows).map (·.1) = A :: as := by
  unfold nestX
  rw [List.map_cons, zip_keys (β := Unit) as rows _ h]
section
variable {c : Cn} {F H : Hp} {σ : L2.St} {ρ : DL.Env} {xx : XX}
/-- back to what was known before, with new objects as entries -/
theorem Rel.unfix {F' H' : Hp} {ρ' : DL.Env} {yy zz : XX} (r0 : Rel c F H σ ρ yy) (hρ : ∀ (i : Nat) (d : D), ρ[i]? ≠ some (.ow d)) (ho : ∀ (i n : Nat), ρ[i]? ≠ some (.ora n)) (ef : Ex F F') (r1 : Rel c F' H' σ ρ' zz)
    (hx : ∀ p ∈ xx, ∃ o, p.2 = .o o ∧ F' p.1 = some o ∧ F p.1 = none ∧ c.H0 p.1 = none) (nd : (xx.map (·.1)).Nodup) : Rel c F H' σ ρ xx := by
  refine ⟨⟨r0.w.ff, ef.trans r1.w.fh, r1.w.kp, r1.w.dom, r0.w.fn, fun a h => ?_, r1.w.or⟩, ⟨r0.s.len, r0.s.im, fun i d e => absurd e (hρ i d), fun i j d e a h => absurd h (hρ i d), fun i n e => absurd e (ho i n), fun i j m n h => absurd h (ho i m), fun p hp => ?_, nd⟩⟩
  · cases e : F a with
    | none => exact absurd e h
    | some o => exact r1.w.ft a (by rw [ef a o e]; exact Option.some_ne_none o)
  · obtain ⟨o, e1, e2, e3, e4⟩ := hx p hp
    refine ⟨⟨?_, e3, e4, r1.w.ft _ (by rw [e2]; exact Option.some_ne_none o)⟩, fun i e z => absurd z (hρ i e)⟩
    rw [e1]
    exact r1.w.fh _ _ e2
/-- all entries are known for a while -/
theorem Rel.fixAll (r : Rel c F H σ ρ xx) (hx : ∀ p ∈ xx, ∃ o, p.2 = .o o) : ∃ F', Ex F F' ∧ Rel c F' H σ ρ [] ∧ (∀ p ∈ xx, ∀ o, p.2 = .o o → F' p.1 = some o) := by
  induction xx generalizing F with
  | nil => exact ⟨F, Ex.refl F, r, fun p hp => nomatch hp⟩
  | cons q xx ih =>
    obtain ⟨a, x⟩ := q
    obtain ⟨o, rfl⟩ : ∃ o, x = .o o := hx (a, x) List.mem_cons_self
    obtain ⟨e1, r1⟩ := r.freezeO
    obtain ⟨F', e2, r2, k⟩ := ih r1 fun p hp => hx p (List.mem_cons_of_mem _ hp)
    refine ⟨F', e1.trans e2, r2, fun p hp o' eo => ?_⟩
    (rcases List.mem_cons.mp hp with rfl | hp)
    · cases eo
      exact e2 _ _ upd_same
    · exact k p hp o' eo
theorem nest_o (A : Addr) (as : List Addr) (rows : List (List Int)) : ∀ p ∈ nestX A as rows, ∃ o, p.2 = .o o := by
  intro p hp
  unfold nestX at hp
  (rcases List.mem_cons.mp hp with rfl | hp)
  · exact ⟨_, rfl⟩
  · obtain ⟨q, _, rfl⟩ := List.mem_map.mp hp
    exact ⟨_, rfl⟩
theorem nest_mem {A : Addr} {as : List Addr} {rows : List (List Int)} {k : Nat} {a : Addr} {r : List Int} (ha : as[k]? = some a) (hr : rows[k]? = some r) : (a, XO.o (.lst (r.map V.int))) ∈ nestX A as rows := by
  unfold nestX
  refine List.mem_cons_of_mem _ (List.mem_map.mpr ⟨(a, r), ?_, rfl⟩)
  refine List.mem_of_getElem? (i := k) ?_
  rw [List.getElem?_zip_eq_some]
  exact ⟨ha, hr⟩
theorem ints_at {K : PySem.W.Frag} {F : Hp} (r : List Int) : AtAll K F (r.map V.int) (r.map PyData.int) := AtAll.ofInts r
theorem nest_at {K : PySem.W.Frag} {A : Addr} {as : List Addr} {rows : List (List Int)} (hl : as.length = rows.length) (hA : F A = some (.lst (as.map V.ref))) (hr : ∀ (k : Nat) (a : Addr) (r : List Int), as[k]? = some a → rows[k]? = some r → F a = some (.lst (r.map V.int))) : At K F (.ref A) (rowsN rows) := by
  have n : Nest K F A as (rows.map fun r => r.map PyData.int) := by
    refine ⟨hA, by rw [List.length_map]; exact hl, fun k a r h1 h2 => ?_⟩
    rw [List.getElem?_map] at h2
    cases e : rows[k]? with
    | none => (rw [e] at h2; cases h2)
    | some r0 =>
      rw [e] at h2
      cases h2
      exact ⟨_, hr k a r0 h1 e, ints_at r0⟩
  have h := n.at
  unfold rowsN
  rw [List.map_map] at h
  exact h
/-- one row grows -/
theorem Rel.growRow {A : Addr} {as : List Addr} {rows : List (List Int)} {k : Nat} {a : Addr} {r : List Int} {x : Int} (rel : Rel c F H σ ρ (nestX A as rows)) (ha : as[k]? = some a) (hr : rows[k]? = some r) (hl : as.length = rows.length) :
    Rel c F (upd H a (.lst (r.map V.int ++ [V.int x]))) σ ρ (nestX A as (rows.set k (r ++ [x]))) := by
  have hk : k < rows.length := (List.getElem?_eq_some_iff.mp hr).1
  have hka : k < as.length := by omega
  have nd := rel.s.xd
  rw [nest_keys hl] at nd
  have e1 : (as.zip rows) = (as.take k).zip (rows.take k) ++ (a, r) :: (as.drop (k + 1)).zip (rows.drop (k + 1)) := by
    have ea : as = as.take k ++ a :: as.drop (k + 1) := by
      have := List.take_append_drop k as
      rw [List.drop_eq_getElem_cons hka] at this
      rw [List.getElem?_eq_getElem hka] at ha
      rw [Option.some.inj ha] at this
      exact this.symm
    have er : rows = rows.take k ++ r :: rows.drop (k + 1) := by
      have := List.take_append_drop k rows
      rw [List.drop_eq_getElem_cons hk] at this
      rw [List.getElem?_eq_getElem hk] at hr
      rw [Option.some.inj hr] at this
      exact this.symm
    conv => lhs; rw [ea, er]
    rw [List.zip_append (by rw [List.length_take, List.length_take]; omega), List.zip_cons_cons]
  have e2 : (as.zip (rows.set k (r ++ [x]))) = (as.take k).zip (rows.take k) ++ (a, r ++ [x]) :: (as.drop (k + 1)).zip (rows.drop (k + 1)) := by
    have ea : as = as.take k ++ a :: as.drop (k + 1) := by
      have := List.take_append_drop k as
      rw [List.drop_eq_getElem_cons hka] at this
      rw [List.getElem?_eq_getElem hka] at ha
      rw [Option.some.inj ha] at this
      exact this.symm
    have er : rows.set k (r ++ [x]) = rows.take k ++ (r ++ [x]) :: rows.drop (k + 1) := List.set_eq_take_append_cons_drop.trans (if_pos hk)
    conv => lhs; rw [ea, er]
    rw [List.zip_append (by rw [List.length_take, List.length_take]; omega), List.zip_cons_cons]
  unfold nestX at rel ⊢
  rw [e1, List.map_append, List.map_cons, ← List.cons_append] at rel
  rw [e2, List.map_append, List.map_cons, ← List.cons_append]
  have p := rel.perm (List.perm_middle)
  have q := p.mutX (o := .lst (r.map V.int ++ [V.int x])) (d' := .o (.lst ((r ++ [x]).map V.int))) (show upd H a _ a = _ by rw [upd_same, List.map_append]; rfl)
  exact q.perm List.perm_middle.symm
end
end DL
namespace DL
open PySem L2
/-- the table while it grows: all rows behind low are whole, low's holds those below high -/
def bbRows (n : Nat) (val : Nat → Nat → Int) (low high : Nat) : List (List Int) := (List.range n).map fun k => if k < low then [] else if k = low then (List.range (high - low)).map fun j => val low (low + j) else (List.range (n - k)).map fun j => val k (k + j)
theorem bb_len (n : Nat) (val : Nat → Nat → Int) (low high : Nat) : (bbRows n val low high).length = n := by simp [bbRows]
theorem bb_get {n : Nat} {val : Nat → Nat → Int} {low high : Nat} (h : low < n) : (bbRows n val low high)[low]? = some ((List.range (high - low)).map fun j => val low (low + j)) := by
  unfold bbRows
  rw [List.getElem?_map, List.getElem?_range h]
  show some (if low < low then _ else if low = low then _ else _) = _
  rw [if_neg (Nat.lt_irrefl _), if_pos rfl]
theorem bb_more {n : Nat} {val : Nat → Nat → Int} {low high : Nat} (h : low < n) (hh : low ≤ high) : (bbRows n val low high).set low (((List.range (high - low)).map fun j => val low (low + j)) ++ [val low high]) = bbRows n val low (high + 1) := by
  (refine List.ext_getElem? fun k => ?_)
  rw [List.getElem?_set, bb_len]
  by_cases e : low = k
  · subst e
    rw [if_pos rfl, if_pos h, bb_get h, show high + 1 - low = (high - low) + 1 by omega, List.range_succ, List.map_append]
    show _ = some (_ ++ [val low (low + (high - low))])
    rw [show low + (high - low) = high by omega]
  · rw [if_neg e]
    unfold bbRows
    (rw [List.getElem?_map, List.getElem?_map])
    cases z : (List.range n)[k]? with
    | none => rfl
    | some j =>
      obtain ⟨hk, ej⟩ := List.getElem?_eq_some_iff.mp z
      rw [List.getElem_range] at ej
      subst ej
      have e2 : ¬ k = low := fun w => e w.symm
      show some (if k < low then _ else if k = low then _ else _) = some (if k < low then _ else if k = low then _ else _)
      rw [if_neg e2, if_neg e2]
theorem bb_next (n : Nat) (val : Nat → Nat → Int) (low : Nat) : bbRows n val (low + 1) n = bbRows n val low low := by
  unfold bbRows
  (refine List.map_congr_left fun k _ => ?_)
  by_cases h1 : k < low
  · rw [if_pos h1, if_pos (by omega)]
  · rw [if_neg h1]
    by_cases h2 : k = low
    · subst h2
      rw [if_pos (by omega), if_pos rfl, Nat.sub_self]
      rfl
    · rw [if_neg (by omega), if_neg h2]
      by_cases h3 : k = low + 1
      · subst h3
        rw [if_pos rfl]
      · rw [if_neg h3]
theorem bb_nil (n : Nat) (val : Nat → Nat → Int) : bbRows n val n n = List.replicate n [] := by
  unfold bbRows
  (refine List.ext_getElem? fun k => ?_)
  rw [List.getElem?_map, List.getElem?_replicate]
  by_cases h : k < n
  · rw [List.getElem?_range h, if_pos h]
    show some (if k < n then _ else _) = _
    rw [if_pos h]
  · rw [List.getElem?_eq_none (by simp; omega), if_neg h]
    rfl
/-- its promise -/
def sBB (rP rM : SpD) : SpD := fun as _ P => match as with
  | [.d (.tuple cs)] => cs.length ≤ 1000 ∧ ∃ (ps : List D) (val : Nat → Nat → Int), ps.length = cs.length ∧ (∀ (m : Nat) (P' : D → Nat → Prop), P' (.list ps) 0 → rP [.d (.tuple cs)] m P') ∧
    (∀ (low high : Nat) (p : D), low ≤ high → ps[high]? = some p → ∀ (m : Nat) (P' : D → Nat → Prop), P' (.int (val low high)) 0 → rM [.d (rowsN (bbRows cs.length val low high)), .d p, .d (.int (low : Nat)), .d (.int (high : Nat))] m P') ∧
    P (rowsN (bbRows cs.length val 0 cs.length)) 0
  | _ => False
def bbCall (rM : SpD) : DM := dCall 4 rM (aCons (dV 1) (aCons (d2 gIx (hS 2) (hS 4)) (aCons (dV 3) (aCons (dV 4) aNil))))
def bbLen : DM := dCB gLen (DL.gCons (hS 0) DL.gNil)
def bbApp (rM : SpD) (c : Cn) : TS := tDrop (tBM c.K "list" rAppend (tOp (rIxL c.K) (tVar 1) (tVar 3)) (tCons (tD c (bbCall rM)) tNil))
def bbIn (rM : SpD) (c : Cn) : TS := tFor (tI c (iRange2 (lCons (dV 3) (lCons bbLen lNil)))) (gName 4) (bbApp rM c)
def bbT (rP rM : SpD) (c : Cn) : TS := tSeq (tAsg (tLc (tI c (iSeq (dV 0))) (tG c [5] (gN 5)) (tT c bYes) (tN c (dLst lNil)) [5]) (gName 1))
  (tSeq (tAsg (tD c (dCall 1 rP (aCons (dV 0) aNil))) (gName 2))
  (tSeq (tFor (tI c (iRev1 bbLen)) (gName 3) (bbIn rM c)) (tRet (tVar 1))))
section
variable {rP rM : SpD} {c : Cn} {F H : Hp} {v0 vp : V} {A : Addr} {as : List Addr} {cs ps : List D} {val : Nat → Nat → Int}
def bbS (v0 : V) (A : Addr) (vp : V) (lo hi x : Option V) : L2.St := [some v0, some (.ref A), some vp, lo, hi, x]
def bbE (cs ps : List D) (lo hi : Sl) : DL.Env := [.im (.tuple cs), .no, .im (.list ps), lo, hi, .no]
theorem bbE_ow {lo hi : Sl} (h1 : ∀ d, lo ≠ .ow d) (h2 : ∀ d, hi ≠ .ow d) (i : Nat) (d : D) : (bbE cs ps lo hi)[i]? ≠ some (.ow d) := fun e => by
  match i, e with
  | 0, e => cases e
  | 1, e => cases e
  | 2, e => cases e
  | 3, e => exact h1 d (Option.some.inj e)
  | 4, e => exact h2 d (Option.some.inj e)
  | 5, e => cases e
  | _ + 6, e => cases e
theorem bbE_or {lo hi : Sl} (h1 : ∀ d, lo ≠ .ora d) (h2 : ∀ d, hi ≠ .ora d) (i n : Nat) : (bbE cs ps lo hi)[i]? ≠ some (.ora n) := fun e => by
  match i, e with
  | 0, e => cases e
  | 1, e => cases e
  | 2, e => cases e
  | 3, e => exact h1 n (Option.some.inj e)
  | 4, e => exact h2 n (Option.some.inj e)
  | 5, e => cases e
  | _ + 6, e => cases e
/-- entries stand behind what was known -/
theorem nest_back {rows : List (List Int)} {σ : L2.St} {ρ ρ' : DL.Env} {F' F2 H2 : Hp} {zz : XX} (r0 : Rel c F H σ ρ (nestX A as rows)) (hl : as.length = rows.length) (hρ : ∀ (i : Nat) (d : D), ρ[i]? ≠ some (.ow d)) (ho : ∀ (i n : Nat), ρ[i]? ≠ some (.ora n)) (e1 : Ex F F') (hk : ∀ p ∈ nestX A as rows, ∀ o, p.2 = .o o → F' p.1 = some o) (e2 : Ex F' F2) (r2 : Rel c F2 H2 σ ρ' zz) : Rel c F H2 σ ρ (nestX A as rows) := by
  refine r0.unfix hρ ho (e1.trans e2) r2 (fun p hp => ?_) r0.s.xd
  obtain ⟨o, eo⟩ := nest_o A as rows p hp
  have own := (r0.s.ex p hp).1
  exact ⟨o, eo, e2 _ _ (hk p hp o eo), own.f, own.y⟩
theorem bb_app {low high : Nat} {p : D} {x : Option V} {Z : Ends} (hlow : low < cs.length) (hh : low ≤ high) (hn : cs.length ≤ 1000) (hhi : high < cs.length) (hl : as.length = cs.length) (hp : ps[high]? = some p)
    (hM : ∀ (m : Nat) (P' : D → Nat → Prop), P' (.int (val low high)) 0 → rM [.d (rowsN (bbRows cs.length val low high)), .d p, .d (.int (low : Nat)), .d (.int (high : Nat))] m P')
    (rel : Rel c F H (bbS v0 A vp (some (.int (low : Nat))) (some (.int (high : Nat))) x) (bbE cs ps (.im (.int (low : Nat))) (.im (.int (high : Nat)))) (nestX A as (bbRows cs.length val low high)))
    (h : ∀ H', Rel c F H' (bbS v0 A vp (some (.int (low : Nat))) (some (.int (high : Nat))) x) (bbE cs ps (.im (.int (low : Nat))) (.im (.int (high : Nat)))) (nestX A as (bbRows cs.length val low (high + 1))) → Z.nx (bbS v0 A vp (some (.int (low : Nat))) (some (.int (high : Nat))) x) H') :
    bbApp rM c Z (bbS v0 A vp (some (.int (low : Nat))) (some (.int (high : Nat))) x) H := by
  have hl2 : as.length = (bbRows cs.length val low high).length := by rw [bb_len, hl]
  obtain ⟨a, ha⟩ : ∃ a, as[low]? = some a := ⟨as[low], List.getElem?_eq_getElem (by omega)⟩
  have hr := bb_get (n := cs.length) (val := val) (high := high) hlow
  have hA : H A = some (.lst (as.map V.ref)) := (rel.s.ex (A, .o (.lst (as.map V.ref))) List.mem_cons_self).1.o
  have hrow := (rel.s.ex _ (nest_mem ha hr)).1.o
  refine ⟨.ref A, rfl, .int (low : Nat), rfl, A, as.map V.ref, (low : Nat), .ref a, rfl, rfl, .inl (.inl hA), ?_, ?_⟩
  · refine atI_nat ?_
    rw [List.getElem?_map, ha]
    rfl
  refine ⟨.inl ⟨rfl, _, SqL.of hrow⟩, ?_⟩
  obtain ⟨F', e1, r1, hk⟩ := rel.fixAll (nest_o A as _)
  have at1 : At c.K F' (.ref A) (rowsN (bbRows cs.length val low high)) := nest_at hl2 (hk _ List.mem_cons_self _ rfl) fun k b r hb hr => hk _ (nest_mem hb hr) _ rfl
  have r2 := r1.putI 1 at1
  refine ⟨F', _, [], fun d ρ1 => d = .int (val low high) ∧ ρ1 = [.im (.tuple cs), .im (rowsN (bbRows cs.length val low high)), .im (.list ps), .im (.int (low : Nat)), .im (.int (high : Nat)), .no], r2, ?_, ?_⟩
  · refine ⟨trivial, trivial, p, atI_nat hp, rfl, rfl, hM _ _ ⟨rfl, rfl⟩⟩
  · rintro d ρ1 v F3 H3 ⟨rfl, rfl⟩ e3 r3 a3
    cases a3
    have r4 := nest_back rel hl2 (bbE_ow (fun d e => by cases e) (fun d e => by cases e)) (bbE_or (fun d e => by cases e) (fun d e => by cases e)) e1 hk e3 r3
    have hrow2 := (r4.s.ex _ (nest_mem ha hr)).1.o
    refine ⟨a, _, _, rfl, rfl, hrow2, szl (by simp; omega), ?_⟩
    have r5 := r4.growRow (x := val low high) ha hr hl2
    rw [bb_more hlow hh] at r5
    exact h _ r5
theorem bb_in {low : Nat} {hi x : Option V} {hs : Sl} {Z : Ends} (hlow : low < cs.length) (hn : cs.length ≤ 1000) (hl : as.length = cs.length) (hps : ps.length = cs.length)
    (hM : ∀ (low high : Nat) (p : D), low ≤ high → ps[high]? = some p → ∀ (m : Nat) (P' : D → Nat → Prop), P' (.int (val low high)) 0 → rM [.d (rowsN (bbRows cs.length val low high)), .d p, .d (.int (low : Nat)), .d (.int (high : Nat))] m P')
    (rel : Rel c F H (bbS v0 A vp (some (.int (low : Nat))) hi x) (bbE cs ps (.im (.int (low : Nat))) .no) (nestX A as (bbRows cs.length val low low)))
    (h : ∀ F' H' hi, Ex F F' → Rel c F' H' (bbS v0 A vp (some (.int (low : Nat))) hi x) (bbE cs ps (.im (.int (low : Nat))) .no) (nestX A as (bbRows cs.length val low cs.length)) → Z.nx (bbS v0 A vp (some (.int (low : Nat))) hi x) H') :
    bbIn rM c Z (bbS v0 A vp (some (.int (low : Nat))) hi x) H := by
  refine ⟨F, _, _, fun ds' ρ' => ds' = rgD (low : Nat) (cs.length : Nat) ∧ ρ' = bbE cs ps (.im (.int (low : Nat))) .no, rel, ⟨trivial, ⟨by omega, by omega, by omega, by omega⟩, rfl, rfl⟩, ?_⟩
  rintro ds' ρ' J F1 H1 ⟨rfl, rfl⟩ e1 r1 iok
  have rl : (rgD (low : Nat) (cs.length : Nat)).length = cs.length - low := by simp [rgD]
  refine ⟨fun n m σ' H' => ∃ (F' : Hp) (hi : Option V), Ex F1 F' ∧ σ' = bbS v0 A vp (some (.int (low : Nat))) hi x ∧ n ≤ cs.length - low ∧ m = cs.length - low - n ∧ Rel c F' H' σ' (bbE cs ps (.im (.int (low : Nat))) .no) (nestX A as (bbRows cs.length val low (low + n))),
    ⟨cs.length - low, F1, hi, Ex.refl F1, rfl, Nat.zero_le _, by omega, r1⟩, ?_⟩
  rintro n m σ' H2 ⟨F2, hi2, e2, rfl, hn2, rfl, r2⟩
  obtain ⟨o1, o2⟩ := iok n F2 H2 _ _ _ e2 r2
  by_cases hlt : n < cs.length - low
  · have hd : (rgD (low : Nat) (cs.length : Nat))[n]? = some (.int ((low : Nat) + (n : Nat))) := by
      unfold rgD
      rw [List.getElem?_map, List.getElem?_range (by omega)]
      rfl
    obtain ⟨go, yl⟩ := o1 _ hd
    refine .inr ⟨go, fun σ' H' => ∃ (F' : Hp) (hi : Option V), Ex F1 F' ∧ σ' = bbS v0 A vp (some (.int (low : Nat))) hi x ∧ Rel c F' H' σ' (bbE cs ps (.im (.int (low : Nat))) .no) (nestX A as (bbRows cs.length val low (low + n + 1))),
      fun σ' H' ⟨F', hi, q1, q2, q3⟩ => ⟨cs.length - low - (n + 1), by omega, F', hi, q1, q2, by omega, rfl, q3⟩, fun y H3 hy => ?_⟩
    obtain ⟨F3, e3, r3, a3⟩ := yl y H3 hy
    cases a3
    have r4 := r3.putI 4 (At.int (K := c.K) (H := F3) ((low : Nat) + (n : Nat) : Int))
    have e5 : ((low : Nat) : Int) + ((n : Nat) : Int) = ((low + n : Nat) : Int) := by omega
    rw [e5] at r4 ⊢
    have hp : ps[low + n]? = some ps[low + n] := List.getElem?_eq_getElem (by omega)
    refine bb_app (val := val) (p := ps[low + n]) hlow (by omega) hn (by omega) hl hp (hM low (low + n) _ (by omega) hp) r4 fun H5 r5 => ?_
    refine ⟨F3, _, e2.trans e3, rfl, ⟨r5.w, ?_⟩⟩
    have := r5.s.put (v := .int ((low + n : Nat) : Int)) 4 (x := .no) (fun _ e => by cases e) (fun _ e => by cases e) (by intro m z; cases z)
    exact this
  · have en : n = cs.length - low := by omega
    subst en
    refine .inl ⟨o2 rl, h F2 H2 hi2 (e1.trans e2) ?_⟩
    rw [show low + (cs.length - low) = cs.length by omega] at r2
    exact r2
theorem bb_out {x : Option V} {Z : Ends} (hn : cs.length ≤ 1000) (hl : as.length = cs.length) (hps : ps.length = cs.length)
    (hM : ∀ (low high : Nat) (p : D), low ≤ high → ps[high]? = some p → ∀ (m : Nat) (P' : D → Nat → Prop), P' (.int (val low high)) 0 → rM [.d (rowsN (bbRows cs.length val low high)), .d p, .d (.int (low : Nat)), .d (.int (high : Nat))] m P')
    (rel : Rel c F H (bbS v0 A vp none none x) (bbE cs ps .no .no) (nestX A as (bbRows cs.length val cs.length cs.length)))
    (h : ∀ F' H' lo hi, Ex F F' → Rel c F' H' (bbS v0 A vp lo hi x) (bbE cs ps .no .no) (nestX A as (bbRows cs.length val 0 cs.length)) → Z.nx (bbS v0 A vp lo hi x) H') :
    tFor (tI c (iRev1 bbLen)) (gName 3) (bbIn rM c) Z (bbS v0 A vp none none x) H := by
  refine ⟨F, _, _, fun ds' ρ' => ds' = rvD (cs.length : Nat) ∧ ρ' = bbE cs ps .no .no, rel, ⟨trivial, ⟨by omega, by omega⟩, rfl, rfl⟩, ?_⟩
  rintro ds' ρ' J F1 H1 ⟨rfl, rfl⟩ e1 r1 iok
  have rl : (rvD (cs.length : Nat)).length = cs.length := by simp [rvD]
  refine ⟨fun n m σ' H' => ∃ (F' : Hp) (lo hi : Option V), Ex F1 F' ∧ σ' = bbS v0 A vp lo hi x ∧ n ≤ cs.length ∧ m = cs.length - n ∧ Rel c F' H' σ' (bbE cs ps .no .no) (nestX A as (bbRows cs.length val (cs.length - n) cs.length)),
    ⟨cs.length, F1, none, none, Ex.refl F1, rfl, Nat.zero_le _, by omega, r1⟩, ?_⟩
  rintro n m σ' H2 ⟨F2, lo2, hi2, e2, rfl, hn2, rfl, r2⟩
  obtain ⟨o1, o2⟩ := iok n F2 H2 _ _ _ e2 r2
  by_cases hlt : n < cs.length
  · have hd : (rvD (cs.length : Nat))[n]? = some (.int ((cs.length : Nat) - 1 - (n : Nat))) := by
      unfold rvD
      rw [List.getElem?_map, List.getElem?_range (by omega)]
      rfl
    obtain ⟨go, yl⟩ := o1 _ hd
    refine .inr ⟨go, fun σ' H' => ∃ (F' : Hp) (lo hi : Option V), Ex F1 F' ∧ σ' = bbS v0 A vp lo hi x ∧ Rel c F' H' σ' (bbE cs ps .no .no) (nestX A as (bbRows cs.length val (cs.length - (n + 1)) cs.length)),
      fun σ' H' ⟨F', lo, hi, q1, q2, q3⟩ => ⟨cs.length - (n + 1), by omega, F', lo, hi, q1, q2, by omega, rfl, q3⟩, fun y H3 hy => ?_⟩
    obtain ⟨F3, e3, r3, a3⟩ := yl y H3 hy
    cases a3
    have r4 := r3.putI 3 (At.int (K := c.K) (H := F3) ((cs.length : Nat) - 1 - (n : Nat) : Int))
    have e5 : ((cs.length : Nat) : Int) - 1 - ((n : Nat) : Int) = ((cs.length - (n + 1) : Nat) : Int) := by omega
    rw [e5] at r4 ⊢
    have eb := bb_next cs.length val (cs.length - (n + 1))
    rw [show cs.length - (n + 1) + 1 = cs.length - n by omega] at eb
    rw [eb] at r4
    refine bb_in (val := val) (hs := .no) (by omega) hn hl hps hM r4 fun F5 H5 hi5 e6 r5 => ?_
    refine ⟨F5, _, hi5, (e2.trans e3).trans e6, rfl, ⟨r5.w, ?_⟩⟩
    have := r5.s.put (v := .int ((cs.length - (n + 1) : Nat) : Int)) 3 (x := .no) (fun _ e => by cases e) (fun _ e => by cases e) (by intro m z; cases z)
    exact this
  · have en : n = cs.length := by omega
    subst en
    refine .inl ⟨o2 rl, h F2 H2 lo2 hi2 (e1.trans e2) ?_⟩
    rw [Nat.sub_self] at r2
    exact r2
theorem bb_all {K : PySem.W.Frag} {R : Orc} {N : List Str} {vs : List V} {Q : VK} {E : XK} (hN : N.length = 6) (h : spD K R 1 (sBB rP rM) vs H Q E) : ∃ c : Cn, c.K = K ∧ c.R = R ∧ bbT rP rM c { nx := fun _ H' => Q .non H', rt := Q } (start N vs) H := by
  obtain ⟨q, F, as0, m, P, wd, pa, hl, ho, hq, hm, says, k0⟩ := h
  unfold sBB at says
  split at says
  · rename_i cs
    obtain ⟨hn, ps, val, hps, hP, hM, hp⟩ := says
    have r0 := rel_start (N := N) wd pa ho hm
    obtain ⟨v0, rfl, a0⟩ : ∃ v, vs = [v] ∧ ArAt ⟨K, R, q, F, H⟩ F v (.d (.tuple cs)) := by
      cases pa with
      | cons a b =>
        cases b
        exact ⟨_, rfl, a⟩
    have es : start N [v0] = [some v0, none, none, none, none, none] := by
      unfold L2.start
      rw [hN]
      rfl
    have ee : startE N.length [.d (.tuple cs)] m = [.im (.tuple cs), .no, .no, .no, .no, .no] := by
      rw [hN]
      rfl
    rw [es, ee] at r0
    rw [es]
    refine ⟨⟨K, R, q, F, H⟩, rfl, rfl, ?_⟩
    have noW : ∀ (i : Nat) (d : D), ([.im (.tuple cs), .no, .no, .no, .no, .no] : DL.Env)[i]? ≠ some (.ow d) := fun i d e => by
      match i, e with
      | 0, e => cases e
      | 1, e => cases e
      | 2, e => cases e
      | 3, e => cases e
      | 4, e => cases e
      | 5, e => cases e
      | _ + 6, e => cases e
    have noO : ∀ (i n : Nat), ([.im (.tuple cs), .no, .no, .no, .no, .no] : DL.Env)[i]? ≠ some (.ora n) := fun i d e => by
      match i, e with
      | 0, e => cases e
      | 1, e => cases e
      | 2, e => cases e
      | 3, e => cases e
      | 4, e => cases e
      | 5, e => cases e
      | _ + 6, e => cases e
    unfold bbT tSeq tAsg
    refine lcN_use (i := iSeq (dV 0)) (t := gN 5) (f := dLst lNil) (vs := [5]) (js := [5]) (rows := List.replicate cs.length []) (ds := cs) (fun j hj => hj) r0 (by simp) (by omega) ⟨rfl, rfl⟩ ⟨by simp, fun j hj => by simp at hj; rcases hj with rfl; rfl⟩ rfl (fun n d r hd hr => ?_) fun A as F1 H1 e1 nst nw r1 => ?_
    · rw [List.getElem?_replicate] at hr
      split at hr
      · cases hr
        exact ⟨(by show 0 ≤ 1000000; omega), rfl, rfl⟩
      · cases hr
    have la : as.length = cs.length := by rw [nst.n]; simp
    have lr : as.length = (List.replicate cs.length ([] : List Int)).length := by simp [la]
    have r2 : Rel ⟨K, R, q, F, H⟩ F H1 [some v0, none, none, none, none, none] [.im (.tuple cs), .no, .no, .no, .no, .no] (nestX A as (List.replicate cs.length [])) := by
      refine r0.unfix noW noO e1 r1 (fun p hp => ?_) (by rw [nest_keys lr]; exact nw.nd)
      unfold nestX at hp
      (rcases List.mem_cons.mp hp with rfl | hp)
      · exact ⟨_, rfl, nst.o, nw.g A List.mem_cons_self, nw.h A List.mem_cons_self⟩
      · obtain ⟨z, hz, rfl⟩ := List.mem_map.mp hp
        obtain ⟨k, hk⟩ := List.mem_iff_getElem?.mp hz
        obtain ⟨h1, h2⟩ := List.getElem?_zip_eq_some.mp hk
        (rw [List.getElem?_replicate] at h2)
        split at h2
        · rename_i hlt
          have hz2 : z.2 = [] := (Option.some.inj h2).symm
          obtain ⟨us, g1, g2⟩ := nst.r k z.1 [] h1 (by rw [List.getElem?_replicate, if_pos hlt])
          cases g2
          have hm : z.1 ∈ A :: as := List.mem_cons_of_mem _ (List.mem_of_getElem? h1)
          exact ⟨_, rfl, by rw [hz2]; exact g1, nw.g _ hm, nw.h _ hm⟩
        · cases h2
    have r3 : Rel ⟨K, R, q, F, H⟩ F H1 [some v0, some (.ref A), none, none, none, none] [.im (.tuple cs), .no, .no, .no, .no, .no] (nestX A as (List.replicate cs.length [])) :=
      ⟨r2.w, r2.s.put (v := .ref A) 1 (x := .no) (fun _ e => by cases e) (fun _ e => by cases e) (by intro m z; cases z)⟩
    refine ⟨F, _, _, fun d ρ1 => d = .list ps ∧ ρ1 = [.im (.tuple cs), .no, .no, .no, .no, .no], r3, ⟨rfl, rfl, hP _ _ ⟨rfl, rfl⟩⟩, ?_⟩
    rintro d ρ1 vp F4 H4 ⟨rfl, rfl⟩ e4 r4 a4
    have r5 := r4.putI 2 a4
    rw [← bb_nil cs.length val] at r5
    refine bb_out (val := val) (ps := ps) (x := none) hn la hps hM r5 fun F6 H6 lo hi e6 r6 => ?_
    refine ⟨.ref A, rfl, ?_⟩
    have lf : as.length = (bbRows cs.length val 0 cs.length).length := by rw [bb_len, la]
    obtain ⟨F7, e7, r7, hk⟩ := r6.fixAll (nest_o A as _)
    have at7 : At K F7 (.ref A) (rowsN (bbRows cs.length val 0 cs.length)) := nest_at lf (hk _ List.mem_cons_self _ rfl) fun k b r hb hr => hk _ (nest_mem hb hr) _ rfl
    have qn : q = none := hq.resolve_right fun z => by cases z
    exact k0 _ 0 (.ref A) F7 H6 hp r7.w (fun z hz => by rw [qn] at hz; cases hz) at7
  · exact says.elim
end
end DL
namespace DL
open PySem L2
section
variable {X : Cx} {c : Cn} {e : Expr}
def lStarL (f : DM) (g : LM) : LM := fun ρ P => f ρ fun d ρ1 => (∃ xs, d = .list xs) ∧ g ρ1 fun ys ρ2 => ∃ xs, d = .list xs ∧ P (xs ++ ys) ρ2
theorem dl_starL {es : List Expr} {p : Pos} {f : DM} {g : LM} (hK : X.K = c.K) (he : PE X e (tD c f)) (hr : PA X es (tL c g)) (hs : starEach (.Starred e p :: es) X.env = (true, eval e X.env) :: starEach es X.env := by rfl) : PA X (.Starred e p :: es) (tL c (lStarL f g)) := by
  refine PA.to (StX.pa_star he hr hs) ?_
  rintro σ H Q ⟨F, ρ, xx, P, rel, q, k⟩
  refine ⟨F, ρ, xx, _, rel, q, fun d ρ1 v F1 H1 ⟨⟨xs, hd⟩, q1⟩ e1 r1 a1 => ?_⟩
  obtain ⟨a, vs, rfl, s, t⟩ := bo_lst r1.w.fh (.inl (hd ▸ a1))
  refine ⟨a, vs, rfl, .inr (by rw [hK]; exact s), F1, ρ1, xx, _, r1, q1, fun ys ρ2 us F2 H2 ⟨xs', ex, q2⟩ e2 r2 a2 => ?_⟩
  rw [hd] at ex
  cases ex
  exact k _ ρ2 _ F2 H2 q2 (e1.trans e2) r2 ((t.mono e2).append a2)
end
end DL
namespace DL
open PySem L2
section
variable {X : Cx} {c : Cn}
def dnD (a b : Int) : List D := (List.range (a - b).toNat).map fun i => .int (a - (i : Nat))
def iRangeDn (f : LM) : IM := fun ρ P => f ρ fun ds ρ1 => match ds with
  | [.int a, .int b, .int k] => (k = -1 ∧ -(2 ^ 62) ≤ a ∧ a < 2 ^ 62 ∧ -(2 ^ 62) ≤ b ∧ b < 2 ^ 62) ∧ P (dnD a b) ρ1
  | _ => False
theorem itOk_dn {a : Int} {n : Nat} {F : Hp} : ItOk c (Itc a (-1) n) ((List.range n).map fun i => .int (a - (i : Nat))) F := by
  intro i F' H σ ρ xx e r
  refine ⟨fun d hd => ?_, fun hl => show n ≤ i by simp at hl; omega⟩
  have lt : i < n := by simpa using (List.getElem?_eq_some_iff.mp hd).1
  rw [List.getElem?_map, List.getElem?_range lt] at hd
  cases hd
  refine ⟨lt, fun x H' ⟨eh, y⟩ => ?_⟩
  subst eh y
  rw [show a + ((i : Nat) : Int) * (-1) = a - ((i : Nat) : Int) by omega]
  exact ⟨F', Ex.refl _, r, .int _⟩
theorem di_rangeDn {tg a b k : Expr} {f : LM} {p pos : Pos} (hg : Gl X "range") (hm : X.mg "range" = none) (ha : PA X [a, b, k] (tL c f)) (hs : starEach [a, b, k] X.env = (false, eval a X.env) :: starEach [b, k] X.env := by rfl) (hpl : (backTo pos (starEach [b, k] X.env)).any (·.1) = false := by rfl) :
    PI X tg (.Call (.Name "range" p) [a, b, k] [] pos) (tI c (iRangeDn f)) := by
  refine PI.to (pi_range3 hg hm ha hs hpl) ?_
  rintro σ H R ⟨F, ρ, xx, P, rel, q, kk⟩
  refine ⟨F, ρ, xx, _, rel, q, fun ds ρ1 vs F1 H1 q1 e1 r1 a1 => ?_⟩
  split at q1
  · rename_i x y z
    obtain ⟨⟨rfl, h1, h2, h3, h4⟩, q1⟩ := q1
    cases a1 with
    | cons a1 t1 =>
      cases a1
      cases t1 with
      | cons a2 t2 =>
        cases a2
        cases t2 with
        | cons a3 t3 =>
          cases a3
          cases t3
          exact ⟨x, y, -1, _, rfl, RgC.neg h1 h2 h3 h4, kk _ ρ1 _ F1 H1 q1 e1 r1 itOk_dn⟩
  · exact q1.elim
end
end DL
namespace DL
open PySem L2
section
variable {X : Cx} {c : Cn} {es : List Expr} {x1 i : Nat} {o e : Expr} {f : LM} {g : DM} {p1 apos pos : Pos}
def dGetOrT (i : Nat) (f : LM) (g : DM) : DM := fun ρ P => (∃ xs, slotT ρ i xs) ∧ f ρ fun ds ρ1 => ds.length ≤ 1000000 ∧ g ρ1 fun d0 ρ2 => ∃ k xs, keyOk ds k ∧ slotT ρ2 i xs ∧ P ((getT xs k).getD d0) ρ2
theorem tat_or {K : PySem.W.Frag} {F : Hp} {kvs : List (List Key × V)} {xs : TD} (t : TAt K F kvs xs) (k : List Key) {v : V} {d : D} (a : At K F v d) : At K F ((valV kvs k).getD v) ((getT xs k).getD d) := by
  have w := tat_val t k
  unfold getT
  revert w
  cases valV kvs k <;> cases (xs.find? fun p => decide (p.1 = k)).map (·.2)
  · exact fun _ => a
  · exact fun w => w.elim
  · exact fun w => w.elim
  · exact fun w => w
theorem de_getOrT (hu : X.A.units + 1 < cLine) (h : PA X es (tL c f)) (hg : PE X e (tD c g)) (hv : PE X o (tVar i)) (m : M2 X o "get" apos (.Tuple es x1 p1) e pos := by exact ⟨rfl, rfl, rfl, rfl⟩) : PE X (.Call (.Attribute o "get" apos) [.Tuple es x1 p1, e] [] pos) (tD c (dGetOrT i f g)) :=
  PE.to (pe_dget2 hu hv (pe_tup h) hg m) fun σ H Q ⟨F, ρ, xx, P, rel, ⟨⟨xs0, q0⟩, q⟩, k⟩ => by
    obtain ⟨a, kvs, s1, s2, _⟩ := slot_at rel q0
    refine ⟨.ref a, s1, a, rfl, .inr ⟨kvs, .inl s2⟩, ?_⟩
    refine ⟨F, ρ, xx, _, rel, q, fun ds ρ1 vs F1 H1 q1 e1 r1 a1 => ⟨sz (by rw [a1.length]; exact q1.1), fun p hp => ?_⟩⟩
    have e2 := r1.efF (.tup vs) hp
    refine ⟨_, ρ1, xx, _, r1.newF (.tup vs) hp, q1.2, fun d0 ρ2 v0 F2 H2 ⟨ks, xs, g1, g2, g3⟩ e3 r3 a3 => ?_⟩
    obtain ⟨a', kvs', t1, t2, t3⟩ := slot_at r3 g2
    rw [s1] at t1
    cases t1
    have ev := key_vs a1 g1
    subst ev
    exact ⟨_, DGet.t t2 (r3.w.fh _ _ (e3 _ _ upd_same)), k _ ρ2 _ F2 H2 g3 ((e1.trans e2).trans e3) r3 (tat_or t3 ks a3)⟩
end
end DL
namespace Q78
open PySem L2 DL
/-- the law's numbers: some integer below the total -/
def s_next : SpD := fun as m P => ∃ n : Int, as = [.ora, .d (.int n)] ∧ 0 < n ∧ n < 1073741824 ∧ m < 1048576 ∧ ∀ i : Int, 0 ≤ i → i < n → P (.int i) (m + 1)
/-- is_integer(thing), slots 0 thing -/
def g_is_integer : SM := sRet (dAnd (dIsi "int" (hS 0)) (dNot (dIsi "bool" (hS 0))))
def r_is_integer : SpD := raw g_is_integer 1
/-- is_within(thing, least, most), slots 0 thing 1 least 2 most -/
def g_is_within : SM := sRet (dAnd (dCall 1 r_is_integer (aCons (dV 0) (aNil))) (dChain gLe gLe (hS 1) (hS 0) (hS 2)))
def r_is_within : SpD := raw g_is_within 3
/-- is_tuple(thing, least, most), slots 0 thing 1 least 2 most -/
def g_is_tuple : SM := sRet (dAnd (dIsi "tuple" (hS 0)) (dChain gLe gLe (hS 1) (hV (dCB gLen (DL.gCons (hS 0) (DL.gNil)))) (hS 2)))
def r_is_tuple : SpD := raw g_is_tuple 3
/-- is_sign(sign, lowest), slots 0 sign 1 lowest -/
def g_is_sign : SM := sRet (dAnd (dChain gLe gLe (hS 1) (hV (dCB gOrd (DL.gCons (hS 0) (DL.gNil)))) (hV (dC (.int 126)))) (d2 gNe (hV (dCB gOrd (DL.gCons (hS 0) (DL.gNil)))) (hV (dC (.int 37)))))
def r_is_sign : SpD := raw g_is_sign 2
/-- has_signs(thing, lowest), slots 0 thing 1 lowest 2 sign -/
def g_has_signs : SM := sSeq (sIf (bOr (bNot (bTruth (hV (dIsi "str" (hS 0))))) (bNot (bD (dChain gLe gLe (hV (dC (.int 1))) (hV (dCB gLen (DL.gCons (hS 0) (DL.gNil)))) (hV (dC (.int 40))))))) (sRet (dC (.bool false))) (sNo)) (sRet (dCB gAll (DL.gCons (hV (dLc (iSeq (dV 0)) (gN 2) (bYes) (dCall 2 r_is_sign (aCons (dV 2) (aCons (dV 1) (aNil)))) [2])) (DL.gNil))))
def r_has_signs : SpD := raw g_has_signs 3
/-- _is_line(thing), slots 0 thing -/
def g__is_line : SM := sRet (dAnd (dCall 2 r_has_signs (aCons (dV 0) (aCons (dC (.int 32)) (aNil)))) (dAnd (d2 gNe (hV (d2 gIx (hS 0) (hV (dC (.int 0))))) (hV (dC (.str (" " : Str))))) (d2 gNe (hV (d2 gIx (hS 0) (hV (dNeg (dC (.int 1)))))) (hV (dC (.str (" " : Str)))))))
def r__is_line : SpD := raw g__is_line 1
/-- is_text(thing), slots 0 thing 1 line -/
def g_is_text : SM := sRet (dAnd (dCall 3 r_is_tuple (aCons (dV 0) (aCons (dC (.int 1)) (aCons (dC (.int 4)) (aNil))))) (dCB gAll (DL.gCons (hV (dLc (iSeq (dV 0)) (gN 1) (bYes) (dCall 1 r__is_line (aCons (dV 1) (aNil))) [1])) (DL.gNil))))
def r_is_text : SpD := raw g_is_text 2
/-- is_cue(thing), slots 0 thing -/
def g_is_cue : SM := sSeq (sIf (bOr (bNot (bTruth (hV (dCall 3 r_is_tuple (aCons (dV 0) (aCons (dC (.int 3)) (aCons (dC (.int 3)) (aNil)))))))) (bNot (bTruth (hV (dCall 3 r_is_within (aCons (d2 gIx (hS 0) (hV (dC (.int 0)))) (aCons (dC (.int 0)) (aCons (dC (.int 1000000000000)) (aNil))))))))) (sRet (dC (.bool false))) (sNo)) (sRet (dAnd (dCall 3 r_is_within (aCons (d2 gIx (hS 0) (hV (dC (.int 1)))) (aCons (d2 gAdd (hV (d2 gIx (hS 0) (hV (dC (.int 0))))) (hV (dC (.int 1)))) (aCons (dC (.int 1000000000000)) (aNil))))) (dCall 1 r_is_text (aCons (d2 gIx (hS 0) (hV (dC (.int 2)))) (aNil)))))
def r_is_cue : SpD := raw g_is_cue 1
/-- need_file(thing), slots 0 thing 1 number 2 cue -/
def g_need_file : SM := sSeq (sIf (bNot (bTruth (hV (dCall 3 r_is_tuple (aCons (dV 0) (aCons (dC (.int 0)) (aCons (dC (.int 60)) (aNil)))))))) (sNever) (sNo)) (sSeq (sFor (iEn (lCons (dV 0) (lNil))) (gTupT 2 (gConsT (gN 1) (gConsT (gN 2) (gNoT)))) (sIf (bNot (bTruth (hV (dCall 1 r_is_cue (aCons (dV 2) (aNil)))))) (sNever) (sNo))) (sRet (dV 0)))
def r_need_file : SpD := raw g_need_file 3
def gx_need_file (px : Exn → DL.Env → Prop) : SM := sSeq (sIf (bNot (bTruth (hV (dCall 3 r_is_tuple (aCons (dV 0) (aCons (dC (.int 0)) (aCons (dC (.int 60)) (aNil)))))))) (sRaise "BadFile" (some "number") (dC .none) px) (sNo)) (sSeq (sFor (iEn (lCons (dV 0) (lNil))) (gTupT 2 (gConsT (gN 1) (gConsT (gN 2) (gNoT)))) (sIf (bNot (bTruth (hV (dCall 1 r_is_cue (aCons (dV 2) (aNil)))))) (sRaise "BadFile" (some "number") (dV 1) px) (sNo))) (sRet (dV 0)))
def rx_need_file : SpX := rawX gx_need_file 3
/-- _bounds_of(layers), slots 0 layers 1 cues 2 cue 3 frame -/
def g__bounds_of : SM := sRet (dSS (iSeq (dV 0)) (gN 1) bYes (nLoop (iSeq (dV 1)) (gN 2) bYes (nLoop (iSeq (dSl (hS 2) (oNo) (oI (dC (.int 2))))) (gN 3) bYes (nAdd (dV 3)) [3]) [2, 3]) [1, 2, 3])
def r__bounds_of : SpD := raw g__bounds_of 4
/-- joined_cues(cues), slots 0 cues 1 found 2 start 3 end 4 text -/
def g_joined_cues : SM := sSeq (sSetN 1 (dLst (lNil))) (sSeq (sFor (iSeq (dV 0)) (gTupT 3 (gConsT (gN 2) (gConsT (gN 3) (gConsT (gN 4) (gNoT))))) (sIf (bAnd (bTruth (hS 1)) (bD (d2 gEq (hV (dSl (hV (d2 gIx (hS 1) (hV (dNeg (dC (.int 1)))))) (oI (dC (.int 1))) (oNo))) (hV (dTup (lCons (dV 2) (lCons (dV 4) (lNil)))))))) (sPut 1 (dNeg (dC (.int 1))) (dTup (lCons (d2 gIx (hV (d2 gIx (hS 1) (hV (dNeg (dC (.int 1)))))) (hV (dC (.int 0)))) (lCons (dV 3) (lCons (dV 4) (lNil)))))) (sApp 1 (dTup (lCons (dV 2) (lCons (dV 3) (lCons (dV 4) (lNil)))))))) (sRet (dCB gTuple (DL.gCons (hS 1) (DL.gNil)))))
def r_joined_cues : SpD := raw g_joined_cues 5
/-- text_at(cues, frame), slots 0 cues 1 frame 2 top 3 cue -/
def g_text_at : SM := sSeq (sSet 2 (dC .none)) (sSeq (sFor (iSeq (dV 0)) (gN 3) (sIf (bAnd (bD (dChain gLe gLt (hV (d2 gIx (hS 3) (hV (dC (.int 0))))) (hS 1) (hV (d2 gIx (hS 3) (hV (dC (.int 1))))))) (bOr (bD (d2 gIs (hS 2) (hV (dC .none)))) (bD (d2 gGe (hV (d2 gIx (hS 3) (hV (dC (.int 0))))) (hV (d2 gIx (hS 2) (hV (dC (.int 0))))))))) (sSet 2 (dV 3)) (sNo))) (sSeq (sIf (bD (d2 gIs (hS 2) (hV (dC .none)))) (sRet (dC .none)) (sNo)) (sRet (d2 gIx (hS 2) (hV (dC (.int 2)))))))
def r_text_at : SpD := raw g_text_at 4
/-- _text_of_layers(layers, frame), slots 0 layers 1 frame 2 cues 3 text -/
def g__text_of_layers : SM := sSeq (sFor (iSeq (dV 0)) (gN 2) (sSeq (sSet 3 (dCall 2 r_text_at (aCons (dV 2) (aCons (dV 1) (aNil))))) (sIf (bD (d2 gIsNot (hS 3) (hV (dC .none)))) (sRet (dV 3)) (sNo)))) (sRet (dC .none))
def r__text_of_layers : SpD := raw g__text_of_layers 4
/-- flattened(layers), slots 0 layers 1 cues 2 bounds 3 start 4 end 5 text -/
def g_flattened : SM := sSeq (sSetN 1 (dLst (lNil))) (sSeq (sSet 2 (dCall 1 r__bounds_of (aCons (dV 0) (aNil)))) (sSeq (sFor (iZp (lCons (dV 2) (lCons (dSl (hS 2) (oI (dC (.int 1))) (oNo)) (lNil)))) (gTupT 2 (gConsT (gN 3) (gConsT (gN 4) (gNoT)))) (sSeq (sSet 5 (dCall 2 r__text_of_layers (aCons (dV 0) (aCons (dV 3) (aNil))))) (sIf (bD (d2 gIsNot (hS 5) (hV (dC .none)))) (sApp 1 (dTup (lCons (dV 3) (lCons (dV 4) (lCons (dV 5) (lNil)))))) (sNo)))) (sRet (dCall 1 r_joined_cues (aCons (dV 1) (aNil))))))
def r_flattened : SpD := raw g_flattened 6
/-- flat(file), slots 0 file -/
def g_flat : SM := sSeq (sExpr (dCall 1 r_need_file (aCons (dV 0) (aNil)))) (sRet (dCall 1 r_flattened (aCons (dTup (lCons (dV 0) (lNil))) (aNil))))
def r_flat : SpD := raw g_flat 1
/-- apart(one, other), slots 0 one 1 other 2 frame -/
def g_apart : SM := sSeq (sExpr (dCall 1 r_need_file (aCons (dV 0) (aNil)))) (sSeq (sExpr (dCall 1 r_need_file (aCons (dV 1) (aNil)))) (sSeq (sFor (iSeq (dCall 1 r__bounds_of (aCons (dTup (lCons (dV 0) (lCons (dV 1) (lNil)))) (aNil)))) (gN 2) (sIf (bD (d2 gNe (hV (dCall 2 r_text_at (aCons (dV 0) (aCons (dV 2) (aNil))))) (hV (dCall 2 r_text_at (aCons (dV 1) (aCons (dV 2) (aNil))))))) (sRet (dV 2)) (sNo))) (sRet (dC .none))))
def r_apart : SpD := raw g_apart 3
/-- alike(one, other), slots 0 one 1 other -/
def g_alike : SM := sRet (d2 gIs (hV (dCall 2 r_apart (aCons (dV 0) (aCons (dV 1) (aNil))))) (hV (dC .none)))
def r_alike : SpD := raw g_alike 2
/-- is_file(thing), slots 0 thing 1 cue -/
def g_is_file : SM := sRet (dAnd (dCall 3 r_is_tuple (aCons (dV 0) (aCons (dC (.int 0)) (aCons (dC (.int 60)) (aNil))))) (dCB gAll (DL.gCons (hV (dLc (iSeq (dV 0)) (gN 1) (bYes) (dCall 1 r_is_cue (aCons (dV 1) (aNil))) [1])) (DL.gNil))))
def r_is_file : SpD := raw g_is_file 2
/-- _greatest(bounds), slots 0 bounds -/
def g__greatest : SM := sSeq (sIf (bD (d2 gEq (hV (dCB gLen (DL.gCons (hS 0) (DL.gNil)))) (hV (dC (.int 0))))) (sRet (dC (.int 0))) (sNo)) (sRet (d2 gIx (hV (d2 gIx (hS 0) (hV (dC (.int 0))))) (hV (dNeg (dC (.int 1))))))
def r__greatest : SpD := raw g__greatest 1
/-- _all_partners(cues), slots 0 cues 1 partners 2 high 3 found 4 low -/
def g__all_partners : SM := sSeq (sSetN 1 (dLst (lNil))) (sSeq (sFor (iRange1 (lCons (dCB gLen (DL.gCons (hS 0) (DL.gNil))) (lNil))) (gN 2) (sSeq (sSetN 3 (dLst (lNil))) (sSeq (sSet 4 (d2 DL.gSub (hS 2) (hV (dC (.int 1))))) (sSeq (sWhile (bAnd (bD (d2 gGe (hS 4) (hV (dC (.int 0))))) (bD (d2 gEq (hV (d2 gIx (hV (d2 gIx (hS 0) (hS 4))) (hV (dC (.int 1))))) (hV (d2 gIx (hV (d2 gIx (hS 0) (hV (d2 gAdd (hS 4) (hV (dC (.int 1))))))) (hV (dC (.int 0)))))))) (sSeq (sIf (bD (d2 gEq (hV (d2 gIx (hV (d2 gIx (hS 0) (hS 4))) (hV (dC (.int 2))))) (hV (d2 gIx (hV (d2 gIx (hS 0) (hS 2))) (hV (dC (.int 2))))))) (sApp 3 (dV 4)) (sNo)) (sAug 4 gIsub (hV (dC (.int 1)))))) (sApp 1 (dV 3)))))) (sRet (dV 1)))
def r__all_partners : SpD := raw g__all_partners 5
/-- _joined(bounds, low, partner, high), slots 0 bounds 1 low 2 partner 3 high 4 many -/
def g__joined : SM := sSeq (sSet 4 (d2 gIx (hV (d2 gIx (hS 0) (hS 1))) (hV (d2 DL.gSub (hS 2) (hS 1))))) (sSeq (sIf (bD (d2 gLt (hV (d2 gAdd (hS 2) (hV (dC (.int 1))))) (hS 3))) (sAug 4 gIadd (hV (d2 gIx (hV (d2 gIx (hS 0) (hV (d2 gAdd (hS 2) (hV (dC (.int 1))))))) (hV (d2 DL.gSub (hV (d2 DL.gSub (hS 3) (hS 2))) (hV (dC (.int 2)))))))) (sNo)) (sRet (dV 4)))
def r__joined : SpD := raw g__joined 5
/-- _most_of(bounds, partners, low, high), slots 0 bounds 1 partners 2 low 3 high 4 joined 5 partner -/
def g__most_of : SM := sSeq (sIf (bD (d2 gEq (hS 2) (hS 3))) (sRet (dC (.int 1))) (sNo)) (sSeq (sSet 4 (dLc (iSeq (dV 1)) (gN 5) (bD (d2 gGe (hS 5) (hS 2))) (dCall 4 r__joined (aCons (dV 0) (aCons (dV 2) (aCons (dV 5) (aCons (dV 3) (aNil)))))) [5])) (sRet (dCB gMin (DL.gCons (hV (dLst (lCons (d2 gAdd (hV (d2 gIx (hV (d2 gIx (hS 0) (hS 2))) (hV (d2 DL.gSub (hV (d2 DL.gSub (hS 3) (hV (dC (.int 1))))) (hS 2))))) (hV (dC (.int 1)))) (lStarL (dV 4) (lNil))))) (DL.gNil)))))
def r__most_of : SpD := raw g__most_of 6
def s__best_bounds : SpD := sBB r__all_partners r__most_of
/-- fewest(file), slots 0 file -/
def g_fewest : SM := sRet (dCall 1 r__greatest (aCons (dCall 1 s__best_bounds (aCons (dCall 1 r_flat (aCons (dV 0) (aNil))) (aNil))) (aNil)))
def r_fewest : SpD := raw g_fewest 1
/-- _strokes(cues, goes_on), slots 0 cues 1 goes_on 2 ends 3 strokes 4 place 5 cue -/
def g__strokes : SM := sSeq (sSetN 2 (dLc (iSeq (dV 0)) (gN 5) (bYes) (d2 gIx (hS 5) (hV (dC (.int 1)))) [5])) (sSeq (sSetN 3 (dLst (lNil))) (sSeq (sFor (iRev1 (dCB gLen (DL.gCons (hS 0) (DL.gNil)))) (gN 4) (sIf (bD (d2 gIs (hV (d2 gIx (hS 1) (hS 4))) (hV (dC .none)))) (sApp 3 (dTup (lCons (d2 gIx (hV (d2 gIx (hS 0) (hS 4))) (hV (dC (.int 0)))) (lCons (d2 gIx (hS 2) (hS 4)) (lCons (d2 gIx (hV (d2 gIx (hS 0) (hS 4))) (hV (dC (.int 2)))) (lNil)))))) (sPut 2 (d2 gIx (hS 1) (hS 4)) (d2 gIx (hS 2) (hS 4))))) (sRet (dCB gTuple (DL.gCons (hV (dRev (hS 3))) (DL.gNil))))))
def r__strokes : SpD := raw g__strokes 6
/-- _partner_in(bounds, partners, low, high), slots 0 bounds 1 partners 2 low 3 high 4 partner -/
def g__partner_in : SM := sSeq (sFor (iSeq (dV 1)) (gN 4) (sIf (bAnd (bD (d2 gGe (hS 4) (hS 2))) (bD (d2 gEq (hV (dCall 4 r__joined (aCons (dV 0) (aCons (dV 2) (aCons (dV 4) (aCons (dV 3) (aNil))))))) (hV (d2 gIx (hV (d2 gIx (hS 0) (hS 2))) (hV (d2 DL.gSub (hS 3) (hS 2)))))))) (sRet (dV 4)) (sNo))) (sRet (dC .none))
def r__partner_in : SpD := raw g__partner_in 5
/-- _file_of(cues, bounds), slots 0 cues 1 bounds 2 partners 3 goes_on 4 ranges 5 low 6 high 7 partner -/
def g__file_of : SM := sSeq (sSet 2 (dCall 1 r__all_partners (aCons (dV 0) (aNil)))) (sSeq (sSetN 3 (dRep (dLst (lCons (dC .none) (lNil))) (dCB gLen (DL.gCons (hS 0) (DL.gNil))))) (sSeq (sSetN 4 (dLst (lCons (dTup (lCons (dC (.int 0)) (lCons (d2 DL.gSub (hV (dCB gLen (DL.gCons (hS 0) (DL.gNil)))) (hV (dC (.int 1)))) (lNil)))) (lNil)))) (sSeq (sWhile (bTruth (hS 4)) (sSeq (sAsg (dPop 4) (gTupT 2 (gConsT (gN 5) (gConsT (gN 6) (gNoT))))) (sIf (bD (d2 gLe (hS 5) (hS 6))) (sSeq (sSet 7 (dCall 4 r__partner_in (aCons (dV 1) (aCons (d2 gIx (hS 2) (hS 6)) (aCons (dV 5) (aCons (dV 6) (aNil))))))) (sSeq (sPut 3 (dV 6) (dV 7)) (sIf (bD (d2 gIs (hS 7) (hV (dC .none)))) (sApp 4 (dTup (lCons (dV 5) (lCons (d2 DL.gSub (hS 6) (hV (dC (.int 1)))) (lNil))))) (sSeq (sApp 4 (dTup (lCons (dV 5) (lCons (dV 7) (lNil))))) (sApp 4 (dTup (lCons (d2 gAdd (hS 7) (hV (dC (.int 1)))) (lCons (d2 DL.gSub (hS 6) (hV (dC (.int 1)))) (lNil))))))))) (sNo)))) (sRet (dCall 2 r__strokes (aCons (dV 0) (aCons (dV 3) (aNil))))))))
def r__file_of : SpD := raw g__file_of 8
/-- fewest_file(file), slots 0 file 1 cues -/
def g_fewest_file : SM := sSeq (sSet 1 (dCall 1 r_flat (aCons (dV 0) (aNil)))) (sRet (dCall 2 r__file_of (aCons (dV 1) (aCons (dCall 1 s__best_bounds (aCons (dV 1) (aNil))) (aNil)))))
def r_fewest_file : SpD := raw g_fewest_file 2
/-- strokes_paper(file), slots 0 file 1 cues 2 bounds 3 row -/
def g_strokes_paper : SM := sSeq (sSet 1 (dCall 1 r_flat (aCons (dV 0) (aNil)))) (sSeq (sSet 2 (dCall 1 s__best_bounds (aCons (dV 1) (aNil)))) (sRet (dTup (lCons (dCall 2 r__file_of (aCons (dV 1) (aCons (dV 2) (aNil)))) (lCons (dCB gTuple (DL.gCons (hV (dLc (iSeq (dV 2)) (gN 3) (bYes) (dCB gTuple (DL.gCons (hS 3) (DL.gNil))) [3])) (DL.gNil))) (lNil))))))
def r_strokes_paper : SpD := raw g_strokes_paper 4
/-- _is_row(bounds, partners, low), slots 0 bounds 1 partners 2 low 3 place 4 bound -/
def g__is_row : SM := sSeq (sFor (iEn (lCons (d2 gIx (hS 0) (hS 2)) (lNil))) (gTupT 2 (gConsT (gN 3) (gConsT (gN 4) (gNoT)))) (sIf (bD (d2 gGt (hS 4) (hV (dCall 4 r__most_of (aCons (dV 0) (aCons (d2 gIx (hS 1) (hV (d2 gAdd (hS 2) (hS 3)))) (aCons (dV 2) (aCons (d2 gAdd (hS 2) (hS 3)) (aNil))))))))) (sRet (dC (.bool false))) (sNo))) (sRet (dC (.bool true)))
def r__is_row : SpD := raw g__is_row 5
/-- _are_bounds(cues, thing), slots 0 cues 1 thing 2 partners 3 low 4 row 5 wide 6 bound -/
def g__are_bounds : SM := sSeq (sIf (bNot (bTruth (hV (dCall 3 r_is_tuple (aCons (dV 1) (aCons (dCB gLen (DL.gCons (hS 0) (DL.gNil))) (aCons (dCB gLen (DL.gCons (hS 0) (DL.gNil))) (aNil)))))))) (sRet (dC (.bool false))) (sNo)) (sSeq (sFor (iEn (lCons (dV 1) (lNil))) (gTupT 2 (gConsT (gN 3) (gConsT (gN 4) (gNoT)))) (sSeq (sSet 5 (d2 DL.gSub (hV (dCB gLen (DL.gCons (hS 0) (DL.gNil)))) (hS 3))) (sIf (bOr (bNot (bTruth (hV (dCall 3 r_is_tuple (aCons (dV 4) (aCons (dV 5) (aCons (dV 5) (aNil)))))))) (bNot (bTruth (hV (dCB gAll (DL.gCons (hV (dLc (iSeq (dV 4)) (gN 6) (bYes) (dCall 1 r_is_integer (aCons (dV 6) (aNil))) [6])) (DL.gNil))))))) (sRet (dC (.bool false))) (sNo)))) (sSeq (sSet 2 (dCall 1 r__all_partners (aCons (dV 0) (aNil)))) (sRet (dCB gAll (DL.gCons (hV (dLc (iRange1 (lCons (dCB gLen (DL.gCons (hS 0) (DL.gNil))) (lNil))) (gN 3) (bYes) (dCall 3 r__is_row (aCons (dV 1) (aCons (dV 2) (aCons (dV 3) (aNil))))) [3])) (DL.gNil))))))
def r__are_bounds : SpD := raw g__are_bounds 7
/-- check_strokes(file, paper), slots 0 file 1 paper 2 found 3 bounds -/
def g_check_strokes : SM := sSeq (sExpr (dCall 1 r_need_file (aCons (dV 0) (aNil)))) (sSeq (sIf (bNot (bTruth (hV (dCall 3 r_is_tuple (aCons (dV 1) (aCons (dC (.int 2)) (aCons (dC (.int 2)) (aNil)))))))) (sNever) (sNo)) (sSeq (sAsg (dV 1) (gTupT 2 (gConsT (gN 2) (gConsT (gN 3) (gNoT))))) (sSeq (sIf (bOr (bNot (bTruth (hV (dCall 1 r_is_file (aCons (dV 2) (aNil)))))) (bD (d2 gIsNot (hV (dCall 2 r_apart (aCons (dV 2) (aCons (dV 0) (aNil))))) (hV (dC .none))))) (sNever) (sNo)) (sSeq (sIf (bOr (bNot (bTruth (hV (dCall 2 r__are_bounds (aCons (dCall 1 r_flat (aCons (dV 0) (aNil))) (aCons (dV 3) (aNil))))))) (bD (d2 gNe (hV (dCall 1 r__greatest (aCons (dV 3) (aNil)))) (hV (dCB gLen (DL.gCons (hS 2) (DL.gNil))))))) (sNever) (sNo)) (sRet (dCB gLen (DL.gCons (hS 2) (DL.gNil))))))))
def r_check_strokes : SpD := raw g_check_strokes 4
def gx_check_strokes (px : Exn → DL.Env → Prop) : SM := sSeq (sExpr (dCallX 1 rx_need_file px (aCons (dV 0) (aNil)))) (sSeq (sIf (bNot (bTruth (hV (dCall 3 r_is_tuple (aCons (dV 1) (aCons (dC (.int 2)) (aCons (dC (.int 2)) (aNil)))))))) (sRaise "BadPaper" (some "part") (dC (.str ("form" : Str))) px) (sNo)) (sSeq (sAsg (dV 1) (gTupT 2 (gConsT (gN 2) (gConsT (gN 3) (gNoT))))) (sSeq (sIf (bOr (bNot (bTruth (hV (dCall 1 r_is_file (aCons (dV 2) (aNil)))))) (bD (d2 gIsNot (hV (dCall 2 r_apart (aCons (dV 2) (aCons (dV 0) (aNil))))) (hV (dC .none))))) (sRaise "BadPaper" (some "part") (dC (.str ("file" : Str))) px) (sNo)) (sSeq (sIf (bOr (bNot (bTruth (hV (dCall 2 r__are_bounds (aCons (dCall 1 r_flat (aCons (dV 0) (aNil))) (aCons (dV 3) (aNil))))))) (bD (d2 gNe (hV (dCall 1 r__greatest (aCons (dV 3) (aNil)))) (hV (dCB gLen (DL.gCons (hS 2) (DL.gNil))))))) (sRaise "BadPaper" (some "part") (dC (.str ("bounds" : Str))) px) (sNo)) (sRet (dCB gLen (DL.gCons (hS 2) (DL.gNil))))))))
def rx_check_strokes : SpX := rawX gx_check_strokes 4
/-- _law_mix(_law_cell, _law_spot), slots 0 _law_cell 1 _law_spot 2 _law_first 3 _law_second -/
def g__law_mix : SM := sSeq (sSet 2 (d2 gMod (hV (dCB gInt (DL.gCons (hV (d2 gAdd (hV (d2 gAdd (hV (d2 gMul (hS 0) (hV (dC (.int 40503))))) (hV (d2 gMul (hS 1) (hV (dC (.int 69069))))))) (hV (dC (.int 12345))))) (DL.gNil)))) (hV (dC (.int 2147483647))))) (sSeq (sSet 3 (d2 gMod (hV (dCB gInt (DL.gCons (hV (d2 gAdd (hV (d2 gAdd (hV (d2 gMul (hS 2) (hV (dC (.int 48271))))) (hS 0))) (hS 1))) (DL.gNil)))) (hV (dC (.int 2147483647))))) (sRet (d2 gMod (hV (dCB gInt (DL.gCons (hV (d2 gAdd (hV (d2 gMul (hS 3) (hV (dC (.int 16807))))) (hV (d2 gMul (hV (d2 gMul (hS 1) (hS 1))) (hV (dC (.int 7919))))))) (DL.gNil)))) (hV (dC (.int 2147483647))))))
def r__law_mix : SpD := raw g__law_mix 4
/-- _law_text(_law_m), slots 0 _law_m -/
def g__law_text : SM := sRet (d2 gIx (hV (dLst (lCons (dTup (lCons (dC (.str ("a" : Str))) (lNil))) (lCons (dTup (lCons (dC (.str ("b" : Str))) (lNil))) (lCons (dTup (lCons (dC (.str ("c" : Str))) (lNil))) (lCons (dTup (lCons (dC (.str ("a" : Str))) (lCons (dC (.str ("b" : Str))) (lNil)))) (lCons (dTup (lCons (dC (.str ("d d" : Str))) (lNil))) (lNil)))))))) (hV (dCallO 0 2 s_next (aOra 0 (aCons (dC (.int 5)) (aNil))))))
def r__law_text : SpD := raw g__law_text 1
/-- _law_strokes(_law_m, _law_most), slots 0 _law_m 1 _law_most 2 _law_found 3 _law_todo 4 _law_low 5 _law_high 6 _law_rows 7 _law_rest 8 _law_begin 9 _law_end 10 _law_one -/
def g__law_strokes : SM := sSeq (sParNN 2 3 (dLst (lNil)) (dLst (lCons (dTup (lCons (dCallO 0 2 s_next (aOra 0 (aCons (dC (.int 5)) (aNil)))) (lCons (d2 gAdd (hV (dC (.int 12))) (hV (dCallO 0 2 s_next (aOra 0 (aCons (dC (.int 40)) (aNil)))))) (lNil)))) (lNil)))) (sSeq (sWhile (bAnd (bD (d2 gNe (hS 3) (hV (dLst (lNil))))) (bD (d2 gLt (hV (dCB gLen (DL.gCons (hS 2) (DL.gNil)))) (hS 1)))) (sSeq (sAsg (dPopA 3 (dCallO 0 2 s_next (aOra 0 (aCons (dCB gLen (DL.gCons (hS 3) (DL.gNil))) (aNil))))) (gTupT 2 (gConsT (gN 8) (gConsT (gN 9) (gNoT))))) (sSeq (sSet 4 (d2 gAdd (hS 8) (hV (dCallO 0 2 s_next (aOra 0 (aCons (dCB gMin (DL.gCons (hV (dC (.int 4))) (DL.gCons (hV (d2 DL.gSub (hS 9) (hS 8))) (DL.gNil)))) (aNil))))))) (sSeq (sSet 5 (d2 gAdd (hV (d2 gAdd (hS 4) (hV (dC (.int 1))))) (hV (dCallO 0 2 s_next (aOra 0 (aCons (d2 DL.gSub (hS 9) (hS 4)) (aNil))))))) (sSeq (sApp 2 (dTup (lCons (dV 4) (lCons (dV 5) (lCons (dCallO 0 1 r__law_text (aOra 0 (aNil))) (lNil)))))) (sSetN 3 (dCat (hS 3) (hV (dLc (iSeq (dLst (lCons (dTup (lCons (d2 gAdd (hS 4) (hV (dC (.int 1)))) (lCons (dV 5) (lNil)))) (lCons (dTup (lCons (dV 5) (lCons (dV 9) (lNil)))) (lCons (dTup (lCons (d2 gAdd (hS 4) (hV (dC (.int 1)))) (lCons (dV 5) (lNil)))) (lNil)))))) (gN 10) (bD (d2 gGt (hV (d2 gIx (hS 10) (hV (dC (.int 1))))) (hV (d2 gAdd (hV (d2 gIx (hS 10) (hV (dC (.int 0))))) (hV (dC (.int 1))))))) (dV 10) [10]))))))))) (sSeq (sParNN 6 7 (dLst (lNil)) (dLstRg1 (dCB gLen (DL.gCons (hS 2) (DL.gNil))))) (sSeq (sWhile (bD (d2 gNe (hS 7) (hV (dLst (lNil))))) (sApp 6 (d2 gIx (hS 2) (hV (dPopA 7 (dCallO 0 2 s_next (aOra 0 (aCons (dCB gLen (DL.gCons (hS 7) (DL.gNil))) (aNil))))))))) (sRet (dCB gTuple (DL.gCons (hS 6) (DL.gNil)))))))
def r__law_strokes : SpD := raw g__law_strokes 11
/-- _law_seen(_law_file_so, _law_spot), slots 0 _law_file_so 1 _law_spot 2 _law_chosen 3 _law_begin 4 _law_end 5 _law_text_here -/
def g__law_seen : SM := sSeq (sSet 2 (dC .none)) (sSeq (sFor (iSeq (dV 0)) (gTupT 3 (gConsT (gN 3) (gConsT (gN 4) (gConsT (gN 5) (gNoT))))) (sIf (bAnd (bD (d2 gLe (hS 3) (hS 1))) (bAnd (bD (d2 gLt (hS 1) (hS 4))) (bOr (bD (d2 gIs (hS 2) (hV (dC .none)))) (bD (d2 gGe (hS 3) (hV (d2 gIx (hS 2) (hV (dC (.int 0)))))))))) (sSet 2 (dTup (lCons (dV 3) (lCons (dV 5) (lNil))))) (sNo))) (sRet (dIf (bD (d2 gIsNot (hS 2) (hV (dC .none)))) (d2 gIx (hS 2) (hV (dC (.int 1)))) (dC .none))))
def r__law_seen : SpD := raw g__law_seen 6
/-- _law_flatted(_law_file_so), slots 0 _law_file_so 1 _law_marks 2 _law_k 3 _law_found 4 _law_begin 5 _law_end 6 _law_text_here 7 _law_mark -/
def g__law_flatted : SM := sSeq (sParIN 1 3 (dLst (lNil)) (dLst (lNil))) (sSeq (sFor (iSeq (dV 0)) (gTupT 3 (gConsT (gN 4) (gConsT (gN 5) (gConsT (gN 6) (gNoT))))) (sSet 1 (d2 gAdd (hS 1) (hV (dLc (iSeq (dTup (lCons (dV 4) (lCons (dV 5) (lNil))))) (gN 7) (bD (d2 gNotIn (hS 7) (hS 1))) (dV 7) [7]))))) (sSeq (sSet 1 (dCB gSorted (DL.gCons (hS 1) (DL.gNil)))) (sSeq (sFor (iRange1 (lCons (d2 DL.gSub (hV (dCB gLen (DL.gCons (hS 1) (DL.gNil)))) (hV (dC (.int 1)))) (lNil))) (gN 2) (sSeq (sSet 6 (dCall 2 r__law_seen (aCons (dV 0) (aCons (d2 gIx (hS 1) (hS 2)) (aNil))))) (sIf (bD (d2 gIsNot (hS 6) (hV (dC .none)))) (sIf (bAnd (bD (d2 gNe (hS 3) (hV (dLst (lNil))))) (bAnd (bD (d2 gEq (hV (d2 gIx (hV (d2 gIx (hS 3) (hV (dNeg (dC (.int 1)))))) (hV (dC (.int 1))))) (hV (d2 gIx (hS 1) (hS 2))))) (bD (d2 gEq (hV (d2 gIx (hV (d2 gIx (hS 3) (hV (dNeg (dC (.int 1)))))) (hV (dC (.int 2))))) (hS 6))))) (sPut 3 (dNeg (dC (.int 1))) (dTup (lCons (d2 gIx (hV (d2 gIx (hS 3) (hV (dNeg (dC (.int 1)))))) (hV (dC (.int 0)))) (lCons (d2 gIx (hS 1) (hV (d2 gAdd (hS 2) (hV (dC (.int 1)))))) (lCons (dV 6) (lNil)))))) (sApp 3 (dTup (lCons (d2 gIx (hS 1) (hS 2)) (lCons (d2 gIx (hS 1) (hV (d2 gAdd (hS 2) (hV (dC (.int 1)))))) (lCons (dV 6) (lNil))))))) (sNo)))) (sRet (dCB gTuple (DL.gCons (hS 3) (DL.gNil)))))))
def r__law_flatted : SpD := raw g__law_flatted 8
/-- _law_least(_law_rows), slots 0 _law_rows 1 _law_table 2 _law_size 3 _law_i 4 _law_j 5 _law_k 6 _law_chosen 7 _law_tied -/
def g__law_least : SM := sSeq (sSetN 1 (dNewT)) (sSeq (sFor (iRange2 (lCons (dC (.int 1)) (lCons (d2 gAdd (hV (dCB gLen (DL.gCons (hS 0) (DL.gNil)))) (hV (dC (.int 1)))) (lNil)))) (gN 2) (sFor (iRange1 (lCons (d2 gAdd (hV (d2 DL.gSub (hV (dCB gLen (DL.gCons (hS 0) (DL.gNil)))) (hS 2))) (hV (dC (.int 1)))) (lNil))) (gN 3) (sSeq (sSet 4 (d2 DL.gSub (hV (d2 gAdd (hS 3) (hS 2))) (hV (dC (.int 1))))) (sSeq (sPar 6 7 (lCons (d2 gAdd (hV (dGetOrT 1 (lCons (dV 3) (lCons (d2 DL.gSub (hS 4) (hV (dC (.int 1)))) (lNil))) (dC (.int 0)))) (hV (dC (.int 1)))) (lCons (dC (.bool true)) (lNil)))) (sSeq (sFor (iRangeDn (lCons (d2 DL.gSub (hS 4) (hV (dC (.int 1)))) (lCons (d2 DL.gSub (hS 3) (hV (dC (.int 1)))) (lCons (d2 DL.gSub (hV (dC (.int 0))) (hV (dC (.int 1)))) (lNil))))) (gN 5) (sSeq (sSet 7 (dAnd (dV 7) (d2 gEq (hV (d2 gIx (hV (d2 gIx (hS 0) (hS 5))) (hV (dC (.int 1))))) (hV (d2 gIx (hV (d2 gIx (hS 0) (hV (d2 gAdd (hS 5) (hV (dC (.int 1))))))) (hV (dC (.int 0)))))))) (sIf (bAnd (bTruth (hS 7)) (bD (d2 gEq (hV (d2 gIx (hV (d2 gIx (hS 0) (hS 5))) (hV (dC (.int 2))))) (hV (d2 gIx (hV (d2 gIx (hS 0) (hS 4))) (hV (dC (.int 2)))))))) (sSet 6 (dCB gMin (DL.gCons (hS 6) (DL.gCons (hV (d2 gAdd (hV (dGetT 1 (lCons (dV 3) (lCons (dV 5) (lNil))))) (hV (dGetOrT 1 (lCons (d2 gAdd (hS 5) (hV (dC (.int 1)))) (lCons (d2 DL.gSub (hS 4) (hV (dC (.int 1)))) (lNil))) (dC (.int 0)))))) (DL.gNil))))) (sNo)))) (sPutT 1 (lCons (dV 3) (lCons (dV 4) (lNil))) (dV 6))))))) (sRet (dV 1)))
def r__law_least : SpD := raw g__law_least 8
/-- _law_borders(_law_rows), slots 0 _law_rows 1 _law_found 2 _law_many 3 _law_k 4 _law_row -/
def g__law_borders : SM := sSeq (sAsg (dTup (lCons (dC (.int 0)) (lCons (dC (.int 0)) (lNil)))) (gTupT 2 (gConsT (gN 1) (gConsT (gN 2) (gNoT))))) (sSeq (sFor (iEn (lCons (dV 0) (lNil))) (gTupT 2 (gConsT (gN 3) (gConsT (gN 4) (gNoT)))) (sSeq (sSet 2 (d2 gAdd (hS 2) (hV (dC (.int 1))))) (sIf (bOr (bD (d2 gEq (hV (d2 gAdd (hS 3) (hV (dC (.int 1))))) (hV (dCB gLen (DL.gCons (hS 0) (DL.gNil)))))) (bD (d2 gNe (hV (d2 gIx (hV (d2 gIx (hS 0) (hV (d2 gAdd (hS 3) (hV (dC (.int 1))))))) (hV (dC (.int 0))))) (hV (d2 gIx (hS 4) (hV (dC (.int 1)))))))) (sPar 1 2 (lCons (d2 gAdd (hS 1) (hV (d2 gDiv (hV (d2 gAdd (hS 2) (hV (dC (.int 2))))) (hV (dC (.int 2)))))) (lCons (dC (.int 0)) (lNil)))) (sNo)))) (sRet (dV 1)))
def r__law_borders : SpD := raw g__law_borders 5
/-- _law_refused(_law_file_so, _law_paper), slots 0 _law_file_so 1 _law_paper 2 e 3 _law_part 4 _law_found -/
def g__law_refused : SM := sSeq (sAsg (dTup (lCons (dC .none) (lCons (dC .none) (lNil)))) (gTupT 2 (gConsT (gN 3) (gConsT (gN 4) (gNoT))))) (sSeq (sTryF "BadPaper" "part" 2 3 (fun y => y) (fun px => sSet 4 (dCallX 2 rx_check_strokes px (aCons (dV 0) (aCons (dV 1) (aNil)))))) (sRet (dIf (bD (d2 gIs (hS 4) (hV (dC .none)))) (dV 3) (dC .none))))
def r__law_refused : SpD := raw g__law_refused 5
/-- _law_right(_law_file_so), slots 0 _law_file_so 1 _law_rows 2 _law_table 3 _law_bounds 4 _law_paper 5 _law_more 6 _law_due 7 _law_told 8 _law_i 9 _law_j -/
def g__law_right : SM := sSeq (sSet 1 (dCall 1 r__law_flatted (aCons (dV 0) (aNil)))) (sSeq (sSet 2 (dCall 1 r__law_least (aCons (dV 1) (aNil)))) (sSeq (sPar 6 7 (lCons (dGetOrT 2 (lCons (dC (.int 0)) (lCons (d2 DL.gSub (hV (dCB gLen (DL.gCons (hS 1) (DL.gNil)))) (hV (dC (.int 1)))) (lNil))) (dC (.int 0))) (lCons (dCall 1 r_fewest_file (aCons (dV 0) (aNil))) (lNil)))) (sSeq (sIf (bOr (bD (d2 gNeS (hV (dCB gReprA (DL.gCons (hV (dCall 1 r_flat (aCons (dV 0) (aNil)))) (DL.gNil)))) (hV (dCB gReprA (DL.gCons (hS 1) (DL.gNil)))))) (bOr (bD (d2 gNe (hV (dCall 1 r_fewest (aCons (dV 0) (aNil)))) (hS 6))) (bD (d2 gNe (hV (dCall 1 r_fewest (aCons (dV 0) (aNil)))) (hS 6))))) (sRet (dC (.bool false))) (sNo)) (sSeq (sIf (bOr (bD (d2 gGt (hS 6) (hV (dCB gLen (DL.gCons (hS 0) (DL.gNil)))))) (bOr (bD (d2 gLt (hS 6) (hV (dCall 1 r__law_borders (aCons (dV 1) (aNil)))))) (bD (d2 gNe (hV (dCB gLen (DL.gCons (hS 7) (DL.gNil)))) (hS 6))))) (sRet (dC (.bool false))) (sNo)) (sSeq (sIf (bOr (bD (d2 gNe (hV (dCall 1 r__law_flatted (aCons (dV 7) (aNil)))) (hS 1))) (bOr (bD (d2 gNotB (hV (dCall 2 r_alike (aCons (dV 7) (aCons (dV 0) (aNil))))) (hV (dC (.bool true))))) (bD (d2 gNe (hV (dCall 1 r_fewest_file (aCons (dV 0) (aNil)))) (hS 7))))) (sRet (dC (.bool false))) (sNo)) (sSeq (sSet 3 (dCB gTuple (DL.gCons (hV (dLc (iRange1 (lCons (dCB gLen (DL.gCons (hS 1) (DL.gNil))) (lNil))) (gN 8) (bYes) (dCB gTuple (DL.gCons (hV (dLc (iRange2 (lCons (dV 8) (lCons (dCB gLen (DL.gCons (hS 1) (DL.gNil))) (lNil)))) (gN 9) (bYes) (dGetT 2 (lCons (dV 8) (lCons (dV 9) (lNil)))) [9])) (DL.gNil))) [8])) (DL.gNil)))) (sSeq (sSet 4 (dCall 1 r_strokes_paper (aCons (dV 0) (aNil)))) (sSeq (sIf (bOr (bD (d2 gNe (hV (dCall 2 r_check_strokes (aCons (dV 0) (aCons (dV 4) (aNil))))) (hS 6))) (bD (d2 gNe (hV (dCall 2 r_check_strokes (aCons (dV 0) (aCons (dTup (lCons (dV 7) (lCons (dV 3) (lNil)))) (aNil))))) (hS 6)))) (sRet (dC (.bool false))) (sNo)) (sSeq (sIf (bD (d2 gEq (hS 1) (hV (dTup (lNil))))) (sRet (d2 gEq (hV (dCall 2 r__law_refused (aCons (dV 0) (aCons (dTup (lCons (dTup (lNil)) (lCons (dTup (lCons (dTup (lCons (dC (.int 1)) (lNil))) (lNil))) (lNil)))) (aNil))))) (hV (dC (.str ("bounds" : Str)))))) (sNo)) (sSeq (sSet 5 (d2 gAdd (hV (dSl (hS 3) (oNo) (oI (dNeg (dC (.int 1)))))) (hV (dTup (lCons (dTup (lCons (d2 gAdd (hV (d2 gIx (hV (d2 gIx (hS 3) (hV (dNeg (dC (.int 1)))))) (hV (dC (.int 0))))) (hV (dC (.int 1)))) (lNil))) (lNil)))))) (sSeq (sIf (bD (d2 gNe (hV (dCall 2 r__law_refused (aCons (dV 0) (aCons (dTup (lCons (dV 7) (lCons (dV 5) (lNil)))) (aNil))))) (hV (dC (.str ("bounds" : Str)))))) (sRet (dC (.bool false))) (sNo)) (sRet (dOr (d2 gEq (hS 6) (hV (dCB gLen (DL.gCons (hS 1) (DL.gNil))))) (d2 gInU (hV (dCall 2 r__law_refused (aCons (dV 0) (aCons (dTup (lCons (dV 1) (lCons (dV 3) (lNil)))) (aNil))))) (hV (dTup (lCons (dC (.str ("file" : Str))) (lCons (dC (.str ("bounds" : Str))) (lNil)))))))))))))))))))
def r__law_right : SpD := raw g__law_right 10
/-- law behind its first row, slots 0 _law_script 1 _law_m 2 _law_turn 3 _law_k 4 _law_size 5 _law_over 6 _law_apart_so -/
def g_law : SM := sSeq (sFor (iRange1 (lCons (d2 gAdd (hV (dC (.int 4))) (hV (dCB gMin (DL.gCons (hV (dC (.int 8))) (DL.gCons (hV (dCB gLen (DL.gCons (hS 0) (DL.gNil)))) (DL.gNil)))))) (lNil))) (gN 2) (sIf (bNot (bTruth (hV (dCall 1 r__law_right (aCons (dCallO 1 2 r__law_strokes (aOra 1 (aCons (dCallO 1 2 s_next (aOra 1 (aCons (dC (.int 9)) (aNil)))) (aNil)))) (aNil)))))) (sRet (dC (.bool false))) (sNo))) (sSeq (sParINN 4 5 6 (d2 gAdd (hV (dC (.int 1))) (hV (dCallO 1 2 s_next (aOra 1 (aCons (dC (.int 6)) (aNil)))))) (dLst (lCons (dTup (lCons (dC (.int 0)) (lCons (dC (.int 40)) (lCons (dTup (lCons (dC (.str ("a" : Str))) (lNil))) (lNil))))) (lNil))) (dLst (lNil))) (sSeq (sFor (iRange1 (lCons (dV 4) (lNil))) (gN 3) (sSeq (sApp 5 (dTup (lCons (d2 gAdd (hV (dC (.int 3))) (hV (d2 gMul (hV (dC (.int 6))) (hS 3)))) (lCons (d2 gAdd (hV (dC (.int 6))) (hV (d2 gMul (hV (dC (.int 6))) (hS 3)))) (lCons (dTup (lCons (d2 gIx (hV (dC (.str ("bcdefgh" : Str)))) (hS 3)) (lNil))) (lNil)))))) (sApp 6 (dTup (lCons (d2 gMul (hV (dC (.int 6))) (hS 3)) (lCons (d2 gAdd (hV (d2 gMul (hV (dC (.int 6))) (hS 3))) (hV (dC (.int 6)))) (lCons (dTup (lCons (d2 gIx (hV (dC (.str ("bcdefgh" : Str)))) (hS 3)) (lNil))) (lNil)))))))) (sSeq (sIf (bOr (bD (d2 gNe (hV (dCall 1 r_fewest (aCons (dCB gTuple (DL.gCons (hS 5) (DL.gNil))) (aNil)))) (hV (d2 gAdd (hS 4) (hV (dC (.int 1))))))) (bD (d2 gNe (hV (dCB gLen (DL.gCons (hV (dCall 1 r_flat (aCons (dCB gTuple (DL.gCons (hS 5) (DL.gNil))) (aNil)))) (DL.gNil)))) (hV (d2 gAdd (hV (d2 gMul (hV (dC (.int 2))) (hS 4))) (hV (dC (.int 1)))))))) (sRet (dC (.bool false))) (sNo)) (sRet (dAnd (d2 gEq (hV (dCall 1 r_fewest (aCons (dCB gTuple (DL.gCons (hS 6) (DL.gNil))) (aNil)))) (hS 4)) (dAnd (dCall 1 r__law_right (aCons (dCB gTuple (DL.gCons (hS 5) (DL.gNil))) (aNil))) (dCall 1 r__law_right (aCons (dCB gTuple (DL.gCons (hS 6) (DL.gNil))) (aNil)))))))))
def lawSays (ns : List Int) : Prop := g_law ⟨fun _ => False, fun d _ => d = .bool true, fun _ => False, fun _ => False⟩ [.im (.list (ns.map PyData.int)), .ora 0, .no, .no, .no, .no, .no]
end Q78
namespace Q78
open PySem L2 DL
def topS (i : Nat) : Stmt := PySem.Challenge.pw_captionhouse_k78_whole_fewest_cues_of_fi.main.body.getD i (.Pass ⟨0, 0, 0, 0⟩)
structure Tx (K : PySem.W.Frag) (gl : Str → Option Value) : Prop where
  n_ValueError : gl "ValueError" = none
  n_all : gl "all" = none
  n_bool : gl "bool" = none
  n_enumerate : gl "enumerate" = none
  n_int : gl "int" = none
  n_isinstance : gl "isinstance" = none
  n_len : gl "len" = none
  n_list : gl "list" = none
  n_min : gl "min" = none
  n_ord : gl "ord" = none
  n_range : gl "range" = none
  n_repr : gl "repr" = none
  n_reversed : gl "reversed" = none
  n_sorted : gl "sorted" = none
  n_str : gl "str" = none
  n_tuple : gl "tuple" = none
  n_zip : gl "zip" = none
  c_LOWEST_OF_LINES : ∃ t, gl "LOWEST_OF_LINES" = some (.int 32 t)
  c_MOST_CUES : ∃ t, gl "MOST_CUES" = some (.int 60 t)
  c_MOST_FRAME : ∃ t, gl "MOST_FRAME" = some (.int 1000000000000 t)
  c_MOST_LINES : ∃ t, gl "MOST_LINES" = some (.int 4 t)
  c_MOST_SIGNS : ∃ t, gl "MOST_SIGNS" = some (.int 40 t)
  c_PERCENT : ∃ t, gl "PERCENT" = some (.int 37 t)
  c_TILDE : ∃ t, gl "TILDE" = some (.int 126 t)
def initOf : Stmt → Stmt
  | .ClassDef _ _ _ body _ _ _ _ _ _ _ => body.getD 0 (.Pass ⟨0, 0, 0, 0⟩)
  | s => s
section
variable {pr : Program} {wd : PySem.World} {K : PySem.W.Frag} {gl : Str → Option Value} {bas : Heap} {R : Orc}
abbrev st_BadFile : Stmt := initOf (topS 10)
def names_BadFile : List Str := ["self", "number"]
theorem sc_BadFile : FnScope names_BadFile ["self", "number"] (defScope st_BadFile) := ⟨rfl, rfl, rfl, by decide +kernel, rfl, by decide +kernel, by decide +kernel⟩
theorem init_BadFile {C fI : Addr} {fd : FuncData} (T : Tx K gl) (F : L2.Fun K "__init__" "BadFile.__init__" st_BadFile fI fd) (vV : PySem.W.findCls K (.type "ValueError") (.type "type") "__init__" = some (.val (.builtin "ValueError.__init__"))) (hno : PySem.W.findIn K (.ref C) "number" = some none) : FnOk pr wd K gl bas CX0 1 fI fd ["self", "number"] (spInit K C (some "number")) := by
  have sc := sc_BadFile
  refine F.ok sc (fun vs H Q E h => ?_) fun cdv A out sh H vs Q E hr h => ?_
  · obtain ⟨a, v, rfl, _⟩ := h
    rfl
  obtain ⟨a, v, rfl, ha, TC, q⟩ := h
  exact ⟨_, pss_cons (ps_expr (pe_veinit rfl T.n_ValueError vV (pa_cons (pv 0) (pa_cons pe_str pa_nil)))) (pss_one (ps_ost (pv 0) (pv 1))), .ref a, rfl, a, C, [_], rfl, (by show 1 ≤ 1000; omega), TC, ha, v, rfl, .ref a, rfl, a, C, rfl, TC, hno, .inl ⟨ha, fun dx hd ne => q dx hd ne⟩⟩
abbrev st_BadPaper : Stmt := initOf (topS 11)
def names_BadPaper : List Str := ["self", "part"]
theorem sc_BadPaper : FnScope names_BadPaper ["self", "part"] (defScope st_BadPaper) := ⟨rfl, rfl, rfl, by decide +kernel, rfl, by decide +kernel, by decide +kernel⟩
theorem init_BadPaper {C fI : Addr} {fd : FuncData} (T : Tx K gl) (F : L2.Fun K "__init__" "BadPaper.__init__" st_BadPaper fI fd) (vV : PySem.W.findCls K (.type "ValueError") (.type "type") "__init__" = some (.val (.builtin "ValueError.__init__"))) (hno : PySem.W.findIn K (.ref C) "part" = some none) : FnOk pr wd K gl bas CX0 1 fI fd ["self", "part"] (spInit K C (some "part")) := by
  have sc := sc_BadPaper
  refine F.ok sc (fun vs H Q E h => ?_) fun cdv A out sh H vs Q E hr h => ?_
  · obtain ⟨a, v, rfl, _⟩ := h
    rfl
  obtain ⟨a, v, rfl, ha, TC, q⟩ := h
  exact ⟨_, pss_cons (ps_expr (pe_veinit rfl T.n_ValueError vV (pa_cons (pv 0) (pa_cons pe_str pa_nil)))) (pss_one (ps_ost (pv 0) (pv 1))), .ref a, rfl, a, C, [_], rfl, (by show 1 ≤ 1000; omega), TC, ha, v, rfl, .ref a, rfl, a, C, rfl, TC, hno, .inl ⟨ha, fun dx hd ne => q dx hd ne⟩⟩
abbrev st_is_integer : Stmt := topS 4
def names_is_integer : List Str := ["thing"]
theorem sc_is_integer : FnScope names_is_integer ["thing"] (defScope st_is_integer) := ⟨rfl, rfl, rfl, by decide +kernel, rfl, by decide +kernel, by decide +kernel⟩
theorem ok_is_integer {fa : Addr} {fd : FuncData} (T : Tx K gl) (F : L2.Fun K "is_integer" "is_integer" st_is_integer fa fd) : FnG pr wd K gl bas 1 fa fd ["thing"] (spD K R 1 r_is_integer) := by
  have sc := sc_is_integer
  refine FnG.data (g := g_is_integer) F sc rfl fun cdv A out sh H E q F hg hr => ?_
  exact (ds_one (dp_ret (de_and (de_isi rfl rfl T.n_isinstance rfl T.n_int (by decide +kernel) (dh_v (pv 0))) (pe_one (de_not (de_isi rfl rfl T.n_isinstance rfl T.n_bool (by decide +kernel) (dh_v (pv 0))))))))
abbrev st_is_within : Stmt := topS 5
def names_is_within : List Str := ["thing", "least", "most"]
theorem sc_is_within : FnScope names_is_within ["thing", "least", "most"] (defScope st_is_within) := ⟨rfl, rfl, rfl, by decide +kernel, rfl, by decide +kernel, by decide +kernel⟩
theorem ok_is_within {fa : Addr} {fd : FuncData} (T : Tx K gl) (F : L2.Fun K "is_within" "is_within" st_is_within fa fd) (C_is_integer : Cd pr wd K gl bas R 1 "is_integer" 1 r_is_integer) : FnG pr wd K gl bas 2 fa fd ["thing", "least", "most"] (spD K R 3 r_is_within) := by
  have sc := sc_is_within
  refine FnG.data (g := g_is_within) F sc rfl fun cdv A out sh H E q F hg hr => ?_
  exact (ds_one (dp_ret (de_and (de_cd (C_is_integer.more (by decide)) rfl hg hr rfl (da_cons (de_v (pv 0)) da_nil)) (pe_one (de_chain (sem_le) (sem_le) (dh_v (pv 1)) (dh_v (pv 0)) (dh_v (pv 2)) rfl)))))
abbrev st_is_tuple : Stmt := topS 6
def names_is_tuple : List Str := ["thing", "least", "most"]
theorem sc_is_tuple : FnScope names_is_tuple ["thing", "least", "most"] (defScope st_is_tuple) := ⟨rfl, rfl, rfl, by decide +kernel, rfl, by decide +kernel, by decide +kernel⟩
theorem ok_is_tuple {fa : Addr} {fd : FuncData} (T : Tx K gl) (F : L2.Fun K "is_tuple" "is_tuple" st_is_tuple fa fd) : FnG pr wd K gl bas 1 fa fd ["thing", "least", "most"] (spD K R 3 r_is_tuple) := by
  have sc := sc_is_tuple
  refine FnG.data (g := g_is_tuple) F sc rfl fun cdv A out sh H E q F hg hr => ?_
  exact (ds_one (dp_ret (de_and (de_isi rfl rfl T.n_isinstance rfl T.n_tuple (by decide +kernel) (dh_v (pv 0))) (pe_one (de_chain (sem_le) (sem_le) (dh_v (pv 1)) (dh_of (de_cb (sem_len rfl) rfl T.n_len (by decide +kernel) (dg_cons (dh_v (pv 0)) dg_nil))) (dh_v (pv 2)) rfl)))))
abbrev st_is_sign : Stmt := topS 7
def names_is_sign : List Str := ["sign", "lowest"]
theorem sc_is_sign : FnScope names_is_sign ["sign", "lowest"] (defScope st_is_sign) := ⟨rfl, rfl, rfl, by decide +kernel, rfl, by decide +kernel, by decide +kernel⟩
theorem ok_is_sign {fa : Addr} {fd : FuncData} (T : Tx K gl) (F : L2.Fun K "is_sign" "is_sign" st_is_sign fa fd) : FnG pr wd K gl bas 1 fa fd ["sign", "lowest"] (spD K R 2 r_is_sign) := by
  have sc := sc_is_sign
  refine FnG.data (g := g_is_sign) F sc rfl fun cdv A out sh H E q F hg hr => ?_
  exact (ds_one (dp_ret (de_and (de_chain (sem_le) (sem_le) (dh_v (pv 1)) (dh_of (de_cb (sem_ord) rfl T.n_ord (by decide +kernel) (dg_cons (dh_v (pv 0)) dg_nil))) (dh_of (de_gint rfl T.c_TILDE)) rfl) (pe_one (de_cmp (sem_ne rfl (hu64 hr)) (dh_of (de_cb (sem_ord) rfl T.n_ord (by decide +kernel) (dg_cons (dh_v (pv 0)) dg_nil))) (dh_of (de_gint rfl T.c_PERCENT)) (nomark _))))))
abbrev st_has_signs : Stmt := topS 8
def names_has_signs : List Str := ["thing", "lowest", "sign"]
theorem sc_has_signs : FnScope names_has_signs ["thing", "lowest"] (defScope st_has_signs) := ⟨rfl, rfl, rfl, by decide +kernel, rfl, by decide +kernel, by decide +kernel⟩
theorem ok_has_signs {fa : Addr} {fd : FuncData} (T : Tx K gl) (F : L2.Fun K "has_signs" "has_signs" st_has_signs fa fd) (C_is_sign : Cd pr wd K gl bas R 1 "is_sign" 2 r_is_sign) : FnG pr wd K gl bas 2 fa fd ["thing", "lowest"] (spD K R 2 r_has_signs) := by
  have sc := sc_has_signs
  refine FnG.data (g := g_has_signs) F sc rfl fun cdv A out sh H E q F hg hr => ?_
  exact (ds_cons (dp_if (PW.pt (dw_or (dt_not (dt_truth rfl (dh_of (de_isi rfl rfl T.n_isinstance rfl T.n_str (by decide +kernel) (dh_v (pv 0)))))) (pw_or1 (dt_not (dt_chain (sem_le) (sem_le) (dh_of de_int) (dh_of (de_cb (sem_len rfl) rfl T.n_len (by decide +kernel) (dg_cons (dh_v (pv 0)) dg_nil))) (dh_of (de_gint rfl T.c_MOST_SIGNS)) rfl))))) (ds_one (dp_ret de_bl)) ds_nil)
    (ds_one (dp_ret (de_cb (sem_all rfl rfl) rfl T.n_all (by decide +kernel) (dg_cons (dh_of (de_n (dn_lc (own := [("sign", 2)]) rfl sc.nd (di_seq rfl (de_v (pv 0))) (blkOk_by (own := [("sign", 2)]) (N := names_has_signs) (sc := defScope st_has_signs) (by decide +kernel)) (by decide) (fun _ _ _ _ _ => (dg_name sc.nd (i := 2) rfl (by first | exact Or.inl rfl | exact Or.inr rfl))) (fun _ _ _ _ _ => dts_nil) (fun _ _ _ _ _ => (de_cd (C_is_sign.more (by decide)) rfl hg hr rfl (da_cons (de_v (pv 2)) (da_cons (de_v (pv 1)) da_nil))))))) dg_nil)))))
abbrev st__is_line : Stmt := topS 29
def names__is_line : List Str := ["thing"]
theorem sc__is_line : FnScope names__is_line ["thing"] (defScope st__is_line) := ⟨rfl, rfl, rfl, by decide +kernel, rfl, by decide +kernel, by decide +kernel⟩
theorem ok__is_line {fa : Addr} {fd : FuncData} (T : Tx K gl) (F : L2.Fun K "_is_line" "_is_line" st__is_line fa fd) (C_has_signs : Cd pr wd K gl bas R 2 "has_signs" 2 r_has_signs) : FnG pr wd K gl bas 3 fa fd ["thing"] (spD K R 1 r__is_line) := by
  have sc := sc__is_line
  refine FnG.data (g := g__is_line) F sc rfl fun cdv A out sh H E q F hg hr => ?_
  exact (ds_one (dp_ret (de_and (de_cd (C_has_signs.more (by decide)) rfl hg hr rfl (da_cons (de_v (pv 0)) (da_cons (de_gint rfl T.c_LOWEST_OF_LINES) da_nil))) (de_and (de_cmp (sem_ne rfl (hu64 hr)) (dh_of (de_ix rfl (dh_v (pv 0)) (dh_of de_int) (fun _ _ => rfl))) (dh_of de_str) (nomark _)) (pe_one (de_cmp (sem_ne rfl (hu64 hr)) (dh_of (de_ix rfl (dh_v (pv 0)) (dh_of (de_neg de_int)) (fun _ _ => rfl))) (dh_of de_str) (nomark _)))))))
abbrev st_is_text : Stmt := topS 22
def names_is_text : List Str := ["thing", "line"]
theorem sc_is_text : FnScope names_is_text ["thing"] (defScope st_is_text) := ⟨rfl, rfl, rfl, by decide +kernel, rfl, by decide +kernel, by decide +kernel⟩
theorem ok_is_text {fa : Addr} {fd : FuncData} (T : Tx K gl) (F : L2.Fun K "is_text" "is_text" st_is_text fa fd) (C_is_tuple : Cd pr wd K gl bas R 1 "is_tuple" 3 r_is_tuple) (C__is_line : Cd pr wd K gl bas R 3 "_is_line" 1 r__is_line) : FnG pr wd K gl bas 4 fa fd ["thing"] (spD K R 1 r_is_text) := by
  have sc := sc_is_text
  refine FnG.data (g := g_is_text) F sc rfl fun cdv A out sh H E q F hg hr => ?_
  exact (ds_one (dp_ret (de_and (de_cd (C_is_tuple.more (by decide)) rfl hg hr rfl (da_cons (de_v (pv 0)) (da_cons de_int (da_cons (de_gint rfl T.c_MOST_LINES) da_nil)))) (pe_one (de_cb (sem_all rfl rfl) rfl T.n_all (by decide +kernel) (dg_cons (dh_of (de_n (dn_lc (own := [("line", 1)]) rfl sc.nd (di_seq rfl (de_v (pv 0))) (blkOk_by (own := [("line", 1)]) (N := names_is_text) (sc := defScope st_is_text) (by decide +kernel)) (by decide) (fun _ _ _ _ _ => (dg_name sc.nd (i := 1) rfl (by first | exact Or.inl rfl | exact Or.inr rfl))) (fun _ _ _ _ _ => dts_nil) (fun _ _ _ _ _ => (de_cd (C__is_line.more (by decide)) rfl hg hr rfl (da_cons (de_v (pv 1)) da_nil)))))) dg_nil))))))
abbrev st_is_cue : Stmt := topS 21
def names_is_cue : List Str := ["thing"]
theorem sc_is_cue : FnScope names_is_cue ["thing"] (defScope st_is_cue) := ⟨rfl, rfl, rfl, by decide +kernel, rfl, by decide +kernel, by decide +kernel⟩
theorem ok_is_cue {fa : Addr} {fd : FuncData} (T : Tx K gl) (F : L2.Fun K "is_cue" "is_cue" st_is_cue fa fd) (C_is_tuple : Cd pr wd K gl bas R 1 "is_tuple" 3 r_is_tuple) (C_is_within : Cd pr wd K gl bas R 2 "is_within" 3 r_is_within) (C_is_text : Cd pr wd K gl bas R 4 "is_text" 1 r_is_text) : FnG pr wd K gl bas 5 fa fd ["thing"] (spD K R 1 r_is_cue) := by
  have sc := sc_is_cue
  refine FnG.data (g := g_is_cue) F sc rfl fun cdv A out sh H E q F hg hr => ?_
  exact (ds_cons (dp_if (PW.pt (dw_or (dt_not (dt_truth rfl (dh_of (de_cd (C_is_tuple.more (by decide)) rfl hg hr rfl (da_cons (de_v (pv 0)) (da_cons de_int (da_cons de_int da_nil))))))) (pw_or1 (dt_not (dt_truth rfl (dh_of (de_cd (C_is_within.more (by decide)) rfl hg hr rfl (da_cons (de_ix rfl (dh_v (pv 0)) (dh_of de_int) (fun _ _ => rfl)) (da_cons de_int (da_cons (de_gint rfl T.c_MOST_FRAME) da_nil)))))))))) (ds_one (dp_ret de_bl)) ds_nil)
    (ds_one (dp_ret (de_and (de_cd (C_is_within.more (by decide)) rfl hg hr rfl (da_cons (de_ix rfl (dh_v (pv 0)) (dh_of de_int) (fun _ _ => rfl)) (da_cons (de_bin (sem_add rfl) (dh_of (de_ix rfl (dh_v (pv 0)) (dh_of de_int) (fun _ _ => rfl))) (dh_of de_int)) (da_cons (de_gint rfl T.c_MOST_FRAME) da_nil)))) (pe_one (de_cd (C_is_text.more (by decide)) rfl hg hr rfl (da_cons (de_ix rfl (dh_v (pv 0)) (dh_of de_int) (fun _ _ => rfl)) da_nil)))))))
abbrev st_need_file : Stmt := topS 17
def names_need_file : List Str := ["thing", "number", "cue"]
theorem sc_need_file : FnScope names_need_file ["thing"] (defScope st_need_file) := ⟨rfl, rfl, rfl, by decide +kernel, rfl, by decide +kernel, by decide +kernel⟩
theorem okX_need_file {fa : Addr} {fd : FuncData} (T : Tx K gl) (F : L2.Fun K "need_file" "need_file" st_need_file fa fd) (C_is_tuple : Cd pr wd K gl bas R 1 "is_tuple" 3 r_is_tuple) (C_is_cue : Cd pr wd K gl bas R 5 "is_cue" 1 r_is_cue) (K_BadFile : ClsAt pr wd K gl bas "BadFile" (some "number")) : FnX pr wd K gl bas 7 fa fd ["thing"] (spX K gl R 1 rx_need_file) := by
  have sc := sc_need_file
  refine FnX.data (g := gx_need_file) F sc rfl fun cdv A out sh H E q F px hg hr tk => ?_
  exact (ds_cons (dp_if (dt_not (dt_truth rfl (dh_of (de_cd (C_is_tuple.more (by decide)) rfl hg hr rfl (da_cons (de_v (pv 0)) (da_cons de_int (da_cons (de_gint rfl T.c_MOST_CUES) da_nil))))))) (ds_one (dp_raise1 K_BadFile tk rfl rfl (hr.mono (by decide)) rfl de_non)) ds_nil)
    (ds_cons (dp_for (passes_of rfl) rfl (di_enum rfl rfl T.n_enumerate (dl_cons (de_v (pv 0)) dl_nil)) (dg_tup rfl rfl (dgs_cons (dg_name sc.nd (i := 1) rfl (by first | exact Or.inl rfl | exact Or.inr rfl)) (dgs_cons (dg_name sc.nd (i := 2) rfl (by first | exact Or.inl rfl | exact Or.inr rfl)) dgs_nil))) (ds_one (dp_if (dt_not (dt_truth rfl (dh_of (de_cd (C_is_cue.more (by decide)) rfl hg hr rfl (da_cons (de_v (pv 2)) da_nil))))) (ds_one (dp_raise1 K_BadFile tk rfl rfl (hr.mono (by decide)) rfl (de_v (pv 1)))) ds_nil)))
    (ds_one (dp_ret (de_v (pv 0))))))
theorem ok_need_file {fa : Addr} {fd : FuncData} (T : Tx K gl) (F : L2.Fun K "need_file" "need_file" st_need_file fa fd) (C_is_tuple : Cd pr wd K gl bas R 1 "is_tuple" 3 r_is_tuple) (C_is_cue : Cd pr wd K gl bas R 5 "is_cue" 1 r_is_cue) : FnG pr wd K gl bas 6 fa fd ["thing"] (spD K R 1 r_need_file) := by
  have sc := sc_need_file
  refine FnG.data (g := g_need_file) F sc rfl fun cdv A out sh H E q F hg hr => ?_
  exact (ds_cons (dp_if (dt_not (dt_truth rfl (dh_of (de_cd (C_is_tuple.more (by decide)) rfl hg hr rfl (da_cons (de_v (pv 0)) (da_cons de_int (da_cons (de_gint rfl T.c_MOST_CUES) da_nil))))))) ds_never ds_nil)
    (ds_cons (dp_for PassesOwn.never rfl (di_enum rfl rfl T.n_enumerate (dl_cons (de_v (pv 0)) dl_nil)) (dg_tup rfl rfl (dgs_cons (dg_name sc.nd (i := 1) rfl (by first | exact Or.inl rfl | exact Or.inr rfl)) (dgs_cons (dg_name sc.nd (i := 2) rfl (by first | exact Or.inl rfl | exact Or.inr rfl)) dgs_nil))) (ds_one (dp_if (dt_not (dt_truth rfl (dh_of (de_cd (C_is_cue.more (by decide)) rfl hg hr rfl (da_cons (de_v (pv 2)) da_nil))))) ds_never ds_nil)))
    (ds_one (dp_ret (de_v (pv 0))))))
abbrev st__bounds_of : Stmt := topS 28
def names__bounds_of : List Str := ["layers", "cues", "cue", "frame"]
theorem sc__bounds_of : FnScope names__bounds_of ["layers"] (defScope st__bounds_of) := ⟨rfl, rfl, rfl, by decide +kernel, rfl, by decide +kernel, by decide +kernel⟩
theorem ok__bounds_of {fa : Addr} {fd : FuncData} (T : Tx K gl) (F : L2.Fun K "_bounds_of" "_bounds_of" st__bounds_of fa fd) : FnG pr wd K gl bas 1 fa fd ["layers"] (spD K R 1 r__bounds_of) := by
  have sc := sc__bounds_of
  refine FnG.data (g := g__bounds_of) F sc rfl fun cdv A out sh H E q F hg hr => ?_
  exact (ds_one (dp_ret (de_n (dn_ss3 (own := [("cues", 1), ("cue", 2), ("frame", 3)]) (vs1 := [2, 3]) (vs2 := [3]) rfl sc.nd (blkOk_by (own := [("cues", 1), ("cue", 2), ("frame", 3)]) (N := names__bounds_of) (sc := defScope st__bounds_of) (by decide +kernel)) rfl T.n_sorted (di_seq rfl (de_v (pv 0))) (by decide) (by decide) (by decide) (by decide) (by decide) (fun _ _ _ _ _ => (dg_name sc.nd (i := 1) rfl (by first | exact Or.inl rfl | exact Or.inr rfl))) (fun _ _ _ _ _ => dts_nil) (fun _ _ _ _ _ => (di_seq rfl (de_v (pv 1)))) (fun _ _ _ _ _ => (dg_name sc.nd (i := 2) rfl (by first | exact Or.inl rfl | exact Or.inr rfl))) (fun _ _ _ _ _ => dts_nil) (fun _ _ _ _ _ => (di_seq rfl (de_sl rfl (dh_v (pv 2)) do_no (do_i de_int)))) (fun _ _ _ _ _ => (dg_name sc.nd (i := 3) rfl (by first | exact Or.inl rfl | exact Or.inr rfl))) (fun _ _ _ _ _ => dts_nil) (fun _ _ _ _ _ => (de_v (pv 3)))))))
abbrev st_joined_cues : Stmt := topS 26
def names_joined_cues : List Str := ["cues", "found", "start", "end", "text"]
theorem sc_joined_cues : FnScope names_joined_cues ["cues"] (defScope st_joined_cues) := ⟨rfl, rfl, rfl, by decide +kernel, rfl, by decide +kernel, by decide +kernel⟩
theorem ok_joined_cues {fa : Addr} {fd : FuncData} (T : Tx K gl) (F : L2.Fun K "joined_cues" "joined_cues" st_joined_cues fa fd) : FnG pr wd K gl bas 1 fa fd ["cues"] (spD K R 1 r_joined_cues) := by
  have sc := sc_joined_cues
  refine FnG.data (g := g_joined_cues) F sc rfl fun cdv A out sh H E q F hg hr => ?_
  exact (ds_cons (dp_setN sc.nd (i := 1) rfl (by first | exact Or.inl rfl | exact Or.inr rfl) (dn_lst dl_nil))
    (ds_cons (dp_for PassesOwn.never rfl (di_seq rfl (de_v (pv 0))) (dg_tup rfl rfl (dgs_cons (dg_name sc.nd (i := 2) rfl (by first | exact Or.inl rfl | exact Or.inr rfl)) (dgs_cons (dg_name sc.nd (i := 3) rfl (by first | exact Or.inl rfl | exact Or.inr rfl)) (dgs_cons (dg_name sc.nd (i := 4) rfl (by first | exact Or.inl rfl | exact Or.inr rfl)) dgs_nil)))) (ds_one (dp_if (PW.pt (dw_and (dt_truth rfl (dh_v (pv 1))) (pw_and1 (dt_cmp (sem_eq rfl (hu64 hr)) (dh_of (de_sl rfl (dh_of (de_ix rfl (dh_v (pv 1)) (dh_of (de_neg de_int)) (fun _ _ => rfl))) (do_i de_int) do_no)) (dh_of (de_tup (dl_cons (de_v (pv 2)) (dl_cons (de_v (pv 4)) dl_nil)))) (nomark _))))) (ds_one (dp_put (pv 1) (de_neg de_int) (de_tup (dl_cons (de_ix rfl (dh_of (de_ix rfl (dh_v (pv 1)) (dh_of (de_neg de_int)) (fun _ _ => rfl))) (dh_of de_int) (fun _ _ => rfl)) (dl_cons (de_v (pv 3)) (dl_cons (de_v (pv 4)) dl_nil)))))) (ds_one (dp_app rfl (pv 1) (de_tup (dl_cons (de_v (pv 2)) (dl_cons (de_v (pv 3)) (dl_cons (de_v (pv 4)) dl_nil)))))))))
    (ds_one (dp_ret (de_ct (sem_tuple rfl) rfl T.n_tuple (by decide +kernel) (dg_cons (dh_v (pv 1)) dg_nil))))))
abbrev st_text_at : Stmt := topS 24
def names_text_at : List Str := ["cues", "frame", "top", "cue"]
theorem sc_text_at : FnScope names_text_at ["cues", "frame"] (defScope st_text_at) := ⟨rfl, rfl, rfl, by decide +kernel, rfl, by decide +kernel, by decide +kernel⟩
theorem ok_text_at {fa : Addr} {fd : FuncData} (T : Tx K gl) (F : L2.Fun K "text_at" "text_at" st_text_at fa fd) : FnG pr wd K gl bas 1 fa fd ["cues", "frame"] (spD K R 2 r_text_at) := by
  have sc := sc_text_at
  refine FnG.data (g := g_text_at) F sc rfl fun cdv A out sh H E q F hg hr => ?_
  exact (ds_cons (dp_set sc.nd (i := 2) rfl (by first | exact Or.inl rfl | exact Or.inr rfl) de_non)
    (ds_cons (dp_for PassesOwn.never rfl (di_seq rfl (de_v (pv 0))) (dg_name sc.nd (i := 3) rfl (by first | exact Or.inl rfl | exact Or.inr rfl)) (ds_one (dp_if (PW.pt (dw_and (dt_chain (sem_le) (sem_lt) (dh_of (de_ix rfl (dh_v (pv 3)) (dh_of de_int) (fun _ _ => rfl))) (dh_v (pv 1)) (dh_of (de_ix rfl (dh_v (pv 3)) (dh_of de_int) (fun _ _ => rfl))) rfl) (pw_and1 (PW.pt (dw_or (dt_cmp (sem_is) (dh_v (pv 2)) (dh_of de_non) (nomark _)) (pw_or1 (dt_cmp (sem_ge) (dh_of (de_ix rfl (dh_v (pv 3)) (dh_of de_int) (fun _ _ => rfl))) (dh_of (de_ix rfl (dh_v (pv 2)) (dh_of de_int) (fun _ _ => rfl))) (nomark _)))))))) (ds_one (dp_set sc.nd (i := 2) rfl (by first | exact Or.inl rfl | exact Or.inr rfl) (de_v (pv 3)))) ds_nil)))
    (ds_cons (dp_if (dt_cmp (sem_is) (dh_v (pv 2)) (dh_of de_non) (nomark _)) (ds_one (dp_ret de_non)) ds_nil)
    (ds_one (dp_ret (de_ix rfl (dh_v (pv 2)) (dh_of de_int) (fun _ _ => rfl)))))))
abbrev st__text_of_layers : Stmt := topS 27
def names__text_of_layers : List Str := ["layers", "frame", "cues", "text"]
theorem sc__text_of_layers : FnScope names__text_of_layers ["layers", "frame"] (defScope st__text_of_layers) := ⟨rfl, rfl, rfl, by decide +kernel, rfl, by decide +kernel, by decide +kernel⟩
theorem ok__text_of_layers {fa : Addr} {fd : FuncData} (T : Tx K gl) (F : L2.Fun K "_text_of_layers" "_text_of_layers" st__text_of_layers fa fd) (C_text_at : Cd pr wd K gl bas R 1 "text_at" 2 r_text_at) : FnG pr wd K gl bas 2 fa fd ["layers", "frame"] (spD K R 2 r__text_of_layers) := by
  have sc := sc__text_of_layers
  refine FnG.data (g := g__text_of_layers) F sc rfl fun cdv A out sh H E q F hg hr => ?_
  exact (ds_cons (dp_for PassesOwn.never rfl (di_seq rfl (de_v (pv 0))) (dg_name sc.nd (i := 2) rfl (by first | exact Or.inl rfl | exact Or.inr rfl)) (ds_cons (dp_set sc.nd (i := 3) rfl (by first | exact Or.inl rfl | exact Or.inr rfl) (de_cd (C_text_at.more (by decide)) rfl hg hr rfl (da_cons (de_v (pv 2)) (da_cons (de_v (pv 1)) da_nil))))
    (ds_one (dp_if (dt_cmp (sem_isnot) (dh_v (pv 3)) (dh_of de_non) (nomark _)) (ds_one (dp_ret (de_v (pv 3)))) ds_nil))))
    (ds_one (dp_ret de_non)))
abbrev st_flattened : Stmt := topS 25
def names_flattened : List Str := ["layers", "cues", "bounds", "start", "end", "text"]
theorem sc_flattened : FnScope names_flattened ["layers"] (defScope st_flattened) := ⟨rfl, rfl, rfl, by decide +kernel, rfl, by decide +kernel, by decide +kernel⟩
theorem ok_flattened {fa : Addr} {fd : FuncData} (T : Tx K gl) (F : L2.Fun K "flattened" "flattened" st_flattened fa fd) (C__bounds_of : Cd pr wd K gl bas R 1 "_bounds_of" 1 r__bounds_of) (C__text_of_layers : Cd pr wd K gl bas R 2 "_text_of_layers" 2 r__text_of_layers) (C_joined_cues : Cd pr wd K gl bas R 1 "joined_cues" 1 r_joined_cues) : FnG pr wd K gl bas 3 fa fd ["layers"] (spD K R 1 r_flattened) := by
  have sc := sc_flattened
  refine FnG.data (g := g_flattened) F sc rfl fun cdv A out sh H E q F hg hr => ?_
  exact (ds_cons (dp_setN sc.nd (i := 1) rfl (by first | exact Or.inl rfl | exact Or.inr rfl) (dn_lst dl_nil))
    (ds_cons (dp_set sc.nd (i := 2) rfl (by first | exact Or.inl rfl | exact Or.inr rfl) (de_cd (C__bounds_of.more (by decide)) rfl hg hr rfl (da_cons (de_v (pv 0)) da_nil)))
    (ds_cons (dp_for PassesOwn.never rfl (di_zip rfl rfl T.n_zip (dl_cons (de_v (pv 2)) (dl_cons (de_sl rfl (dh_v (pv 2)) (do_i de_int) do_no) dl_nil))) (dg_tup rfl rfl (dgs_cons (dg_name sc.nd (i := 3) rfl (by first | exact Or.inl rfl | exact Or.inr rfl)) (dgs_cons (dg_name sc.nd (i := 4) rfl (by first | exact Or.inl rfl | exact Or.inr rfl)) dgs_nil))) (ds_cons (dp_set sc.nd (i := 5) rfl (by first | exact Or.inl rfl | exact Or.inr rfl) (de_cd (C__text_of_layers.more (by decide)) rfl hg hr rfl (da_cons (de_v (pv 0)) (da_cons (de_v (pv 3)) da_nil))))
    (ds_one (dp_if (dt_cmp (sem_isnot) (dh_v (pv 5)) (dh_of de_non) (nomark _)) (ds_one (dp_app rfl (pv 1) (de_tup (dl_cons (de_v (pv 3)) (dl_cons (de_v (pv 4)) (dl_cons (de_v (pv 5)) dl_nil)))))) ds_nil))))
    (ds_one (dp_ret (de_cd (C_joined_cues.more (by decide)) rfl hg hr rfl (da_cons (de_v (pv 1)) da_nil)))))))
abbrev st_flat : Stmt := topS 18
def names_flat : List Str := ["file"]
theorem sc_flat : FnScope names_flat ["file"] (defScope st_flat) := ⟨rfl, rfl, rfl, by decide +kernel, rfl, by decide +kernel, by decide +kernel⟩
theorem ok_flat {fa : Addr} {fd : FuncData} (T : Tx K gl) (F : L2.Fun K "flat" "flat" st_flat fa fd) (C_need_file : Cd pr wd K gl bas R 6 "need_file" 1 r_need_file) (C_flattened : Cd pr wd K gl bas R 3 "flattened" 1 r_flattened) : FnG pr wd K gl bas 7 fa fd ["file"] (spD K R 1 r_flat) := by
  have sc := sc_flat
  refine FnG.data (g := g_flat) F sc rfl fun cdv A out sh H E q F hg hr => ?_
  exact (ds_cons (dp_expr (de_cd (C_need_file.more (by decide)) rfl hg hr rfl (da_cons (de_v (pv 0)) da_nil)))
    (ds_one (dp_ret (de_cd (C_flattened.more (by decide)) rfl hg hr rfl (da_cons (de_tup (dl_cons (de_v (pv 0)) dl_nil)) da_nil)))))
abbrev st_apart : Stmt := topS 20
def names_apart : List Str := ["one", "other", "frame"]
theorem sc_apart : FnScope names_apart ["one", "other"] (defScope st_apart) := ⟨rfl, rfl, rfl, by decide +kernel, rfl, by decide +kernel, by decide +kernel⟩
theorem ok_apart {fa : Addr} {fd : FuncData} (T : Tx K gl) (F : L2.Fun K "apart" "apart" st_apart fa fd) (C_need_file : Cd pr wd K gl bas R 6 "need_file" 1 r_need_file) (C__bounds_of : Cd pr wd K gl bas R 1 "_bounds_of" 1 r__bounds_of) (C_text_at : Cd pr wd K gl bas R 1 "text_at" 2 r_text_at) : FnG pr wd K gl bas 7 fa fd ["one", "other"] (spD K R 2 r_apart) := by
  have sc := sc_apart
  refine FnG.data (g := g_apart) F sc rfl fun cdv A out sh H E q F hg hr => ?_
  exact (ds_cons (dp_expr (de_cd (C_need_file.more (by decide)) rfl hg hr rfl (da_cons (de_v (pv 0)) da_nil)))
    (ds_cons (dp_expr (de_cd (C_need_file.more (by decide)) rfl hg hr rfl (da_cons (de_v (pv 1)) da_nil)))
    (ds_cons (dp_for PassesOwn.never rfl (di_seq rfl (de_cd (C__bounds_of.more (by decide)) rfl hg hr rfl (da_cons (de_tup (dl_cons (de_v (pv 0)) (dl_cons (de_v (pv 1)) dl_nil))) da_nil))) (dg_name sc.nd (i := 2) rfl (by first | exact Or.inl rfl | exact Or.inr rfl)) (ds_one (dp_if (dt_cmp (sem_ne rfl (hu64 hr)) (dh_of (de_cd (C_text_at.more (by decide)) rfl hg hr rfl (da_cons (de_v (pv 0)) (da_cons (de_v (pv 2)) da_nil)))) (dh_of (de_cd (C_text_at.more (by decide)) rfl hg hr rfl (da_cons (de_v (pv 1)) (da_cons (de_v (pv 2)) da_nil)))) (nomark _)) (ds_one (dp_ret (de_v (pv 2)))) ds_nil)))
    (ds_one (dp_ret de_non)))))
abbrev st_alike : Stmt := topS 19
def names_alike : List Str := ["one", "other"]
theorem sc_alike : FnScope names_alike ["one", "other"] (defScope st_alike) := ⟨rfl, rfl, rfl, by decide +kernel, rfl, by decide +kernel, by decide +kernel⟩
theorem ok_alike {fa : Addr} {fd : FuncData} (T : Tx K gl) (F : L2.Fun K "alike" "alike" st_alike fa fd) (C_apart : Cd pr wd K gl bas R 7 "apart" 2 r_apart) : FnG pr wd K gl bas 8 fa fd ["one", "other"] (spD K R 2 r_alike) := by
  have sc := sc_alike
  refine FnG.data (g := g_alike) F sc rfl fun cdv A out sh H E q F hg hr => ?_
  exact (ds_one (dp_ret (de_cmp (sem_is) (dh_of (de_cd (C_apart.more (by decide)) rfl hg hr rfl (da_cons (de_v (pv 0)) (da_cons (de_v (pv 1)) da_nil)))) (dh_of de_non) (nomark _))))
abbrev st_is_file : Stmt := topS 23
def names_is_file : List Str := ["thing", "cue"]
theorem sc_is_file : FnScope names_is_file ["thing"] (defScope st_is_file) := ⟨rfl, rfl, rfl, by decide +kernel, rfl, by decide +kernel, by decide +kernel⟩
theorem ok_is_file {fa : Addr} {fd : FuncData} (T : Tx K gl) (F : L2.Fun K "is_file" "is_file" st_is_file fa fd) (C_is_tuple : Cd pr wd K gl bas R 1 "is_tuple" 3 r_is_tuple) (C_is_cue : Cd pr wd K gl bas R 5 "is_cue" 1 r_is_cue) : FnG pr wd K gl bas 6 fa fd ["thing"] (spD K R 1 r_is_file) := by
  have sc := sc_is_file
  refine FnG.data (g := g_is_file) F sc rfl fun cdv A out sh H E q F hg hr => ?_
  exact (ds_one (dp_ret (de_and (de_cd (C_is_tuple.more (by decide)) rfl hg hr rfl (da_cons (de_v (pv 0)) (da_cons de_int (da_cons (de_gint rfl T.c_MOST_CUES) da_nil)))) (pe_one (de_cb (sem_all rfl rfl) rfl T.n_all (by decide +kernel) (dg_cons (dh_of (de_n (dn_lc (own := [("cue", 1)]) rfl sc.nd (di_seq rfl (de_v (pv 0))) (blkOk_by (own := [("cue", 1)]) (N := names_is_file) (sc := defScope st_is_file) (by decide +kernel)) (by decide) (fun _ _ _ _ _ => (dg_name sc.nd (i := 1) rfl (by first | exact Or.inl rfl | exact Or.inr rfl))) (fun _ _ _ _ _ => dts_nil) (fun _ _ _ _ _ => (de_cd (C_is_cue.more (by decide)) rfl hg hr rfl (da_cons (de_v (pv 1)) da_nil)))))) dg_nil))))))
abbrev st__greatest : Stmt := topS 35
def names__greatest : List Str := ["bounds"]
theorem sc__greatest : FnScope names__greatest ["bounds"] (defScope st__greatest) := ⟨rfl, rfl, rfl, by decide +kernel, rfl, by decide +kernel, by decide +kernel⟩
theorem ok__greatest {fa : Addr} {fd : FuncData} (T : Tx K gl) (F : L2.Fun K "_greatest" "_greatest" st__greatest fa fd) : FnG pr wd K gl bas 1 fa fd ["bounds"] (spD K R 1 r__greatest) := by
  have sc := sc__greatest
  refine FnG.data (g := g__greatest) F sc rfl fun cdv A out sh H E q F hg hr => ?_
  exact (ds_cons (dp_if (dt_cmp (sem_eq rfl (hu64 hr)) (dh_of (de_cb (sem_len rfl) rfl T.n_len (by decide +kernel) (dg_cons (dh_v (pv 0)) dg_nil))) (dh_of de_int) (nomark _)) (ds_one (dp_ret de_int)) ds_nil)
    (ds_one (dp_ret (de_ix rfl (dh_of (de_ix rfl (dh_v (pv 0)) (dh_of de_int) (fun _ _ => rfl))) (dh_of (de_neg de_int)) (fun _ _ => rfl)))))
abbrev st__all_partners : Stmt := topS 37
def names__all_partners : List Str := ["cues", "partners", "high", "found", "low"]
theorem sc__all_partners : FnScope names__all_partners ["cues"] (defScope st__all_partners) := ⟨rfl, rfl, rfl, by decide +kernel, rfl, by decide +kernel, by decide +kernel⟩
theorem ok__all_partners {fa : Addr} {fd : FuncData} (T : Tx K gl) (F : L2.Fun K "_all_partners" "_all_partners" st__all_partners fa fd) : FnG pr wd K gl bas 1 fa fd ["cues"] (spD K R 1 r__all_partners) := by
  have sc := sc__all_partners
  refine FnG.data (g := g__all_partners) F sc rfl fun cdv A out sh H E q F hg hr => ?_
  exact (ds_cons (dp_setN sc.nd (i := 1) rfl (by first | exact Or.inl rfl | exact Or.inr rfl) (dn_lst dl_nil))
    (ds_cons (dp_for PassesOwn.never rfl (di_range1 rfl T.n_range (dl_cons (de_cb (sem_len rfl) rfl T.n_len (by decide +kernel) (dg_cons (dh_v (pv 0)) dg_nil)) dl_nil)) (dg_name sc.nd (i := 2) rfl (by first | exact Or.inl rfl | exact Or.inr rfl)) (ds_cons (dp_setN sc.nd (i := 3) rfl (by first | exact Or.inl rfl | exact Or.inr rfl) (dn_lst dl_nil))
    (ds_cons (dp_set sc.nd (i := 4) rfl (by first | exact Or.inl rfl | exact Or.inr rfl) (de_bin (sem_sub) (dh_v (pv 2)) (dh_of de_int)))
    (ds_cons (dp_while PassesOwn.never (PW.pt (dw_and (dt_cmp (sem_ge) (dh_v (pv 4)) (dh_of de_int) (nomark _)) (pw_and1 (dt_cmp (sem_eq rfl (hu64 hr)) (dh_of (de_ix rfl (dh_of (de_ix rfl (dh_v (pv 0)) (dh_v (pv 4)) (fun _ _ => rfl))) (dh_of de_int) (fun _ _ => rfl))) (dh_of (de_ix rfl (dh_of (de_ix rfl (dh_v (pv 0)) (dh_of (de_bin (sem_add rfl) (dh_v (pv 4)) (dh_of de_int))) (fun _ _ => rfl))) (dh_of de_int) (fun _ _ => rfl))) (nomark _))))) (ds_cons (dp_if (dt_cmp (sem_eq rfl (hu64 hr)) (dh_of (de_ix rfl (dh_of (de_ix rfl (dh_v (pv 0)) (dh_v (pv 4)) (fun _ _ => rfl))) (dh_of de_int) (fun _ _ => rfl))) (dh_of (de_ix rfl (dh_of (de_ix rfl (dh_v (pv 0)) (dh_v (pv 2)) (fun _ _ => rfl))) (dh_of de_int) (fun _ _ => rfl))) (nomark _)) (ds_one (dp_app rfl (pv 3) (de_v (pv 4)))) ds_nil)
    (ds_one (dp_aug sc.nd (i := 4) rfl (by first | exact Or.inl rfl | exact Or.inr rfl) (dh_of de_int) sem_isub))))
    (ds_one (dp_app rfl (pv 1) (de_v (pv 3))))))))
    (ds_one (dp_ret (de_v (pv 1))))))
abbrev st__joined : Stmt := topS 39
def names__joined : List Str := ["bounds", "low", "partner", "high", "many"]
theorem sc__joined : FnScope names__joined ["bounds", "low", "partner", "high"] (defScope st__joined) := ⟨rfl, rfl, rfl, by decide +kernel, rfl, by decide +kernel, by decide +kernel⟩
theorem ok__joined {fa : Addr} {fd : FuncData} (T : Tx K gl) (F : L2.Fun K "_joined" "_joined" st__joined fa fd) : FnG pr wd K gl bas 1 fa fd ["bounds", "low", "partner", "high"] (spD K R 4 r__joined) := by
  have sc := sc__joined
  refine FnG.data (g := g__joined) F sc rfl fun cdv A out sh H E q F hg hr => ?_
  exact (ds_cons (dp_set sc.nd (i := 4) rfl (by first | exact Or.inl rfl | exact Or.inr rfl) (de_ix rfl (dh_of (de_ix rfl (dh_v (pv 0)) (dh_v (pv 1)) (fun _ _ => rfl))) (dh_of (de_bin (sem_sub) (dh_v (pv 2)) (dh_v (pv 1)))) (fun _ _ => rfl)))
    (ds_cons (dp_if (dt_cmp (sem_lt) (dh_of (de_bin (sem_add rfl) (dh_v (pv 2)) (dh_of de_int))) (dh_v (pv 3)) (nomark _)) (ds_one (dp_aug sc.nd (i := 4) rfl (by first | exact Or.inl rfl | exact Or.inr rfl) (dh_of (de_ix rfl (dh_of (de_ix rfl (dh_v (pv 0)) (dh_of (de_bin (sem_add rfl) (dh_v (pv 2)) (dh_of de_int))) (fun _ _ => rfl))) (dh_of (de_bin (sem_sub) (dh_of (de_bin (sem_sub) (dh_v (pv 3)) (dh_v (pv 2)))) (dh_of de_int))) (fun _ _ => rfl))) sem_iadd)) ds_nil)
    (ds_one (dp_ret (de_v (pv 4))))))
abbrev st__most_of : Stmt := topS 38
def names__most_of : List Str := ["bounds", "partners", "low", "high", "joined", "partner"]
theorem sc__most_of : FnScope names__most_of ["bounds", "partners", "low", "high"] (defScope st__most_of) := ⟨rfl, rfl, rfl, by decide +kernel, rfl, by decide +kernel, by decide +kernel⟩
theorem ok__most_of {fa : Addr} {fd : FuncData} (T : Tx K gl) (F : L2.Fun K "_most_of" "_most_of" st__most_of fa fd) (C__joined : Cd pr wd K gl bas R 1 "_joined" 4 r__joined) : FnG pr wd K gl bas 2 fa fd ["bounds", "partners", "low", "high"] (spD K R 4 r__most_of) := by
  have sc := sc__most_of
  refine FnG.data (g := g__most_of) F sc rfl fun cdv A out sh H E q F hg hr => ?_
  exact (ds_cons (dp_if (dt_cmp (sem_eq rfl (hu64 hr)) (dh_v (pv 2)) (dh_v (pv 3)) (nomark _)) (ds_one (dp_ret de_int)) ds_nil)
    (ds_cons (dp_setLc (n := 4) (own := [("partner", 5)]) rfl sc.nd rfl rfl (sw_true rfl rfl rfl (by decide +kernel)) (di_seq rfl (de_v (pv 1))) (blkOk_by (own := [("partner", 5)]) (N := names__most_of) (sc := defScope st__most_of) (by decide +kernel)) (by decide) (fun _ _ _ _ _ => (dg_name sc.nd (i := 5) rfl (by first | exact Or.inl rfl | exact Or.inr rfl))) (fun _ _ _ _ _ => (dts_one (dt_cmp (sem_ge) (dh_v (pv 5)) (dh_v (pv 2)) (nomark _)))) (fun _ _ _ _ _ => (de_cd (C__joined.more (by decide)) rfl hg hr rfl (da_cons (de_v (pv 0)) (da_cons (de_v (pv 2)) (da_cons (de_v (pv 5)) (da_cons (de_v (pv 3)) da_nil)))))))
    (ds_one (dp_ret (de_cb (sem_min rfl rfl) rfl T.n_min (by decide +kernel) (dg_cons (dh_of (de_n (dn_lst (dl_cons (de_bin (sem_add rfl) (dh_of (de_ix rfl (dh_of (de_ix rfl (dh_v (pv 0)) (dh_v (pv 2)) (fun _ _ => rfl))) (dh_of (de_bin (sem_sub) (dh_of (de_bin (sem_sub) (dh_v (pv 3)) (dh_of de_int))) (dh_v (pv 2)))) (fun _ _ => rfl))) (dh_of de_int)) (dl_starL rfl (de_v (pv 4)) dl_nil))))) dg_nil))))))
abbrev st__best_bounds : Stmt := topS 36
def names__best_bounds : List Str := ["cues", "bounds", "partners", "low", "high", "_"]
theorem sc__best_bounds : FnScope names__best_bounds ["cues"] (defScope st__best_bounds) := ⟨rfl, rfl, rfl, by decide +kernel, rfl, by decide +kernel, by decide +kernel⟩
theorem ok__best_bounds {fa : Addr} {fd : FuncData} (T : Tx K gl) (F : L2.Fun K "_best_bounds" "_best_bounds" st__best_bounds fa fd) (C__all_partners : Cd pr wd K gl bas R 1 "_all_partners" 1 r__all_partners) (C__most_of : Cd pr wd K gl bas R 2 "_most_of" 4 r__most_of) : FnG pr wd K gl bas 3 fa fd ["cues"] (spD K R 1 s__best_bounds) := by
  have sc := sc__best_bounds
  refine FnG.of F sc (fun vs H Q E ⟨q, F0, as, m, P, w, pa, hl, _⟩ => by rw [paired_len pa, hl]; rfl) fun cdv A out sh H vs Q E hg hr h => ?_
  obtain ⟨⟨K', R', p', F0', H0'⟩, hK, hR, says⟩ := bb_all (N := names__best_bounds) rfl h
  have hK : K' = K := hK
  have hR : R' = R := hR
  subst hK
  subst hR
  refine ⟨bbT r__all_partners r__most_of ⟨K', R', p', F0', H0'⟩, ?_, says⟩
  exact (pss_cons (ps_setLc (i := 1) (own := [("_", 5)]) rfl sc.nd rfl rfl (sw_true rfl rfl rfl (by decide +kernel)) (di_seq rfl (de_v (pv 0))) (blkOk_by (own := [("_", 5)]) (N := names__best_bounds) (sc := defScope st__best_bounds) (by decide +kernel)) (fun _ _ _ _ _ => (dg_name sc.nd (i := 5) rfl (by first | exact Or.inl rfl | exact Or.inr rfl))) (fun _ _ _ _ _ => dts_nil) (fun _ _ _ _ _ => (dn_lst dl_nil)))
    (pss_cons (ps_set sc.nd (i := 2) rfl (by first | exact Or.inl rfl | exact Or.inr rfl) (de_cd (C__all_partners.more (by decide)) rfl hg hr rfl (da_cons (de_v (pv 0)) da_nil)) rfl)
    (pss_cons (ps_for PassesOwn.never rfl (di_rev1 rfl T.n_reversed rfl T.n_range (de_cb (sem_len rfl) rfl T.n_len (by decide +kernel) (dg_cons (dh_v (pv 0)) dg_nil))) (pg_name (i := 3) sc.nd rfl (by first | exact Or.inl rfl | exact Or.inr rfl))
      (pss_one (ps_for PassesOwn.never rfl (di_range2 rfl T.n_range (dl_cons (de_v (pv 3)) (dl_cons (de_cb (sem_len rfl) rfl T.n_len (by decide +kernel) (dg_cons (dh_v (pv 0)) dg_nil)) dl_nil))) (pg_name (i := 4) sc.nd rfl (by first | exact Or.inl rfl | exact Or.inr rfl)) (pss_one (ps_expr (pe_bm PySem.F.plainAttrs_list PySem.F.slot_list_append PySem.F.type_list_append mt_append (pe_ix ix_list (pv 1) (pv 3) (fun _ _ => rfl)) (pa_cons (de_cd (C__most_of.more (by decide)) rfl hg hr rfl (da_cons (de_v (pv 1)) (da_cons (de_ix rfl (dh_v (pv 2)) (dh_v (pv 4)) (fun _ _ => rfl)) (da_cons (de_v (pv 3)) (da_cons (de_v (pv 4)) da_nil))))) pa_nil)))))))
    (pss_one (ps_ret (pv 1))))))
abbrev st_fewest : Stmt := topS 31
def names_fewest : List Str := ["file"]
theorem sc_fewest : FnScope names_fewest ["file"] (defScope st_fewest) := ⟨rfl, rfl, rfl, by decide +kernel, rfl, by decide +kernel, by decide +kernel⟩
theorem ok_fewest {fa : Addr} {fd : FuncData} (T : Tx K gl) (F : L2.Fun K "fewest" "fewest" st_fewest fa fd) (C__greatest : Cd pr wd K gl bas R 1 "_greatest" 1 r__greatest) (C__best_bounds : Cd pr wd K gl bas R 3 "_best_bounds" 1 s__best_bounds) (C_flat : Cd pr wd K gl bas R 7 "flat" 1 r_flat) : FnG pr wd K gl bas 8 fa fd ["file"] (spD K R 1 r_fewest) := by
  have sc := sc_fewest
  refine FnG.data (g := g_fewest) F sc rfl fun cdv A out sh H E q F hg hr => ?_
  exact (ds_one (dp_ret (de_cd (C__greatest.more (by decide)) rfl hg hr rfl (da_cons (de_cd (C__best_bounds.more (by decide)) rfl hg hr rfl (da_cons (de_cd (C_flat.more (by decide)) rfl hg hr rfl (da_cons (de_v (pv 0)) da_nil)) da_nil)) da_nil))))
abbrev st__strokes : Stmt := topS 42
def names__strokes : List Str := ["cues", "goes_on", "ends", "strokes", "place", "cue"]
theorem sc__strokes : FnScope names__strokes ["cues", "goes_on"] (defScope st__strokes) := ⟨rfl, rfl, rfl, by decide +kernel, rfl, by decide +kernel, by decide +kernel⟩
theorem ok__strokes {fa : Addr} {fd : FuncData} (T : Tx K gl) (F : L2.Fun K "_strokes" "_strokes" st__strokes fa fd) : FnG pr wd K gl bas 1 fa fd ["cues", "goes_on"] (spD K R 2 r__strokes) := by
  have sc := sc__strokes
  refine FnG.data (g := g__strokes) F sc rfl fun cdv A out sh H E q F hg hr => ?_
  exact (ds_cons (dp_setLcN (n := 2) (own := [("cue", 5)]) rfl sc.nd rfl rfl (sw_true rfl rfl rfl (by decide +kernel)) (di_seq rfl (de_v (pv 0))) (blkOk_by (own := [("cue", 5)]) (N := names__strokes) (sc := defScope st__strokes) (by decide +kernel)) (by decide) (fun _ _ _ _ _ => (dg_name sc.nd (i := 5) rfl (by first | exact Or.inl rfl | exact Or.inr rfl))) (fun _ _ _ _ _ => dts_nil) (fun _ _ _ _ _ => (de_ix rfl (dh_v (pv 5)) (dh_of de_int) (fun _ _ => rfl))))
    (ds_cons (dp_setN sc.nd (i := 3) rfl (by first | exact Or.inl rfl | exact Or.inr rfl) (dn_lst dl_nil))
    (ds_cons (dp_for PassesOwn.never rfl (di_rev1 rfl T.n_reversed rfl T.n_range (de_cb (sem_len rfl) rfl T.n_len (by decide +kernel) (dg_cons (dh_v (pv 0)) dg_nil))) (dg_name sc.nd (i := 4) rfl (by first | exact Or.inl rfl | exact Or.inr rfl)) (ds_one (dp_if (dt_cmp (sem_is) (dh_of (de_ix rfl (dh_v (pv 1)) (dh_v (pv 4)) (fun _ _ => rfl))) (dh_of de_non) (nomark _)) (ds_one (dp_app rfl (pv 3) (de_tup (dl_cons (de_ix rfl (dh_of (de_ix rfl (dh_v (pv 0)) (dh_v (pv 4)) (fun _ _ => rfl))) (dh_of de_int) (fun _ _ => rfl)) (dl_cons (de_ix rfl (dh_v (pv 2)) (dh_v (pv 4)) (fun _ _ => rfl)) (dl_cons (de_ix rfl (dh_of (de_ix rfl (dh_v (pv 0)) (dh_v (pv 4)) (fun _ _ => rfl))) (dh_of de_int) (fun _ _ => rfl)) dl_nil)))))) (ds_one (dp_put (pv 2) (de_ix rfl (dh_v (pv 1)) (dh_v (pv 4)) (fun _ _ => rfl)) (de_ix rfl (dh_v (pv 2)) (dh_v (pv 4)) (fun _ _ => rfl)))))))
    (ds_one (dp_ret (de_ct (sem_tuple rfl) rfl T.n_tuple (by decide +kernel) (dg_cons (dh_of (de_rev rfl (dh_v (pv 3)))) dg_nil)))))))
abbrev st__partner_in : Stmt := topS 41
def names__partner_in : List Str := ["bounds", "partners", "low", "high", "partner"]
theorem sc__partner_in : FnScope names__partner_in ["bounds", "partners", "low", "high"] (defScope st__partner_in) := ⟨rfl, rfl, rfl, by decide +kernel, rfl, by decide +kernel, by decide +kernel⟩
theorem ok__partner_in {fa : Addr} {fd : FuncData} (T : Tx K gl) (F : L2.Fun K "_partner_in" "_partner_in" st__partner_in fa fd) (C__joined : Cd pr wd K gl bas R 1 "_joined" 4 r__joined) : FnG pr wd K gl bas 2 fa fd ["bounds", "partners", "low", "high"] (spD K R 4 r__partner_in) := by
  have sc := sc__partner_in
  refine FnG.data (g := g__partner_in) F sc rfl fun cdv A out sh H E q F hg hr => ?_
  exact (ds_cons (dp_for PassesOwn.never rfl (di_seq rfl (de_v (pv 1))) (dg_name sc.nd (i := 4) rfl (by first | exact Or.inl rfl | exact Or.inr rfl)) (ds_one (dp_if (PW.pt (dw_and (dt_cmp (sem_ge) (dh_v (pv 4)) (dh_v (pv 2)) (nomark _)) (pw_and1 (dt_cmp (sem_eq rfl (hu64 hr)) (dh_of (de_cd (C__joined.more (by decide)) rfl hg hr rfl (da_cons (de_v (pv 0)) (da_cons (de_v (pv 2)) (da_cons (de_v (pv 4)) (da_cons (de_v (pv 3)) da_nil)))))) (dh_of (de_ix rfl (dh_of (de_ix rfl (dh_v (pv 0)) (dh_v (pv 2)) (fun _ _ => rfl))) (dh_of (de_bin (sem_sub) (dh_v (pv 3)) (dh_v (pv 2)))) (fun _ _ => rfl))) (nomark _))))) (ds_one (dp_ret (de_v (pv 4)))) ds_nil)))
    (ds_one (dp_ret de_non)))
abbrev st__file_of : Stmt := topS 40
def names__file_of : List Str := ["cues", "bounds", "partners", "goes_on", "ranges", "low", "high", "partner"]
theorem sc__file_of : FnScope names__file_of ["cues", "bounds"] (defScope st__file_of) := ⟨rfl, rfl, rfl, by decide +kernel, rfl, by decide +kernel, by decide +kernel⟩
theorem ok__file_of {fa : Addr} {fd : FuncData} (T : Tx K gl) (F : L2.Fun K "_file_of" "_file_of" st__file_of fa fd) (C__all_partners : Cd pr wd K gl bas R 1 "_all_partners" 1 r__all_partners) (C__partner_in : Cd pr wd K gl bas R 2 "_partner_in" 4 r__partner_in) (C__strokes : Cd pr wd K gl bas R 1 "_strokes" 2 r__strokes) : FnG pr wd K gl bas 3 fa fd ["cues", "bounds"] (spD K R 2 r__file_of) := by
  have sc := sc__file_of
  refine FnG.data (g := g__file_of) F sc rfl fun cdv A out sh H E q F hg hr => ?_
  exact (ds_cons (dp_set sc.nd (i := 2) rfl (by first | exact Or.inl rfl | exact Or.inr rfl) (de_cd (C__all_partners.more (by decide)) rfl hg hr rfl (da_cons (de_v (pv 0)) da_nil)))
    (ds_cons (dp_setN sc.nd (i := 3) rfl (by first | exact Or.inl rfl | exact Or.inr rfl) (dn_rep (dn_lst (dl_cons de_non dl_nil)) (de_cb (sem_len rfl) rfl T.n_len (by decide +kernel) (dg_cons (dh_v (pv 0)) dg_nil))))
    (ds_cons (dp_setN sc.nd (i := 4) rfl (by first | exact Or.inl rfl | exact Or.inr rfl) (dn_lst (dl_cons (de_tup (dl_cons de_int (dl_cons (de_bin (sem_sub) (dh_of (de_cb (sem_len rfl) rfl T.n_len (by decide +kernel) (dg_cons (dh_v (pv 0)) dg_nil))) (dh_of de_int)) dl_nil))) dl_nil)))
    (ds_cons (dp_while PassesOwn.never (dt_truth rfl (dh_v (pv 4))) (ds_cons (dp_asg (de_pop (pv 4)) (dg_tup rfl rfl (dgs_cons (dg_name sc.nd (i := 5) rfl (by first | exact Or.inl rfl | exact Or.inr rfl)) (dgs_cons (dg_name sc.nd (i := 6) rfl (by first | exact Or.inl rfl | exact Or.inr rfl)) dgs_nil))))
    (ds_one (dp_if (dt_cmp (sem_le) (dh_v (pv 5)) (dh_v (pv 6)) (nomark _)) (ds_cons (dp_set sc.nd (i := 7) rfl (by first | exact Or.inl rfl | exact Or.inr rfl) (de_cd (C__partner_in.more (by decide)) rfl hg hr rfl (da_cons (de_v (pv 1)) (da_cons (de_ix rfl (dh_v (pv 2)) (dh_v (pv 6)) (fun _ _ => rfl)) (da_cons (de_v (pv 5)) (da_cons (de_v (pv 6)) da_nil))))))
    (ds_cons (dp_put (pv 3) (de_v (pv 6)) (de_v (pv 7)))
    (ds_one (dp_if (dt_cmp (sem_is) (dh_v (pv 7)) (dh_of de_non) (nomark _)) (ds_one (dp_app rfl (pv 4) (de_tup (dl_cons (de_v (pv 5)) (dl_cons (de_bin (sem_sub) (dh_v (pv 6)) (dh_of de_int)) dl_nil))))) (ds_cons (dp_app rfl (pv 4) (de_tup (dl_cons (de_v (pv 5)) (dl_cons (de_v (pv 7)) dl_nil))))
    (ds_one (dp_app rfl (pv 4) (de_tup (dl_cons (de_bin (sem_add rfl) (dh_v (pv 7)) (dh_of de_int)) (dl_cons (de_bin (sem_sub) (dh_v (pv 6)) (dh_of de_int)) dl_nil)))))))))) ds_nil))))
    (ds_one (dp_ret (de_cd (C__strokes.more (by decide)) rfl hg hr rfl (da_cons (de_v (pv 0)) (da_cons (de_v (pv 3)) da_nil)))))))))
abbrev st_fewest_file : Stmt := topS 32
def names_fewest_file : List Str := ["file", "cues"]
theorem sc_fewest_file : FnScope names_fewest_file ["file"] (defScope st_fewest_file) := ⟨rfl, rfl, rfl, by decide +kernel, rfl, by decide +kernel, by decide +kernel⟩
theorem ok_fewest_file {fa : Addr} {fd : FuncData} (T : Tx K gl) (F : L2.Fun K "fewest_file" "fewest_file" st_fewest_file fa fd) (C_flat : Cd pr wd K gl bas R 7 "flat" 1 r_flat) (C__file_of : Cd pr wd K gl bas R 3 "_file_of" 2 r__file_of) (C__best_bounds : Cd pr wd K gl bas R 3 "_best_bounds" 1 s__best_bounds) : FnG pr wd K gl bas 8 fa fd ["file"] (spD K R 1 r_fewest_file) := by
  have sc := sc_fewest_file
  refine FnG.data (g := g_fewest_file) F sc rfl fun cdv A out sh H E q F hg hr => ?_
  exact (ds_cons (dp_set sc.nd (i := 1) rfl (by first | exact Or.inl rfl | exact Or.inr rfl) (de_cd (C_flat.more (by decide)) rfl hg hr rfl (da_cons (de_v (pv 0)) da_nil)))
    (ds_one (dp_ret (de_cd (C__file_of.more (by decide)) rfl hg hr rfl (da_cons (de_v (pv 1)) (da_cons (de_cd (C__best_bounds.more (by decide)) rfl hg hr rfl (da_cons (de_v (pv 1)) da_nil)) da_nil))))))
abbrev st_strokes_paper : Stmt := topS 33
def names_strokes_paper : List Str := ["file", "cues", "bounds", "row"]
theorem sc_strokes_paper : FnScope names_strokes_paper ["file"] (defScope st_strokes_paper) := ⟨rfl, rfl, rfl, by decide +kernel, rfl, by decide +kernel, by decide +kernel⟩
theorem ok_strokes_paper {fa : Addr} {fd : FuncData} (T : Tx K gl) (F : L2.Fun K "strokes_paper" "strokes_paper" st_strokes_paper fa fd) (C_flat : Cd pr wd K gl bas R 7 "flat" 1 r_flat) (C__best_bounds : Cd pr wd K gl bas R 3 "_best_bounds" 1 s__best_bounds) (C__file_of : Cd pr wd K gl bas R 3 "_file_of" 2 r__file_of) : FnG pr wd K gl bas 8 fa fd ["file"] (spD K R 1 r_strokes_paper) := by
  have sc := sc_strokes_paper
  refine FnG.data (g := g_strokes_paper) F sc rfl fun cdv A out sh H E q F hg hr => ?_
  exact (ds_cons (dp_set sc.nd (i := 1) rfl (by first | exact Or.inl rfl | exact Or.inr rfl) (de_cd (C_flat.more (by decide)) rfl hg hr rfl (da_cons (de_v (pv 0)) da_nil)))
    (ds_cons (dp_set sc.nd (i := 2) rfl (by first | exact Or.inl rfl | exact Or.inr rfl) (de_cd (C__best_bounds.more (by decide)) rfl hg hr rfl (da_cons (de_v (pv 1)) da_nil)))
    (ds_one (dp_ret (de_tup (dl_cons (de_cd (C__file_of.more (by decide)) rfl hg hr rfl (da_cons (de_v (pv 1)) (da_cons (de_v (pv 2)) da_nil))) (dl_cons (de_ct (sem_tuple rfl) rfl T.n_tuple (by decide +kernel) (dg_cons (dh_of (de_n (dn_lc (own := [("row", 3)]) rfl sc.nd (di_seq rfl (de_v (pv 2))) (blkOk_by (own := [("row", 3)]) (N := names_strokes_paper) (sc := defScope st_strokes_paper) (by decide +kernel)) (by decide) (fun _ _ _ _ _ => (dg_name sc.nd (i := 3) rfl (by first | exact Or.inl rfl | exact Or.inr rfl))) (fun _ _ _ _ _ => dts_nil) (fun _ _ _ _ _ => (de_ct (sem_tuple rfl) rfl T.n_tuple (by decide +kernel) (dg_cons (dh_v (pv 3)) dg_nil)))))) dg_nil)) dl_nil)))))))
abbrev st__is_row : Stmt := topS 44
def names__is_row : List Str := ["bounds", "partners", "low", "place", "bound"]
theorem sc__is_row : FnScope names__is_row ["bounds", "partners", "low"] (defScope st__is_row) := ⟨rfl, rfl, rfl, by decide +kernel, rfl, by decide +kernel, by decide +kernel⟩
theorem ok__is_row {fa : Addr} {fd : FuncData} (T : Tx K gl) (F : L2.Fun K "_is_row" "_is_row" st__is_row fa fd) (C__most_of : Cd pr wd K gl bas R 2 "_most_of" 4 r__most_of) : FnG pr wd K gl bas 3 fa fd ["bounds", "partners", "low"] (spD K R 3 r__is_row) := by
  have sc := sc__is_row
  refine FnG.data (g := g__is_row) F sc rfl fun cdv A out sh H E q F hg hr => ?_
  exact (ds_cons (dp_for PassesOwn.never rfl (di_enum rfl rfl T.n_enumerate (dl_cons (de_ix rfl (dh_v (pv 0)) (dh_v (pv 2)) (fun _ _ => rfl)) dl_nil)) (dg_tup rfl rfl (dgs_cons (dg_name sc.nd (i := 3) rfl (by first | exact Or.inl rfl | exact Or.inr rfl)) (dgs_cons (dg_name sc.nd (i := 4) rfl (by first | exact Or.inl rfl | exact Or.inr rfl)) dgs_nil))) (ds_one (dp_if (dt_cmp (sem_gt) (dh_v (pv 4)) (dh_of (de_cd (C__most_of.more (by decide)) rfl hg hr rfl (da_cons (de_v (pv 0)) (da_cons (de_ix rfl (dh_v (pv 1)) (dh_of (de_bin (sem_add rfl) (dh_v (pv 2)) (dh_v (pv 3)))) (fun _ _ => rfl)) (da_cons (de_v (pv 2)) (da_cons (de_bin (sem_add rfl) (dh_v (pv 2)) (dh_v (pv 3))) da_nil)))))) (nomark _)) (ds_one (dp_ret de_bl)) ds_nil)))
    (ds_one (dp_ret de_bl)))
abbrev st__are_bounds : Stmt := topS 43
def names__are_bounds : List Str := ["cues", "thing", "partners", "low", "row", "wide", "bound"]
theorem sc__are_bounds : FnScope names__are_bounds ["cues", "thing"] (defScope st__are_bounds) := ⟨rfl, rfl, rfl, by decide +kernel, rfl, by decide +kernel, by decide +kernel⟩
theorem ok__are_bounds {fa : Addr} {fd : FuncData} (T : Tx K gl) (F : L2.Fun K "_are_bounds" "_are_bounds" st__are_bounds fa fd) (C_is_tuple : Cd pr wd K gl bas R 1 "is_tuple" 3 r_is_tuple) (C_is_integer : Cd pr wd K gl bas R 1 "is_integer" 1 r_is_integer) (C__all_partners : Cd pr wd K gl bas R 1 "_all_partners" 1 r__all_partners) (C__is_row : Cd pr wd K gl bas R 3 "_is_row" 3 r__is_row) : FnG pr wd K gl bas 4 fa fd ["cues", "thing"] (spD K R 2 r__are_bounds) := by
  have sc := sc__are_bounds
  refine FnG.data (g := g__are_bounds) F sc rfl fun cdv A out sh H E q F hg hr => ?_
  exact (ds_cons (dp_if (dt_not (dt_truth rfl (dh_of (de_cd (C_is_tuple.more (by decide)) rfl hg hr rfl (da_cons (de_v (pv 1)) (da_cons (de_cb (sem_len rfl) rfl T.n_len (by decide +kernel) (dg_cons (dh_v (pv 0)) dg_nil)) (da_cons (de_cb (sem_len rfl) rfl T.n_len (by decide +kernel) (dg_cons (dh_v (pv 0)) dg_nil)) da_nil))))))) (ds_one (dp_ret de_bl)) ds_nil)
    (ds_cons (dp_for PassesOwn.never rfl (di_enum rfl rfl T.n_enumerate (dl_cons (de_v (pv 1)) dl_nil)) (dg_tup rfl rfl (dgs_cons (dg_name sc.nd (i := 3) rfl (by first | exact Or.inl rfl | exact Or.inr rfl)) (dgs_cons (dg_name sc.nd (i := 4) rfl (by first | exact Or.inl rfl | exact Or.inr rfl)) dgs_nil))) (ds_cons (dp_set sc.nd (i := 5) rfl (by first | exact Or.inl rfl | exact Or.inr rfl) (de_bin (sem_sub) (dh_of (de_cb (sem_len rfl) rfl T.n_len (by decide +kernel) (dg_cons (dh_v (pv 0)) dg_nil))) (dh_v (pv 3))))
    (ds_one (dp_if (PW.pt (dw_or (dt_not (dt_truth rfl (dh_of (de_cd (C_is_tuple.more (by decide)) rfl hg hr rfl (da_cons (de_v (pv 4)) (da_cons (de_v (pv 5)) (da_cons (de_v (pv 5)) da_nil))))))) (pw_or1 (dt_not (dt_truth rfl (dh_of (de_cb (sem_all rfl rfl) rfl T.n_all (by decide +kernel) (dg_cons (dh_of (de_n (dn_lc (own := [("bound", 6)]) rfl sc.nd (di_seq rfl (de_v (pv 4))) (blkOk_by (own := [("bound", 6)]) (N := names__are_bounds) (sc := defScope st__are_bounds) (by decide +kernel)) (by decide) (fun _ _ _ _ _ => (dg_name sc.nd (i := 6) rfl (by first | exact Or.inl rfl | exact Or.inr rfl))) (fun _ _ _ _ _ => dts_nil) (fun _ _ _ _ _ => (de_cd (C_is_integer.more (by decide)) rfl hg hr rfl (da_cons (de_v (pv 6)) da_nil)))))) dg_nil)))))))) (ds_one (dp_ret de_bl)) ds_nil))))
    (ds_cons (dp_set sc.nd (i := 2) rfl (by first | exact Or.inl rfl | exact Or.inr rfl) (de_cd (C__all_partners.more (by decide)) rfl hg hr rfl (da_cons (de_v (pv 0)) da_nil)))
    (ds_one (dp_ret (de_cb (sem_all rfl rfl) rfl T.n_all (by decide +kernel) (dg_cons (dh_of (de_n (dn_lc (own := [("low", 3)]) rfl sc.nd (di_range1 rfl T.n_range (dl_cons (de_cb (sem_len rfl) rfl T.n_len (by decide +kernel) (dg_cons (dh_v (pv 0)) dg_nil)) dl_nil)) (blkOk_by (own := [("low", 3)]) (N := names__are_bounds) (sc := defScope st__are_bounds) (by decide +kernel)) (by decide) (fun _ _ _ _ _ => (dg_name sc.nd (i := 3) rfl (by first | exact Or.inl rfl | exact Or.inr rfl))) (fun _ _ _ _ _ => dts_nil) (fun _ _ _ _ _ => (de_cd (C__is_row.more (by decide)) rfl hg hr rfl (da_cons (de_v (pv 1)) (da_cons (de_v (pv 2)) (da_cons (de_v (pv 3)) da_nil)))))))) dg_nil)))))))
abbrev st_check_strokes : Stmt := topS 34
def names_check_strokes : List Str := ["file", "paper", "found", "bounds"]
theorem sc_check_strokes : FnScope names_check_strokes ["file", "paper"] (defScope st_check_strokes) := ⟨rfl, rfl, rfl, by decide +kernel, rfl, by decide +kernel, by decide +kernel⟩
theorem okX_check_strokes {fa : Addr} {fd : FuncData} (T : Tx K gl) (F : L2.Fun K "check_strokes" "check_strokes" st_check_strokes fa fd) (C_is_tuple : Cd pr wd K gl bas R 1 "is_tuple" 3 r_is_tuple) (C_is_file : Cd pr wd K gl bas R 6 "is_file" 1 r_is_file) (C_apart : Cd pr wd K gl bas R 7 "apart" 2 r_apart) (C__are_bounds : Cd pr wd K gl bas R 4 "_are_bounds" 2 r__are_bounds) (C_flat : Cd pr wd K gl bas R 7 "flat" 1 r_flat) (C__greatest : Cd pr wd K gl bas R 1 "_greatest" 1 r__greatest) (CX_need_file : CdX pr wd K gl bas R 7 "need_file" 1 rx_need_file) (K_BadPaper : ClsAt pr wd K gl bas "BadPaper" (some "part")) : FnX pr wd K gl bas 9 fa fd ["file", "paper"] (spX K gl R 2 rx_check_strokes) := by
  have sc := sc_check_strokes
  refine FnX.data (g := gx_check_strokes) F sc rfl fun cdv A out sh H E q F px hg hr tk => ?_
  exact (ds_cons (dp_expr (de_cdX tk (CX_need_file.more (by decide)) rfl hg hr rfl (da_cons (de_v (pv 0)) da_nil)))
    (ds_cons (dp_if (dt_not (dt_truth rfl (dh_of (de_cd (C_is_tuple.more (by decide)) rfl hg hr rfl (da_cons (de_v (pv 1)) (da_cons de_int (da_cons de_int da_nil))))))) (ds_one (dp_raise1 K_BadPaper tk rfl rfl (hr.mono (by decide)) rfl de_str)) ds_nil)
    (ds_cons (dp_asg (de_v (pv 1)) (dg_tup rfl rfl (dgs_cons (dg_name sc.nd (i := 2) rfl (by first | exact Or.inl rfl | exact Or.inr rfl)) (dgs_cons (dg_name sc.nd (i := 3) rfl (by first | exact Or.inl rfl | exact Or.inr rfl)) dgs_nil))))
    (ds_cons (dp_if (PW.pt (dw_or (dt_not (dt_truth rfl (dh_of (de_cd (C_is_file.more (by decide)) rfl hg hr rfl (da_cons (de_v (pv 2)) da_nil))))) (pw_or1 (dt_cmp (sem_isnot) (dh_of (de_cd (C_apart.more (by decide)) rfl hg hr rfl (da_cons (de_v (pv 2)) (da_cons (de_v (pv 0)) da_nil)))) (dh_of de_non) (nomark _))))) (ds_one (dp_raise1 K_BadPaper tk rfl rfl (hr.mono (by decide)) rfl de_str)) ds_nil)
    (ds_cons (dp_if (PW.pt (dw_or (dt_not (dt_truth rfl (dh_of (de_cd (C__are_bounds.more (by decide)) rfl hg hr rfl (da_cons (de_cd (C_flat.more (by decide)) rfl hg hr rfl (da_cons (de_v (pv 0)) da_nil)) (da_cons (de_v (pv 3)) da_nil)))))) (pw_or1 (dt_cmp (sem_ne rfl (hu64 hr)) (dh_of (de_cd (C__greatest.more (by decide)) rfl hg hr rfl (da_cons (de_v (pv 3)) da_nil))) (dh_of (de_cb (sem_len rfl) rfl T.n_len (by decide +kernel) (dg_cons (dh_v (pv 2)) dg_nil))) (nomark _))))) (ds_one (dp_raise1 K_BadPaper tk rfl rfl (hr.mono (by decide)) rfl de_str)) ds_nil)
    (ds_one (dp_ret (de_cb (sem_len rfl) rfl T.n_len (by decide +kernel) (dg_cons (dh_v (pv 2)) dg_nil)))))))))
theorem ok_check_strokes {fa : Addr} {fd : FuncData} (T : Tx K gl) (F : L2.Fun K "check_strokes" "check_strokes" st_check_strokes fa fd) (C_need_file : Cd pr wd K gl bas R 6 "need_file" 1 r_need_file) (C_is_tuple : Cd pr wd K gl bas R 1 "is_tuple" 3 r_is_tuple) (C_is_file : Cd pr wd K gl bas R 6 "is_file" 1 r_is_file) (C_apart : Cd pr wd K gl bas R 7 "apart" 2 r_apart) (C__are_bounds : Cd pr wd K gl bas R 4 "_are_bounds" 2 r__are_bounds) (C_flat : Cd pr wd K gl bas R 7 "flat" 1 r_flat) (C__greatest : Cd pr wd K gl bas R 1 "_greatest" 1 r__greatest) : FnG pr wd K gl bas 8 fa fd ["file", "paper"] (spD K R 2 r_check_strokes) := by
  have sc := sc_check_strokes
  refine FnG.data (g := g_check_strokes) F sc rfl fun cdv A out sh H E q F hg hr => ?_
  exact (ds_cons (dp_expr (de_cd (C_need_file.more (by decide)) rfl hg hr rfl (da_cons (de_v (pv 0)) da_nil)))
    (ds_cons (dp_if (dt_not (dt_truth rfl (dh_of (de_cd (C_is_tuple.more (by decide)) rfl hg hr rfl (da_cons (de_v (pv 1)) (da_cons de_int (da_cons de_int da_nil))))))) ds_never ds_nil)
    (ds_cons (dp_asg (de_v (pv 1)) (dg_tup rfl rfl (dgs_cons (dg_name sc.nd (i := 2) rfl (by first | exact Or.inl rfl | exact Or.inr rfl)) (dgs_cons (dg_name sc.nd (i := 3) rfl (by first | exact Or.inl rfl | exact Or.inr rfl)) dgs_nil))))
    (ds_cons (dp_if (PW.pt (dw_or (dt_not (dt_truth rfl (dh_of (de_cd (C_is_file.more (by decide)) rfl hg hr rfl (da_cons (de_v (pv 2)) da_nil))))) (pw_or1 (dt_cmp (sem_isnot) (dh_of (de_cd (C_apart.more (by decide)) rfl hg hr rfl (da_cons (de_v (pv 2)) (da_cons (de_v (pv 0)) da_nil)))) (dh_of de_non) (nomark _))))) ds_never ds_nil)
    (ds_cons (dp_if (PW.pt (dw_or (dt_not (dt_truth rfl (dh_of (de_cd (C__are_bounds.more (by decide)) rfl hg hr rfl (da_cons (de_cd (C_flat.more (by decide)) rfl hg hr rfl (da_cons (de_v (pv 0)) da_nil)) (da_cons (de_v (pv 3)) da_nil)))))) (pw_or1 (dt_cmp (sem_ne rfl (hu64 hr)) (dh_of (de_cd (C__greatest.more (by decide)) rfl hg hr rfl (da_cons (de_v (pv 3)) da_nil))) (dh_of (de_cb (sem_len rfl) rfl T.n_len (by decide +kernel) (dg_cons (dh_v (pv 2)) dg_nil))) (nomark _))))) ds_never ds_nil)
    (ds_one (dp_ret (de_cb (sem_len rfl) rfl T.n_len (by decide +kernel) (dg_cons (dh_v (pv 2)) dg_nil)))))))))
abbrev st__law_mix : Stmt := topS 46
def names__law_mix : List Str := ["_law_cell", "_law_spot", "_law_first", "_law_second"]
theorem sc__law_mix : FnScope names__law_mix ["_law_cell", "_law_spot"] (defScope st__law_mix) := ⟨rfl, rfl, rfl, by decide +kernel, rfl, by decide +kernel, by decide +kernel⟩
theorem ok__law_mix {fa : Addr} {fd : FuncData} (T : Tx K gl) (F : L2.Fun K "_law_mix" "_law_mix" st__law_mix fa fd) : FnG pr wd K gl bas 1 fa fd ["_law_cell", "_law_spot"] (spD K R 2 r__law_mix) := by
  have sc := sc__law_mix
  refine FnG.data (g := g__law_mix) F sc rfl fun cdv A out sh H E q F hg hr => ?_
  exact (ds_cons (dp_set sc.nd (i := 2) rfl (by first | exact Or.inl rfl | exact Or.inr rfl) (de_bin (sem_mod) (dh_of (de_ct (sem_int) rfl T.n_int (by decide +kernel) (dg_cons (dh_of (de_bin (sem_add rfl) (dh_of (de_bin (sem_add rfl) (dh_of (de_bin (sem_mul rfl) (dh_v (pv 0)) (dh_of de_int))) (dh_of (de_bin (sem_mul rfl) (dh_v (pv 1)) (dh_of de_int))))) (dh_of de_int))) dg_nil))) (dh_of de_int)))
    (ds_cons (dp_set sc.nd (i := 3) rfl (by first | exact Or.inl rfl | exact Or.inr rfl) (de_bin (sem_mod) (dh_of (de_ct (sem_int) rfl T.n_int (by decide +kernel) (dg_cons (dh_of (de_bin (sem_add rfl) (dh_of (de_bin (sem_add rfl) (dh_of (de_bin (sem_mul rfl) (dh_v (pv 2)) (dh_of de_int))) (dh_v (pv 0)))) (dh_v (pv 1)))) dg_nil))) (dh_of de_int)))
    (ds_one (dp_ret (de_bin (sem_mod) (dh_of (de_ct (sem_int) rfl T.n_int (by decide +kernel) (dg_cons (dh_of (de_bin (sem_add rfl) (dh_of (de_bin (sem_mul rfl) (dh_v (pv 3)) (dh_of de_int))) (dh_of (de_bin (sem_mul rfl) (dh_of (de_bin (sem_mul rfl) (dh_v (pv 1)) (dh_v (pv 1)))) (dh_of de_int))))) dg_nil))) (dh_of de_int))))))
abbrev st__law_text : Stmt := topS 49
def names__law_text : List Str := ["_law_m"]
theorem sc__law_text : FnScope names__law_text ["_law_m"] (defScope st__law_text) := ⟨rfl, rfl, rfl, by decide +kernel, rfl, by decide +kernel, by decide +kernel⟩
theorem ok__law_text {fa : Addr} {fd : FuncData} (T : Tx K gl) (F : L2.Fun K "_law_text" "_law_text" st__law_text fa fd) (C__law_draw : Cd pr wd K gl bas R 2 "_law_draw" 2 s_next) : FnG pr wd K gl bas 3 fa fd ["_law_m"] (spD K R 1 r__law_text) := by
  have sc := sc__law_text
  refine FnG.data (g := g__law_text) F sc rfl fun cdv A out sh H E q F hg hr => ?_
  exact (ds_one (dp_ret (de_ix rfl (dh_of (de_n (dn_lst (dl_cons (de_tup (dl_cons de_str dl_nil)) (dl_cons (de_tup (dl_cons de_str dl_nil)) (dl_cons (de_tup (dl_cons de_str dl_nil)) (dl_cons (de_tup (dl_cons de_str (dl_cons de_str dl_nil))) (dl_cons (de_tup (dl_cons de_str dl_nil)) dl_nil)))))))) (dh_of (de_cdO (i := 0) (C__law_draw.more (by decide)) rfl hg hr rfl (da_ora (pv 0) (da_cons de_int da_nil)))) (fun _ _ => rfl))))
abbrev st__law_strokes : Stmt := topS 50
def names__law_strokes : List Str := ["_law_m", "_law_most", "_law_found", "_law_todo", "_law_low", "_law_high", "_law_rows", "_law_rest", "_law_begin", "_law_end", "_law_one"]
theorem sc__law_strokes : FnScope names__law_strokes ["_law_m", "_law_most"] (defScope st__law_strokes) := ⟨rfl, rfl, rfl, by decide +kernel, rfl, by decide +kernel, by decide +kernel⟩
theorem ok__law_strokes {fa : Addr} {fd : FuncData} (T : Tx K gl) (F : L2.Fun K "_law_strokes" "_law_strokes" st__law_strokes fa fd) (C__law_draw : Cd pr wd K gl bas R 2 "_law_draw" 2 s_next) (C__law_text : Cd pr wd K gl bas R 3 "_law_text" 1 r__law_text) : FnG pr wd K gl bas 4 fa fd ["_law_m", "_law_most"] (spD K R 2 r__law_strokes) := by
  have sc := sc__law_strokes
  refine FnG.data (g := g__law_strokes) F sc rfl fun cdv A out sh H E q F hg hr => ?_
  exact (ds_cons (dp_parNN rfl sc.nd (i := 2) (j := 3) rfl rfl (by decide) rfl rfl (dn_lst dl_nil) (dn_lst (dl_cons (de_tup (dl_cons (de_cdO (i := 0) (C__law_draw.more (by decide)) rfl hg hr rfl (da_ora (pv 0) (da_cons de_int da_nil))) (dl_cons (de_bin (sem_add rfl) (dh_of de_int) (dh_of (de_cdO (i := 0) (C__law_draw.more (by decide)) rfl hg hr rfl (da_ora (pv 0) (da_cons de_int da_nil))))) dl_nil))) dl_nil)) rfl)
    (ds_cons (dp_while PassesOwn.never (PW.pt (dw_and (dt_cmp (sem_ne rfl (hu64 hr)) (dh_v (pv 3)) (dh_of (de_n (dn_lst dl_nil))) (nomark _)) (pw_and1 (dt_cmp (sem_lt) (dh_of (de_cb (sem_len rfl) rfl T.n_len (by decide +kernel) (dg_cons (dh_v (pv 2)) dg_nil))) (dh_v (pv 1)) (nomark _))))) (ds_cons (dp_asg (de_popA (pv 3) (de_cdO (i := 0) (C__law_draw.more (by decide)) rfl hg hr rfl (da_ora (pv 0) (da_cons (de_cb (sem_len rfl) rfl T.n_len (by decide +kernel) (dg_cons (dh_v (pv 3)) dg_nil)) da_nil)))) (dg_tup rfl rfl (dgs_cons (dg_name sc.nd (i := 8) rfl (by first | exact Or.inl rfl | exact Or.inr rfl)) (dgs_cons (dg_name sc.nd (i := 9) rfl (by first | exact Or.inl rfl | exact Or.inr rfl)) dgs_nil))))
    (ds_cons (dp_set sc.nd (i := 4) rfl (by first | exact Or.inl rfl | exact Or.inr rfl) (de_bin (sem_add rfl) (dh_v (pv 8)) (dh_of (de_cdO (i := 0) (C__law_draw.more (by decide)) rfl hg hr rfl (da_ora (pv 0) (da_cons (de_cb (sem_min rfl rfl) rfl T.n_min (by decide +kernel) (dg_cons (dh_of de_int) (dg_cons (dh_of (de_bin (sem_sub) (dh_v (pv 9)) (dh_v (pv 8)))) dg_nil))) da_nil))))))
    (ds_cons (dp_set sc.nd (i := 5) rfl (by first | exact Or.inl rfl | exact Or.inr rfl) (de_bin (sem_add rfl) (dh_of (de_bin (sem_add rfl) (dh_v (pv 4)) (dh_of de_int))) (dh_of (de_cdO (i := 0) (C__law_draw.more (by decide)) rfl hg hr rfl (da_ora (pv 0) (da_cons (de_bin (sem_sub) (dh_v (pv 9)) (dh_v (pv 4))) da_nil))))))
    (ds_cons (dp_app rfl (pv 2) (de_tup (dl_cons (de_v (pv 4)) (dl_cons (de_v (pv 5)) (dl_cons (de_cdO (i := 0) (C__law_text.more (by decide)) rfl hg hr rfl (da_ora (pv 0) da_nil)) dl_nil)))))
    (ds_one (dp_setN sc.nd (i := 3) rfl (by first | exact Or.inl rfl | exact Or.inr rfl) (dn_cat rfl (dh_v (pv 3)) (dh_of (de_n (dn_lc (own := [("_law_one", 10)]) rfl sc.nd (di_seq rfl (de_n (dn_lst (dl_cons (de_tup (dl_cons (de_bin (sem_add rfl) (dh_v (pv 4)) (dh_of de_int)) (dl_cons (de_v (pv 5)) dl_nil))) (dl_cons (de_tup (dl_cons (de_v (pv 5)) (dl_cons (de_v (pv 9)) dl_nil))) (dl_cons (de_tup (dl_cons (de_bin (sem_add rfl) (dh_v (pv 4)) (dh_of de_int)) (dl_cons (de_v (pv 5)) dl_nil))) dl_nil)))))) (blkOk_by (own := [("_law_one", 10)]) (N := names__law_strokes) (sc := defScope st__law_strokes) (by decide +kernel)) (by decide) (fun _ _ _ _ _ => (dg_name sc.nd (i := 10) rfl (by first | exact Or.inl rfl | exact Or.inr rfl))) (fun _ _ _ _ _ => (dts_one (dt_cmp (sem_gt) (dh_of (de_ix rfl (dh_v (pv 10)) (dh_of de_int) (fun _ _ => rfl))) (dh_of (de_bin (sem_add rfl) (dh_of (de_ix rfl (dh_v (pv 10)) (dh_of de_int) (fun _ _ => rfl))) (dh_of de_int))) (nomark _)))) (fun _ _ _ _ _ => (de_v (pv 10))))))))))))))
    (ds_cons (dp_parNN rfl sc.nd (i := 6) (j := 7) rfl rfl (by decide) rfl rfl (dn_lst dl_nil) (dn_lstRg1 rfl rfl T.n_list rfl T.n_range (de_cb (sem_len rfl) rfl T.n_len (by decide +kernel) (dg_cons (dh_v (pv 2)) dg_nil))) rfl)
    (ds_cons (dp_while PassesOwn.never (dt_cmp (sem_ne rfl (hu64 hr)) (dh_v (pv 7)) (dh_of (de_n (dn_lst dl_nil))) (nomark _)) (ds_one (dp_app rfl (pv 6) (de_ix rfl (dh_v (pv 2)) (dh_of (de_popA (pv 7) (de_cdO (i := 0) (C__law_draw.more (by decide)) rfl hg hr rfl (da_ora (pv 0) (da_cons (de_cb (sem_len rfl) rfl T.n_len (by decide +kernel) (dg_cons (dh_v (pv 7)) dg_nil)) da_nil))))) (fun _ _ => rfl)))))
    (ds_one (dp_ret (de_ct (sem_tuple rfl) rfl T.n_tuple (by decide +kernel) (dg_cons (dh_v (pv 6)) dg_nil))))))))
abbrev st__law_seen : Stmt := topS 51
def names__law_seen : List Str := ["_law_file_so", "_law_spot", "_law_chosen", "_law_begin", "_law_end", "_law_text_here"]
theorem sc__law_seen : FnScope names__law_seen ["_law_file_so", "_law_spot"] (defScope st__law_seen) := ⟨rfl, rfl, rfl, by decide +kernel, rfl, by decide +kernel, by decide +kernel⟩
theorem ok__law_seen {fa : Addr} {fd : FuncData} (T : Tx K gl) (F : L2.Fun K "_law_seen" "_law_seen" st__law_seen fa fd) : FnG pr wd K gl bas 1 fa fd ["_law_file_so", "_law_spot"] (spD K R 2 r__law_seen) := by
  have sc := sc__law_seen
  refine FnG.data (g := g__law_seen) F sc rfl fun cdv A out sh H E q F hg hr => ?_
  exact (ds_cons (dp_set sc.nd (i := 2) rfl (by first | exact Or.inl rfl | exact Or.inr rfl) de_non)
    (ds_cons (dp_for PassesOwn.never rfl (di_seq rfl (de_v (pv 0))) (dg_tup rfl rfl (dgs_cons (dg_name sc.nd (i := 3) rfl (by first | exact Or.inl rfl | exact Or.inr rfl)) (dgs_cons (dg_name sc.nd (i := 4) rfl (by first | exact Or.inl rfl | exact Or.inr rfl)) (dgs_cons (dg_name sc.nd (i := 5) rfl (by first | exact Or.inl rfl | exact Or.inr rfl)) dgs_nil)))) (ds_one (dp_if (PW.pt (dw_and (dt_cmp (sem_le) (dh_v (pv 3)) (dh_v (pv 1)) (nomark _)) (dw_and (dt_cmp (sem_lt) (dh_v (pv 1)) (dh_v (pv 4)) (nomark _)) (pw_and1 (PW.pt (dw_or (dt_cmp (sem_is) (dh_v (pv 2)) (dh_of de_non) (nomark _)) (pw_or1 (dt_cmp (sem_ge) (dh_v (pv 3)) (dh_of (de_ix rfl (dh_v (pv 2)) (dh_of de_int) (fun _ _ => rfl))) (nomark _))))))))) (ds_one (dp_set sc.nd (i := 2) rfl (by first | exact Or.inl rfl | exact Or.inr rfl) (de_tup (dl_cons (de_v (pv 3)) (dl_cons (de_v (pv 5)) dl_nil))))) ds_nil)))
    (ds_one (dp_ret (de_if (dt_cmp (sem_isnot) (dh_v (pv 2)) (dh_of de_non) (nomark _)) (de_ix rfl (dh_v (pv 2)) (dh_of de_int) (fun _ _ => rfl)) de_non)))))
abbrev st__law_flatted : Stmt := topS 52
def names__law_flatted : List Str := ["_law_file_so", "_law_marks", "_law_k", "_law_found", "_law_begin", "_law_end", "_law_text_here", "_law_mark"]
theorem sc__law_flatted : FnScope names__law_flatted ["_law_file_so"] (defScope st__law_flatted) := ⟨rfl, rfl, rfl, by decide +kernel, rfl, by decide +kernel, by decide +kernel⟩
theorem ok__law_flatted {fa : Addr} {fd : FuncData} (T : Tx K gl) (F : L2.Fun K "_law_flatted" "_law_flatted" st__law_flatted fa fd) (C__law_seen : Cd pr wd K gl bas R 1 "_law_seen" 2 r__law_seen) : FnG pr wd K gl bas 2 fa fd ["_law_file_so"] (spD K R 1 r__law_flatted) := by
  have sc := sc__law_flatted
  refine FnG.data (g := g__law_flatted) F sc rfl fun cdv A out sh H E q F hg hr => ?_
  exact (ds_cons (dp_tupIN rfl sc.nd rfl (i := 1) (j := 3) rfl rfl (by decide) (by first | exact Or.inl rfl | exact Or.inr rfl) (by first | exact Or.inl rfl | exact Or.inr rfl) (by first | exact Or.inl rfl | exact Or.inr rfl) (by first | exact Or.inl rfl | exact Or.inr rfl) (de_n (dn_lst dl_nil)) (dn_lst dl_nil))
    (ds_cons (dp_for PassesOwn.never rfl (di_seq rfl (de_v (pv 0))) (dg_tup rfl rfl (dgs_cons (dg_name sc.nd (i := 4) rfl (by first | exact Or.inl rfl | exact Or.inr rfl)) (dgs_cons (dg_name sc.nd (i := 5) rfl (by first | exact Or.inl rfl | exact Or.inr rfl)) (dgs_cons (dg_name sc.nd (i := 6) rfl (by first | exact Or.inl rfl | exact Or.inr rfl)) dgs_nil)))) (ds_one (dp_set sc.nd (i := 1) rfl (by first | exact Or.inl rfl | exact Or.inr rfl) (de_bin (sem_add rfl) (dh_v (pv 1)) (dh_of (de_n (dn_lc (own := [("_law_mark", 7)]) rfl sc.nd (di_seq rfl (de_tup (dl_cons (de_v (pv 4)) (dl_cons (de_v (pv 5)) dl_nil)))) (blkOk_by (own := [("_law_mark", 7)]) (N := names__law_flatted) (sc := defScope st__law_flatted) (by decide +kernel)) (by decide) (fun _ _ _ _ _ => (dg_name sc.nd (i := 7) rfl (by first | exact Or.inl rfl | exact Or.inr rfl))) (fun _ _ _ _ _ => (dts_one (dt_cmp (sem_notin rfl (hu65 hr)) (dh_v (pv 7)) (dh_v (pv 1)) rfl))) (fun _ _ _ _ _ => (de_v (pv 7))))))))))
    (ds_cons (dp_set sc.nd (i := 1) rfl (by first | exact Or.inl rfl | exact Or.inr rfl) (de_cb (sem_sorted rfl) rfl T.n_sorted (by decide +kernel) (dg_cons (dh_v (pv 1)) dg_nil)))
    (ds_cons (dp_for PassesOwn.never rfl (di_range1 rfl T.n_range (dl_cons (de_bin (sem_sub) (dh_of (de_cb (sem_len rfl) rfl T.n_len (by decide +kernel) (dg_cons (dh_v (pv 1)) dg_nil))) (dh_of de_int)) dl_nil)) (dg_name sc.nd (i := 2) rfl (by first | exact Or.inl rfl | exact Or.inr rfl)) (ds_cons (dp_set sc.nd (i := 6) rfl (by first | exact Or.inl rfl | exact Or.inr rfl) (de_cd (C__law_seen.more (by decide)) rfl hg hr rfl (da_cons (de_v (pv 0)) (da_cons (de_ix rfl (dh_v (pv 1)) (dh_v (pv 2)) (fun _ _ => rfl)) da_nil))))
    (ds_one (dp_if (dt_cmp (sem_isnot) (dh_v (pv 6)) (dh_of de_non) (nomark _)) (ds_one (dp_if (PW.pt (dw_and (dt_cmp (sem_ne rfl (hu64 hr)) (dh_v (pv 3)) (dh_of (de_n (dn_lst dl_nil))) (nomark _)) (dw_and (dt_cmp (sem_eq rfl (hu64 hr)) (dh_of (de_ix rfl (dh_of (de_ix rfl (dh_v (pv 3)) (dh_of (de_neg de_int)) (fun _ _ => rfl))) (dh_of de_int) (fun _ _ => rfl))) (dh_of (de_ix rfl (dh_v (pv 1)) (dh_v (pv 2)) (fun _ _ => rfl))) (nomark _)) (pw_and1 (dt_cmp (sem_eq rfl (hu64 hr)) (dh_of (de_ix rfl (dh_of (de_ix rfl (dh_v (pv 3)) (dh_of (de_neg de_int)) (fun _ _ => rfl))) (dh_of de_int) (fun _ _ => rfl))) (dh_v (pv 6)) (nomark _)))))) (ds_one (dp_put (pv 3) (de_neg de_int) (de_tup (dl_cons (de_ix rfl (dh_of (de_ix rfl (dh_v (pv 3)) (dh_of (de_neg de_int)) (fun _ _ => rfl))) (dh_of de_int) (fun _ _ => rfl)) (dl_cons (de_ix rfl (dh_v (pv 1)) (dh_of (de_bin (sem_add rfl) (dh_v (pv 2)) (dh_of de_int))) (fun _ _ => rfl)) (dl_cons (de_v (pv 6)) dl_nil)))))) (ds_one (dp_app rfl (pv 3) (de_tup (dl_cons (de_ix rfl (dh_v (pv 1)) (dh_v (pv 2)) (fun _ _ => rfl)) (dl_cons (de_ix rfl (dh_v (pv 1)) (dh_of (de_bin (sem_add rfl) (dh_v (pv 2)) (dh_of de_int))) (fun _ _ => rfl)) (dl_cons (de_v (pv 6)) dl_nil)))))))) ds_nil))))
    (ds_one (dp_ret (de_ct (sem_tuple rfl) rfl T.n_tuple (by decide +kernel) (dg_cons (dh_v (pv 3)) dg_nil))))))))
abbrev st__law_least : Stmt := topS 53
def names__law_least : List Str := ["_law_rows", "_law_table", "_law_size", "_law_i", "_law_j", "_law_k", "_law_chosen", "_law_tied"]
theorem sc__law_least : FnScope names__law_least ["_law_rows"] (defScope st__law_least) := ⟨rfl, rfl, rfl, by decide +kernel, rfl, by decide +kernel, by decide +kernel⟩
theorem ok__law_least {fa : Addr} {fd : FuncData} (T : Tx K gl) (F : L2.Fun K "_law_least" "_law_least" st__law_least fa fd) : FnG pr wd K gl bas 1 fa fd ["_law_rows"] (spD K R 1 r__law_least) := by
  have sc := sc__law_least
  refine FnG.data (g := g__law_least) F sc rfl fun cdv A out sh H E q F hg hr => ?_
  exact (ds_cons (dp_setN sc.nd (i := 1) rfl (by first | exact Or.inl rfl | exact Or.inr rfl) dn_newT)
    (ds_cons (dp_for PassesOwn.never rfl (di_range2 rfl T.n_range (dl_cons de_int (dl_cons (de_bin (sem_add rfl) (dh_of (de_cb (sem_len rfl) rfl T.n_len (by decide +kernel) (dg_cons (dh_v (pv 0)) dg_nil))) (dh_of de_int)) dl_nil))) (dg_name sc.nd (i := 2) rfl (by first | exact Or.inl rfl | exact Or.inr rfl)) (ds_one (dp_for PassesOwn.never rfl (di_range1 rfl T.n_range (dl_cons (de_bin (sem_add rfl) (dh_of (de_bin (sem_sub) (dh_of (de_cb (sem_len rfl) rfl T.n_len (by decide +kernel) (dg_cons (dh_v (pv 0)) dg_nil))) (dh_v (pv 2)))) (dh_of de_int)) dl_nil)) (dg_name sc.nd (i := 3) rfl (by first | exact Or.inl rfl | exact Or.inr rfl)) (ds_cons (dp_set sc.nd (i := 4) rfl (by first | exact Or.inl rfl | exact Or.inr rfl) (de_bin (sem_sub) (dh_of (de_bin (sem_add rfl) (dh_v (pv 3)) (dh_v (pv 2)))) (dh_of de_int)))
    (ds_cons (dp_par rfl sc.nd (i := 6) (j := 7) rfl rfl (by decide) rfl rfl (dl_cons (de_bin (sem_add rfl) (dh_of (de_getOrT (hu1 hr) (dl_cons (de_v (pv 3)) (dl_cons (de_bin (sem_sub) (dh_v (pv 4)) (dh_of de_int)) dl_nil)) de_int (pv 1))) (dh_of de_int)) (dl_cons de_bl dl_nil)) rfl)
    (ds_cons (dp_for PassesOwn.never rfl (di_rangeDn rfl T.n_range (dl_cons (de_bin (sem_sub) (dh_v (pv 4)) (dh_of de_int)) (dl_cons (de_bin (sem_sub) (dh_v (pv 3)) (dh_of de_int)) (dl_cons (de_bin (sem_sub) (dh_of de_int) (dh_of de_int)) dl_nil)))) (dg_name sc.nd (i := 5) rfl (by first | exact Or.inl rfl | exact Or.inr rfl)) (ds_cons (dp_set sc.nd (i := 7) rfl (by first | exact Or.inl rfl | exact Or.inr rfl) (de_and (de_v (pv 7)) (pe_one (de_cmp (sem_eq rfl (hu64 hr)) (dh_of (de_ix rfl (dh_of (de_ix rfl (dh_v (pv 0)) (dh_v (pv 5)) (fun _ _ => rfl))) (dh_of de_int) (fun _ _ => rfl))) (dh_of (de_ix rfl (dh_of (de_ix rfl (dh_v (pv 0)) (dh_of (de_bin (sem_add rfl) (dh_v (pv 5)) (dh_of de_int))) (fun _ _ => rfl))) (dh_of de_int) (fun _ _ => rfl))) (nomark _)))))
    (ds_one (dp_if (PW.pt (dw_and (dt_truth rfl (dh_v (pv 7))) (pw_and1 (dt_cmp (sem_eq rfl (hu64 hr)) (dh_of (de_ix rfl (dh_of (de_ix rfl (dh_v (pv 0)) (dh_v (pv 5)) (fun _ _ => rfl))) (dh_of de_int) (fun _ _ => rfl))) (dh_of (de_ix rfl (dh_of (de_ix rfl (dh_v (pv 0)) (dh_v (pv 4)) (fun _ _ => rfl))) (dh_of de_int) (fun _ _ => rfl))) (nomark _))))) (ds_one (dp_set sc.nd (i := 6) rfl (by first | exact Or.inl rfl | exact Or.inr rfl) (de_cb (sem_min rfl rfl) rfl T.n_min (by decide +kernel) (dg_cons (dh_v (pv 6)) (dg_cons (dh_of (de_bin (sem_add rfl) (dh_of (de_getT (hu1 hr) (dl_cons (de_v (pv 3)) (dl_cons (de_v (pv 5)) dl_nil)) (pv 1))) (dh_of (de_getOrT (hu1 hr) (dl_cons (de_bin (sem_add rfl) (dh_v (pv 5)) (dh_of de_int)) (dl_cons (de_bin (sem_sub) (dh_v (pv 4)) (dh_of de_int)) dl_nil)) de_int (pv 1))))) dg_nil))))) ds_nil))))
    (ds_one (ps_putT (hu1 hr) (dl_cons (de_v (pv 3)) (dl_cons (de_v (pv 4)) dl_nil)) (pv 1) (de_v (pv 6))))))))))
    (ds_one (dp_ret (de_v (pv 1))))))
abbrev st__law_borders : Stmt := topS 54
def names__law_borders : List Str := ["_law_rows", "_law_found", "_law_many", "_law_k", "_law_row"]
theorem sc__law_borders : FnScope names__law_borders ["_law_rows"] (defScope st__law_borders) := ⟨rfl, rfl, rfl, by decide +kernel, rfl, by decide +kernel, by decide +kernel⟩
theorem ok__law_borders {fa : Addr} {fd : FuncData} (T : Tx K gl) (F : L2.Fun K "_law_borders" "_law_borders" st__law_borders fa fd) : FnG pr wd K gl bas 1 fa fd ["_law_rows"] (spD K R 1 r__law_borders) := by
  have sc := sc__law_borders
  refine FnG.data (g := g__law_borders) F sc rfl fun cdv A out sh H E q F hg hr => ?_
  exact (ds_cons (dp_asg (de_tup (dl_cons de_int (dl_cons de_int dl_nil))) (dg_tup rfl rfl (dgs_cons (dg_name sc.nd (i := 1) rfl (by first | exact Or.inl rfl | exact Or.inr rfl)) (dgs_cons (dg_name sc.nd (i := 2) rfl (by first | exact Or.inl rfl | exact Or.inr rfl)) dgs_nil))))
    (ds_cons (dp_for PassesOwn.never rfl (di_enum rfl rfl T.n_enumerate (dl_cons (de_v (pv 0)) dl_nil)) (dg_tup rfl rfl (dgs_cons (dg_name sc.nd (i := 3) rfl (by first | exact Or.inl rfl | exact Or.inr rfl)) (dgs_cons (dg_name sc.nd (i := 4) rfl (by first | exact Or.inl rfl | exact Or.inr rfl)) dgs_nil))) (ds_cons (dp_set sc.nd (i := 2) rfl (by first | exact Or.inl rfl | exact Or.inr rfl) (de_bin (sem_add rfl) (dh_v (pv 2)) (dh_of de_int)))
    (ds_one (dp_if (PW.pt (dw_or (dt_cmp (sem_eq rfl (hu64 hr)) (dh_of (de_bin (sem_add rfl) (dh_v (pv 3)) (dh_of de_int))) (dh_of (de_cb (sem_len rfl) rfl T.n_len (by decide +kernel) (dg_cons (dh_v (pv 0)) dg_nil))) (nomark _)) (pw_or1 (dt_cmp (sem_ne rfl (hu64 hr)) (dh_of (de_ix rfl (dh_of (de_ix rfl (dh_v (pv 0)) (dh_of (de_bin (sem_add rfl) (dh_v (pv 3)) (dh_of de_int))) (fun _ _ => rfl))) (dh_of de_int) (fun _ _ => rfl))) (dh_of (de_ix rfl (dh_v (pv 4)) (dh_of de_int) (fun _ _ => rfl))) (nomark _))))) (ds_one (dp_par rfl sc.nd (i := 1) (j := 2) rfl rfl (by decide) rfl rfl (dl_cons (de_bin (sem_add rfl) (dh_v (pv 1)) (dh_of (de_bin (sem_div) (dh_of (de_bin (sem_add rfl) (dh_v (pv 2)) (dh_of de_int))) (dh_of de_int)))) (dl_cons de_int dl_nil)) rfl)) ds_nil))))
    (ds_one (dp_ret (de_v (pv 1))))))
abbrev st__law_refused : Stmt := topS 55
def names__law_refused : List Str := ["_law_file_so", "_law_paper", "e", "_law_part", "_law_found"]
theorem sc__law_refused : FnScope names__law_refused ["_law_file_so", "_law_paper"] (defScope st__law_refused) := ⟨rfl, rfl, rfl, by decide +kernel, rfl, by decide +kernel, by decide +kernel⟩
theorem ok__law_refused {fa : Addr} {fd : FuncData} (T : Tx K gl) (F : L2.Fun K "_law_refused" "_law_refused" st__law_refused fa fd) (CX_check_strokes : CdX pr wd K gl bas R 9 "check_strokes" 2 rx_check_strokes) (K_BadPaper : ClsAt pr wd K gl bas "BadPaper" (some "part")) (KF_BadPaper : FldOf K gl "BadPaper" "part") : FnG pr wd K gl bas 10 fa fd ["_law_file_so", "_law_paper"] (spD K R 2 r__law_refused) := by
  have sc := sc__law_refused
  refine FnG.data0 (g := g__law_refused) F sc rfl fun cdv A out sh H E q F hg hr => ?_
  exact (s0_cons (s0_of (dp_asg (de_tup (dl_cons de_non (dl_cons de_non dl_nil))) (dg_tup rfl rfl (dgs_cons (dg_name sc.nd (i := 3) rfl (by first | exact Or.inl rfl | exact Or.inr rfl)) (dgs_cons (dg_name sc.nd (i := 4) rfl (by first | exact Or.inl rfl | exact Or.inr rfl)) dgs_nil)))))
    (s0_cons (dp_tryF (i := 2) (j := 3) rfl rfl sc.nd rfl rfl rfl (by first | exact Or.inl rfl | exact Or.inr rfl) K_BadPaper KF_BadPaper rfl (fun px pn xe tk po => (ds_one (dp_set sc.nd (i := 4) rfl (by first | exact Or.inl rfl | exact Or.inr rfl) (de_cdX tk (CX_check_strokes.more (by decide)) rfl hg hr rfl (da_cons (de_v (pv 0)) (da_cons (de_v (pv 1)) da_nil)))))) (fun a C oe cls d pn T1 T2 T3 T4 => (fd_bare rfl T1 T2 T3 T4 (pv 2))))
    (s0_one (s0_of (dp_ret (de_if (dt_cmp (sem_is) (dh_v (pv 4)) (dh_of de_non) (nomark _)) (de_v (pv 3)) de_non))))))
abbrev st__law_right : Stmt := topS 56
def names__law_right : List Str := ["_law_file_so", "_law_rows", "_law_table", "_law_bounds", "_law_paper", "_law_more", "_law_due", "_law_told", "_law_i", "_law_j"]
theorem sc__law_right : FnScope names__law_right ["_law_file_so"] (defScope st__law_right) := ⟨rfl, rfl, rfl, by decide +kernel, rfl, by decide +kernel, by decide +kernel⟩
theorem ok__law_right {fa : Addr} {fd : FuncData} (T : Tx K gl) (F : L2.Fun K "_law_right" "_law_right" st__law_right fa fd) (C__law_flatted : Cd pr wd K gl bas R 2 "_law_flatted" 1 r__law_flatted) (C__law_least : Cd pr wd K gl bas R 1 "_law_least" 1 r__law_least) (C_fewest_file : Cd pr wd K gl bas R 8 "fewest_file" 1 r_fewest_file) (C_flat : Cd pr wd K gl bas R 7 "flat" 1 r_flat) (C_fewest : Cd pr wd K gl bas R 8 "fewest" 1 r_fewest) (C__law_borders : Cd pr wd K gl bas R 1 "_law_borders" 1 r__law_borders) (C_alike : Cd pr wd K gl bas R 8 "alike" 2 r_alike) (C_strokes_paper : Cd pr wd K gl bas R 8 "strokes_paper" 1 r_strokes_paper) (C_check_strokes : Cd pr wd K gl bas R 8 "check_strokes" 2 r_check_strokes) (C__law_refused : Cd pr wd K gl bas R 10 "_law_refused" 2 r__law_refused) : FnG pr wd K gl bas 11 fa fd ["_law_file_so"] (spD K R 1 r__law_right) := by
  have sc := sc__law_right
  refine FnG.data (g := g__law_right) F sc rfl fun cdv A out sh H E q F hg hr => ?_
  exact (ds_cons (dp_set sc.nd (i := 1) rfl (by first | exact Or.inl rfl | exact Or.inr rfl) (de_cd (C__law_flatted.more (by decide)) rfl hg hr rfl (da_cons (de_v (pv 0)) da_nil)))
    (ds_cons (dp_set sc.nd (i := 2) rfl (by first | exact Or.inl rfl | exact Or.inr rfl) (de_cd (C__law_least.more (by decide)) rfl hg hr rfl (da_cons (de_v (pv 1)) da_nil)))
    (ds_cons (dp_par rfl sc.nd (i := 6) (j := 7) rfl rfl (by decide) rfl rfl (dl_cons (de_getOrT (hu1 hr) (dl_cons de_int (dl_cons (de_bin (sem_sub) (dh_of (de_cb (sem_len rfl) rfl T.n_len (by decide +kernel) (dg_cons (dh_v (pv 1)) dg_nil))) (dh_of de_int)) dl_nil)) de_int (pv 2)) (dl_cons (de_cd (C_fewest_file.more (by decide)) rfl hg hr rfl (da_cons (de_v (pv 0)) da_nil)) dl_nil)) rfl)
    (ds_cons (dp_if (PW.pt (dw_or (dt_cmp (sem_neS) (dh_of (de_cb (sem_reprA rfl hg (hu64 hr)) rfl T.n_repr (by decide +kernel) (dg_cons (dh_of (de_cd (C_flat.more (by decide)) rfl hg hr rfl (da_cons (de_v (pv 0)) da_nil))) dg_nil))) (dh_of (de_cb (sem_reprA rfl hg (hu64 hr)) rfl T.n_repr (by decide +kernel) (dg_cons (dh_v (pv 1)) dg_nil))) (nomark _)) (dw_or (dt_cmp (sem_ne rfl (hu64 hr)) (dh_of (de_cd (C_fewest.more (by decide)) rfl hg hr rfl (da_cons (de_v (pv 0)) da_nil))) (dh_v (pv 6)) (nomark _)) (pw_or1 (dt_cmp (sem_ne rfl (hu64 hr)) (dh_of (de_cd (C_fewest.more (by decide)) rfl hg hr rfl (da_cons (de_v (pv 0)) da_nil))) (dh_v (pv 6)) (nomark _)))))) (ds_one (dp_ret de_bl)) ds_nil)
    (ds_cons (dp_if (PW.pt (dw_or (dt_cmp (sem_gt) (dh_v (pv 6)) (dh_of (de_cb (sem_len rfl) rfl T.n_len (by decide +kernel) (dg_cons (dh_v (pv 0)) dg_nil))) (nomark _)) (dw_or (dt_cmp (sem_lt) (dh_v (pv 6)) (dh_of (de_cd (C__law_borders.more (by decide)) rfl hg hr rfl (da_cons (de_v (pv 1)) da_nil))) (nomark _)) (pw_or1 (dt_cmp (sem_ne rfl (hu64 hr)) (dh_of (de_cb (sem_len rfl) rfl T.n_len (by decide +kernel) (dg_cons (dh_v (pv 7)) dg_nil))) (dh_v (pv 6)) (nomark _)))))) (ds_one (dp_ret de_bl)) ds_nil)
    (ds_cons (dp_if (PW.pt (dw_or (dt_cmp (sem_ne rfl (hu64 hr)) (dh_of (de_cd (C__law_flatted.more (by decide)) rfl hg hr rfl (da_cons (de_v (pv 7)) da_nil))) (dh_v (pv 1)) (nomark _)) (dw_or (dt_cmp (sem_notb) (dh_of (de_cd (C_alike.more (by decide)) rfl hg hr rfl (da_cons (de_v (pv 7)) (da_cons (de_v (pv 0)) da_nil)))) (dh_of de_bl) (nomark _)) (pw_or1 (dt_cmp (sem_ne rfl (hu64 hr)) (dh_of (de_cd (C_fewest_file.more (by decide)) rfl hg hr rfl (da_cons (de_v (pv 0)) da_nil))) (dh_v (pv 7)) (nomark _)))))) (ds_one (dp_ret de_bl)) ds_nil)
    (ds_cons (dp_set sc.nd (i := 3) rfl (by first | exact Or.inl rfl | exact Or.inr rfl) (de_ct (sem_tuple rfl) rfl T.n_tuple (by decide +kernel) (dg_cons (dh_of (de_n (dn_lc (own := [("_law_i", 8)]) rfl sc.nd (di_range1 rfl T.n_range (dl_cons (de_cb (sem_len rfl) rfl T.n_len (by decide +kernel) (dg_cons (dh_v (pv 1)) dg_nil)) dl_nil)) (blkOk_by (own := [("_law_i", 8)]) (N := names__law_right) (sc := defScope st__law_right) (by decide +kernel)) (by decide) (fun _ _ _ _ _ => (dg_name sc.nd (i := 8) rfl (by first | exact Or.inl rfl | exact Or.inr rfl))) (fun _ _ _ _ _ => dts_nil) (fun _ _ _ _ _ => (de_ct (sem_tuple rfl) rfl T.n_tuple (by decide +kernel) (dg_cons (dh_of (de_n (dn_lc (own := [("_law_j", 9)]) rfl sc.nd (di_range2 rfl T.n_range (dl_cons (de_v (pv 8)) (dl_cons (de_cb (sem_len rfl) rfl T.n_len (by decide +kernel) (dg_cons (dh_v (pv 1)) dg_nil)) dl_nil))) (blkOk_in (own := [("_law_j", 9)]) (N := names__law_right) rfl rfl (by decide +kernel)) (by decide) (fun _ _ _ _ _ => (dg_name sc.nd (i := 9) rfl (by first | exact Or.inl rfl | exact Or.inr rfl))) (fun _ _ _ _ _ => dts_nil) (fun _ _ _ _ _ => (de_getT (hu1 hr) (dl_cons (de_v (pv 8)) (dl_cons (de_v (pv 9)) dl_nil)) (pv 2)))))) dg_nil)))))) dg_nil)))
    (ds_cons (dp_set sc.nd (i := 4) rfl (by first | exact Or.inl rfl | exact Or.inr rfl) (de_cd (C_strokes_paper.more (by decide)) rfl hg hr rfl (da_cons (de_v (pv 0)) da_nil)))
    (ds_cons (dp_if (PW.pt (dw_or (dt_cmp (sem_ne rfl (hu64 hr)) (dh_of (de_cd (C_check_strokes.more (by decide)) rfl hg hr rfl (da_cons (de_v (pv 0)) (da_cons (de_v (pv 4)) da_nil)))) (dh_v (pv 6)) (nomark _)) (pw_or1 (dt_cmp (sem_ne rfl (hu64 hr)) (dh_of (de_cd (C_check_strokes.more (by decide)) rfl hg hr rfl (da_cons (de_v (pv 0)) (da_cons (de_tup (dl_cons (de_v (pv 7)) (dl_cons (de_v (pv 3)) dl_nil))) da_nil)))) (dh_v (pv 6)) (nomark _))))) (ds_one (dp_ret de_bl)) ds_nil)
    (ds_cons (dp_if (dt_cmp (sem_eq rfl (hu64 hr)) (dh_v (pv 1)) (dh_of (de_tup dl_nil)) (nomark _)) (ds_one (dp_ret (de_cmp (sem_eq rfl (hu64 hr)) (dh_of (de_cd (C__law_refused.more (by decide)) rfl hg hr rfl (da_cons (de_v (pv 0)) (da_cons (de_tup (dl_cons (de_tup dl_nil) (dl_cons (de_tup (dl_cons (de_tup (dl_cons de_int dl_nil)) dl_nil)) dl_nil))) da_nil)))) (dh_of de_str) (nomark _)))) ds_nil)
    (ds_cons (dp_set sc.nd (i := 5) rfl (by first | exact Or.inl rfl | exact Or.inr rfl) (de_bin (sem_add rfl) (dh_of (de_sl rfl (dh_v (pv 3)) do_no (do_i (de_neg de_int)))) (dh_of (de_tup (dl_cons (de_tup (dl_cons (de_bin (sem_add rfl) (dh_of (de_ix rfl (dh_of (de_ix rfl (dh_v (pv 3)) (dh_of (de_neg de_int)) (fun _ _ => rfl))) (dh_of de_int) (fun _ _ => rfl))) (dh_of de_int)) dl_nil)) dl_nil)))))
    (ds_cons (dp_if (dt_cmp (sem_ne rfl (hu64 hr)) (dh_of (de_cd (C__law_refused.more (by decide)) rfl hg hr rfl (da_cons (de_v (pv 0)) (da_cons (de_tup (dl_cons (de_v (pv 7)) (dl_cons (de_v (pv 5)) dl_nil))) da_nil)))) (dh_of de_str) (nomark _)) (ds_one (dp_ret de_bl)) ds_nil)
    (ds_one (dp_ret (de_or (de_cmp (sem_eq rfl (hu64 hr)) (dh_v (pv 6)) (dh_of (de_cb (sem_len rfl) rfl T.n_len (by decide +kernel) (dg_cons (dh_v (pv 1)) dg_nil))) (nomark _)) (pe_one (de_cmp (sem_inU rfl (hu65 hr)) (dh_of (de_cd (C__law_refused.more (by decide)) rfl hg hr rfl (da_cons (de_v (pv 0)) (da_cons (de_tup (dl_cons (de_v (pv 1)) (dl_cons (de_v (pv 3)) dl_nil))) da_nil)))) (dh_of (de_tup (dl_cons de_str (dl_cons de_str dl_nil)))) rfl)))))))))))))))))
abbrev st__law_draw : Stmt := topS 48
def names__law_draw : List Str := ["_law_m", "_law_limit", "_law_spot", "_law_here", "_law_left"]
theorem sc__law_draw : FnScope names__law_draw ["_law_m", "_law_limit"] (defScope st__law_draw) := ⟨rfl, rfl, rfl, by decide +kernel, rfl, by decide +kernel, by decide +kernel⟩
theorem d_mix (c j : Int) (m : Nat) (P : D → Nat → Prop) (j0 : 0 ≤ j) (j1 : j < 2097152) (h : ∀ i : Int, P (.int i) 0) : r__law_mix [.d (.int c), .d (.int j)] m P := by
  have sj : -(2 ^ 64) < j ∧ j < 2 ^ 64 := ⟨by omega, by omega⟩
  refine ⟨trivial, .inr ⟨by decide, by decide⟩, trivial, .inr ⟨by decide, by decide⟩, by decide, ?_⟩
  refine ⟨trivial, .inr ⟨by decide, by decide⟩, trivial, trivial, by decide, ?_⟩
  refine ⟨trivial, .inr ⟨by decide, by decide⟩, trivial, trivial, .inl sj, .inr ⟨by decide, by decide⟩, by decide, hd_d, ?_⟩
  exact h _
theorem ok__law_draw {fa : Addr} {fd : FuncData} (T : Tx K gl) (F : L2.Fun K "_law_draw" "_law_draw" st__law_draw fa fd) (C : Cd pr wd K gl bas srcOrcB 1 "_law_mix" 2 r__law_mix) : FnG pr wd K gl bas 2 fa fd ["_law_m", "_law_limit"] (spD K srcOrcB 2 s_next) := by
  have nd := sc__law_draw.nd
  obtain ⟨fm, fdm, ps, Fm, gm, km, bm⟩ := C
  refine FnG.of F sc__law_draw (fun vs H Q E ⟨q, F0, as, m, P, w, pa, hl, _⟩ => by rw [paired_len pa, hl]; rfl) fun cdv A out sh H vs Q E hg hr ⟨qo, F0, as, m, P, w, pa, hl, ho, hq, hm, ⟨n, eas, n0, n1, m1, kP⟩, k0⟩ => ?_
  subst eas
  obtain ⟨v1, vs, rfl, a1, pa⟩ : ∃ v1 vs', vs = v1 :: vs' ∧ ArAt ⟨K, srcOrcB, qo, F0, H⟩ F0 v1 .ora ∧ Paired (ArAt ⟨K, srcOrcB, qo, F0, H⟩ F0) vs' [.d (.int n)] := by
    cases pa with
    | cons a b => (exact ⟨_, _, rfl, a, b⟩)
  obtain ⟨v2, rfl, a2⟩ : ∃ v2, vs = [v2] ∧ ArAt ⟨K, srcOrcB, qo, F0, H⟩ F0 v2 (.d (.int n)) := by
    cases pa with
    | cons a b => cases b; exact ⟨_, rfl, a⟩
  obtain ⟨q, eq, rfl⟩ := a1
  cases (show qo = some q from eq)
  have e2 : v2 = .int n := by
    have z : At K F0 v2 (.int n) := a2
    cases z
    rfl
  subst e2
  obtain ⟨c, l, cs, ls, k, s0⟩ := w.or q rfl
  have hk : k ≤ m := by have := hm q rfl; rw [s0.spot] at this; exact this
  refine ⟨_, pss_cons (ps_set (i := 2) nd rfl (Or.inl rfl) (pe_dget (hu_of hr) (pv 0) pe_str (fun _ _ => rfl)))
    (pss_cons (ps_dput (hu_of hr) (pv 0) pe_str (pe_op op_add (pv 2) pe_int) rfl)
    (pss_cons (ps_set (i := 3) nd rfl (Or.inl rfl) (pe_op op_mod (pe_callTy call_int1 rfl T.n_int (by decide +kernel) (pa_cons (pv 2) pa_nil)) (pe_callB call_len_seq rfl T.n_len (by decide +kernel) (pa_cons (pe_dget (hu_of hr) (pv 0) pe_str (fun _ _ => rfl)) pa_nil))))
    (pss_cons (ps_set (i := 4) nd rfl (Or.inl rfl) (pe_ix ix_list (pe_dget (hu_of hr) (pv 0) pe_str (fun _ _ => rfl)) (pv 3) (fun _ _ => rfl)))
    (pss_cons (ps_if (pt_cmpR op_gt (pv 4) pe_int (nomark _))
      (pss_cons (ps_asg (pe_op op_fdiv (pv 4) (pv 1)) (pg_sub (pe_dget (hu_of hr) (pv 0) pe_str (fun _ _ => rfl)) (pv 3) set_list))
        (pss_one (ps_ret (pe_op op_mod (pe_callTy call_int1 rfl T.n_int (by decide +kernel) (pa_cons (pv 4) pa_nil)) (pv 1))))) pss_nil)
    (pss_one (ps_ret (pe_op op_mod (pe_callTy call_int1 rfl T.n_int (by decide +kernel) (pa_cons (pe_op op_fdiv (pe_callG Fm hg (hr.mono (by decide)) rfl gm km bm (pa_cons (pe_ix ix_list (pe_dget (hu_of hr) (pv 0) pe_str (fun _ _ => rfl)) (pv 3) (fun _ _ => rfl)) (pa_cons (pv 2) pa_nil))) pe_int) pa_nil)) (pv 1)))))))), ?_⟩
  have fin : ∀ (r : Int) (H' : Hp) (l' : Addr) (ls' : List Int) (k' : Nat), 0 ≤ r → r < n → SrcB H' q c l' cs ls' k' → k' ≤ k + 1 → Tou q H H' → Q (.int r) H' := by
    intro r H' l' ls' k' r0 r1 s' hk' t'
    refine k0 (.int r) (m + 1) _ F0 H' (kP r r0 r1) (t'.worldB w ⟨_, _, _, _, _, s'⟩) (fun p e => ?_) (.int r)
    cases e
    rw [s'.spot]
    omega
  have modn : ∀ x : Int, 0 ≤ x % n ∧ x % n < n := fun x => ⟨Int.emod_nonneg x (by omega), Int.emod_lt_of_pos x n0⟩
  refine rdS s0.toSrcAt rfl ?_
  change L2.gName 2 (V.int (k : Int)) _ H _
  (refine ⟨_, rfl, _, _, rfl, rfl, ?_⟩)
  refine ⟨_, rfl, q, _, rfl, DPut.k (k := kS) s0.dq small3, ?_⟩
  have ek : (k : Int) + 1 = ((k + 1 : Nat) : Int) := by omega
  have s1 : SrcB (upd H q (.dK [(kC, .ref c), (kL, .ref l), (kS, .int ((k : Int) + 1))])) q c l cs ls (k + 1) := by
    rw [ek]
    exact ⟨s0.toSrcAt.setS (k + 1), s0.len, s0.nz⟩
  have t1 : Tou q H (upd H q (.dK [(kC, .ref c), (kL, .ref l), (kS, .int ((k : Int) + 1))])) := Tou.putQ s0.toSrcAt (.inl rfl) (fun _ z => by cases z)
  rw [put_kS]
  generalize upd H q (.dK [(kC, .ref c), (kL, .ref l), (kS, .int ((k : Int) + 1))]) = H1 at s1 t1 ⊢
  refine ⟨_, rfl, .inl ⟨_, rfl, ?_⟩⟩
  refine rdC s1.toSrcAt rfl ?_
  refine ⟨c, _, rfl, .inl (SqL.of s1.dc), ?_⟩
  have cl : 0 < cs.length := List.length_pos_iff.mpr s1.nz
  have k0' : (0 : Int) ≤ (k : Int) := by omega
  have kb : (k : Int) < 2097152 := by omega
  refine ⟨_, _, rfl, rfl, (by rw [List.length_map]; omega), ?_⟩
  have hj : ((k : Int) % (((cs.map V.int).length : Nat) : Int)) = ((k % cs.length : Nat) : Int) := by rw [List.length_map]; exact (Int.natCast_emod k cs.length).symm
  change L2.gName 3 (V.int ((k : Int) % (((cs.map V.int).length : Nat) : Int))) _ H1 _
  rw [hj]
  have jl : k % cs.length < cs.length := Nat.mod_lt _ cl
  generalize k % cs.length = j at jl ⊢
  refine rdL s1.toSrcAt rfl ?_
  have jl2 : j < ls.length := by rw [s1.len]; exact jl
  have el : atI (ls.map V.int) (j : Int) = some (V.int ls[j]) := by
    unfold atI ixN
    rw [if_pos (by omega), if_pos (by rw [List.length_map]; omega)]
    show (ls.map V.int)[j]? = _
    rw [List.getElem?_map, List.getElem?_eq_getElem jl2]
    rfl
  refine ⟨_, rfl, l, _, _, _, rfl, rfl, SqL.of s1.dl, el, ?_⟩
  generalize ls[j] = x
  change L2.gName 4 (V.int x) _ H1 _
  (refine ⟨_, rfl, _, _, rfl, rfl, _, rfl, ?_⟩)
  change if (decide ((0 : Int) < x)) = true then _ else _
  by_cases hx : 0 < x
  · rw [if_pos (decide_eq_true hx)]
    refine ⟨_, rfl, _, rfl, _, _, rfl, rfl, ⟨n0, n1⟩, ?_⟩
    have ix : ixN (ls.map V.int).length (j : Int) = some j := by
      unfold ixN
      rw [if_pos (by omega), if_pos (by rw [List.length_map]; omega)]
      rfl
    refine rdL s1.toSrcAt rfl ⟨_, rfl, l, _, (j : Int), j, rfl, rfl, s1.dl, ix, ?_⟩
    have e1 : ((ls.map V.int).set j (V.int (x / n))) = (ls.set j (x / n)).map V.int := by rw [List.map_set]
    rw [e1]
    have s3 : SrcB (upd H1 l (.lst ((ls.set j (x / n)).map V.int))) q c l cs (ls.set j (x / n)) (k + 1) := ⟨s1.toSrcAt.setV _ (by rw [List.length_set]; exact s1.nl), by rw [List.length_set]; exact s1.len, s1.nz⟩
    refine ⟨_, rfl, .inl ⟨_, rfl, _, rfl, _, _, rfl, rfl, n0, ?_⟩⟩
    exact fin _ _ _ _ _ (modn x).1 (modn x).2 s3 (Nat.le_refl _) (t1.trans (Tou.putL s1.toSrcAt))
  · rw [if_neg (by simpa using hx)]
    have ec : atI (cs.map V.int) (j : Int) = some (V.int cs[j]) := by
      unfold atI ixN
      rw [if_pos (by omega), if_pos (by rw [List.length_map]; omega)]
      show (cs.map V.int)[j]? = _
      rw [List.getElem?_map, List.getElem?_eq_getElem jl]
      rfl
    generalize cs[j] = z at ec
    have fh : Ex F0 H1 := (t1.worldB w ⟨_, _, _, _, _, s1⟩).fh
    refine rdC s1.toSrcAt rfl ⟨_, rfl, c, _, _, _, rfl, rfl, SqL.of s1.dc, ec, _, rfl, ?_⟩
    refine ⟨none, F0, [.d (.int z), .d (.int (k : Int))], 0, fun d _ => ∃ i : Int, d = .int i, World.start fh (fun _ _ z => z) (fun _ z => nomatch z), .cons (show At K F0 (.int z) (.int z) from .int _) (.cons (show At K F0 (.int (k : Int)) (.int (k : Int)) from .int _) .nil), rfl, fun i e => ?_, .inl rfl, (fun _ z => nomatch z), d_mix z k 0 _ k0' kb fun i => ⟨i, rfl⟩, ?_⟩
    · rcases i with _ | _ | i <;> simp at e
    · rintro d m' v F' H' ⟨i, rfl⟩ w' _ at_
      cases at_
      have s3 : SrcB H' q c l cs ls (k + 1) := ⟨s1.toSrcAt.of_world w', s1.len, s1.nz⟩
      have t3 : Tou q H1 H' := Tou.of_world w' (by rw [s1.dq]; exact Option.some_ne_none _)
      refine ⟨_, _, rfl, rfl, ⟨by decide, by decide⟩, .inl ⟨_, rfl, _, rfl, _, _, rfl, rfl, n0, ?_⟩⟩
      exact fin _ _ _ _ _ (modn _).1 (modn _).2 s3 (Nat.le_refl _) (t1.trans t3)
abbrev st__law_begun : Stmt := topS 47
def names__law_begun : List Str := ["_law_script", "_law_some", "_law_cell"]
theorem sc__law_begun : FnScope names__law_begun ["_law_script"] (defScope st__law_begun) := ⟨rfl, rfl, rfl, by decide +kernel, rfl, by decide +kernel, by decide +kernel⟩
theorem pe_some {X : Cx} {e : Expr} {ι : Type} {t : ι → TE} (h : ∀ i, PE X e (t i)) : PE X e (fun σ H Q => ∃ i, t i σ H Q) := ⟨fun pins s σ H Q I ⟨i, q⟩ => (h i).run pins s σ H Q I q⟩
abbrev pickD : DM := dLc (iSeq (dV 1)) (gN 2) (bYes) (dIf (bD (d2 gGe (hS 2) (hV (d2 gPow (hV (dC (.int 10))) (hV (dC (.int 18))))))) (dV 2) (dC (.int 0))) [2]
def pick (x : Int) : Int := if 1000000000000000000 ≤ x then x else 0
theorem pick_data {cs : List Int} (hl : cs.length ≤ 100) {s0 : Sl} : pickD [s0, .im (.list (cs.map PyData.int)), .no] fun d _ => d = .list ((cs.map pick).map PyData.int) := by
  have ew : (10 : Int) ^ (18 : Int).toNat = 1000000000000000000 := by decide
  refine ⟨by rw [List.length_map]; omega, ⟨by simp, fun j hj => by simp at hj; subst hj; rfl⟩, ?_⟩
  refine lcL_map (ρ := [s0, .im (.list (cs.map PyData.int)), .no]) (fun d => match d with
    | .int x => .int (pick x)
    | _ => .none) _ [] ?_ ?_
  · intro d hd Q hQ
    obtain ⟨x, _, rfl⟩ := List.mem_map.mp hd
    have hQ : ∀ ρ3, wipeE ρ3 [2] = [s0, .im (.list (cs.map PyData.int)), .no] → Q (.int (pick x)) ρ3 := hQ
    refine ⟨trivial, ⟨by decide, by decide, by decide⟩, ?_⟩
    show if decide (x ≥ (10 : Int) ^ (18 : Int).toNat) = true then _ else _
    rw [ew]
    unfold pick at hQ
    by_cases hx : 1000000000000000000 ≤ x
    · rw [if_pos (decide_eq_true hx)]
      rw [if_pos hx] at hQ
      exact hQ _ rfl
    · rw [if_neg (by simpa using hx)]
      rw [if_neg hx] at hQ
      exact hQ _ rfl
  · rw [List.nil_append, List.map_map, List.map_map]
    rfl
theorem ok__law_begun {fa : Addr} {fd : FuncData} (T : Tx K gl) (F : L2.Fun K "_law_begun" "_law_begun" st__law_begun fa fd) : FnG pr wd K gl bas 1 fa fd ["_law_script"] (spBegunB K) := by
  have sc := sc__law_begun
  have nd := sc.nd
  refine FnG.of F sc (fun vs H Q E h => ?_) fun cdv A out sh H vs Q E hg hr h => ?_
  · obtain ⟨a, ns, rfl, _⟩ := h
    rfl
  obtain ⟨a, ns, rfl, sq, hl, k⟩ := h
  refine ⟨_, pss_cons (ps_set (i := 1) nd rfl (Or.inl rfl) (pe_ifExp (pt_cmpR (op_neD (hu64 hr)) (pv 0) (pe_lst pa_nil) (nomark _)) (pe_callTy call_list_of rfl T.n_list (by decide +kernel) (pa_cons (pv 0) pa_nil)) (pe_lst (pa_cons pe_int pa_nil))))
    (pss_one (ps_ret (pe_disp (pps_cons pe_str (pv 1) (pps_cons pe_str (pe_some (ι := Hp) (t := fun H2 => tN ⟨K, Orc.nil, none, H2, H2⟩ pickD) fun H2 => (dn_lc (c := ⟨K, Orc.nil, none, H2, H2⟩) (own := [("_law_cell", 2)]) rfl sc.nd (di_seq rfl (de_v (pv 1))) (blkOk_by (own := [("_law_cell", 2)]) (N := names__law_begun) (sc := defScope st__law_begun) (by decide +kernel)) (by decide) (fun _ _ _ _ _ => (dg_name sc.nd (i := 2) rfl (by first | exact Or.inl rfl | exact Or.inr rfl))) (fun _ _ _ _ _ => dts_nil) (fun _ _ _ _ _ => (de_if (dt_cmp (sem_ge) (dh_v (pv 2)) (dh_of (de_bin (sem_pow) (dh_of de_int) (dh_of de_int))) (nomark _)) (de_v (pv 2)) de_int)))) (pps_cons pe_str pe_int pps_nil))) rfl rfl (by decide) (by decide)))), ?_⟩
  have nodI : ∀ ms : List Int, nod (.list (ms.map PyData.int)) = true := fun ms => by
    show nodAll (ms.map PyData.int) = true
    induction ms with
    | nil => rfl
    | cons x ms ih =>
      rw [List.map_cons, nodAll, ih]
      rfl
  refine ⟨_, rfl, Nat.zero_le _, fun p0 hp0 => ?_⟩
  have ex0 : Ex H (upd H p0 (.lst [])) := Ex.new hp0
  have dpA : Dp K (upd H p0 (.lst [])) (.ref a) (.list (ns.map PyData.int)) := (At.lst (ex0.sl sq) (AtAll.ofInts ns)).dp (nodI ns)
  refine ⟨_, _, dpA, dp_ints (ns := []) upd_same, okD_ints ns, okD_ints [], _, rfl, ?_⟩
  have ez : (!PyData.eqv (.list (ns.map PyData.int)) (.list (([] : List Int).map PyData.int))) = decide (ns ≠ []) := by cases ns <;> rfl
  rw [ez]
  generalize upd H p0 (.lst []) = H0 at ex0 dpA ⊢
  have rest : ∀ (p : Addr) (cs : List Int), H0 p = none → cs ≠ [] → cs.length ≤ 100 → tRet (tDisp [(tC (.str "cells"), tVar 1), (tC (.str "left"), fun σ H Q => ∃ H2 : Hp, tN ⟨K, Orc.nil, none, H2, H2⟩ pickD σ H Q), (tC (.str "spot"), tC (.int 0))]) { nx := fun _ H' => Q .non H', rt := Q } ((start names__law_begun [.ref a]).set 1 (some (.ref p))) (upd H0 p (.lst (cs.map V.int))) := by
    intro p cs hp cz cl
    have ex1 : Ex H0 (upd H0 p (.lst (cs.map V.int))) := Ex.new hp
    have h1 : (upd H0 p (.lst (cs.map V.int))) p = some (.lst (cs.map V.int)) := upd_same
    generalize upd H0 p (.lst (cs.map V.int)) = H1 at ex1 h1 ⊢
    intro q hq
    have ex2 : Ex H1 (upd H1 q (.dK [])) := Ex.new hq
    have hqq : (upd H1 q (.dK [])) q = some (.dK []) := upd_same
    generalize upd H1 q (.dK []) = H2 at ex2 hqq ⊢
    have ex02 : Ex H H2 := (ex0.trans ex1).trans ex2
    have w : World Orc.nil none H2 H2 H2 H2 := World.start (Ex.refl H2) (fun _ _ z => z) fun _ z => nomatch z
    have r0 : Rel ⟨K, Orc.nil, none, H2, H2⟩ H2 H2 (start names__law_begun [.ref a]) (startE names__law_begun.length [.d (.list (ns.map PyData.int))] 0) [] :=
      rel_start w (.cons (.lst (ex02.sl sq) (AtAll.ofInts ns)) .nil) (fun i z => by cases i with | zero => rfl | succ i => cases z) fun _ z => nomatch z
    have r1 := r0.putI 1 (v := .ref p) (d := .list (cs.map PyData.int)) (.lst (SqL.of (ex2 _ _ h1)) (AtAll.ofInts cs))
    refine ⟨_, rfl, ?_⟩
    refine ⟨H2, H2, _, [], _, r1, pick_data cl, ?_⟩
    rintro d2 ρ2 a2 F3 H3 rfl e3 r3 f3
    have r4 := r3.pushX f3
    have x2 := r4.s.ex (a2, .d (.list ((cs.map pick).map PyData.int))) (by simp)
    obtain ⟨v2, g2, t2⟩ := x2.1.o
    have q2 := t2.ints
    subst q2
    have hq3 : H3 q = some (.dK []) := r4.w.fh _ _ (e3 _ _ hqq)
    have h13 : H3 p = some (.lst (cs.map V.int)) := r4.w.fh _ _ (e3 _ _ (ex2 _ _ h1))
    refine ⟨hq3, [(kC, .ref p), (kL, .ref a2), (kS, .int 0)], rfl, (by show 3 ≤ 15; omega), ?_⟩
    have none_of : ∀ {A B : Hp} {b : Addr}, Ex A B → B b = none → A b = none := fun {A B b} e z => by
      cases y : A b with
      | none => rfl
      | some o => rw [e b o y] at z; cases z
    have y2 : H2 a2 = none := x2.1.y
    have pq : p ≠ q := fun z => by rw [z, hq] at h1; cases h1
    have aq : a2 ≠ q := fun z => by rw [z, hqq] at y2; cases y2
    have pa : p ≠ a2 := fun z => by rw [← z, ex2 _ _ h1] at y2; cases y2
    refine k q p a2 cs (cs.map pick) _ (fun b o e => ?_) (none_of (ex0.trans ex1) hq) (none_of ex0 hp) (none_of ex02 y2) ⟨⟨?_, ?_, ?_, pa, cl, by rw [List.length_map]; exact cl⟩, List.length_map _, cz⟩
    · have hb : b ≠ q := fun z => by
        have := none_of (ex0.trans ex1) hq
        rw [← z, e] at this
        cases this
      rw [upd_ne hb]
      exact r4.w.fh _ _ (e3 _ _ (ex02 _ _ e))
    · rw [upd_same]
      rfl
    · rw [upd_ne pq]
      exact h13
    · rw [upd_ne aq]
      exact g2
  change if decide (ns ≠ []) = true then _ else _
  by_cases hz : ns = []
  · rw [if_neg (by simpa using hz)]
    refine ⟨(by decide), fun p hp => ?_⟩
    exact rest p [0] hp (by simp) (by simp)
  · rw [if_pos (decide_eq_true hz)]
    refine ⟨_, rfl, a, _, rfl, .inl (ex0.sl sq), fun p hp => ?_⟩
    exact rest p ns hp hz (by omega)
abbrev st_law : Stmt := topS 57
def names_law : List Str := ["_law_script", "_law_m", "_law_turn", "_law_k", "_law_size", "_law_over", "_law_apart_so"]
theorem sc_law : FnScope names_law ["_law_script"] (defScope st_law) := ⟨rfl, rfl, rfl, by decide +kernel, rfl, by decide +kernel, by decide +kernel⟩
theorem noIm (i : Nat) (d : D) : ([.ora 0, .no, .no, .no, .no, .no] : List Sl)[i]? ≠ some (.im d) := by
  intro e
  have := List.mem_of_getElem? e
  simp at this
theorem noOw {ns : List Int} (i : Nat) (d : D) : ([.im (.list (ns.map PyData.int)), .ora 0, .no, .no, .no, .no, .no] : List Sl)[i]? ≠ some (.ow d) := by
  intro e
  have := List.mem_of_getElem? e
  simp at this
theorem oneOra {ns : List Int} (i m : Nat) (e : ([.im (.list (ns.map PyData.int)), .ora 0, .no, .no, .no, .no, .no] : List Sl)[i]? = some (.ora m)) : i = 1 ∧ m = 0 := by
  have hi : i < 7 := by
    have := (List.getElem?_eq_some_iff.mp e).1
    simpa using this
  have : i = 0 ∨ i = 1 ∨ i = 2 ∨ i = 3 ∨ i = 4 ∨ i = 5 ∨ i = 6 := by omega
  rcases this with rfl | rfl | rfl | rfl | rfl | rfl | rfl <;> simp at e <;> simp [e]
theorem rel_law {K : PySem.W.Frag} {q c l a : Addr} {H H1 : Hp} {cs ls ns : List Int} (w : World srcOrcB (some q) H H1 H H1) (sq : SqL K H a (ns.map V.int)) (s : SrcB H1 q c l cs ls 0) :
    Rel ⟨K, srcOrcB, some q, H, H1⟩ H H1 ((start names_law [.ref a]).set 1 (some (.ref q))) [.im (.list (ns.map PyData.int)), .ora 0, .no, .no, .no, .no, .no] [] := by
  refine ⟨w, ⟨rfl, fun i d e => ?_, fun i d e => ?_, fun i j d e b z => ?_, fun i n e => ?_, fun i j m n e1 e2 => ?_, (fun _ hp => nomatch hp), List.nodup_nil⟩⟩
  · rcases i with _ | i
    · cases e
      exact ⟨_, rfl, .lst sq (AtAll.ofInts ns)⟩
    · exact absurd e (noIm i d)
  · exact absurd e (noOw i d)
  · exact absurd z (noOw i d)
  · obtain ⟨rfl, rfl⟩ := oneOra i n e
    exact ⟨q, rfl, rfl, by rw [s.spot]; exact Nat.le_refl _⟩
  · rw [(oneOra i m e1).1, (oneOra j n e2).1]
def spLawG (K : PySem.W.Frag) : Sp := fun vs H Q _ => ∃ (a : Addr) (ns : List Int), vs = [.ref a] ∧ SqL K H a (ns.map V.int) ∧ ns.length ≤ 63 ∧ ∀ H', Q (.bl true) H'
theorem ok_law {fa fb : Addr} {fd fdb : FuncData} (T : Tx K gl) (F : L2.Fun K "law" "law" st_law fa fd) (Fb : FnG pr wd K gl bas 1 fb fdb ["_law_script"] (spBegunB K)) (gb : gl "_law_begun" = some (.ref fb)) (kb : PySem.W.keepIn K (.ref fb) = true) (bb : Binds K fdb ["_law_script"] []) (C__law_right : Cd pr wd K gl bas srcOrcB 11 "_law_right" 1 r__law_right) (C__law_strokes : Cd pr wd K gl bas srcOrcB 4 "_law_strokes" 2 r__law_strokes) (C__law_draw : Cd pr wd K gl bas srcOrcB 2 "_law_draw" 2 s_next) (C_fewest : Cd pr wd K gl bas srcOrcB 8 "fewest" 1 r_fewest) (C_flat : Cd pr wd K gl bas srcOrcB 7 "flat" 1 r_flat)
    (says : ∀ ns : List Int, ns.length ≤ 63 → lawSays ns) : FnG pr wd K gl bas 12 fa fd ["_law_script"] (spLawG K) := by
  have sc := sc_law
  refine FnG.of F sc (fun vs H Q E h => ?_) fun cdv A out sh H vs Q E hg hr h => ?_
  · obtain ⟨a, ns, rfl, _⟩ := h
    rfl
  obtain ⟨a, ns, rfl, sq, hl, k⟩ := h
  refine ⟨_, pss_cons (ps_set (i := 1) sc.nd rfl (by first | exact Or.inl rfl | exact Or.inr rfl) (pe_callG Fb hg (hr.mono (by decide)) rfl gb kb bb (pa_cons (pv 0) pa_nil)))
    (pss_some (ι := Option Addr × Hp × Hp) (t := fun i => tS ⟨K, srcOrcB, i.1, i.2.1, i.2.2⟩ g_law) fun ⟨qo, F0, H0⟩ => ?_), ?_⟩
  · exact (ds_cons (dp_for PassesOwn.never rfl (di_range1 rfl T.n_range (dl_cons (de_bin (sem_add rfl) (dh_of de_int) (dh_of (de_cb (sem_min rfl rfl) rfl T.n_min (by decide +kernel) (dg_cons (dh_of de_int) (dg_cons (dh_of (de_cb (sem_len rfl) rfl T.n_len (by decide +kernel) (dg_cons (dh_v (pv 0)) dg_nil))) dg_nil))))) dl_nil)) (dg_name sc.nd (i := 2) rfl (by first | exact Or.inl rfl | exact Or.inr rfl)) (ds_one (dp_if (dt_not (dt_truth rfl (dh_of (de_cd (C__law_right.more (by decide)) rfl hg hr rfl (da_cons (de_cdO (i := 1) (C__law_strokes.more (by decide)) rfl hg hr rfl (da_ora (pv 1) (da_cons (de_cdO (i := 1) (C__law_draw.more (by decide)) rfl hg hr rfl (da_ora (pv 1) (da_cons de_int da_nil))) da_nil))) da_nil))))) (ds_one (dp_ret de_bl)) ds_nil)))
    (ds_cons (dp_parINN rfl sc.nd (i := 4) (j := 5) (l := 6) rfl rfl rfl (by decide) (by decide) (by decide) rfl rfl rfl (de_bin (sem_add rfl) (dh_of de_int) (dh_of (de_cdO (i := 1) (C__law_draw.more (by decide)) rfl hg hr rfl (da_ora (pv 1) (da_cons de_int da_nil))))) (dn_lst (dl_cons (de_tup (dl_cons de_int (dl_cons de_int (dl_cons (de_tup (dl_cons de_str dl_nil)) dl_nil)))) dl_nil)) (dn_lst dl_nil) rfl)
    (ds_cons (dp_for PassesOwn.never rfl (di_range1 rfl T.n_range (dl_cons (de_v (pv 4)) dl_nil)) (dg_name sc.nd (i := 3) rfl (by first | exact Or.inl rfl | exact Or.inr rfl)) (ds_cons (dp_app rfl (pv 5) (de_tup (dl_cons (de_bin (sem_add rfl) (dh_of de_int) (dh_of (de_bin (sem_mul rfl) (dh_of de_int) (dh_v (pv 3))))) (dl_cons (de_bin (sem_add rfl) (dh_of de_int) (dh_of (de_bin (sem_mul rfl) (dh_of de_int) (dh_v (pv 3))))) (dl_cons (de_tup (dl_cons (de_ix rfl (dh_of de_str) (dh_v (pv 3)) (fun _ _ => rfl)) dl_nil)) dl_nil)))))
    (ds_one (dp_app rfl (pv 6) (de_tup (dl_cons (de_bin (sem_mul rfl) (dh_of de_int) (dh_v (pv 3))) (dl_cons (de_bin (sem_add rfl) (dh_of (de_bin (sem_mul rfl) (dh_of de_int) (dh_v (pv 3)))) (dh_of de_int)) (dl_cons (de_tup (dl_cons (de_ix rfl (dh_of de_str) (dh_v (pv 3)) (fun _ _ => rfl)) dl_nil)) dl_nil))))))))
    (ds_cons (dp_if (PW.pt (dw_or (dt_cmp (sem_ne rfl (hu64 hr)) (dh_of (de_cd (C_fewest.more (by decide)) rfl hg hr rfl (da_cons (de_ct (sem_tuple rfl) rfl T.n_tuple (by decide +kernel) (dg_cons (dh_v (pv 5)) dg_nil)) da_nil))) (dh_of (de_bin (sem_add rfl) (dh_v (pv 4)) (dh_of de_int))) (nomark _)) (pw_or1 (dt_cmp (sem_ne rfl (hu64 hr)) (dh_of (de_cb (sem_len rfl) rfl T.n_len (by decide +kernel) (dg_cons (dh_of (de_cd (C_flat.more (by decide)) rfl hg hr rfl (da_cons (de_ct (sem_tuple rfl) rfl T.n_tuple (by decide +kernel) (dg_cons (dh_v (pv 5)) dg_nil)) da_nil))) dg_nil))) (dh_of (de_bin (sem_add rfl) (dh_of (de_bin (sem_mul rfl) (dh_of de_int) (dh_v (pv 4)))) (dh_of de_int))) (nomark _))))) (ds_one (dp_ret de_bl)) ds_nil)
    (ds_one (dp_ret (de_and (de_cmp (sem_eq rfl (hu64 hr)) (dh_of (de_cd (C_fewest.more (by decide)) rfl hg hr rfl (da_cons (de_ct (sem_tuple rfl) rfl T.n_tuple (by decide +kernel) (dg_cons (dh_v (pv 6)) dg_nil)) da_nil))) (dh_v (pv 4)) (nomark _)) (de_and (de_cd (C__law_right.more (by decide)) rfl hg hr rfl (da_cons (de_ct (sem_tuple rfl) rfl T.n_tuple (by decide +kernel) (dg_cons (dh_v (pv 5)) dg_nil)) da_nil)) (pe_one (de_cd (C__law_right.more (by decide)) rfl hg hr rfl (da_cons (de_ct (sem_tuple rfl) rfl T.n_tuple (by decide +kernel) (dg_cons (dh_v (pv 6)) dg_nil)) da_nil)))))))))))
  refine ⟨.ref a, rfl, a, ns, rfl, sq, hl, fun q c l cs ls H1 ex hq hc hL s => ⟨(some q, H, H1), H, _, [], _, ?_, says ns hl, ?_, ?_, ?_, ?_⟩⟩
  · have w : World srcOrcB (some q) H H1 H H1 := by
      refine World.start ex (fun b hb z => ?_) fun p e => ?_
      · rcases s.foot z with rfl | rfl | rfl
        · exact hb hq
        · exact hb hc
        · exact hb hL
      · cases e
        exact ⟨_, _, _, _, _, s⟩
    exact rel_law w sq s
  · exact fun _ _ _ _ z => z.elim
  · rintro d v ρ' σ' F' H' rfl _ at_
    cases at_
    exact k _
  · exact fun _ _ _ _ z => z.elim
  · exact fun _ _ _ _ z => z.elim
end
end Q78
namespace Q78
open PySem L2 DL
open PySem.W (nsIn keepIn codeIn fnOf)
theorem all_mk {l : PySem.W.OpenLaw} {wd : PySem.World} {K : PySem.W.Frag} {h : Heap} {gl : Str → Option Value} {fa : Addr} (X : K.In h) (G : h.Ns mainGlobals gl) (hfa : gl "law" = some (.ref fa))
    {f0 : Addr} {od0 an0 : Option Addr} {sl0 : Array (Option Value)} {oc0 kV0 dc0 pm0 cd0 ct0 : Value}
    (a0 : nsIn K mainGlobals "is_integer" = some (some (.ref f0))) (l0 : K.lookup f0 = some ⟨oc0, od0, .func (fnOf "is_integer" "is_integer" (defArgs st_is_integer) (defBody st_is_integer) (defScope st_is_integer) .none kV0 dc0 pm0 an0 cd0 ct0), sl0⟩) (c0 : codeIn K cd0 "is_integer" = true) (k0 : keepIn K (.ref f0) = true)
    {f1 : Addr} {od1 an1 : Option Addr} {sl1 : Array (Option Value)} {oc1 kV1 dc1 pm1 cd1 ct1 : Value}
    (a1 : nsIn K mainGlobals "is_within" = some (some (.ref f1))) (l1 : K.lookup f1 = some ⟨oc1, od1, .func (fnOf "is_within" "is_within" (defArgs st_is_within) (defBody st_is_within) (defScope st_is_within) .none kV1 dc1 pm1 an1 cd1 ct1), sl1⟩) (c1 : codeIn K cd1 "is_within" = true) (k1 : keepIn K (.ref f1) = true)
    {f2 : Addr} {od2 an2 : Option Addr} {sl2 : Array (Option Value)} {oc2 kV2 dc2 pm2 cd2 ct2 : Value}
    (a2 : nsIn K mainGlobals "is_tuple" = some (some (.ref f2))) (l2 : K.lookup f2 = some ⟨oc2, od2, .func (fnOf "is_tuple" "is_tuple" (defArgs st_is_tuple) (defBody st_is_tuple) (defScope st_is_tuple) .none kV2 dc2 pm2 an2 cd2 ct2), sl2⟩) (c2 : codeIn K cd2 "is_tuple" = true) (k2 : keepIn K (.ref f2) = true)
    {f3 : Addr} {od3 an3 : Option Addr} {sl3 : Array (Option Value)} {oc3 kV3 dc3 pm3 cd3 ct3 : Value}
    (a3 : nsIn K mainGlobals "is_sign" = some (some (.ref f3))) (l3 : K.lookup f3 = some ⟨oc3, od3, .func (fnOf "is_sign" "is_sign" (defArgs st_is_sign) (defBody st_is_sign) (defScope st_is_sign) .none kV3 dc3 pm3 an3 cd3 ct3), sl3⟩) (c3 : codeIn K cd3 "is_sign" = true) (k3 : keepIn K (.ref f3) = true)
    {f4 : Addr} {od4 an4 : Option Addr} {sl4 : Array (Option Value)} {oc4 kV4 dc4 pm4 cd4 ct4 : Value}
    (a4 : nsIn K mainGlobals "has_signs" = some (some (.ref f4))) (l4 : K.lookup f4 = some ⟨oc4, od4, .func (fnOf "has_signs" "has_signs" (defArgs st_has_signs) (defBody st_has_signs) (defScope st_has_signs) .none kV4 dc4 pm4 an4 cd4 ct4), sl4⟩) (c4 : codeIn K cd4 "has_signs" = true) (k4 : keepIn K (.ref f4) = true)
    {f5 : Addr} {od5 an5 : Option Addr} {sl5 : Array (Option Value)} {oc5 kV5 dc5 pm5 cd5 ct5 : Value}
    (a5 : nsIn K mainGlobals "_is_line" = some (some (.ref f5))) (l5 : K.lookup f5 = some ⟨oc5, od5, .func (fnOf "_is_line" "_is_line" (defArgs st__is_line) (defBody st__is_line) (defScope st__is_line) .none kV5 dc5 pm5 an5 cd5 ct5), sl5⟩) (c5 : codeIn K cd5 "_is_line" = true) (k5 : keepIn K (.ref f5) = true)
    {f6 : Addr} {od6 an6 : Option Addr} {sl6 : Array (Option Value)} {oc6 kV6 dc6 pm6 cd6 ct6 : Value}
    (a6 : nsIn K mainGlobals "is_text" = some (some (.ref f6))) (l6 : K.lookup f6 = some ⟨oc6, od6, .func (fnOf "is_text" "is_text" (defArgs st_is_text) (defBody st_is_text) (defScope st_is_text) .none kV6 dc6 pm6 an6 cd6 ct6), sl6⟩) (c6 : codeIn K cd6 "is_text" = true) (k6 : keepIn K (.ref f6) = true)
    {f7 : Addr} {od7 an7 : Option Addr} {sl7 : Array (Option Value)} {oc7 kV7 dc7 pm7 cd7 ct7 : Value}
    (a7 : nsIn K mainGlobals "is_cue" = some (some (.ref f7))) (l7 : K.lookup f7 = some ⟨oc7, od7, .func (fnOf "is_cue" "is_cue" (defArgs st_is_cue) (defBody st_is_cue) (defScope st_is_cue) .none kV7 dc7 pm7 an7 cd7 ct7), sl7⟩) (c7 : codeIn K cd7 "is_cue" = true) (k7 : keepIn K (.ref f7) = true)
    {f8 : Addr} {od8 an8 : Option Addr} {sl8 : Array (Option Value)} {oc8 kV8 dc8 pm8 cd8 ct8 : Value}
    (a8 : nsIn K mainGlobals "need_file" = some (some (.ref f8))) (l8 : K.lookup f8 = some ⟨oc8, od8, .func (fnOf "need_file" "need_file" (defArgs st_need_file) (defBody st_need_file) (defScope st_need_file) .none kV8 dc8 pm8 an8 cd8 ct8), sl8⟩) (c8 : codeIn K cd8 "need_file" = true) (k8 : keepIn K (.ref f8) = true)
    {f9 : Addr} {od9 an9 : Option Addr} {sl9 : Array (Option Value)} {oc9 kV9 dc9 pm9 cd9 ct9 : Value}
    (a9 : nsIn K mainGlobals "_bounds_of" = some (some (.ref f9))) (l9 : K.lookup f9 = some ⟨oc9, od9, .func (fnOf "_bounds_of" "_bounds_of" (defArgs st__bounds_of) (defBody st__bounds_of) (defScope st__bounds_of) .none kV9 dc9 pm9 an9 cd9 ct9), sl9⟩) (c9 : codeIn K cd9 "_bounds_of" = true) (k9 : keepIn K (.ref f9) = true)
    {f10 : Addr} {od10 an10 : Option Addr} {sl10 : Array (Option Value)} {oc10 kV10 dc10 pm10 cd10 ct10 : Value}
    (a10 : nsIn K mainGlobals "joined_cues" = some (some (.ref f10))) (l10 : K.lookup f10 = some ⟨oc10, od10, .func (fnOf "joined_cues" "joined_cues" (defArgs st_joined_cues) (defBody st_joined_cues) (defScope st_joined_cues) .none kV10 dc10 pm10 an10 cd10 ct10), sl10⟩) (c10 : codeIn K cd10 "joined_cues" = true) (k10 : keepIn K (.ref f10) = true)
    {f11 : Addr} {od11 an11 : Option Addr} {sl11 : Array (Option Value)} {oc11 kV11 dc11 pm11 cd11 ct11 : Value}
    (a11 : nsIn K mainGlobals "text_at" = some (some (.ref f11))) (l11 : K.lookup f11 = some ⟨oc11, od11, .func (fnOf "text_at" "text_at" (defArgs st_text_at) (defBody st_text_at) (defScope st_text_at) .none kV11 dc11 pm11 an11 cd11 ct11), sl11⟩) (c11 : codeIn K cd11 "text_at" = true) (k11 : keepIn K (.ref f11) = true)
    {f12 : Addr} {od12 an12 : Option Addr} {sl12 : Array (Option Value)} {oc12 kV12 dc12 pm12 cd12 ct12 : Value}
    (a12 : nsIn K mainGlobals "_text_of_layers" = some (some (.ref f12))) (l12 : K.lookup f12 = some ⟨oc12, od12, .func (fnOf "_text_of_layers" "_text_of_layers" (defArgs st__text_of_layers) (defBody st__text_of_layers) (defScope st__text_of_layers) .none kV12 dc12 pm12 an12 cd12 ct12), sl12⟩) (c12 : codeIn K cd12 "_text_of_layers" = true) (k12 : keepIn K (.ref f12) = true)
    {f13 : Addr} {od13 an13 : Option Addr} {sl13 : Array (Option Value)} {oc13 kV13 dc13 pm13 cd13 ct13 : Value}
    (a13 : nsIn K mainGlobals "flattened" = some (some (.ref f13))) (l13 : K.lookup f13 = some ⟨oc13, od13, .func (fnOf "flattened" "flattened" (defArgs st_flattened) (defBody st_flattened) (defScope st_flattened) .none kV13 dc13 pm13 an13 cd13 ct13), sl13⟩) (c13 : codeIn K cd13 "flattened" = true) (k13 : keepIn K (.ref f13) = true)
    {f14 : Addr} {od14 an14 : Option Addr} {sl14 : Array (Option Value)} {oc14 kV14 dc14 pm14 cd14 ct14 : Value}
    (a14 : nsIn K mainGlobals "flat" = some (some (.ref f14))) (l14 : K.lookup f14 = some ⟨oc14, od14, .func (fnOf "flat" "flat" (defArgs st_flat) (defBody st_flat) (defScope st_flat) .none kV14 dc14 pm14 an14 cd14 ct14), sl14⟩) (c14 : codeIn K cd14 "flat" = true) (k14 : keepIn K (.ref f14) = true)
    {f15 : Addr} {od15 an15 : Option Addr} {sl15 : Array (Option Value)} {oc15 kV15 dc15 pm15 cd15 ct15 : Value}
    (a15 : nsIn K mainGlobals "apart" = some (some (.ref f15))) (l15 : K.lookup f15 = some ⟨oc15, od15, .func (fnOf "apart" "apart" (defArgs st_apart) (defBody st_apart) (defScope st_apart) .none kV15 dc15 pm15 an15 cd15 ct15), sl15⟩) (c15 : codeIn K cd15 "apart" = true) (k15 : keepIn K (.ref f15) = true)
    {f16 : Addr} {od16 an16 : Option Addr} {sl16 : Array (Option Value)} {oc16 kV16 dc16 pm16 cd16 ct16 : Value}
    (a16 : nsIn K mainGlobals "alike" = some (some (.ref f16))) (l16 : K.lookup f16 = some ⟨oc16, od16, .func (fnOf "alike" "alike" (defArgs st_alike) (defBody st_alike) (defScope st_alike) .none kV16 dc16 pm16 an16 cd16 ct16), sl16⟩) (c16 : codeIn K cd16 "alike" = true) (k16 : keepIn K (.ref f16) = true)
    {f17 : Addr} {od17 an17 : Option Addr} {sl17 : Array (Option Value)} {oc17 kV17 dc17 pm17 cd17 ct17 : Value}
    (a17 : nsIn K mainGlobals "is_file" = some (some (.ref f17))) (l17 : K.lookup f17 = some ⟨oc17, od17, .func (fnOf "is_file" "is_file" (defArgs st_is_file) (defBody st_is_file) (defScope st_is_file) .none kV17 dc17 pm17 an17 cd17 ct17), sl17⟩) (c17 : codeIn K cd17 "is_file" = true) (k17 : keepIn K (.ref f17) = true)
    {f18 : Addr} {od18 an18 : Option Addr} {sl18 : Array (Option Value)} {oc18 kV18 dc18 pm18 cd18 ct18 : Value}
    (a18 : nsIn K mainGlobals "_greatest" = some (some (.ref f18))) (l18 : K.lookup f18 = some ⟨oc18, od18, .func (fnOf "_greatest" "_greatest" (defArgs st__greatest) (defBody st__greatest) (defScope st__greatest) .none kV18 dc18 pm18 an18 cd18 ct18), sl18⟩) (c18 : codeIn K cd18 "_greatest" = true) (k18 : keepIn K (.ref f18) = true)
    {f19 : Addr} {od19 an19 : Option Addr} {sl19 : Array (Option Value)} {oc19 kV19 dc19 pm19 cd19 ct19 : Value}
    (a19 : nsIn K mainGlobals "_all_partners" = some (some (.ref f19))) (l19 : K.lookup f19 = some ⟨oc19, od19, .func (fnOf "_all_partners" "_all_partners" (defArgs st__all_partners) (defBody st__all_partners) (defScope st__all_partners) .none kV19 dc19 pm19 an19 cd19 ct19), sl19⟩) (c19 : codeIn K cd19 "_all_partners" = true) (k19 : keepIn K (.ref f19) = true)
    {f20 : Addr} {od20 an20 : Option Addr} {sl20 : Array (Option Value)} {oc20 kV20 dc20 pm20 cd20 ct20 : Value}
    (a20 : nsIn K mainGlobals "_joined" = some (some (.ref f20))) (l20 : K.lookup f20 = some ⟨oc20, od20, .func (fnOf "_joined" "_joined" (defArgs st__joined) (defBody st__joined) (defScope st__joined) .none kV20 dc20 pm20 an20 cd20 ct20), sl20⟩) (c20 : codeIn K cd20 "_joined" = true) (k20 : keepIn K (.ref f20) = true)
    {f21 : Addr} {od21 an21 : Option Addr} {sl21 : Array (Option Value)} {oc21 kV21 dc21 pm21 cd21 ct21 : Value}
    (a21 : nsIn K mainGlobals "_most_of" = some (some (.ref f21))) (l21 : K.lookup f21 = some ⟨oc21, od21, .func (fnOf "_most_of" "_most_of" (defArgs st__most_of) (defBody st__most_of) (defScope st__most_of) .none kV21 dc21 pm21 an21 cd21 ct21), sl21⟩) (c21 : codeIn K cd21 "_most_of" = true) (k21 : keepIn K (.ref f21) = true)
    {f22 : Addr} {od22 an22 : Option Addr} {sl22 : Array (Option Value)} {oc22 kV22 dc22 pm22 cd22 ct22 : Value}
    (a22 : nsIn K mainGlobals "_best_bounds" = some (some (.ref f22))) (l22 : K.lookup f22 = some ⟨oc22, od22, .func (fnOf "_best_bounds" "_best_bounds" (defArgs st__best_bounds) (defBody st__best_bounds) (defScope st__best_bounds) .none kV22 dc22 pm22 an22 cd22 ct22), sl22⟩) (c22 : codeIn K cd22 "_best_bounds" = true) (k22 : keepIn K (.ref f22) = true)
    {f23 : Addr} {od23 an23 : Option Addr} {sl23 : Array (Option Value)} {oc23 kV23 dc23 pm23 cd23 ct23 : Value}
    (a23 : nsIn K mainGlobals "fewest" = some (some (.ref f23))) (l23 : K.lookup f23 = some ⟨oc23, od23, .func (fnOf "fewest" "fewest" (defArgs st_fewest) (defBody st_fewest) (defScope st_fewest) .none kV23 dc23 pm23 an23 cd23 ct23), sl23⟩) (c23 : codeIn K cd23 "fewest" = true) (k23 : keepIn K (.ref f23) = true)
    {f24 : Addr} {od24 an24 : Option Addr} {sl24 : Array (Option Value)} {oc24 kV24 dc24 pm24 cd24 ct24 : Value}
    (a24 : nsIn K mainGlobals "_strokes" = some (some (.ref f24))) (l24 : K.lookup f24 = some ⟨oc24, od24, .func (fnOf "_strokes" "_strokes" (defArgs st__strokes) (defBody st__strokes) (defScope st__strokes) .none kV24 dc24 pm24 an24 cd24 ct24), sl24⟩) (c24 : codeIn K cd24 "_strokes" = true) (k24 : keepIn K (.ref f24) = true)
    {f25 : Addr} {od25 an25 : Option Addr} {sl25 : Array (Option Value)} {oc25 kV25 dc25 pm25 cd25 ct25 : Value}
    (a25 : nsIn K mainGlobals "_partner_in" = some (some (.ref f25))) (l25 : K.lookup f25 = some ⟨oc25, od25, .func (fnOf "_partner_in" "_partner_in" (defArgs st__partner_in) (defBody st__partner_in) (defScope st__partner_in) .none kV25 dc25 pm25 an25 cd25 ct25), sl25⟩) (c25 : codeIn K cd25 "_partner_in" = true) (k25 : keepIn K (.ref f25) = true)
    {f26 : Addr} {od26 an26 : Option Addr} {sl26 : Array (Option Value)} {oc26 kV26 dc26 pm26 cd26 ct26 : Value}
    (a26 : nsIn K mainGlobals "_file_of" = some (some (.ref f26))) (l26 : K.lookup f26 = some ⟨oc26, od26, .func (fnOf "_file_of" "_file_of" (defArgs st__file_of) (defBody st__file_of) (defScope st__file_of) .none kV26 dc26 pm26 an26 cd26 ct26), sl26⟩) (c26 : codeIn K cd26 "_file_of" = true) (k26 : keepIn K (.ref f26) = true)
    {f27 : Addr} {od27 an27 : Option Addr} {sl27 : Array (Option Value)} {oc27 kV27 dc27 pm27 cd27 ct27 : Value}
    (a27 : nsIn K mainGlobals "fewest_file" = some (some (.ref f27))) (l27 : K.lookup f27 = some ⟨oc27, od27, .func (fnOf "fewest_file" "fewest_file" (defArgs st_fewest_file) (defBody st_fewest_file) (defScope st_fewest_file) .none kV27 dc27 pm27 an27 cd27 ct27), sl27⟩) (c27 : codeIn K cd27 "fewest_file" = true) (k27 : keepIn K (.ref f27) = true)
    {f28 : Addr} {od28 an28 : Option Addr} {sl28 : Array (Option Value)} {oc28 kV28 dc28 pm28 cd28 ct28 : Value}
    (a28 : nsIn K mainGlobals "strokes_paper" = some (some (.ref f28))) (l28 : K.lookup f28 = some ⟨oc28, od28, .func (fnOf "strokes_paper" "strokes_paper" (defArgs st_strokes_paper) (defBody st_strokes_paper) (defScope st_strokes_paper) .none kV28 dc28 pm28 an28 cd28 ct28), sl28⟩) (c28 : codeIn K cd28 "strokes_paper" = true) (k28 : keepIn K (.ref f28) = true)
    {f29 : Addr} {od29 an29 : Option Addr} {sl29 : Array (Option Value)} {oc29 kV29 dc29 pm29 cd29 ct29 : Value}
    (a29 : nsIn K mainGlobals "_is_row" = some (some (.ref f29))) (l29 : K.lookup f29 = some ⟨oc29, od29, .func (fnOf "_is_row" "_is_row" (defArgs st__is_row) (defBody st__is_row) (defScope st__is_row) .none kV29 dc29 pm29 an29 cd29 ct29), sl29⟩) (c29 : codeIn K cd29 "_is_row" = true) (k29 : keepIn K (.ref f29) = true)
    {f30 : Addr} {od30 an30 : Option Addr} {sl30 : Array (Option Value)} {oc30 kV30 dc30 pm30 cd30 ct30 : Value}
    (a30 : nsIn K mainGlobals "_are_bounds" = some (some (.ref f30))) (l30 : K.lookup f30 = some ⟨oc30, od30, .func (fnOf "_are_bounds" "_are_bounds" (defArgs st__are_bounds) (defBody st__are_bounds) (defScope st__are_bounds) .none kV30 dc30 pm30 an30 cd30 ct30), sl30⟩) (c30 : codeIn K cd30 "_are_bounds" = true) (k30 : keepIn K (.ref f30) = true)
    {f31 : Addr} {od31 an31 : Option Addr} {sl31 : Array (Option Value)} {oc31 kV31 dc31 pm31 cd31 ct31 : Value}
    (a31 : nsIn K mainGlobals "check_strokes" = some (some (.ref f31))) (l31 : K.lookup f31 = some ⟨oc31, od31, .func (fnOf "check_strokes" "check_strokes" (defArgs st_check_strokes) (defBody st_check_strokes) (defScope st_check_strokes) .none kV31 dc31 pm31 an31 cd31 ct31), sl31⟩) (c31 : codeIn K cd31 "check_strokes" = true) (k31 : keepIn K (.ref f31) = true)
    {f32 : Addr} {od32 an32 : Option Addr} {sl32 : Array (Option Value)} {oc32 kV32 dc32 pm32 cd32 ct32 : Value}
    (a32 : nsIn K mainGlobals "_law_mix" = some (some (.ref f32))) (l32 : K.lookup f32 = some ⟨oc32, od32, .func (fnOf "_law_mix" "_law_mix" (defArgs st__law_mix) (defBody st__law_mix) (defScope st__law_mix) .none kV32 dc32 pm32 an32 cd32 ct32), sl32⟩) (c32 : codeIn K cd32 "_law_mix" = true) (k32 : keepIn K (.ref f32) = true)
    {f33 : Addr} {od33 an33 : Option Addr} {sl33 : Array (Option Value)} {oc33 kV33 dc33 pm33 cd33 ct33 : Value}
    (a33 : nsIn K mainGlobals "_law_text" = some (some (.ref f33))) (l33 : K.lookup f33 = some ⟨oc33, od33, .func (fnOf "_law_text" "_law_text" (defArgs st__law_text) (defBody st__law_text) (defScope st__law_text) .none kV33 dc33 pm33 an33 cd33 ct33), sl33⟩) (c33 : codeIn K cd33 "_law_text" = true) (k33 : keepIn K (.ref f33) = true)
    {f34 : Addr} {od34 an34 : Option Addr} {sl34 : Array (Option Value)} {oc34 kV34 dc34 pm34 cd34 ct34 : Value}
    (a34 : nsIn K mainGlobals "_law_strokes" = some (some (.ref f34))) (l34 : K.lookup f34 = some ⟨oc34, od34, .func (fnOf "_law_strokes" "_law_strokes" (defArgs st__law_strokes) (defBody st__law_strokes) (defScope st__law_strokes) .none kV34 dc34 pm34 an34 cd34 ct34), sl34⟩) (c34 : codeIn K cd34 "_law_strokes" = true) (k34 : keepIn K (.ref f34) = true)
    {f35 : Addr} {od35 an35 : Option Addr} {sl35 : Array (Option Value)} {oc35 kV35 dc35 pm35 cd35 ct35 : Value}
    (a35 : nsIn K mainGlobals "_law_seen" = some (some (.ref f35))) (l35 : K.lookup f35 = some ⟨oc35, od35, .func (fnOf "_law_seen" "_law_seen" (defArgs st__law_seen) (defBody st__law_seen) (defScope st__law_seen) .none kV35 dc35 pm35 an35 cd35 ct35), sl35⟩) (c35 : codeIn K cd35 "_law_seen" = true) (k35 : keepIn K (.ref f35) = true)
    {f36 : Addr} {od36 an36 : Option Addr} {sl36 : Array (Option Value)} {oc36 kV36 dc36 pm36 cd36 ct36 : Value}
    (a36 : nsIn K mainGlobals "_law_flatted" = some (some (.ref f36))) (l36 : K.lookup f36 = some ⟨oc36, od36, .func (fnOf "_law_flatted" "_law_flatted" (defArgs st__law_flatted) (defBody st__law_flatted) (defScope st__law_flatted) .none kV36 dc36 pm36 an36 cd36 ct36), sl36⟩) (c36 : codeIn K cd36 "_law_flatted" = true) (k36 : keepIn K (.ref f36) = true)
    {f37 : Addr} {od37 an37 : Option Addr} {sl37 : Array (Option Value)} {oc37 kV37 dc37 pm37 cd37 ct37 : Value}
    (a37 : nsIn K mainGlobals "_law_least" = some (some (.ref f37))) (l37 : K.lookup f37 = some ⟨oc37, od37, .func (fnOf "_law_least" "_law_least" (defArgs st__law_least) (defBody st__law_least) (defScope st__law_least) .none kV37 dc37 pm37 an37 cd37 ct37), sl37⟩) (c37 : codeIn K cd37 "_law_least" = true) (k37 : keepIn K (.ref f37) = true)
    {f38 : Addr} {od38 an38 : Option Addr} {sl38 : Array (Option Value)} {oc38 kV38 dc38 pm38 cd38 ct38 : Value}
    (a38 : nsIn K mainGlobals "_law_borders" = some (some (.ref f38))) (l38 : K.lookup f38 = some ⟨oc38, od38, .func (fnOf "_law_borders" "_law_borders" (defArgs st__law_borders) (defBody st__law_borders) (defScope st__law_borders) .none kV38 dc38 pm38 an38 cd38 ct38), sl38⟩) (c38 : codeIn K cd38 "_law_borders" = true) (k38 : keepIn K (.ref f38) = true)
    {f39 : Addr} {od39 an39 : Option Addr} {sl39 : Array (Option Value)} {oc39 kV39 dc39 pm39 cd39 ct39 : Value}
    (a39 : nsIn K mainGlobals "_law_refused" = some (some (.ref f39))) (l39 : K.lookup f39 = some ⟨oc39, od39, .func (fnOf "_law_refused" "_law_refused" (defArgs st__law_refused) (defBody st__law_refused) (defScope st__law_refused) .none kV39 dc39 pm39 an39 cd39 ct39), sl39⟩) (c39 : codeIn K cd39 "_law_refused" = true) (k39 : keepIn K (.ref f39) = true)
    {f40 : Addr} {od40 an40 : Option Addr} {sl40 : Array (Option Value)} {oc40 kV40 dc40 pm40 cd40 ct40 : Value}
    (a40 : nsIn K mainGlobals "_law_right" = some (some (.ref f40))) (l40 : K.lookup f40 = some ⟨oc40, od40, .func (fnOf "_law_right" "_law_right" (defArgs st__law_right) (defBody st__law_right) (defScope st__law_right) .none kV40 dc40 pm40 an40 cd40 ct40), sl40⟩) (c40 : codeIn K cd40 "_law_right" = true) (k40 : keepIn K (.ref f40) = true)
    {f41 : Addr} {od41 an41 : Option Addr} {sl41 : Array (Option Value)} {oc41 kV41 dc41 pm41 cd41 ct41 : Value}
    (a41 : nsIn K mainGlobals "_law_draw" = some (some (.ref f41))) (l41 : K.lookup f41 = some ⟨oc41, od41, .func (fnOf "_law_draw" "_law_draw" (defArgs st__law_draw) (defBody st__law_draw) (defScope st__law_draw) .none kV41 dc41 pm41 an41 cd41 ct41), sl41⟩) (c41 : codeIn K cd41 "_law_draw" = true) (k41 : keepIn K (.ref f41) = true)
    {f42 : Addr} {od42 an42 : Option Addr} {sl42 : Array (Option Value)} {oc42 kV42 dc42 pm42 cd42 ct42 : Value}
    (a42 : nsIn K mainGlobals "_law_begun" = some (some (.ref f42))) (l42 : K.lookup f42 = some ⟨oc42, od42, .func (fnOf "_law_begun" "_law_begun" (defArgs st__law_begun) (defBody st__law_begun) (defScope st__law_begun) .none kV42 dc42 pm42 an42 cd42 ct42), sl42⟩) (c42 : codeIn K cd42 "_law_begun" = true) (k42 : keepIn K (.ref f42) = true)
    {f43 : Addr} {od43 an43 : Option Addr} {sl43 : Array (Option Value)} {oc43 kV43 dc43 pm43 cd43 ct43 : Value}
    (a43 : nsIn K mainGlobals "law" = some (some (.ref f43))) (l43 : K.lookup f43 = some ⟨oc43, od43, .func (fnOf "law" "law" (defArgs st_law) (defBody st_law) (defScope st_law) .none kV43 dc43 pm43 an43 cd43 ct43), sl43⟩) (c43 : codeIn K cd43 "law" = true) (k43 : keepIn K (.ref f43) = true)
    {C0 gI0 : Addr} {nm0 qq0 : Str} {N0 : Addr} {bs0 : List Value} {sn0 : List Str} {sub0 : List Value} {ab0 : Bool} {col0 : Option Bool} {dd0 : Option Addr} {ma0 mb0 mc0 md0 mf0 : Option Value} {iod0 ian0 : Option Addr} {isl0 : Array (Option Value)} {ioc0 ikV0 idc0 ipm0 icd0 ict0 : Value}
    (xa0 : nsIn K mainGlobals "BadFile" = some (some (.ref C0))) (xl0 : K.lookup C0 = some (PySem.excClassObj nm0 qq0 C0 N0 bs0 [.type "ValueError", .type "Exception", .type "BaseException", .type "object"] true sn0 sub0 ab0 col0 dd0 ma0 mb0 mc0 md0 mf0 "ValueError.__new__"))
    (xs0 : PySem.W.findIn K (.ref C0) "__setattr__" = some (some (.builtin "object.__setattr__"))) (xe0 : PySem.W.subIn K (.ref C0) (.type "BaseException") = some true) (xt0 : PySem.W.typeIn K (.ref C0) = some (.type "type")) (xk0 : keepIn K (.ref C0) = true) (xc0 : PySem.W.isClsIn K C0 = true) (xb0 : PySem.W.subIn K (.ref C0) (.ref C0) = some true)
    (xi0 : PySem.W.findIn K (.ref C0) "__init__" = some (some (.ref gI0))) (xy0 : PySem.W.typeIn K (.ref gI0) = some (.type "function")) (xf0 : K.lookup gI0 = some ⟨ioc0, iod0, .func (fnOf "__init__" "BadFile.__init__" (defArgs st_BadFile) (defBody st_BadFile) (defScope st_BadFile) .none ikV0 idc0 ipm0 ian0 icd0 ict0), isl0⟩) (xd0 : codeIn K icd0 "BadFile.__init__" = true) (xg0 : keepIn K (.ref gI0) = true)
    (xn0 : PySem.W.findIn K (.ref C0) "number" = some none)
    {C1 gI1 : Addr} {nm1 qq1 : Str} {N1 : Addr} {bs1 : List Value} {sn1 : List Str} {sub1 : List Value} {ab1 : Bool} {col1 : Option Bool} {dd1 : Option Addr} {ma1 mb1 mc1 md1 mf1 : Option Value} {iod1 ian1 : Option Addr} {isl1 : Array (Option Value)} {ioc1 ikV1 idc1 ipm1 icd1 ict1 : Value}
    (xa1 : nsIn K mainGlobals "BadPaper" = some (some (.ref C1))) (xl1 : K.lookup C1 = some (PySem.excClassObj nm1 qq1 C1 N1 bs1 [.type "ValueError", .type "Exception", .type "BaseException", .type "object"] true sn1 sub1 ab1 col1 dd1 ma1 mb1 mc1 md1 mf1 "ValueError.__new__"))
    (xs1 : PySem.W.findIn K (.ref C1) "__setattr__" = some (some (.builtin "object.__setattr__"))) (xe1 : PySem.W.subIn K (.ref C1) (.type "BaseException") = some true) (xt1 : PySem.W.typeIn K (.ref C1) = some (.type "type")) (xk1 : keepIn K (.ref C1) = true) (xc1 : PySem.W.isClsIn K C1 = true) (xb1 : PySem.W.subIn K (.ref C1) (.ref C1) = some true)
    (xi1 : PySem.W.findIn K (.ref C1) "__init__" = some (some (.ref gI1))) (xy1 : PySem.W.typeIn K (.ref gI1) = some (.type "function")) (xf1 : K.lookup gI1 = some ⟨ioc1, iod1, .func (fnOf "__init__" "BadPaper.__init__" (defArgs st_BadPaper) (defBody st_BadPaper) (defScope st_BadPaper) .none ikV1 idc1 ipm1 ian1 icd1 ict1), isl1⟩) (xd1 : codeIn K icd1 "BadPaper.__init__" = true) (xg1 : keepIn K (.ref gI1) = true)
    (xn1 : PySem.W.findIn K (.ref C1) "part" = some none)
    (xp1 : PySem.W.findIn K (.ref C1) "__getattribute__" = some (some (.builtin "BaseException.__getattribute__"))) (xq1 : PySem.W.findIn K (.ref C1) "__getattr__" = some none) (xr1 : PySem.W.hasDictIn K C1 = true)
    (xvV : PySem.W.findCls K (.type "ValueError") (.type "type") "__init__" = some (.val (.builtin "ValueError.__init__")))
    (z_ValueError : nsIn K mainGlobals "ValueError" = some none)
    (z_all : nsIn K mainGlobals "all" = some none)
    (z_bool : nsIn K mainGlobals "bool" = some none)
    (z_enumerate : nsIn K mainGlobals "enumerate" = some none)
    (z_int : nsIn K mainGlobals "int" = some none)
    (z_isinstance : nsIn K mainGlobals "isinstance" = some none)
    (z_len : nsIn K mainGlobals "len" = some none)
    (z_list : nsIn K mainGlobals "list" = some none)
    (z_min : nsIn K mainGlobals "min" = some none)
    (z_ord : nsIn K mainGlobals "ord" = some none)
    (z_range : nsIn K mainGlobals "range" = some none)
    (z_repr : nsIn K mainGlobals "repr" = some none)
    (z_reversed : nsIn K mainGlobals "reversed" = some none)
    (z_sorted : nsIn K mainGlobals "sorted" = some none)
    (z_str : nsIn K mainGlobals "str" = some none)
    (z_tuple : nsIn K mainGlobals "tuple" = some none)
    (z_zip : nsIn K mainGlobals "zip" = some none)
    {t_LOWEST_OF_LINES : Tok} (v_LOWEST_OF_LINES : nsIn K mainGlobals "LOWEST_OF_LINES" = some (some (.int 32 t_LOWEST_OF_LINES)))
    {t_MOST_CUES : Tok} (v_MOST_CUES : nsIn K mainGlobals "MOST_CUES" = some (some (.int 60 t_MOST_CUES)))
    {t_MOST_FRAME : Tok} (v_MOST_FRAME : nsIn K mainGlobals "MOST_FRAME" = some (some (.int 1000000000000 t_MOST_FRAME)))
    {t_MOST_LINES : Tok} (v_MOST_LINES : nsIn K mainGlobals "MOST_LINES" = some (some (.int 4 t_MOST_LINES)))
    {t_MOST_SIGNS : Tok} (v_MOST_SIGNS : nsIn K mainGlobals "MOST_SIGNS" = some (some (.int 40 t_MOST_SIGNS)))
    {t_PERCENT : Tok} (v_PERCENT : nsIn K mainGlobals "PERCENT" = some (some (.int 37 t_PERCENT)))
    {t_TILDE : Tok} (v_TILDE : nsIn K mainGlobals "TILDE" = some (some (.int 126 t_TILDE)))
    (says : ∀ ns : List Int, ns.length ≤ 63 → lawSays ns) :
    ∃ fd : FuncData, (∀ (s : Shared) (v : Value), BindsTo s fd ⟨[v], []⟩ [("_law_script", v)]) ∧ ∀ bas : Heap, K.In bas → bas.Ns mainGlobals gl → FnG l.prog wd K gl bas 12 fa fd ["_law_script"] (spLawG K) := by
  have e := hfa.symm.trans (PySem.W.mg_of X G a43)
  cases e
  have T : Tx K gl := ⟨PySem.W.mg_none_of X G z_ValueError, PySem.W.mg_none_of X G z_all, PySem.W.mg_none_of X G z_bool, PySem.W.mg_none_of X G z_enumerate, PySem.W.mg_none_of X G z_int, PySem.W.mg_none_of X G z_isinstance, PySem.W.mg_none_of X G z_len, PySem.W.mg_none_of X G z_list, PySem.W.mg_none_of X G z_min, PySem.W.mg_none_of X G z_ord, PySem.W.mg_none_of X G z_range, PySem.W.mg_none_of X G z_repr, PySem.W.mg_none_of X G z_reversed, PySem.W.mg_none_of X G z_sorted, PySem.W.mg_none_of X G z_str, PySem.W.mg_none_of X G z_tuple, PySem.W.mg_none_of X G z_zip, ⟨_, PySem.W.mg_of X G v_LOWEST_OF_LINES⟩, ⟨_, PySem.W.mg_of X G v_MOST_CUES⟩, ⟨_, PySem.W.mg_of X G v_MOST_FRAME⟩, ⟨_, PySem.W.mg_of X G v_MOST_LINES⟩, ⟨_, PySem.W.mg_of X G v_MOST_SIGNS⟩, ⟨_, PySem.W.mg_of X G v_PERCENT⟩, ⟨_, PySem.W.mg_of X G v_TILDE⟩⟩
  have F0 := fun_mk (st := st_is_integer) l0 c0 k0
  have b0 := F0.binds (ps := ["thing"]) fun _ _ _ _ _ _ us hl => match us, hl with | [_], _ => rfl
  have F1 := fun_mk (st := st_is_within) l1 c1 k1
  have b1 := F1.binds (ps := ["thing", "least", "most"]) fun _ _ _ _ _ _ us hl => match us, hl with | [_, _, _], _ => rfl
  have F2 := fun_mk (st := st_is_tuple) l2 c2 k2
  have b2 := F2.binds (ps := ["thing", "least", "most"]) fun _ _ _ _ _ _ us hl => match us, hl with | [_, _, _], _ => rfl
  have F3 := fun_mk (st := st_is_sign) l3 c3 k3
  have b3 := F3.binds (ps := ["sign", "lowest"]) fun _ _ _ _ _ _ us hl => match us, hl with | [_, _], _ => rfl
  have F4 := fun_mk (st := st_has_signs) l4 c4 k4
  have b4 := F4.binds (ps := ["thing", "lowest"]) fun _ _ _ _ _ _ us hl => match us, hl with | [_, _], _ => rfl
  have F5 := fun_mk (st := st__is_line) l5 c5 k5
  have b5 := F5.binds (ps := ["thing"]) fun _ _ _ _ _ _ us hl => match us, hl with | [_], _ => rfl
  have F6 := fun_mk (st := st_is_text) l6 c6 k6
  have b6 := F6.binds (ps := ["thing"]) fun _ _ _ _ _ _ us hl => match us, hl with | [_], _ => rfl
  have F7 := fun_mk (st := st_is_cue) l7 c7 k7
  have b7 := F7.binds (ps := ["thing"]) fun _ _ _ _ _ _ us hl => match us, hl with | [_], _ => rfl
  have F8 := fun_mk (st := st_need_file) l8 c8 k8
  have b8 := F8.binds (ps := ["thing"]) fun _ _ _ _ _ _ us hl => match us, hl with | [_], _ => rfl
  have F9 := fun_mk (st := st__bounds_of) l9 c9 k9
  have b9 := F9.binds (ps := ["layers"]) fun _ _ _ _ _ _ us hl => match us, hl with | [_], _ => rfl
  have F10 := fun_mk (st := st_joined_cues) l10 c10 k10
  have b10 := F10.binds (ps := ["cues"]) fun _ _ _ _ _ _ us hl => match us, hl with | [_], _ => rfl
  have F11 := fun_mk (st := st_text_at) l11 c11 k11
  have b11 := F11.binds (ps := ["cues", "frame"]) fun _ _ _ _ _ _ us hl => match us, hl with | [_, _], _ => rfl
  have F12 := fun_mk (st := st__text_of_layers) l12 c12 k12
  have b12 := F12.binds (ps := ["layers", "frame"]) fun _ _ _ _ _ _ us hl => match us, hl with | [_, _], _ => rfl
  have F13 := fun_mk (st := st_flattened) l13 c13 k13
  have b13 := F13.binds (ps := ["layers"]) fun _ _ _ _ _ _ us hl => match us, hl with | [_], _ => rfl
  have F14 := fun_mk (st := st_flat) l14 c14 k14
  have b14 := F14.binds (ps := ["file"]) fun _ _ _ _ _ _ us hl => match us, hl with | [_], _ => rfl
  have F15 := fun_mk (st := st_apart) l15 c15 k15
  have b15 := F15.binds (ps := ["one", "other"]) fun _ _ _ _ _ _ us hl => match us, hl with | [_, _], _ => rfl
  have F16 := fun_mk (st := st_alike) l16 c16 k16
  have b16 := F16.binds (ps := ["one", "other"]) fun _ _ _ _ _ _ us hl => match us, hl with | [_, _], _ => rfl
  have F17 := fun_mk (st := st_is_file) l17 c17 k17
  have b17 := F17.binds (ps := ["thing"]) fun _ _ _ _ _ _ us hl => match us, hl with | [_], _ => rfl
  have F18 := fun_mk (st := st__greatest) l18 c18 k18
  have b18 := F18.binds (ps := ["bounds"]) fun _ _ _ _ _ _ us hl => match us, hl with | [_], _ => rfl
  have F19 := fun_mk (st := st__all_partners) l19 c19 k19
  have b19 := F19.binds (ps := ["cues"]) fun _ _ _ _ _ _ us hl => match us, hl with | [_], _ => rfl
  have F20 := fun_mk (st := st__joined) l20 c20 k20
  have b20 := F20.binds (ps := ["bounds", "low", "partner", "high"]) fun _ _ _ _ _ _ us hl => match us, hl with | [_, _, _, _], _ => rfl
  have F21 := fun_mk (st := st__most_of) l21 c21 k21
  have b21 := F21.binds (ps := ["bounds", "partners", "low", "high"]) fun _ _ _ _ _ _ us hl => match us, hl with | [_, _, _, _], _ => rfl
  have F22 := fun_mk (st := st__best_bounds) l22 c22 k22
  have b22 := F22.binds (ps := ["cues"]) fun _ _ _ _ _ _ us hl => match us, hl with | [_], _ => rfl
  have F23 := fun_mk (st := st_fewest) l23 c23 k23
  have b23 := F23.binds (ps := ["file"]) fun _ _ _ _ _ _ us hl => match us, hl with | [_], _ => rfl
  have F24 := fun_mk (st := st__strokes) l24 c24 k24
  have b24 := F24.binds (ps := ["cues", "goes_on"]) fun _ _ _ _ _ _ us hl => match us, hl with | [_, _], _ => rfl
  have F25 := fun_mk (st := st__partner_in) l25 c25 k25
  have b25 := F25.binds (ps := ["bounds", "partners", "low", "high"]) fun _ _ _ _ _ _ us hl => match us, hl with | [_, _, _, _], _ => rfl
  have F26 := fun_mk (st := st__file_of) l26 c26 k26
  have b26 := F26.binds (ps := ["cues", "bounds"]) fun _ _ _ _ _ _ us hl => match us, hl with | [_, _], _ => rfl
  have F27 := fun_mk (st := st_fewest_file) l27 c27 k27
  have b27 := F27.binds (ps := ["file"]) fun _ _ _ _ _ _ us hl => match us, hl with | [_], _ => rfl
  have F28 := fun_mk (st := st_strokes_paper) l28 c28 k28
  have b28 := F28.binds (ps := ["file"]) fun _ _ _ _ _ _ us hl => match us, hl with | [_], _ => rfl
  have F29 := fun_mk (st := st__is_row) l29 c29 k29
  have b29 := F29.binds (ps := ["bounds", "partners", "low"]) fun _ _ _ _ _ _ us hl => match us, hl with | [_, _, _], _ => rfl
  have F30 := fun_mk (st := st__are_bounds) l30 c30 k30
  have b30 := F30.binds (ps := ["cues", "thing"]) fun _ _ _ _ _ _ us hl => match us, hl with | [_, _], _ => rfl
  have F31 := fun_mk (st := st_check_strokes) l31 c31 k31
  have b31 := F31.binds (ps := ["file", "paper"]) fun _ _ _ _ _ _ us hl => match us, hl with | [_, _], _ => rfl
  have F32 := fun_mk (st := st__law_mix) l32 c32 k32
  have b32 := F32.binds (ps := ["_law_cell", "_law_spot"]) fun _ _ _ _ _ _ us hl => match us, hl with | [_, _], _ => rfl
  have F33 := fun_mk (st := st__law_text) l33 c33 k33
  have b33 := F33.binds (ps := ["_law_m"]) fun _ _ _ _ _ _ us hl => match us, hl with | [_], _ => rfl
  have F34 := fun_mk (st := st__law_strokes) l34 c34 k34
  have b34 := F34.binds (ps := ["_law_m", "_law_most"]) fun _ _ _ _ _ _ us hl => match us, hl with | [_, _], _ => rfl
  have F35 := fun_mk (st := st__law_seen) l35 c35 k35
  have b35 := F35.binds (ps := ["_law_file_so", "_law_spot"]) fun _ _ _ _ _ _ us hl => match us, hl with | [_, _], _ => rfl
  have F36 := fun_mk (st := st__law_flatted) l36 c36 k36
  have b36 := F36.binds (ps := ["_law_file_so"]) fun _ _ _ _ _ _ us hl => match us, hl with | [_], _ => rfl
  have F37 := fun_mk (st := st__law_least) l37 c37 k37
  have b37 := F37.binds (ps := ["_law_rows"]) fun _ _ _ _ _ _ us hl => match us, hl with | [_], _ => rfl
  have F38 := fun_mk (st := st__law_borders) l38 c38 k38
  have b38 := F38.binds (ps := ["_law_rows"]) fun _ _ _ _ _ _ us hl => match us, hl with | [_], _ => rfl
  have F39 := fun_mk (st := st__law_refused) l39 c39 k39
  have b39 := F39.binds (ps := ["_law_file_so", "_law_paper"]) fun _ _ _ _ _ _ us hl => match us, hl with | [_, _], _ => rfl
  have F40 := fun_mk (st := st__law_right) l40 c40 k40
  have b40 := F40.binds (ps := ["_law_file_so"]) fun _ _ _ _ _ _ us hl => match us, hl with | [_], _ => rfl
  have F41 := fun_mk (st := st__law_draw) l41 c41 k41
  have b41 := F41.binds (ps := ["_law_m", "_law_limit"]) fun _ _ _ _ _ _ us hl => match us, hl with | [_, _], _ => rfl
  have F42 := fun_mk (st := st__law_begun) l42 c42 k42
  have b42 := F42.binds (ps := ["_law_script"]) fun _ _ _ _ _ _ us hl => match us, hl with | [_], _ => rfl
  have F43 := fun_mk (st := st_law) l43 c43 k43
  have b43 := F43.binds (ps := ["_law_script"]) fun _ _ _ _ _ _ us hl => match us, hl with | [_], _ => rfl
  refine ⟨fnOf "law" "law" (defArgs st_law) (defBody st_law) (defScope st_law) .none kV43 dc43 pm43 an43 cd43 ct43, fun s v => .of_eq rfl, fun bas _ _ => ?_⟩
  have FI0 := fun_mk (st := st_BadFile) xf0 xd0 xg0
  have bI0 := FI0.binds (ps := ["self", "number"]) fun _ _ _ _ _ _ us hl => match us, hl with | [_, _], _ => rfl
  have K_BadFile : ClsAt l.prog wd K gl bas "BadFile" (some "number") := ⟨C0, gI0, _, _, PySem.W.mg_of X G xa0, ⟨⟨nm0, qq0, N0, bs0, _, sn0, sub0, ab0, col0, dd0, ma0, mb0, mc0, md0, mf0, xl0, by decide +kernel⟩, xs0, xe0, xt0, xk0⟩, xi0, xy0, init_BadFile T FI0 xvV xn0, bI0, exm_own xe0 xc0 xt0 xb0⟩
  have FI1 := fun_mk (st := st_BadPaper) xf1 xd1 xg1
  have bI1 := FI1.binds (ps := ["self", "part"]) fun _ _ _ _ _ _ us hl => match us, hl with | [_, _], _ => rfl
  have K_BadPaper : ClsAt l.prog wd K gl bas "BadPaper" (some "part") := ⟨C1, gI1, _, _, PySem.W.mg_of X G xa1, ⟨⟨nm1, qq1, N1, bs1, _, sn1, sub1, ab1, col1, dd1, ma1, mb1, mc1, md1, mf1, xl1, by decide +kernel⟩, xs1, xe1, xt1, xk1⟩, xi1, xy1, init_BadPaper T FI1 xvV xn1, bI1, exm_own xe1 xc1 xt1 xb1⟩
  have KF_BadPaper : FldOf K gl "BadPaper" "part" := ⟨C1, PySem.W.mg_of X G xa1, ⟨xp1, xq1, xe1, xr1⟩, xn1⟩
  have C__law_mix : Cd l.prog wd K gl bas srcOrcB 1 "_law_mix" 2 r__law_mix := ⟨_, _, _, ok__law_mix T F32, PySem.W.mg_of X G a32, k32, b32⟩
  have C__law_draw : Cd l.prog wd K gl bas srcOrcB 2 "_law_draw" 2 s_next := ⟨_, _, _, ok__law_draw T F41 C__law_mix, PySem.W.mg_of X G a41, k41, b41⟩
  have C_is_integer : Cd l.prog wd K gl bas srcOrcB 1 "is_integer" 1 r_is_integer := ⟨_, _, _, ok_is_integer T F0, PySem.W.mg_of X G a0, k0, b0⟩
  have C_is_within : Cd l.prog wd K gl bas srcOrcB 2 "is_within" 3 r_is_within := ⟨_, _, _, ok_is_within T F1 C_is_integer, PySem.W.mg_of X G a1, k1, b1⟩
  have C_is_tuple : Cd l.prog wd K gl bas srcOrcB 1 "is_tuple" 3 r_is_tuple := ⟨_, _, _, ok_is_tuple T F2, PySem.W.mg_of X G a2, k2, b2⟩
  have C_is_sign : Cd l.prog wd K gl bas srcOrcB 1 "is_sign" 2 r_is_sign := ⟨_, _, _, ok_is_sign T F3, PySem.W.mg_of X G a3, k3, b3⟩
  have C_has_signs : Cd l.prog wd K gl bas srcOrcB 2 "has_signs" 2 r_has_signs := ⟨_, _, _, ok_has_signs T F4 C_is_sign, PySem.W.mg_of X G a4, k4, b4⟩
  have C__is_line : Cd l.prog wd K gl bas srcOrcB 3 "_is_line" 1 r__is_line := ⟨_, _, _, ok__is_line T F5 C_has_signs, PySem.W.mg_of X G a5, k5, b5⟩
  have C_is_text : Cd l.prog wd K gl bas srcOrcB 4 "is_text" 1 r_is_text := ⟨_, _, _, ok_is_text T F6 C_is_tuple C__is_line, PySem.W.mg_of X G a6, k6, b6⟩
  have C_is_cue : Cd l.prog wd K gl bas srcOrcB 5 "is_cue" 1 r_is_cue := ⟨_, _, _, ok_is_cue T F7 C_is_tuple C_is_within C_is_text, PySem.W.mg_of X G a7, k7, b7⟩
  have CX_need_file : CdX l.prog wd K gl bas srcOrcB 7 "need_file" 1 rx_need_file := ⟨_, _, _, okX_need_file T F8 C_is_tuple C_is_cue K_BadFile, PySem.W.mg_of X G a8, k8, b8⟩
  have C_need_file : Cd l.prog wd K gl bas srcOrcB 6 "need_file" 1 r_need_file := ⟨_, _, _, ok_need_file T F8 C_is_tuple C_is_cue, PySem.W.mg_of X G a8, k8, b8⟩
  have C__bounds_of : Cd l.prog wd K gl bas srcOrcB 1 "_bounds_of" 1 r__bounds_of := ⟨_, _, _, ok__bounds_of T F9, PySem.W.mg_of X G a9, k9, b9⟩
  have C_joined_cues : Cd l.prog wd K gl bas srcOrcB 1 "joined_cues" 1 r_joined_cues := ⟨_, _, _, ok_joined_cues T F10, PySem.W.mg_of X G a10, k10, b10⟩
  have C_text_at : Cd l.prog wd K gl bas srcOrcB 1 "text_at" 2 r_text_at := ⟨_, _, _, ok_text_at T F11, PySem.W.mg_of X G a11, k11, b11⟩
  have C__text_of_layers : Cd l.prog wd K gl bas srcOrcB 2 "_text_of_layers" 2 r__text_of_layers := ⟨_, _, _, ok__text_of_layers T F12 C_text_at, PySem.W.mg_of X G a12, k12, b12⟩
  have C_flattened : Cd l.prog wd K gl bas srcOrcB 3 "flattened" 1 r_flattened := ⟨_, _, _, ok_flattened T F13 C__bounds_of C__text_of_layers C_joined_cues, PySem.W.mg_of X G a13, k13, b13⟩
  have C_flat : Cd l.prog wd K gl bas srcOrcB 7 "flat" 1 r_flat := ⟨_, _, _, ok_flat T F14 C_need_file C_flattened, PySem.W.mg_of X G a14, k14, b14⟩
  have C_apart : Cd l.prog wd K gl bas srcOrcB 7 "apart" 2 r_apart := ⟨_, _, _, ok_apart T F15 C_need_file C__bounds_of C_text_at, PySem.W.mg_of X G a15, k15, b15⟩
  have C_alike : Cd l.prog wd K gl bas srcOrcB 8 "alike" 2 r_alike := ⟨_, _, _, ok_alike T F16 C_apart, PySem.W.mg_of X G a16, k16, b16⟩
  have C_is_file : Cd l.prog wd K gl bas srcOrcB 6 "is_file" 1 r_is_file := ⟨_, _, _, ok_is_file T F17 C_is_tuple C_is_cue, PySem.W.mg_of X G a17, k17, b17⟩
  have C__greatest : Cd l.prog wd K gl bas srcOrcB 1 "_greatest" 1 r__greatest := ⟨_, _, _, ok__greatest T F18, PySem.W.mg_of X G a18, k18, b18⟩
  have C__all_partners : Cd l.prog wd K gl bas srcOrcB 1 "_all_partners" 1 r__all_partners := ⟨_, _, _, ok__all_partners T F19, PySem.W.mg_of X G a19, k19, b19⟩
  have C__joined : Cd l.prog wd K gl bas srcOrcB 1 "_joined" 4 r__joined := ⟨_, _, _, ok__joined T F20, PySem.W.mg_of X G a20, k20, b20⟩
  have C__most_of : Cd l.prog wd K gl bas srcOrcB 2 "_most_of" 4 r__most_of := ⟨_, _, _, ok__most_of T F21 C__joined, PySem.W.mg_of X G a21, k21, b21⟩
  have C__best_bounds : Cd l.prog wd K gl bas srcOrcB 3 "_best_bounds" 1 s__best_bounds := ⟨_, _, _, ok__best_bounds T F22 C__all_partners C__most_of, PySem.W.mg_of X G a22, k22, b22⟩
  have C_fewest : Cd l.prog wd K gl bas srcOrcB 8 "fewest" 1 r_fewest := ⟨_, _, _, ok_fewest T F23 C__greatest C__best_bounds C_flat, PySem.W.mg_of X G a23, k23, b23⟩
  have C__strokes : Cd l.prog wd K gl bas srcOrcB 1 "_strokes" 2 r__strokes := ⟨_, _, _, ok__strokes T F24, PySem.W.mg_of X G a24, k24, b24⟩
  have C__partner_in : Cd l.prog wd K gl bas srcOrcB 2 "_partner_in" 4 r__partner_in := ⟨_, _, _, ok__partner_in T F25 C__joined, PySem.W.mg_of X G a25, k25, b25⟩
  have C__file_of : Cd l.prog wd K gl bas srcOrcB 3 "_file_of" 2 r__file_of := ⟨_, _, _, ok__file_of T F26 C__all_partners C__partner_in C__strokes, PySem.W.mg_of X G a26, k26, b26⟩
  have C_fewest_file : Cd l.prog wd K gl bas srcOrcB 8 "fewest_file" 1 r_fewest_file := ⟨_, _, _, ok_fewest_file T F27 C_flat C__file_of C__best_bounds, PySem.W.mg_of X G a27, k27, b27⟩
  have C_strokes_paper : Cd l.prog wd K gl bas srcOrcB 8 "strokes_paper" 1 r_strokes_paper := ⟨_, _, _, ok_strokes_paper T F28 C_flat C__best_bounds C__file_of, PySem.W.mg_of X G a28, k28, b28⟩
  have C__is_row : Cd l.prog wd K gl bas srcOrcB 3 "_is_row" 3 r__is_row := ⟨_, _, _, ok__is_row T F29 C__most_of, PySem.W.mg_of X G a29, k29, b29⟩
  have C__are_bounds : Cd l.prog wd K gl bas srcOrcB 4 "_are_bounds" 2 r__are_bounds := ⟨_, _, _, ok__are_bounds T F30 C_is_tuple C_is_integer C__all_partners C__is_row, PySem.W.mg_of X G a30, k30, b30⟩
  have CX_check_strokes : CdX l.prog wd K gl bas srcOrcB 9 "check_strokes" 2 rx_check_strokes := ⟨_, _, _, okX_check_strokes T F31 C_is_tuple C_is_file C_apart C__are_bounds C_flat C__greatest CX_need_file K_BadPaper, PySem.W.mg_of X G a31, k31, b31⟩
  have C_check_strokes : Cd l.prog wd K gl bas srcOrcB 8 "check_strokes" 2 r_check_strokes := ⟨_, _, _, ok_check_strokes T F31 C_need_file C_is_tuple C_is_file C_apart C__are_bounds C_flat C__greatest, PySem.W.mg_of X G a31, k31, b31⟩
  have C__law_text : Cd l.prog wd K gl bas srcOrcB 3 "_law_text" 1 r__law_text := ⟨_, _, _, ok__law_text T F33 C__law_draw, PySem.W.mg_of X G a33, k33, b33⟩
  have C__law_strokes : Cd l.prog wd K gl bas srcOrcB 4 "_law_strokes" 2 r__law_strokes := ⟨_, _, _, ok__law_strokes T F34 C__law_draw C__law_text, PySem.W.mg_of X G a34, k34, b34⟩
  have C__law_seen : Cd l.prog wd K gl bas srcOrcB 1 "_law_seen" 2 r__law_seen := ⟨_, _, _, ok__law_seen T F35, PySem.W.mg_of X G a35, k35, b35⟩
  have C__law_flatted : Cd l.prog wd K gl bas srcOrcB 2 "_law_flatted" 1 r__law_flatted := ⟨_, _, _, ok__law_flatted T F36 C__law_seen, PySem.W.mg_of X G a36, k36, b36⟩
  have C__law_least : Cd l.prog wd K gl bas srcOrcB 1 "_law_least" 1 r__law_least := ⟨_, _, _, ok__law_least T F37, PySem.W.mg_of X G a37, k37, b37⟩
  have C__law_borders : Cd l.prog wd K gl bas srcOrcB 1 "_law_borders" 1 r__law_borders := ⟨_, _, _, ok__law_borders T F38, PySem.W.mg_of X G a38, k38, b38⟩
  have C__law_refused : Cd l.prog wd K gl bas srcOrcB 10 "_law_refused" 2 r__law_refused := ⟨_, _, _, ok__law_refused T F39 CX_check_strokes K_BadPaper KF_BadPaper, PySem.W.mg_of X G a39, k39, b39⟩
  have C__law_right : Cd l.prog wd K gl bas srcOrcB 11 "_law_right" 1 r__law_right := ⟨_, _, _, ok__law_right T F40 C__law_flatted C__law_least C_fewest_file C_flat C_fewest C__law_borders C_alike C_strokes_paper C_check_strokes C__law_refused, PySem.W.mg_of X G a40, k40, b40⟩
  exact ok_law T F43 (ok__law_begun T F42) (PySem.W.mg_of X G a42) k42 b42 C__law_right C__law_strokes C__law_draw C_fewest C_flat says
end Q78
namespace Q78
open PySem L2 DL
theorem d_is_integer {i : Int} {m : Nat} {P : D → Nat → Prop} (h : P (.bool true) 0) : r_is_integer [.d (.int i)] m P := by
  refine ⟨trivial, true, k_int, trivial, false, k_ib, ?_⟩
  exact ⟨hd_d, h⟩
theorem d_is_within {i a b : Int} {m : Nat} {P : D → Nat → Prop} (h : P (.bool (decide (a ≤ i) && decide (i ≤ b))) 0) : r_is_within [.d (.int i), .d (.int a), .d (.int b)] m P := by
  refine ⟨rfl, rfl, d_is_integer ?_⟩
  by_cases e : a ≤ i
  · rw [decide_eq_true e, Bool.true_and] at h
    simp [raw, startE, arSl, sSeq, sIf, sRet, sRetN, sNo, sSet, sSetN, sExpr, sAsg, dCall, dCallO, aCons, aNil, aOra, dV, hS, hV, dC, d2, see, seeAll, dCB, DL.gCons, DL.gNil, dChain, bD, bAnd, bOr, bNot, dAnd, dOr, dNot, dNeg, dIf, dIsi, bTruth, truD, lCons, lNil, dTup, dLst, isD, gCmp, gAdd, DL.gSub, gIs, gIsNot, gLen, gN, gTupT, gConsT, gNoT, ownL, dSl, oI, oNo, e, h]
  · rw [decide_eq_false e, Bool.false_and] at h
    simp [raw, startE, arSl, sSeq, sIf, sRet, sRetN, sNo, sSet, sSetN, sExpr, sAsg, dCall, dCallO, aCons, aNil, aOra, dV, hS, hV, dC, d2, see, seeAll, dCB, DL.gCons, DL.gNil, dChain, bD, bAnd, bOr, bNot, dAnd, dOr, dNot, dNeg, dIf, dIsi, bTruth, truD, lCons, lNil, dTup, dLst, isD, gCmp, gAdd, DL.gSub, gIs, gIsNot, gLen, gN, gTupT, gConsT, gNoT, ownL, dSl, oI, oNo, e, h]
theorem d_is_tuple {ds : List D} {a b : Int} {m : Nat} {P : D → Nat → Prop} (h : P (.bool (decide (a ≤ ds.length) && decide ((ds.length : Int) ≤ b))) 0) : r_is_tuple [.d (.tuple ds), .d (.int a), .d (.int b)] m P := by
  refine ⟨trivial, true, k_tt, ?_⟩
  by_cases e : a ≤ (ds.length : Int)
  · rw [decide_eq_true e, Bool.true_and] at h
    simp [raw, startE, arSl, sSeq, sIf, sRet, sRetN, sNo, sSet, sSetN, sExpr, sAsg, dCall, dCallO, aCons, aNil, aOra, dV, hS, hV, dC, d2, see, seeAll, dCB, DL.gCons, DL.gNil, dChain, bD, bAnd, bOr, bNot, dAnd, dOr, dNot, dNeg, dIf, dIsi, bTruth, truD, lCons, lNil, dTup, dLst, isD, gCmp, gAdd, DL.gSub, gIs, gIsNot, gLen, gN, gTupT, gConsT, gNoT, ownL, dSl, oI, oNo, e, h]
  · rw [decide_eq_false e, Bool.false_and] at h
    simp [raw, startE, arSl, sSeq, sIf, sRet, sRetN, sNo, sSet, sSetN, sExpr, sAsg, dCall, dCallO, aCons, aNil, aOra, dV, hS, hV, dC, d2, see, seeAll, dCB, DL.gCons, DL.gNil, dChain, bD, bAnd, bOr, bNot, dAnd, dOr, dNot, dNeg, dIf, dIsi, bTruth, truD, lCons, lNil, dTup, dLst, isD, gCmp, gAdd, DL.gSub, gIs, gIsNot, gLen, gN, gTupT, gConsT, gNoT, ownL, dSl, oI, oNo, e, h]
structure Cue where
  f : Int
  t : Int
  x : D
def Cue.d (c : Cue) : D := .tuple [.int c.f, .int c.t, c.x]
def fileD (cs : List Cue) : D := .tuple (cs.map Cue.d)
theorem ix0 {a b x : D} {P : D → Prop} (h : P a) : gIx (.tuple [a, b, x]) (.int 0) P := ⟨a, rfl, h⟩
theorem ix1 {a b x : D} {P : D → Prop} (h : P b) : gIx (.tuple [a, b, x]) (.int 1) P := ⟨b, rfl, h⟩
theorem ix2 {a b x : D} {P : D → Prop} (h : P x) : gIx (.tuple [a, b, x]) (.int 2) P := ⟨x, rfl, h⟩
def step (fr : Int) (top : Option Cue) (c : Cue) : Option Cue := if c.f ≤ fr ∧ fr < c.t ∧ (∀ t, top = some t → t.f ≤ c.f) then some c else top
def topAt (cs : List Cue) (fr : Int) : Option Cue := cs.foldl (step fr) none
def topD : Option Cue → D
  | none => .none
  | some c => c.d
def textAt (cs : List Cue) (fr : Int) : D := match topAt cs fr with
  | none => .none
  | some c => c.x
theorem gIx_iff {c : Cue} {P : D → Prop} : (gIx (PyData.tuple [.int c.f, .int c.t, c.x]) (.int 0) P ↔ P (.int c.f)) ∧ (gIx (PyData.tuple [.int c.f, .int c.t, c.x]) (.int 1) P ↔ P (.int c.t)) ∧ (gIx (PyData.tuple [.int c.f, .int c.t, c.x]) (.int 2) P ↔ P c.x) := by
  refine ⟨⟨?_, ix0⟩, ⟨?_, ix1⟩, ⟨?_, ix2⟩⟩ <;> rintro ⟨d, h, p⟩ <;> cases h <;> exact p
theorem text_loop {F : D} {fr : Int} {E : DE} : ∀ (cs : List Cue) (top : Option Cue) (s3 : Sl), (∀ s, E.nx [.im F, .im (.int fr), .im (topD (cs.foldl (step fr) top)), s]) →
    forL (gN 3) (sIf (bAnd (bD (dChain gLe gLt (hV (d2 gIx (hS 3) (hV (dC (.int 0))))) (hS 1) (hV (d2 gIx (hS 3) (hV (dC (.int 1))))))) (bOr (bD (d2 gIs (hS 2) (hV (dC .none)))) (bD (d2 gGe (hV (d2 gIx (hS 3) (hV (dC (.int 0))))) (hV (d2 gIx (hS 2) (hV (dC (.int 0))))))))) (sSet 2 (dV 3)) (sNo)) E (cs.map Cue.d) [.im F, .im (.int fr), .im (topD top), s3]
  | [], top, s3, h => h s3
  | c :: cs, top, s3, h => by
    have ih := fun top' => text_loop (E := E) (F := F) (fr := fr) cs top'
    have e0 : ∀ P : D → Prop, gIx c.d (.int 0) P ↔ P (.int c.f) := fun P => gIx_iff.1
    have e1 : ∀ P : D → Prop, gIx c.d (.int 1) P ↔ P (.int c.t) := fun P => gIx_iff.2.1
    show (sIf _ _ _ : SM) _ _
    cases top with
    | none =>
      have hs : step fr none c = if c.f ≤ fr ∧ fr < c.t then some c else none := by
        unfold step
        simp
      rw [List.foldl_cons, hs] at h
      by_cases h1 : c.f ≤ fr <;> by_cases h2 : fr < c.t <;> simp [h1, h2] at h <;> simp [raw, startE, arSl, sSeq, sIf, sRet, sRetN, sNo, sSet, sSetN, sExpr, sAsg, dCall, dCallO, aCons, aNil, aOra, dV, hS, hV, dC, d2, see, seeAll, dCB, DL.gCons, DL.gNil, dChain, bD, bAnd, bOr, bNot, dAnd, dOr, dNot, dNeg, dIf, dIsi, bTruth, truD, lCons, lNil, dTup, dLst, isD, gCmp, gAdd, DL.gSub, gIs, gIsNot, gLen, gN, gTupT, gConsT, gNoT, ownL, dSl, oI, oNo, e0, e1, h1, h2, topD, isN] <;> exact ih _ _ h
    | some t =>
      have e2 : ∀ P : D → Prop, gIx t.d (.int 0) P ↔ P (.int t.f) := fun P => gIx_iff.1
      have hs : step fr (some t) c = if c.f ≤ fr ∧ fr < c.t ∧ t.f ≤ c.f then some c else some t := by
        unfold step
        simp
      rw [List.foldl_cons, hs] at h
      have hn : isN t.d = false := rfl
      by_cases h1 : c.f ≤ fr <;> by_cases h2 : fr < c.t <;> by_cases h3 : t.f ≤ c.f <;> simp [h1, h2, h3] at h <;> simp [raw, startE, arSl, sSeq, sIf, sRet, sRetN, sNo, sSet, sSetN, sExpr, sAsg, dCall, dCallO, aCons, aNil, aOra, dV, hS, hV, dC, d2, see, seeAll, dCB, DL.gCons, DL.gNil, dChain, bD, bAnd, bOr, bNot, dAnd, dOr, dNot, dNeg, dIf, dIsi, bTruth, truD, lCons, lNil, dTup, dLst, isD, gCmp, gAdd, DL.gSub, gIs, gIsNot, gLen, gN, gTupT, gConsT, gNoT, ownL, dSl, oI, oNo, e0, e1, e2, h1, h2, h3, topD, hn] <;> exact ih _ _ h
theorem d_text_at {cs : List Cue} {fr : Int} {m : Nat} {P : D → Nat → Prop} (h : P (textAt cs fr) 0) : r_text_at [.d (fileD cs), .d (.int fr)] m P := by
  show forL _ _ _ (cs.map Cue.d) [.im (fileD cs), .im (.int fr), .im (topD none), .no]
  refine text_loop cs none .no fun s => ?_
  unfold textAt topAt at h
  cases e : cs.foldl (step fr) none with
  | none =>
    rw [e] at h
    simp [raw, startE, arSl, sSeq, sIf, sRet, sRetN, sNo, sSet, sSetN, sExpr, sAsg, dCall, dCallO, aCons, aNil, aOra, dV, hS, hV, dC, d2, see, seeAll, dCB, DL.gCons, DL.gNil, dChain, bD, bAnd, bOr, bNot, dAnd, dOr, dNot, dNeg, dIf, dIsi, bTruth, truD, lCons, lNil, dTup, dLst, isD, gCmp, gAdd, DL.gSub, gIs, gIsNot, gLen, gN, gTupT, gConsT, gNoT, ownL, dSl, oI, oNo, topD, isN]
    exact h
  | some c =>
    rw [e] at h
    have e2 : ∀ P : D → Prop, gIx c.d (.int 2) P ↔ P c.x := fun P => gIx_iff.2.2
    have hn : isN c.d = false := rfl
    simp [raw, startE, arSl, sSeq, sIf, sRet, sRetN, sNo, sSet, sSetN, sExpr, sAsg, dCall, dCallO, aCons, aNil, aOra, dV, hS, hV, dC, d2, see, seeAll, dCB, DL.gCons, DL.gNil, dChain, bD, bAnd, bOr, bNot, dAnd, dOr, dNot, dNeg, dIf, dIsi, bTruth, truD, lCons, lNil, dTup, dLst, isD, gCmp, gAdd, DL.gSub, gIs, gIsNot, gLen, gN, gTupT, gConsT, gNoT, ownL, dSl, oI, oNo, topD, hn, e2]
    exact h
structure OkStr (z : Str) : Prop where
  l1 : 1 ≤ z.cps.toList.length
  l2 : z.cps.toList.length ≤ 40
  ok : ∀ c ∈ z.cps.toList, 32 ≤ c ∧ c ≤ 126 ∧ c ≠ 37
  hd : atI z.cps.toList 0 ≠ some 32
  tl : atI z.cps.toList (-1) ≠ some 32
theorem len_eq (z : Str) : z.length = z.cps.toList.length := by
  show z.cps.size = _
  rw [Array.length_toList]
theorem d_is_sign {c : Nat} {m : Nat} {P : D → Nat → Prop} (h1 : 32 ≤ c) (h2 : c ≤ 126) (h3 : c ≠ 37) (h : P (.bool true) 0) : r_is_sign [.d (.str ⟨#[c]⟩), .d (.int 32)] m P := by
  have a1 : (32 : Int) ≤ (c : Int) := by omega
  have a2 : (c : Int) ≤ 126 := by omega
  have a3 : ((c : Int) == 37) = false := by
    have : (c : Int) ≠ 37 := by omega
    simpa using this
  have o1 : okD (.int (c : Int)) := rfl
  have o2 : okD (.int 37) := rfl
  simp [r_is_sign, g_is_sign, raw, startE, arSl, sSeq, sIf, sRet, sRetN, sNo, sSet, sSetN, sExpr, sAsg, dCall, dCallO, aCons, aNil, aOra, dV, hS, hV, dC, d2, see, seeAll, dCB, DL.gCons, DL.gNil, dChain, bD, bAnd, bOr, bNot, dAnd, dOr, dNot, dNeg, dIf, dIsi, bTruth, truD, lCons, lNil, dTup, dLst, isD, gCmp, gAdd, DL.gSub, gIs, gIsNot, gLen, gN, gTupT, gConsT, gNoT, ownL, dSl, oI, oNo, gOrd, gNe, a1, a2, o1, o2, PyData.eqv, a3, h]
  rfl
theorem d_has_signs {z : Str} {m : Nat} {P : D → Nat → Prop} (o : OkStr z) (h : P (.bool true) 0) : r_has_signs [.d (.str z), .d (.int 32)] m P := by
  have l1 := o.l1
  have l2 := o.l2
  have e1 : (1 : Int) ≤ (z.length : Int) := by rw [len_eq]; omega
  have e2 : (z.length : Int) ≤ 40 := by rw [len_eq]; omega
  have e3 : z.length ≤ 1000000 := by rw [len_eq]; omega
  show sIf _ _ _ _ _
  simp [raw, startE, arSl, sSeq, sIf, sRet, sRetN, sNo, sSet, sSetN, sExpr, sAsg, dCall, dCallO, aCons, aNil, aOra, dV, hS, hV, dC, d2, see, seeAll, dCB, DL.gCons, DL.gNil, dChain, bD, bAnd, bOr, bNot, dAnd, dOr, dNot, dNeg, dIf, dIsi, bTruth, truD, lCons, lNil, dTup, dLst, isD, gCmp, gAdd, DL.gSub, gIs, gIsNot, gLen, gN, gTupT, gConsT, gNoT, ownL, dSl, oI, oNo, k_ss, tyN, gLen, e1, e2, e3]
  refine ⟨by rw [signs_eq, List.length_map]; omega, ⟨by simp, fun j hj => by simp at hj; subst hj; rfl⟩, ?_⟩
  refine lcL_map (ρ := [.im (.str z), .im (.int 32), .no]) (fun _ => .bool true) (signs z) [] ?_ ?_
  · intro d hd Q hQ
    rw [signs_eq] at hd
    obtain ⟨c, hc, rfl⟩ := List.mem_map.mp hd
    obtain ⟨b1, b2, b3⟩ := o.ok c hc
    refine ⟨rfl, rfl, d_is_sign b1 b2 b3 ?_⟩
    exact hQ _ rfl
  · have e : ([] : List D) ++ (signs z).map (fun _ => PyData.bool true) = List.replicate (signs z).length (.bool true) := by
      rw [List.nil_append, List.map_const']
    rw [e]
    refine ⟨_, ofBools_true _, ?_⟩
    have e4 : (List.replicate (signs z).length true).all id = true := by simp
    rw [e4]
    exact h
theorem d_is_line {z : Str} {m : Nat} {P : D → Nat → Prop} (o : OkStr z) (h : P (.bool true) 0) : r__is_line [.d (.str z)] m P := by
  have l1 := o.l1
  have l2 := o.l2
  have e3 : z.length ≤ 1000000 := by rw [len_eq]; omega
  refine ⟨rfl, rfl, d_has_signs o ?_⟩
  have ne : z.cps.toList ≠ [] := fun e => by rw [e] at l1; cases l1
  obtain ⟨a, ha⟩ : ∃ a, atI z.cps.toList 0 = some a := by
    cases e : z.cps.toList with
    | nil => exact absurd e ne
    | cons a t => exact ⟨a, by simp [atI, ixN]⟩
  obtain ⟨b, hb⟩ : ∃ b, atI z.cps.toList (-1) = some b := by
    cases e : z.cps.toList with
    | nil => exact absurd e ne
    | cons a t =>
      refine ⟨(a :: t)[t.length]'(by simp), ?_⟩
      have hj : ixN (a :: t).length (-1) = some t.length := by
        unfold ixN
        rw [if_neg (by decide), if_pos (by simp; omega)]
        simp
        omega
      unfold atI
      rw [hj]
      show (a :: t)[t.length]? = _
      rw [List.getElem?_eq_getElem (by simp)]
  have na : a ≠ 32 := fun z' => o.hd (by rw [ha, z'])
  have nb : b ≠ 32 := fun z' => o.tl (by rw [hb, z'])
  have om : ∀ c, c ∈ z.cps.toList → okD (.str ⟨#[c]⟩) := by
    intro c hc
    obtain ⟨_, h2, _⟩ := o.ok c hc
    show SeqAt.shaped _ = true
    unfold SeqAt.shaped
    have h3 : c < 1114112 := by omega
    simp [PyData.canLay0, PyData.strOk, PyData.depth, h3]
  have ma : a ∈ z.cps.toList := by
    unfold atI at ha
    obtain ⟨j, _, hj⟩ := Option.bind_eq_some_iff.mp ha
    exact List.mem_of_getElem? hj
  have mb : b ∈ z.cps.toList := by
    unfold atI at hb
    obtain ⟨j, _, hj⟩ := Option.bind_eq_some_iff.mp hb
    exact List.mem_of_getElem? hj
  have ob : okD (.str (" " : Str)) := by
    show SeqAt.shaped _ = true
    decide +kernel
  have ev : ∀ c : Nat, c ≠ 32 → PyData.eqv (.str ⟨#[c]⟩) (.str (" " : Str)) = false := by
    intro c hc
    show ((⟨#[c]⟩ : Str) == (" " : Str)) = false
    refine beq_eq_false_iff_ne.mpr fun e => hc ?_
    have e2 : (⟨#[c]⟩ : Str).cps = (" " : Str).cps := by rw [e]
    have e3 : (" " : Str).cps = #[32] := by decide +kernel
    rw [e3] at e2
    have := congrArg Array.toList e2
    simpa using this
  simp [raw, startE, arSl, sSeq, sIf, sRet, sRetN, sNo, sSet, sSetN, sExpr, sAsg, dCall, dCallO, aCons, aNil, aOra, dV, hS, hV, dC, d2, see, seeAll, dCB, DL.gCons, DL.gNil, dChain, bD, bAnd, bOr, bNot, dAnd, dOr, dNot, dNeg, dIf, dIsi, bTruth, truD, lCons, lNil, dTup, dLst, isD, gCmp, gAdd, DL.gSub, gIs, gIsNot, gLen, gN, gTupT, gConsT, gNoT, ownL, dSl, oI, oNo, gNe, gIx, e3, ha, hb, om a ma, om b mb, ob, ev a na, ev b nb, h]
/-- a text: lines that may stand in a file -/
def textD (ls : List Str) : D := .tuple (ls.map PyData.str)
theorem d_is_text {ls : List Str} {m : Nat} {P : D → Nat → Prop} (l1 : 1 ≤ ls.length) (l2 : ls.length ≤ 4) (o : ∀ z ∈ ls, OkStr z) (h : P (.bool true) 0) : r_is_text [.d (textD ls)] m P := by
  refine ⟨rfl, rfl, d_is_tuple ?_⟩
  have a1 : (1 : Int) ≤ ((ls.map PyData.str).length : Int) := by rw [List.length_map]; omega
  have a2 : ((ls.map PyData.str).length : Int) ≤ 4 := by rw [List.length_map]; omega
  rw [decide_eq_true a1, decide_eq_true a2]
  refine ⟨by rw [List.length_map]; omega, ⟨by simp, fun j hj => by simp at hj; subst hj; rfl⟩, ?_⟩
  refine lcL_map (ρ := [.im (textD ls), .no]) (fun _ => .bool true) _ [] ?_ ?_
  · intro d hd Q hQ
    obtain ⟨z, hz, rfl⟩ := List.mem_map.mp hd
    exact ⟨rfl, rfl, d_is_line (o z hz) (hQ _ rfl)⟩
  · have e : ([] : List D) ++ (ls.map PyData.str).map (fun _ => PyData.bool true) = List.replicate (ls.map PyData.str).length (.bool true) := by
      rw [List.nil_append, List.map_const']
    rw [e]
    refine ⟨_, ofBools_true _, ?_⟩
    have e4 : (List.replicate (ls.map PyData.str).length true).all id = true := by simp
    rw [e4]
    exact ⟨hd_d, h⟩
structure OkCue (c : Cue) : Prop where
  f0 : 0 ≤ c.f
  ft : c.f < c.t
  t1 : c.t ≤ 1000000000000
  x : ∃ ls : List Str, c.x = textD ls ∧ 1 ≤ ls.length ∧ ls.length ≤ 4 ∧ ∀ z ∈ ls, OkStr z
theorem d_is_cue {c : Cue} {m : Nat} {P : D → Nat → Prop} (o : OkCue c) (h : P (.bool true) 0) : r_is_cue [.d c.d] m P := by
  obtain ⟨ls, ex, b1, b2, b3⟩ := o.x
  have f0 := o.f0
  have ft := o.ft
  have t1 := o.t1
  refine ⟨rfl, rfl, d_is_tuple ?_⟩
  refine ⟨trivial, _, rfl, rfl, rfl, d_is_within ?_⟩
  have a1 : decide (c.f ≤ 1000000000000) = true := decide_eq_true (by omega)
  rw [decide_eq_true f0, a1]
  refine ⟨trivial, _, rfl, trivial, _, rfl, rfl, rfl, d_is_within ?_⟩
  have a2 : decide (c.f + 1 ≤ c.t) = true := decide_eq_true (by omega)
  rw [a2, decide_eq_true t1]
  refine ⟨trivial, _, rfl, rfl, rfl, ?_⟩
  rw [ex]
  exact d_is_text b1 b2 b3 ⟨hd_d, h⟩
theorem d_need_file {cs : List Cue} {m : Nat} {P : D → Nat → Prop} (l : cs.length ≤ 60) (o : ∀ c ∈ cs, OkCue c) (h : P (fileD cs) 0) : r_need_file [.d (fileD cs)] m P := by
  refine ⟨rfl, rfl, d_is_tuple ?_⟩
  have a1 : ((cs.map Cue.d).length : Int) ≤ 60 := by rw [List.length_map]; omega
  have a0 : (0 : Int) ≤ ((cs.map Cue.d).length : Int) := by omega
  rw [decide_eq_true a0, decide_eq_true a1]
  show forL _ _ _ (enD (cs.map Cue.d)) [.im (fileD cs), .no, .no]
  have loop : ∀ (ds : List D) (s1 s2 : Sl), (∀ d ∈ ds, ∃ (i : Int) (c : Cue), d = .tuple [.int i, c.d] ∧ OkCue c) →
      forL (gTupT 2 (gConsT (gN 1) (gConsT (gN 2) (gNoT)))) (sIf (bNot (bTruth (hV (dCall 1 r_is_cue (aCons (dV 2) (aNil)))))) (sNever) (sNo))
        ⟨sRet (dV 0) ⟨fun ρ => match ρ[0]? with
          | some (Sl.ora m') => P .none m'
          | _ => ([Ar.d (fileD cs)].head?).map isD ≠ some false ∧ P .none 0, fun d ρ => match ρ[0]? with
          | some (Sl.ora m') => P d m'
          | _ => ([Ar.d (fileD cs)].head?).map isD ≠ some false ∧ P d 0, fun _ => False, fun _ => False⟩, fun d ρ => match ρ[0]? with
          | some (Sl.ora m') => P d m'
          | _ => ([Ar.d (fileD cs)].head?).map isD ≠ some false ∧ P d 0, fun _ => False, fun _ => False⟩ ds [.im (fileD cs), s1, s2] := by
    intro ds
    induction ds with
    | nil => exact fun s1 s2 _ => ⟨hd_d, h⟩
    | cons d ds ih =>
      intro s1 s2 hd
      obtain ⟨i, c, rfl, oc⟩ := hd _ (List.mem_cons_self ..)
      refine ⟨rfl, ?_⟩
      refine ⟨rfl, ?_⟩
      refine ⟨rfl, rfl, d_is_cue oc ?_⟩
      exact ih _ _ fun d' h' => hd d' (List.mem_cons_of_mem _ h')
  refine loop _ _ _ fun d hd => ?_
  obtain ⟨i, hi⟩ := List.getElem?_of_mem hd
  obtain ⟨e, h1, h2⟩ := enD_get hi
  rw [List.getElem?_map] at h1
  cases z : cs[i]? with
  | none => rw [z] at h1; cases h1
  | some c =>
    rw [z] at h1
    cases h1
    exact ⟨_, c, h2, o c (List.mem_of_getElem? z)⟩
theorem isN_eq : ∀ {d : D}, isN d = true → d = .none
  | .none, _ => rfl
  | .bool _, h => by cases h
  | .int _, h => by cases h
  | .str _, h => by cases h
  | .list _, h => by cases h
  | .tuple _, h => by cases h
  | .dict _, h => by cases h
def seenL : List (List Cue) → Int → D
  | [], _ => .none
  | cs :: r, fr => if isN (textAt cs fr) = true then seenL r fr else textAt cs fr
def laysD (Ls : List (List Cue)) : D := .tuple (Ls.map fileD)
theorem lays_loop {X : D} {fr : Int} {E : DE} : ∀ (Ls : List (List Cue)) (s2 s3 : Sl), (isN (seenL Ls fr) = true → ∀ s2 s3, E.nx [.im X, .im (.int fr), s2, s3]) → (isN (seenL Ls fr) = false → ∀ s2 s3, E.rt (seenL Ls fr) [.im X, .im (.int fr), s2, s3]) →
    forL (gN 2) (sSeq (sSet 3 (dCall 2 r_text_at (aCons (dV 2) (aCons (dV 1) (aNil))))) (sIf (bD (d2 gIsNot (hS 3) (hV (dC .none)))) (sRet (dV 3)) (sNo))) E (Ls.map fileD) [.im X, .im (.int fr), s2, s3]
  | [], s2, s3, hn, _ => hn rfl s2 s3
  | cs :: r, s2, s3, hn, hr => by
    refine ⟨rfl, rfl, d_text_at ?_⟩
    have ih := lays_loop (X := X) (fr := fr) (E := E) r
    by_cases z : isN (textAt cs fr) = true
    · have e : seenL (cs :: r) fr = seenL r fr := if_pos z
      rw [e] at hn hr
      simp [raw, startE, arSl, sSeq, sIf, sRet, sRetN, sNo, sSet, sSetN, sExpr, sAsg, dCall, dCallO, aCons, aNil, aOra, dV, hS, hV, dC, d2, see, seeAll, dCB, DL.gCons, DL.gNil, dChain, bD, bAnd, bOr, bNot, dAnd, dOr, dNot, dNeg, dIf, dIsi, bTruth, truD, lCons, lNil, dTup, dLst, isD, gCmp, gAdd, DL.gSub, gIs, gIsNot, gLen, gN, gTupT, gConsT, gNoT, ownL, dSl, oI, oNo, gIsNot, z]
      exact ih _ _ hn hr
    · have e : seenL (cs :: r) fr = textAt cs fr := if_neg z
      have z' : isN (textAt cs fr) = false := by simpa using z
      rw [e] at hn hr
      simp [raw, startE, arSl, sSeq, sIf, sRet, sRetN, sNo, sSet, sSetN, sExpr, sAsg, dCall, dCallO, aCons, aNil, aOra, dV, hS, hV, dC, d2, see, seeAll, dCB, DL.gCons, DL.gNil, dChain, bD, bAnd, bOr, bNot, dAnd, dOr, dNot, dNeg, dIf, dIsi, bTruth, truD, lCons, lNil, dTup, dLst, isD, gCmp, gAdd, DL.gSub, gIs, gIsNot, gLen, gN, gTupT, gConsT, gNoT, ownL, dSl, oI, oNo, gIsNot, z']
      exact hr z' _ _
theorem d_layers {Ls : List (List Cue)} {fr : Int} {m : Nat} {P : D → Nat → Prop} (h : P (seenL Ls fr) 0) : r__text_of_layers [.d (laysD Ls), .d (.int fr)] m P := by
  show forL _ _ _ (Ls.map fileD) [.im (laysD Ls), .im (.int fr), .no, .no]
  refine lays_loop Ls .no .no (fun z s2 s3 => ?_) fun _ s2 s3 => ⟨hd_d, h⟩
  rw [isN_eq z] at h
  exact ⟨hd_d, h⟩
def accC (acc : List Int) (c : Cue) : List Int := insI c.t (insI c.f acc)
theorem insI_len (k : Int) (acc : List Int) : (insI k acc).length ≤ acc.length + 1 := by
  unfold insI
  split
  · omega
  · simp
theorem accC_len (acc : List Int) (c : Cue) : (accC acc c).length ≤ acc.length + 2 := by
  have h1 := insI_len c.t (insI c.f acc)
  have h2 := insI_len c.f acc
  unfold accC
  omega
theorem insI_mem {k j : Int} {acc : List Int} : j ∈ insI k acc ↔ j ∈ acc ∨ j = k := by
  unfold insI
  split
  · constructor
    · exact Or.inl
    · rintro (h | rfl)
      · exact h
      · assumption
  · simp
theorem accC_mem {j : Int} {c : Cue} {acc : List Int} : j ∈ accC acc c ↔ j ∈ acc ∨ j = c.f ∨ j = c.t := by
  unfold accC
  rw [insI_mem, insI_mem]
  exact or_assoc
abbrev nIn : NM := nLoop (iSeq (dSl (hS 2) (oNo) (oI (dC (.int 2))))) (gN 3) bYes (nAdd (dV 3)) [3]
abbrev nMid : NM := nLoop (iSeq (dV 1)) (gN 2) bYes nIn [2, 3]
theorem b_cue {X Y : D} {c : Cue} {s3 : Sl} {acc : List Int} {Kp : List Int → DL.Env → Prop} (l : acc.length + 2 ≤ 64) (h : Kp (accC acc c) [.im X, .im Y, .im c.d, .no]) : nIn [.im X, .im Y, .im c.d, s3] acc Kp := by
  have l2 := insI_len c.f acc
  exact ⟨trivial, by omega, by omega, h⟩
theorem b_file {X Y : D} {Kp : List Int → DL.Env → Prop} : ∀ (cs : List Cue) (acc : List Int), acc.length + 2 * cs.length ≤ 64 → Kp (cs.foldl accC acc) [.im X, .im Y, .no, .no] →
    lpI (gN 2) bYes nIn [2, 3] Kp (cs.map Cue.d) acc [.im X, .im Y, .no, .no]
  | [], acc, _, h => h
  | c :: cs, acc, l, h => by
    rw [List.length_cons] at l
    have l2 := accC_len acc c
    refine b_cue (X := X) (Y := Y) (s3 := .no) (by omega) ?_
    exact b_file cs (accC acc c) (by omega) h
def accL (Ls : List (List Cue)) : List Int := Ls.foldl (fun acc cs => cs.foldl accC acc) []
theorem foldC_len : ∀ (cs : List Cue) (acc : List Int), (cs.foldl accC acc).length ≤ acc.length + 2 * cs.length
  | [], acc => by simp
  | c :: cs, acc => by
    have h1 := foldC_len cs (accC acc c)
    have h2 := accC_len acc c
    (rw [List.foldl_cons, List.length_cons])
    omega
theorem b_all {X : D} {Kp : List Int → DL.Env → Prop} : ∀ (Ls : List (List Cue)) (acc : List Int), acc.length + 2 * (Ls.map List.length).sum ≤ 64 → Kp (Ls.foldl (fun acc cs => cs.foldl accC acc) acc) [.im X, .no, .no, .no] →
    lpI (gN 1) bYes nMid [1, 2, 3] Kp (Ls.map fileD) acc [.im X, .no, .no, .no]
  | [], acc, _, h => h
  | cs :: Ls, acc, l, h => by
    rw [List.map_cons, List.sum_cons] at l
    have l2 := foldC_len cs acc
    show lpI (gN 2) bYes nIn [2, 3] _ (cs.map Cue.d) acc [.im X, .im (fileD cs), .no, .no]
    refine b_file cs acc (by omega) ?_
    exact b_all Ls _ (by omega) h
theorem foldC_mem {j : Int} : ∀ (cs : List Cue) (acc : List Int), j ∈ cs.foldl accC acc ↔ j ∈ acc ∨ ∃ c ∈ cs, j = c.f ∨ j = c.t
  | [], acc => by simp
  | c :: cs, acc => by
    rw [List.foldl_cons, foldC_mem cs, accC_mem]
    simp only [List.mem_cons, exists_eq_or_imp]
    constructor
    · rintro ((h | h) | h)
      · exact .inl h
      · exact .inr (.inl h)
      · exact .inr (.inr h)
    · rintro (h | h | h)
      · exact .inl (.inl h)
      · exact .inl (.inr h)
      · exact .inr h
theorem foldL_mem {j : Int} : ∀ (Ls : List (List Cue)) (acc : List Int), j ∈ Ls.foldl (fun acc cs => cs.foldl accC acc) acc ↔ j ∈ acc ∨ ∃ cs ∈ Ls, ∃ c ∈ cs, j = c.f ∨ j = c.t
  | [], acc => by simp
  | cs :: Ls, acc => by
    rw [List.foldl_cons, foldL_mem Ls, foldC_mem]
    simp only [List.mem_cons, exists_eq_or_imp]
    exact or_assoc
theorem foldL_len : ∀ (Ls : List (List Cue)) (acc : List Int), (Ls.foldl (fun acc cs => cs.foldl accC acc) acc).length ≤ acc.length + 2 * (Ls.map List.length).sum
  | [], acc => by simp
  | cs :: Ls, acc => by
    have h1 := foldL_len Ls (cs.foldl accC acc)
    have h2 := foldC_len cs acc
    rw [List.foldl_cons, List.map_cons, List.sum_cons]
    omega
theorem len_sub : ∀ {xs ys : List Int}, xs.Pairwise (· < ·) → (∀ x ∈ xs, x ∈ ys) → xs.length ≤ ys.length
  | [], _, _, _ => (Nat.zero_le _)
  | x :: xs, ys, h, hs => by
    have hx := hs x (List.mem_cons_self ..)
    rw [List.pairwise_cons] at h
    have ih := len_sub (xs := xs) (ys := ys.erase x) h.2 fun y hy => by
      have : y ≠ x := fun e => by have := h.1 y hy; omega
      exact (List.mem_erase_of_ne this).mpr (hs y (List.mem_cons_of_mem _ hy))
    rw [List.length_erase_of_mem hx] at ih
    have := List.length_pos_of_mem hx
    rw [List.length_cons]
    omega
/-- the borders of some files, ascending -/
structure Bor (Ls : List (List Cue)) (B : List Int) : Prop where
  asc : B.Pairwise (· < ·)
  mem : ∀ j : Int, j ∈ B ↔ ∃ cs ∈ Ls, ∃ c ∈ cs, j = c.f ∨ j = c.t
  len : B.length ≤ 2 * (Ls.map List.length).sum
theorem d_bounds {Ls : List (List Cue)} {m : Nat} {P : D → Nat → Prop} (l : (Ls.map List.length).sum ≤ 31) (h : ∀ B, Bor Ls B → P (.list (B.map PyData.int)) 0) : r__bounds_of [.d (laysD Ls)] m P := by
  refine ⟨⟨by simp, fun j hj => ?_⟩, ?_⟩
  · simp at hj
    rcases hj with rfl | rfl | rfl <;> rfl
  refine b_all (X := laysD Ls) Ls [] (by simpa using by omega) ?_
  have hb := foldL_len Ls []
  rw [List.length_nil, Nat.zero_add] at hb
  refine ⟨by omega, fun ns hs hm => ⟨hd_d, h ns ⟨hs, fun j => ?_, ?_⟩⟩⟩
  · rw [hm j, foldL_mem]
    simp
  · exact Nat.le_trans (len_sub hs fun x hx => (hm x).mp hx) hb
def addRun (acc : List Cue) (s e : Int) (x : D) : List Cue := if isN x = true then acc else match acc.getLast? with
  | some c => if c.t = s ∧ PyData.eqv c.x x = true then acc.dropLast ++ [⟨c.f, e, x⟩] else acc ++ [⟨s, e, x⟩]
  | none => acc ++ [⟨s, e, x⟩]
theorem atI_last {l : List D} {d : D} : atI (l ++ [d]) (-1) = some d := by
  unfold atI ixN
  rw [if_neg (by decide), if_pos (by simp; omega)]
  show (l ++ [d])[((-1 : Int) + ((l ++ [d]).length : Nat)).toNat]? = _
  have e : ((-1 : Int) + ((l ++ [d]).length : Nat)).toNat = l.length := by simp; omega
  rw [e]
  simp
theorem ixN_last {n : Nat} : ixN (n + 1) (-1) = some n := by
  unfold ixN
  rw [if_neg (by decide), if_pos (by omega)]
  congr 1
  omega
structure TX (x : D) : Prop where
  n : isN x = false
  l : PyData.canLay0 x = true
  p : x.depth ≤ 10
theorem okD_pair {i : Int} {x : D} (h : TX x) : okD (.tuple [.int i, x]) := by
  show SeqAt.shaped _ = true
  unfold SeqAt.shaped
  have := h.p
  simp [PyData.canLay0, PyData.canLayAll0, h.l, PyData.depth, PyData.depthAll]
  omega
abbrev joinBody : SM := sIf (bAnd (bTruth (hS 1)) (bD (d2 gEq (hV (dSl (hV (d2 gIx (hS 1) (hV (dNeg (dC (.int 1)))))) (oI (dC (.int 1))) (oNo))) (hV (dTup (lCons (dV 2) (lCons (dV 4) (lNil)))))))) (sPut 1 (dNeg (dC (.int 1))) (dTup (lCons (d2 gIx (hV (d2 gIx (hS 1) (hV (dNeg (dC (.int 1)))))) (hV (dC (.int 0)))) (lCons (dV 3) (lCons (dV 4) (lNil)))))) (sApp 1 (dTup (lCons (dV 2) (lCons (dV 3) (lCons (dV 4) (lNil))))))
theorem join_step {C x : D} {E : DE} {s e : Int} {acc : List Cue} (t : TX x) (ta : ∀ c ∈ acc, TX c.x) (l : acc.length < 1000000)
    (h : E.nx [.im C, .ow (.list ((addRun acc s e x).map Cue.d)), .im (.int s), .im (.int e), .im x]) :
    joinBody E [.im C, .ow (.list (acc.map Cue.d)), .im (.int s), .im (.int e), .im x] := by
  have z' := t.n
  have z : ¬ isN x = true := by rw [z']; exact Bool.false_ne_true
  rcases List.eq_nil_or_concat acc with rfl | ⟨ini, c, rfl⟩
  · have e1 : addRun [] s e x = [⟨s, e, x⟩] := by unfold addRun; rw [if_neg z]; rfl
    rw [e1] at h
    simp [raw, startE, arSl, sSeq, sIf, sRet, sRetN, sNo, sSet, sSetN, sExpr, sAsg, dCall, dCallO, aCons, aNil, aOra, dV, hS, hV, dC, d2, see, seeAll, dCB, DL.gCons, DL.gNil, dChain, bD, bAnd, bOr, bNot, dAnd, dOr, dNot, dNeg, dIf, dIsi, bTruth, truD, lCons, lNil, dTup, dLst, isD, gCmp, gAdd, DL.gSub, gIs, gIsNot, gLen, gN, gTupT, gConsT, gNoT, ownL, dSl, oI, oNo, sApp]
    exact h
  · rw [List.concat_eq_append] at ta l h ⊢
    have tc := ta c (by simp)
    have e0 : ((ini ++ [c]).map Cue.d) = ini.map Cue.d ++ [.tuple [.int c.f, .int c.t, c.x]] := by rw [List.map_append]; rfl
    have ev : PyData.eqv (.tuple [.int c.t, c.x]) (.tuple [.int s, x]) = (c.t == s && PyData.eqv c.x x) := by
      simp [PyData.eqv, PyData.eqvAll]
    have o1 := okD_pair (i := c.t) tc
    have o2 := okD_pair (i := s) t
    have hl : (ini.map Cue.d).length < 1000000 - 1 := by simp at l ⊢; omega
    have er : addRun (ini ++ [c]) s e x = if c.t = s ∧ PyData.eqv c.x x = true then ini ++ [⟨c.f, e, x⟩] else (ini ++ [c]) ++ [⟨s, e, x⟩] := by
      unfold addRun
      rw [if_neg z]
      simp
    rw [er] at h
    rw [e0]
    have em : ∀ f' : Cue, (ini ++ [f']).map Cue.d = ini.map Cue.d ++ [.tuple [.int f'.f, .int f'.t, f'.x]] := fun f' => by rw [List.map_append]; rfl
    generalize ini.map Cue.d = q at hl em ⊢
    have x1 : ∀ (d : D) (P : D → Prop), gIx (.list (q ++ [d])) (.int (-1)) P ↔ P d := fun d P => ⟨fun ⟨d', h', p⟩ => by rw [atI_last] at h'; cases h'; exact p, fun p => ⟨d, atI_last, p⟩⟩
    have x2 : ∀ P : D → Prop, gIx (.tuple [.int c.f, .int c.t, c.x]) (.int 0) P ↔ P (.int c.f) := fun P => gIx_iff.1
    have x3 : cutD [.int c.f, .int c.t, c.x] (some 1) none = [.int c.t, c.x] := rfl
    have x5 : ∀ d d' : D, (q ++ [d]).set q.length d' = q ++ [d'] := fun d d' => by simp
    by_cases hc : c.t = s ∧ PyData.eqv c.x x = true
    · rw [if_pos hc] at h
      have ev2 : (c.t == s && PyData.eqv c.x x) = true := by simp [hc.1, hc.2]
      rw [em] at h
      simp [raw, startE, arSl, sSeq, sIf, sRet, sRetN, sNo, sSet, sSetN, sExpr, sAsg, dCall, dCallO, aCons, aNil, aOra, dV, hS, hV, dC, d2, see, seeAll, dCB, DL.gCons, DL.gNil, dChain, bD, bAnd, bOr, bNot, dAnd, dOr, dNot, dNeg, dIf, dIsi, bTruth, truD, lCons, lNil, dTup, dLst, isD, gCmp, gAdd, DL.gSub, gIs, gIsNot, gLen, gN, gTupT, gConsT, gNoT, ownL, dSl, oI, oNo, x1, x2, x3, x5, ev, ev2, o1, o2, gEq, sPut, ixN_last]
      exact h
    · rw [if_neg hc] at h
      have ev2 : (c.t == s && PyData.eqv c.x x) = false := by
        by_cases h1 : c.t = s
        · have : ¬ PyData.eqv c.x x = true := fun y => hc ⟨h1, y⟩
          simp [this]
        · simp [h1]
      rw [List.map_append, em] at h
      simp [raw, startE, arSl, sSeq, sIf, sRet, sRetN, sNo, sSet, sSetN, sExpr, sAsg, dCall, dCallO, aCons, aNil, aOra, dV, hS, hV, dC, d2, see, seeAll, dCB, DL.gCons, DL.gNil, dChain, bD, bAnd, bOr, bNot, dAnd, dOr, dNot, dNeg, dIf, dIsi, bTruth, truD, lCons, lNil, dTup, dLst, isD, gCmp, gAdd, DL.gSub, gIs, gIsNot, gLen, gN, gTupT, gConsT, gNoT, ownL, dSl, oI, oNo, x1, x2, x3, x5, ev, ev2, o1, o2, gEq, sApp]
      refine ⟨by omega, ?_⟩
      simpa [Cue.d] using h
def runs (S : Int → D) (ps : List (Int × Int)) (acc : List Cue) : List Cue := ps.foldl (fun acc p => addRun acc p.1 p.2 (S p.1)) acc
theorem addRun_len (acc : List Cue) (s e : Int) (x : D) : (addRun acc s e x).length ≤ acc.length + 1 := by
  unfold addRun
  split
  · omega
  · split
    · rename_i c hc
      split
      · have : acc ≠ [] := fun z => by rw [z] at hc; cases hc
        have := List.length_pos_iff.mpr this
        rw [List.length_append, List.length_dropLast, List.length_singleton]
        omega
      · (rw [List.length_append, List.length_singleton])
        exact Nat.le_refl _
    · (rw [List.length_append, List.length_singleton])
      exact Nat.le_refl _
theorem addRun_all {p : D → Prop} {acc : List Cue} {s e : Int} {x : D} (ha : ∀ c ∈ acc, p c.x) (hx : isN x = false → p x) : ∀ c ∈ addRun acc s e x, p c.x := by
  unfold addRun
  by_cases z : isN x = true
  · rw [if_pos z]
    exact ha
  · rw [if_neg z]
    have hx' := hx (by simpa using z)
    split
    · split
      · intro c hc
        (rcases List.mem_append.mp hc with hc | hc)
        · exact ha c (List.dropLast_subset _ hc)
        · simp at hc
          subst hc
          exact hx'
      · intro c hc
        (rcases List.mem_append.mp hc with hc | hc)
        · exact ha c hc
        · simp at hc
          subst hc
          exact hx'
    · intro c hc
      (rcases List.mem_append.mp hc with hc | hc)
      · exact ha c hc
      · simp at hc
        subst hc
        exact hx'
def pairD (p : Int × Int) : D := .tuple [.int p.1, .int p.2]
def joinR (rs acc : List Cue) : List Cue := rs.foldl (fun acc c => addRun acc c.f c.t c.x) acc
theorem join_loop {C : D} {E : DE} : ∀ (rs acc : List Cue) (s2 s3 s4 : Sl), (∀ c ∈ rs, TX c.x) → (∀ c ∈ acc, TX c.x) → acc.length + rs.length < 1000000 →
    (∀ s2 s3 s4, E.nx [.im C, .ow (.list ((joinR rs acc).map Cue.d)), s2, s3, s4]) →
    forL (gTupT 3 (gConsT (gN 2) (gConsT (gN 3) (gConsT (gN 4) (gNoT))))) joinBody E (rs.map Cue.d) [.im C, .ow (.list (acc.map Cue.d)), s2, s3, s4]
  | [], acc, s2, s3, s4, _, _, _, h => h s2 s3 s4
  | c :: rs, acc, s2, s3, s4, tr, ta, l, h => by
    rw [List.length_cons] at l
    have tc := tr c (List.mem_cons_self ..)
    refine ⟨rfl, rfl, ?_⟩
    refine join_step tc ta (by omega) ?_
    have hl := addRun_len acc c.f c.t c.x
    exact join_loop rs _ _ _ _ (fun d hd => tr d (List.mem_cons_of_mem _ hd)) (addRun_all ta fun _ => tc) (by omega) h
theorem d_joined {rs : List Cue} {m : Nat} {P : D → Nat → Prop} (tx : ∀ c ∈ rs, TX c.x) (l : rs.length < 1000000) (h : P (fileD (joinR rs [])) 0) : r_joined_cues [.d (.list (rs.map Cue.d))] m P := by
  refine ⟨by decide, ?_⟩
  show forL _ joinBody _ (rs.map Cue.d) [.im (.list (rs.map Cue.d)), .ow (.list ([].map Cue.d)), .no, .no, .no]
  refine join_loop rs [] _ _ _ tx (fun _ z => nomatch z) (by simpa using l) fun s2 s3 s4 => ?_
  exact ⟨trivial, hd_d, h⟩
def raw1 (acc : List Cue) (s e : Int) (x : D) : List Cue := if isN x = true then acc else acc ++ [⟨s, e, x⟩]
def raws (S : Int → D) (ps : List (Int × Int)) (acc : List Cue) : List Cue := ps.foldl (fun acc p => raw1 acc p.1 p.2 (S p.1)) acc
theorem join_raw1 (acc : List Cue) (s e : Int) (x : D) : joinR (raw1 acc s e x) [] = addRun (joinR acc []) s e x := by
  unfold raw1
  by_cases z : isN x = true
  · rw [if_pos z]
    have e1 : ∀ a : List Cue, addRun a s e x = a := fun a => if_pos z
    rw [e1]
  · rw [if_neg z]
    unfold joinR
    rw [List.foldl_append]
    rfl
theorem join_raws (S : Int → D) : ∀ (ps : List (Int × Int)) (acc : List Cue), joinR (raws S ps acc) [] = runs S ps (joinR acc [])
  | [], acc => rfl
  | p :: ps, acc => by
    show joinR (raws S ps (raw1 acc p.1 p.2 (S p.1))) [] = runs S ps (addRun (joinR acc []) p.1 p.2 (S p.1))
    rw [join_raws S ps, join_raw1]
theorem raw1_len (acc : List Cue) (s e : Int) (x : D) : (raw1 acc s e x).length ≤ acc.length + 1 := by
  unfold raw1
  split
  · omega
  · simp
abbrev flatBody : SM := sSeq (sSet 5 (dCall 2 r__text_of_layers (aCons (dV 0) (aCons (dV 3) (aNil))))) (sIf (bD (d2 gIsNot (hS 5) (hV (dC .none)))) (sApp 1 (dTup (lCons (dV 3) (lCons (dV 4) (lCons (dV 5) (lNil)))))) (sNo))
theorem flat_step {Ls : List (List Cue)} {Bd : D} {E : DE} {s e : Int} {acc : List Cue} {s5 : Sl} (l : acc.length < 1000000)
    (h : ∀ s5, E.nx [.im (laysD Ls), .ow (.list ((raw1 acc s e (seenL Ls s)).map Cue.d)), .im Bd, .im (.int s), .im (.int e), s5]) :
    flatBody E [.im (laysD Ls), .ow (.list (acc.map Cue.d)), .im Bd, .im (.int s), .im (.int e), s5] := by
  refine ⟨rfl, rfl, d_layers ?_⟩
  by_cases z : isN (seenL Ls s) = true
  · have e1 : raw1 acc s e (seenL Ls s) = acc := if_pos z
    rw [e1] at h
    simp [raw, startE, arSl, sSeq, sIf, sRet, sRetN, sNo, sSet, sSetN, sExpr, sAsg, dCall, dCallO, aCons, aNil, aOra, dV, hS, hV, dC, d2, see, seeAll, dCB, DL.gCons, DL.gNil, dChain, bD, bAnd, bOr, bNot, dAnd, dOr, dNot, dNeg, dIf, dIsi, bTruth, truD, lCons, lNil, dTup, dLst, isD, gCmp, gAdd, DL.gSub, gIs, gIsNot, gLen, gN, gTupT, gConsT, gNoT, ownL, dSl, oI, oNo, gIsNot, z]
    exact h _
  · have z' : isN (seenL Ls s) = false := by simpa using z
    have e1 : raw1 acc s e (seenL Ls s) = acc ++ [⟨s, e, seenL Ls s⟩] := if_neg z
    rw [e1] at h
    have h := h (.im (seenL Ls s))
    rw [List.map_append] at h
    have hl : (acc.map Cue.d).length < 1000000 := by simpa using l
    generalize acc.map Cue.d = q at hl h ⊢
    simp [raw, startE, arSl, sSeq, sIf, sRet, sRetN, sNo, sSet, sSetN, sExpr, sAsg, dCall, dCallO, aCons, aNil, aOra, dV, hS, hV, dC, d2, see, seeAll, dCB, DL.gCons, DL.gNil, dChain, bD, bAnd, bOr, bNot, dAnd, dOr, dNot, dNeg, dIf, dIsi, bTruth, truD, lCons, lNil, dTup, dLst, isD, gCmp, gAdd, DL.gSub, gIs, gIsNot, gLen, gN, gTupT, gConsT, gNoT, ownL, dSl, oI, oNo, gIsNot, z', sApp]
    refine ⟨by omega, ?_⟩
    simpa [Cue.d] using h
theorem flat_loop {Ls : List (List Cue)} {Bd : D} {E : DE} : ∀ (ps : List (Int × Int)) (acc : List Cue) (s3 s4 s5 : Sl), acc.length + ps.length < 1000000 →
    (∀ s3 s4 s5, E.nx [.im (laysD Ls), .ow (.list ((raws (seenL Ls) ps acc).map Cue.d)), .im Bd, s3, s4, s5]) →
    forL (gTupT 2 (gConsT (gN 3) (gConsT (gN 4) (gNoT)))) flatBody E (ps.map pairD) [.im (laysD Ls), .ow (.list (acc.map Cue.d)), .im Bd, s3, s4, s5]
  | [], acc, s3, s4, s5, _, h => h s3 s4 s5
  | p :: ps, acc, s3, s4, s5, l, h => by
    rw [List.length_cons] at l
    refine ⟨rfl, ?_⟩
    refine ⟨rfl, ?_⟩
    refine flat_step (by omega) fun s5' => ?_
    have hl := raw1_len acc p.1 p.2 (seenL Ls p.1)
    exact flat_loop ps _ _ _ _ (by omega) h
theorem raws_all {p : D → Prop} {S : Int → D} (hx : ∀ i, isN (S i) = false → p (S i)) : ∀ (ps : List (Int × Int)) (acc : List Cue), (∀ c ∈ acc, p c.x) → ∀ c ∈ raws S ps acc, p c.x
  | [], acc, ha => ha
  | q :: ps, acc, ha => by
    refine raws_all hx ps (raw1 acc q.1 q.2 (S q.1)) ?_
    unfold raw1
    by_cases z : isN (S q.1) = true
    · rw [if_pos z]
      exact ha
    · rw [if_neg z]
      intro c hc
      (rcases List.mem_append.mp hc with hc | hc)
      · exact ha c hc
      · simp at hc
        subst hc
        exact hx _ (by simpa using z)
theorem raws_len {S : Int → D} : ∀ (ps : List (Int × Int)) (acc : List Cue), (raws S ps acc).length ≤ acc.length + ps.length
  | [], acc => by simp [raws]
  | p :: ps, acc => by
    have h1 := raws_len (S := S) ps (raw1 acc p.1 p.2 (S p.1))
    have h2 := raw1_len acc p.1 p.2 (S p.1)
    show (raws S ps (raw1 acc p.1 p.2 (S p.1))).length ≤ _
    rw [List.length_cons]
    omega
theorem zip_pairs (B : List Int) : zipD (B.map PyData.int) (cutD (B.map PyData.int) (some 1) none) = (B.zip B.tail).map pairD := by
  have e : cutD (B.map PyData.int) (some 1) none = B.tail.map PyData.int := by
    cases B with
    | nil => rfl
    | cons b r =>
      unfold cutD
      have e1 : HT.sIx ((b :: r).map PyData.int).length 0 (some 1) = 1 := by
        unfold HT.sIx
        simp
      have e2 : HT.sIx ((b :: r).map PyData.int).length ((b :: r).map PyData.int).length none = ((b :: r).map PyData.int).length := rfl
      rw [e1, e2]
      simp
      (exact List.take_of_length_le (by simp))
  rw [e]
  unfold zipD
  rw [List.zipWith_map, List.zip, List.map_zipWith]
  rfl
/-- flattened: some files, not too many cues -/
theorem d_flattened {Ls : List (List Cue)} {m : Nat} {P : D → Nat → Prop} (l : (Ls.map List.length).sum ≤ 31) (tx : ∀ s, isN (seenL Ls s) = false → TX (seenL Ls s)) (h : ∀ B, Bor Ls B → P (fileD (runs (seenL Ls) (B.zip B.tail) [])) 0) : r_flattened [.d (laysD Ls)] m P := by
  refine ⟨by decide, ?_⟩
  refine ⟨rfl, rfl, d_bounds l fun B hB => ?_⟩
  have h' := h B hB
  refine ⟨trivial, ?_⟩
  show forL _ _ _ (zipD (B.map PyData.int) (cutD (B.map PyData.int) (some 1) none)) _
  rw [zip_pairs]
  have h2 := hB.len
  have h3 : (B.zip B.tail).length ≤ 100 := by
    rw [List.length_zip]
    simp
    omega
  have h4 := raws_len (S := seenL Ls) (B.zip B.tail) []
  rw [List.length_nil] at h4
  refine flat_loop _ [] _ _ _ (by simp; omega) fun s3 s4 s5 => ?_
  refine ⟨rfl, rfl, d_joined (raws_all (p := TX) tx _ _ fun _ z => nomatch z) (by omega) ⟨hd_d, ?_⟩⟩
  rw [join_raws]
  exact h'
def foundD : Option Cue → D
  | none => .none
  | some c => .tuple [.int c.f, c.x]
theorem seen_loop {F : D} {fr : Int} {E : DE} : ∀ (cs : List Cue) (top : Option Cue) (s3 s4 s5 : Sl), (∀ s3 s4 s5, E.nx [.im F, .im (.int fr), .im (foundD (cs.foldl (step fr) top)), s3, s4, s5]) →
    forL (gTupT 3 (gConsT (gN 3) (gConsT (gN 4) (gConsT (gN 5) (gNoT))))) (sIf (bAnd (bD (d2 gLe (hS 3) (hS 1))) (bAnd (bD (d2 gLt (hS 1) (hS 4))) (bOr (bD (d2 gIs (hS 2) (hV (dC .none)))) (bD (d2 gGe (hS 3) (hV (d2 gIx (hS 2) (hV (dC (.int 0)))))))))) (sSet 2 (dTup (lCons (dV 3) (lCons (dV 5) (lNil))))) (sNo)) E (cs.map Cue.d) [.im F, .im (.int fr), .im (foundD top), s3, s4, s5]
  | [], top, s3, s4, s5, h => h s3 s4 s5
  | c :: cs, top, s3, s4, s5, h => by
    have ih := fun top' => seen_loop (E := E) (F := F) (fr := fr) cs top'
    refine ⟨rfl, rfl, ?_⟩
    cases top with
    | none =>
      have hs : step fr none c = if c.f ≤ fr ∧ fr < c.t then some c else none := by
        unfold step
        simp
      rw [List.foldl_cons, hs] at h
      by_cases h1 : c.f ≤ fr <;> by_cases h2 : fr < c.t <;> simp [h1, h2] at h <;> simp [raw, startE, arSl, sSeq, sIf, sRet, sRetN, sNo, sSet, sSetN, sExpr, sAsg, dCall, dCallO, aCons, aNil, aOra, dV, hS, hV, dC, d2, see, seeAll, dCB, DL.gCons, DL.gNil, dChain, bD, bAnd, bOr, bNot, dAnd, dOr, dNot, dNeg, dIf, dIsi, bTruth, truD, lCons, lNil, dTup, dLst, isD, gCmp, gAdd, DL.gSub, gIs, gIsNot, gLen, gN, gTupT, gConsT, gNoT, ownL, dSl, oI, oNo, h1, h2, foundD, isN] <;> exact ih _ _ _ _ h
    | some t =>
      have e2 : ∀ P : D → Prop, gIx (.tuple [.int t.f, t.x]) (.int 0) P ↔ P (.int t.f) := fun P => ⟨fun ⟨d, h', p⟩ => by cases h'; exact p, fun p => ⟨_, rfl, p⟩⟩
      have hs : step fr (some t) c = if c.f ≤ fr ∧ fr < c.t ∧ t.f ≤ c.f then some c else some t := by
        unfold step
        simp
      rw [List.foldl_cons, hs] at h
      by_cases h1 : c.f ≤ fr <;> by_cases h2 : fr < c.t <;> by_cases h3 : t.f ≤ c.f <;> simp [h1, h2, h3] at h <;> simp [raw, startE, arSl, sSeq, sIf, sRet, sRetN, sNo, sSet, sSetN, sExpr, sAsg, dCall, dCallO, aCons, aNil, aOra, dV, hS, hV, dC, d2, see, seeAll, dCB, DL.gCons, DL.gNil, dChain, bD, bAnd, bOr, bNot, dAnd, dOr, dNot, dNeg, dIf, dIsi, bTruth, truD, lCons, lNil, dTup, dLst, isD, gCmp, gAdd, DL.gSub, gIs, gIsNot, gLen, gN, gTupT, gConsT, gNoT, ownL, dSl, oI, oNo, e2, h1, h2, h3, foundD, isN] <;> exact ih _ _ _ _ h
theorem d_seen {cs : List Cue} {fr : Int} {m : Nat} {P : D → Nat → Prop} (h : P (textAt cs fr) 0) : r__law_seen [.d (fileD cs), .d (.int fr)] m P := by
  show forL _ _ _ (cs.map Cue.d) [.im (fileD cs), .im (.int fr), .im (foundD none), .no, .no, .no]
  refine seen_loop cs none _ _ _ fun s3 s4 s5 => ?_
  unfold textAt topAt at h
  cases e : cs.foldl (step fr) none with
  | none =>
    rw [e] at h
    simp [raw, startE, arSl, sSeq, sIf, sRet, sRetN, sNo, sSet, sSetN, sExpr, sAsg, dCall, dCallO, aCons, aNil, aOra, dV, hS, hV, dC, d2, see, seeAll, dCB, DL.gCons, DL.gNil, dChain, bD, bAnd, bOr, bNot, dAnd, dOr, dNot, dNeg, dIf, dIsi, bTruth, truD, lCons, lNil, dTup, dLst, isD, gCmp, gAdd, DL.gSub, gIs, gIsNot, gLen, gN, gTupT, gConsT, gNoT, ownL, dSl, oI, oNo, foundD, isN]
    exact h
  | some c =>
    rw [e] at h
    have e2 : ∀ P : D → Prop, gIx (.tuple [.int c.f, c.x]) (.int 1) P ↔ P c.x := fun P => ⟨fun ⟨d, h', p⟩ => by cases h'; exact p, fun p => ⟨_, rfl, p⟩⟩
    simp [raw, startE, arSl, sSeq, sIf, sRet, sRetN, sNo, sSet, sSetN, sExpr, sAsg, dCall, dCallO, aCons, aNil, aOra, dV, hS, hV, dC, d2, see, seeAll, dCB, DL.gCons, DL.gNil, dChain, bD, bAnd, bOr, bNot, dAnd, dOr, dNot, dNeg, dIf, dIsi, bTruth, truD, lCons, lNil, dTup, dLst, isD, gCmp, gAdd, DL.gSub, gIs, gIsNot, gLen, gN, gTupT, gConsT, gNoT, ownL, dSl, oI, oNo, foundD, isN, e2]
    exact h
theorem TX.ok {x : D} (h : TX x) : okD x := by
  show SeqAt.shaped _ = true
  unfold SeqAt.shaped
  have := h.p
  rw [h.l]
  simp
  omega
theorem okD_cues {acc : List Cue} (h : ∀ c ∈ acc, TX c.x) : okD (.list (acc.map Cue.d)) := by
  have h1 : ∀ l : List Cue, (∀ c ∈ l, TX c.x) → PyData.canLayAll0 (l.map Cue.d) = true ∧ PyData.depthAll (l.map Cue.d) ≤ 11 := by
    intro l
    induction l with
    | nil => exact fun _ => ⟨rfl, by simp [PyData.depthAll]⟩
    | cons c r ih =>
      intro hl
      have hc := hl c (List.mem_cons_self ..)
      have := hc.p
      obtain ⟨i1, i2⟩ := ih fun d hd => hl d (List.mem_cons_of_mem _ hd)
      simp only [List.map_cons, PyData.canLayAll0, PyData.depthAll, Cue.d, PyData.canLay0, PyData.depth, hc.l, i1]
      refine ⟨rfl, ?_⟩
      omega
  obtain ⟨a, b⟩ := h1 acc h
  show SeqAt.shaped _ = true
  unfold SeqAt.shaped
  refine Bool.and_eq_true_iff.mpr ⟨a, decide_eq_true ?_⟩
  simp only [PyData.depth]
  omega
def toldL : List D → Int → List Cue → List Cue
  | [], _, acc => acc
  | x :: r, i, acc => toldL r (i + 1) (addRun acc i (i + 1) x)
theorem eqv_non : ∀ {d : D}, isN d = false → PyData.eqv d .none = false
  | .none, h => by cases h
  | .bool _, _ => (by simp [PyData.eqv])
  | .int _, _ => (by simp [PyData.eqv])
  | .str _, _ => (by simp [PyData.eqv])
  | .list _, _ => by simp [PyData.eqv]
  | .tuple _, _ => by simp [PyData.eqv]
  | .dict _, _ => by simp [PyData.eqv]
theorem addRun_snoc {ini : List Cue} {c : Cue} {s e : Int} {x : D} (z : isN x = false) : addRun (ini ++ [c]) s e x = if c.t = s ∧ PyData.eqv c.x x = true then ini ++ [⟨c.f, e, x⟩] else (ini ++ [c]) ++ [⟨s, e, x⟩] := by
  unfold addRun
  rw [if_neg (by rw [z]; exact Bool.false_ne_true)]
  simp
end Q78
namespace Q78
open PySem L2 DL
def canon (S : Int → D) (N : Nat) : List Cue := toldL ((List.range N).map fun i => S (i : Nat)) 0 []
theorem toldL_app : ∀ (r1 r2 : List D) (i : Int) (acc : List Cue), toldL (r1 ++ r2) i acc = toldL r2 (i + r1.length) (toldL r1 i acc)
  | [], r2, i, acc => by simp [toldL]
  | x :: r1, r2, i, acc => by
    show toldL (r1 ++ r2) (i + 1) _ = _
    rw [toldL_app r1 r2]
    have e : i + 1 + (r1.length : Int) = i + ((x :: r1).length : Nat) := by rw [List.length_cons]; omega
    rw [e]
    rfl
theorem addRun_join {acc : List Cue} {s e e' : Int} {x : D} (hx : isN x = false → PyData.eqv x x = true) : addRun (addRun acc s e x) e e' x = addRun acc s e' x := by
  by_cases z : isN x = true
  · have h1 : ∀ (a : List Cue) (p q : Int), addRun a p q x = a := fun a p q => if_pos z
    rw [h1, h1, h1]
  · have z' : isN x = false := by simpa using z
    have hx := hx z'
    rcases List.eq_nil_or_concat acc with rfl | ⟨ini, c, rfl⟩
    · have h1 : ∀ (p q : Int), addRun [] p q x = [] ++ [⟨p, q, x⟩] := fun p q => by unfold addRun; rw [if_neg z]; rfl
      rw [h1, h1, addRun_snoc z', if_pos ⟨rfl, hx⟩]
    · rw [List.concat_eq_append]
      rw [addRun_snoc z', addRun_snoc (e := e') z']
      by_cases hc : c.t = s ∧ PyData.eqv c.x x = true
      · rw [if_pos hc, if_pos hc, addRun_snoc z', if_pos ⟨rfl, hx⟩]
      · rw [if_neg hc, if_neg hc, addRun_snoc z', if_pos ⟨rfl, hx⟩]
theorem told_rep {x : D} (hx : isN x = false → PyData.eqv x x = true) : ∀ (n : Nat) (i : Int) (acc : List Cue), toldL (List.replicate (n + 1) x) i acc = addRun acc i (i + (n + 1 : Nat)) x
  | 0, i, acc => rfl
  | n + 1, i, acc => by
    show toldL (List.replicate (n + 1) x) (i + 1) (addRun acc i (i + 1) x) = _
    rw [told_rep hx n, addRun_join hx]
    congr 1
    omega
theorem told_none {x : D} (hx : isN x = true) : ∀ (r : List D) (i : Int) (acc : List Cue), (∀ y ∈ r, isN y = true) → toldL r i acc = acc
  | [], _, _, _ => rfl
  | y :: r, i, acc, h => by
    have e : addRun acc i (i + 1) y = acc := if_pos (h y (List.mem_cons_self ..))
    show toldL r (i + 1) (addRun acc i (i + 1) y) = acc
    rw [e]
    exact told_none hx r (i + 1) acc fun z hz => h z (List.mem_cons_of_mem _ hz)
def seg (S : Int → D) (a b : Int) : List D := (List.range (b - a).toNat).map fun i => S (a + (i : Nat))
theorem seg_split {S : Int → D} {a b c : Int} (h1 : a ≤ b) (h2 : b ≤ c) : seg S a c = seg S a b ++ seg S b c := by
  unfold seg
  have e : (c - a).toNat = (b - a).toNat + (c - b).toNat := by omega
  rw [e, List.range_add, List.map_append, List.map_map]
  congr 1
  (refine List.map_congr_left fun i _ => ?_)
  show S (a + (((b - a).toNat + i : Nat))) = S (b + (i : Nat))
  congr 1
  omega
theorem seg_const {S : Int → D} {a b : Int} {x : D} (h : ∀ fr, a ≤ fr → fr < b → S fr = x) : seg S a b = List.replicate (b - a).toNat x := by
  unfold seg
  (refine List.ext_getElem (by simp) fun i h1 h2 => ?_)
  simp at h1 ⊢
  (exact h _ (by omega) (by omega))
theorem seg_len {S : Int → D} {a b : Int} (h : a ≤ b) : ((seg S a b).length : Int) = b - a := by
  unfold seg
  simp
  omega
theorem runs_seg {S : Int → D} (hx : ∀ i, isN (S i) = false → PyData.eqv (S i) (S i) = true) : ∀ (B : List Int) (b0 : Int) (acc : List Cue), (b0 :: B).Pairwise (· < ·) →
    (∀ s fr, s ∈ b0 :: B → s ≤ fr → (∀ j ∈ b0 :: B, j ≤ s ∨ fr < j) → S fr = S s) → ∃ z, (z = b0 ∨ z ∈ B) ∧ (∀ j ∈ b0 :: B, j ≤ z) ∧ runs S ((b0 :: B).zip B) acc = toldL (seg S b0 z) b0 acc
  | [], b0, acc, _, _ => by
    refine ⟨b0, .inl rfl, fun j hj => ?_, ?_⟩
    · simp at hj
      omega
    · have : seg S b0 b0 = [] := by unfold seg; simp
      rw [this]
      rfl
  | b1 :: r, b0, acc, hp, hc => by
    have hp' := hp
    rw [List.pairwise_cons] at hp
    have h01 := hp.1 b1 (List.mem_cons_self ..)
    have hr := hp.2
    rw [List.pairwise_cons] at hr
    obtain ⟨z, hz, hm, e⟩ := runs_seg hx r b1 (addRun acc b0 b1 (S b0)) hp.2 fun s fr hs hle hj => by
      refine hc s fr (List.mem_cons_of_mem _ hs) hle fun j hj' => ?_
      rcases List.mem_cons.mp hj' with rfl | hj'
      · left
        (rcases List.mem_cons.mp hs with rfl | hs)
        · omega
        · have := hr.1 s hs; omega
      · exact hj j hj'
    have hz1 : b1 ≤ z := hm b1 (List.mem_cons_self ..)
    refine ⟨z, .inr (by rcases hz with rfl | hz <;> simp [*]), fun j hj => ?_, ?_⟩
    · rcases List.mem_cons.mp hj with rfl | hj
      · omega
      · exact hm j hj
    · show runs S ((b1 :: r).zip r) (addRun acc b0 b1 (S b0)) = _
      rw [e, seg_split (a := b0) (b := b1) (c := z) (by omega) hz1, toldL_app, seg_len (by omega)]
      have ec : seg S b0 b1 = List.replicate (b1 - b0).toNat (S b0) := seg_const fun fr h1 h2 => hc b0 fr (List.mem_cons_self ..) h1 fun j hj => by
        rcases List.mem_cons.mp hj with rfl | hj
        · omega
        · right
          rcases List.mem_cons.mp hj with rfl | hj
          · exact h2
          · have := hr.1 j hj; omega
      obtain ⟨n, hn⟩ : ∃ n, (b1 - b0).toNat = n + 1 := ⟨(b1 - b0).toNat - 1, by omega⟩
      rw [ec, hn, told_rep (hx b0)]
      have e1 : b0 + ((n + 1 : Nat) : Int) = b1 := by omega
      have e2 : b0 + (b1 - b0) = b1 := by omega
      rw [e1, e2]
theorem top_congr {s fr : Int} : ∀ (cs : List Cue) (top : Option Cue), (∀ c ∈ cs, (c.f ≤ fr ↔ c.f ≤ s) ∧ (fr < c.t ↔ s < c.t)) → cs.foldl (step fr) top = cs.foldl (step s) top
  | [], _, _ => rfl
  | c :: cs, top, h => by
    have e : step fr top c = step s top c := by
      obtain ⟨h1, h2⟩ := h c (List.mem_cons_self ..)
      unfold step
      simp only [h1, h2]
    (rw [List.foldl_cons, List.foldl_cons, e])
    exact top_congr cs _ fun d hd => h d (List.mem_cons_of_mem _ hd)
theorem seen_congr {s fr : Int} : ∀ (Ls : List (List Cue)), (∀ cs ∈ Ls, ∀ c ∈ cs, (c.f ≤ fr ↔ c.f ≤ s) ∧ (fr < c.t ↔ s < c.t)) → seenL Ls fr = seenL Ls s
  | [], _ => rfl
  | cs :: Ls, h => by
    have e : textAt cs fr = textAt cs s := by
      unfold textAt topAt
      rw [top_congr cs none (h cs (List.mem_cons_self ..))]
    show (if isN (textAt cs fr) = true then seenL Ls fr else textAt cs fr) = (if isN (textAt cs s) = true then seenL Ls s else textAt cs s)
    rw [e, seen_congr Ls fun d hd => h d (List.mem_cons_of_mem _ hd)]
theorem top_none {fr : Int} : ∀ (cs : List Cue), (∀ c ∈ cs, ¬ (c.f ≤ fr ∧ fr < c.t)) → cs.foldl (step fr) none = none
  | [], _ => rfl
  | c :: cs, h => by
    have e : step fr none c = none := by
      unfold step
      rw [if_neg]
      intro z
      exact h c (List.mem_cons_self ..) ⟨z.1, z.2.1⟩
    rw [List.foldl_cons, e]
    exact top_none cs fun d hd => h d (List.mem_cons_of_mem _ hd)
theorem seen_none {fr : Int} : ∀ (Ls : List (List Cue)), (∀ cs ∈ Ls, ∀ c ∈ cs, ¬ (c.f ≤ fr ∧ fr < c.t)) → isN (seenL Ls fr) = true
  | [], _ => rfl
  | cs :: Ls, h => by
    have e : textAt cs fr = .none := by
      unfold textAt topAt
      rw [top_none cs (h cs (List.mem_cons_self ..))]
    show isN (if isN (textAt cs fr) = true then seenL Ls fr else textAt cs fr) = true
    rw [e, if_pos (show isN .none = true from rfl)]
    exact seen_none Ls fun d hd => h d (List.mem_cons_of_mem _ hd)
/-- the runs between borders are the runs of the frames -/
theorem runs_canon {Ls : List (List Cue)} {B : List Int} (hB : Bor Ls B) (hx : ∀ i, isN (seenL Ls i) = false → PyData.eqv (seenL Ls i) (seenL Ls i) = true) (pos : ∀ cs ∈ Ls, ∀ c ∈ cs, 0 ≤ c.f ∧ c.f < c.t) {N : Nat} (hN : ∀ cs ∈ Ls, ∀ c ∈ cs, c.t ≤ (N : Int)) :
    runs (seenL Ls) (B.zip B.tail) [] = canon (seenL Ls) N := by
  have ec : canon (seenL Ls) N = toldL (seg (seenL Ls) 0 N) 0 [] := by
    unfold canon seg
    congr 1
    simp
  rw [ec]
  have nn : ∀ (a b : Int) (acc : List Cue), (∀ fr, a ≤ fr → fr < b → isN (seenL Ls fr) = true) → toldL (seg (seenL Ls) a b) a acc = acc := by
    intro a b acc h
    refine told_none (x := .none) rfl _ _ _ fun y hy => ?_
    unfold seg at hy
    obtain ⟨i, hi, rfl⟩ := List.mem_map.mp hy
    rw [List.mem_range] at hi
    (exact h _ (by omega) (by omega))
  cases B with
  | nil =>
    rw [nn]
    · rfl
    · intro fr _ _
      refine seen_none Ls fun cs hcs c hc _ => ?_
      have := (hB.mem c.f).mpr ⟨cs, hcs, c, hc, .inl rfl⟩
      cases this
  | cons b0 r =>
    obtain ⟨z, hz, hm, e⟩ := runs_seg hx r b0 [] hB.asc fun s fr _ hle hj => by
      refine seen_congr Ls fun cs hcs c hc => ?_
      have h1 := hj c.f ((hB.mem c.f).mpr ⟨cs, hcs, c, hc, .inl rfl⟩)
      have h2 := hj c.t ((hB.mem c.t).mpr ⟨cs, hcs, c, hc, .inr rfl⟩)
      constructor <;> omega
    show runs (seenL Ls) ((b0 :: r).zip r) [] = _
    rw [e]
    have asc := hB.asc
    rw [List.pairwise_cons] at asc
    have inB : ∀ j ∈ b0 :: r, 0 ≤ j ∧ j ≤ (N : Int) := by
      intro j hj
      obtain ⟨cs, hcs, c, hc, h⟩ := (hB.mem j).mp hj
      have p := pos cs hcs c hc
      have q := hN cs hcs c hc
      rcases h with rfl | rfl <;> omega
    have i0 := inB b0 (List.mem_cons_self ..)
    have hzB : z ∈ b0 :: r := by rcases hz with rfl | hz <;> simp [*]
    have iz := inB z hzB
    have h0z : b0 ≤ z := hm b0 (List.mem_cons_self ..)
    rw [seg_split (a := 0) (b := b0) (c := N) i0.1 i0.2, toldL_app, seg_len i0.1, nn 0 b0 [] ?_]
    · rw [seg_split (a := b0) (b := z) (c := N) h0z iz.2, toldL_app, seg_len h0z]
      have e1 : (0 : Int) + (b0 - 0) = b0 := by omega
      have e2 : b0 + (z - b0) = z := by omega
      rw [e1, e2, nn z N _ ?_]
      intro fr h1 _
      refine seen_none Ls fun cs hcs c hc y => ?_
      have := hm c.t ((hB.mem c.t).mpr ⟨cs, hcs, c, hc, .inr rfl⟩)
      omega
    · intro fr _ h2
      refine seen_none Ls fun cs hcs c hc y => ?_
      rcases List.mem_cons.mp ((hB.mem c.f).mpr ⟨cs, hcs, c, hc, .inl rfl⟩) with h | h
      · omega
      · have := asc.1 c.f h; omega
end Q78
namespace Q78
open PySem L2 DL
structure CI (S : Int → D) (N : Nat) (cs : List Cue) : Prop where
  ok : ∀ c ∈ cs, 0 ≤ c.f ∧ c.f < c.t ∧ c.t ≤ (N : Int) ∧ isN c.x = false
  dj : cs.Pairwise fun c d => c.t ≤ d.f
  eq : ∀ c ∈ cs, ∀ fr, c.f ≤ fr → fr < c.t → c.x = S fr
  cov : ∀ fr : Int, 0 ≤ fr → fr < (N : Int) → isN (S fr) = false → ∃ c ∈ cs, c.f ≤ fr ∧ fr < c.t
theorem canon_succ (S : Int → D) (N : Nat) : canon S (N + 1) = addRun (canon S N) N ((N : Int) + 1) (S N) := by
  unfold canon
  rw [List.range_succ, List.map_append, toldL_app]
  simp [toldL]
theorem ci_new {S : Int → D} {N : Nat} {cs : List Cue} (h : CI S N cs) (z : isN (S N) = false) : CI S (N + 1) (cs ++ [⟨N, (N : Int) + 1, S N⟩]) := by
  refine ⟨fun c hc => ?_, ?_, fun c hc fr h1 h2 => ?_, fun fr h1 h2 h3 => ?_⟩
  · rcases List.mem_append.mp hc with hc | hc
    · obtain ⟨a, b, d, e⟩ := h.ok c hc
      exact ⟨a, b, by omega, e⟩
    · simp at hc
      subst hc
      exact ⟨by simp, by show (N : Int) < N + 1; omega, by simp, z⟩
  · rw [List.pairwise_append]
    refine ⟨h.dj, by simp, fun c hc d hd => ?_⟩
    simp at hd
    subst hd
    exact (h.ok c hc).2.2.1
  · rcases List.mem_append.mp hc with hc | hc
    · exact h.eq c hc fr h1 h2
    · simp at hc
      subst hc
      have : fr = (N : Int) := by
        have h1 : (N : Int) ≤ fr := h1
        have h2 : fr < (N : Int) + 1 := h2
        omega
      rw [this]
  · by_cases e : fr = (N : Int)
    · subst e
      exact ⟨_, by simp; exact .inr rfl, by show (N : Int) ≤ N; omega, by show (N : Int) < N + 1; omega⟩
    · obtain ⟨c, hc, p, q⟩ := h.cov fr h1 (by omega) h3
      exact ⟨c, by simp [hc], p, q⟩
theorem ci_canon {S : Int → D} (hE : ∀ i j, isN (S i) = false → PyData.eqv (S i) (S j) = true → S i = S j) : ∀ N : Nat, CI S N (canon S N)
  | 0 => ⟨(fun _ z => nomatch z), List.Pairwise.nil, (fun _ z => nomatch z), fun fr h1 h2 => by omega⟩
  | N + 1 => by
    have h := ci_canon hE N
    rw [canon_succ]
    generalize canon S N = cs at h
    by_cases z : isN (S N) = true
    · have e : addRun cs N ((N : Int) + 1) (S N) = cs := if_pos z
      rw [e]
      refine ⟨fun c hc => ?_, h.dj, h.eq, fun fr h1 h2 h3 => ?_⟩
      · obtain ⟨a, b, d, e⟩ := h.ok c hc
        exact ⟨a, b, by omega, e⟩
      · have ne : fr ≠ (N : Int) := fun e => by rw [e, z] at h3; cases h3
        exact h.cov fr h1 (by omega) h3
    · have z' : isN (S N) = false := by simpa using z
      rcases List.eq_nil_or_concat cs with rfl | ⟨ini, c, rfl⟩
      · have e : addRun [] N ((N : Int) + 1) (S N) = [] ++ [⟨N, (N : Int) + 1, S N⟩] := by unfold addRun; rw [if_neg z]; rfl
        rw [e]
        exact ci_new h z'
      · rw [List.concat_eq_append] at h ⊢
        rw [addRun_snoc z']
        by_cases hc : c.t = N ∧ PyData.eqv c.x (S N) = true
        · rw [if_pos hc]
          have mc : c ∈ ini ++ [c] := by simp
          obtain ⟨c0, c1, c2, c3⟩ := h.ok c mc
          have ex : c.x = S c.f := h.eq c mc c.f (by omega) c1
          have eS : S c.f = S N := hE _ _ (by rw [← ex]; exact c3) (by rw [← ex]; exact hc.2)
          have dj := h.dj
          rw [List.pairwise_append] at dj
          refine ⟨fun d hd => ?_, ?_, fun d hd fr h1 h2 => ?_, fun fr h1 h2 h3 => ?_⟩
          · rcases List.mem_append.mp hd with hd | hd
            · obtain ⟨a, b, p, q⟩ := h.ok d (by simp [hd])
              exact ⟨a, b, by omega, q⟩
            · simp at hd
              subst hd
              exact ⟨c0, by show c.f < (N : Int) + 1; omega, by simp, z'⟩
          · rw [List.pairwise_append]
            refine ⟨dj.1, by simp, fun d hd e he => ?_⟩
            simp at he
            subst he
            exact dj.2.2 d hd c (by simp)
          · rcases List.mem_append.mp hd with hd | hd
            · exact h.eq d (by simp [hd]) fr h1 h2
            · simp at hd
              subst hd
              have h1 : c.f ≤ fr := h1
              have h2 : fr < (N : Int) + 1 := h2
              show S N = S fr
              by_cases e : fr = (N : Int)
              · rw [e]
              · rw [← eS, ← ex]
                exact h.eq c mc fr h1 (by omega)
          · by_cases e : fr = (N : Int)
            · subst e
              exact ⟨⟨c.f, (N : Int) + 1, S N⟩, by simp, by show c.f ≤ (N : Int); omega, by show (N : Int) < N + 1; omega⟩
            · obtain ⟨d, hd, p, q⟩ := h.cov fr h1 (by omega) h3
              rcases List.mem_append.mp hd with hd | hd
              · exact ⟨d, by simp [hd], p, q⟩
              · simp at hd
                subst hd
                exact ⟨⟨d.f, (N : Int) + 1, S N⟩, by simp, p, by show fr < (N : Int) + 1; omega⟩
        · rw [if_neg hc]
          exact ci_new h z'
theorem top_skip {fr : Int} : ∀ (cs : List Cue) (top : Option Cue), (∀ c ∈ cs, ¬ (c.f ≤ fr ∧ fr < c.t)) → cs.foldl (step fr) top = top
  | [], _, _ => rfl
  | c :: cs, top, h => by
    have e : step fr top c = top := by
      unfold step
      rw [if_neg]
      intro z
      exact h c (List.mem_cons_self ..) ⟨z.1, z.2.1⟩
    rw [List.foldl_cons, e]
    exact top_skip cs top fun d hd => h d (List.mem_cons_of_mem _ hd)
theorem text_none {cs : List Cue} {fr : Int} (h : ∀ c ∈ cs, ¬ (c.f ≤ fr ∧ fr < c.t)) : textAt cs fr = .none := by
  unfold textAt topAt
  rw [top_skip cs none h]
theorem text_canon {S : Int → D} (hE : ∀ i j, isN (S i) = false → PyData.eqv (S i) (S j) = true → S i = S j) {N : Nat} {fr : Int} : textAt (canon S N) fr = if 0 ≤ fr ∧ fr < (N : Int) then S fr else .none := by
  have h := ci_canon hE N
  generalize canon S N = cs at h
  by_cases hf : 0 ≤ fr ∧ fr < (N : Int)
  · rw [if_pos hf]
    by_cases z : isN (S fr) = true
    · rw [isN_eq z]
      refine text_none fun c hc y => ?_
      have := h.eq c hc fr y.1 y.2
      have n := (h.ok c hc).2.2.2
      rw [this, z] at n
      cases n
    · obtain ⟨c, hc, p, q⟩ := h.cov fr hf.1 hf.2 (by simpa using z)
      have ex := h.eq c hc fr p q
      obtain ⟨l1, l2, e⟩ := List.append_of_mem hc
      have dj := h.dj
      rw [e] at dj
      rw [List.pairwise_append, List.pairwise_cons] at dj
      unfold textAt topAt
      rw [e, List.foldl_append, List.foldl_cons, top_skip l1 none fun d hd y => ?_]
      · have es : step fr none c = some c := by
          unfold step
          rw [if_pos ⟨p, q, fun t ht => nomatch ht⟩]
        rw [es, top_skip l2 (some c) fun d hd y => ?_]
        · exact ex
        · have := dj.2.1.1 d hd
          omega
      · have := dj.2.2 d hd c (by simp)
        omega
  · rw [if_neg hf]
    refine text_none fun c hc y => hf ?_
    obtain ⟨a, b, d, _⟩ := h.ok c hc
    omega
end Q78
namespace Q78
open PySem L2 DL
def OT (x : D) : Prop := ∃ ls : List Str, x = textD ls ∧ 1 ≤ ls.length ∧ ls.length ≤ 4 ∧ ∀ z ∈ ls, OkStr z
theorem OkStr.lay {z : Str} (o : OkStr z) : PyData.canLay0 (.str z) = true := by
  show PyData.strOk z = true
  unfold PyData.strOk
  (rw [← Array.all_toList, List.all_eq_true])
  intro c hc
  have := o.ok c hc
  simp
  omega
theorem OT.tx {x : D} (h : OT x) : TX x := by
  obtain ⟨ls, rfl, _, _, o⟩ := h
  have key : ∀ l : List Str, (∀ z ∈ l, OkStr z) → PyData.canLayAll0 (l.map PyData.str) = true ∧ PyData.depthAll (l.map PyData.str) = 0 := by
    intro l
    induction l with
    | nil => exact fun _ => ⟨rfl, by simp [PyData.depthAll]⟩
    | cons z r ih =>
      intro h
      obtain ⟨a, b⟩ := ih fun y hy => h y (List.mem_cons_of_mem _ hy)
      have hz := (h z (List.mem_cons_self ..)).lay
      simp only [List.map_cons, PyData.canLayAll0, PyData.depthAll, hz, a, b, PyData.depth]
      exact ⟨rfl, rfl⟩
  obtain ⟨a, b⟩ := key ls o
  refine ⟨rfl, a, ?_⟩
  show PyData.depth (.tuple (ls.map PyData.str)) ≤ 10
  simp only [PyData.depth, b]
  omega
theorem textD_inj : ∀ (a b : List Str), PyData.eqvAll (a.map PyData.str) (b.map PyData.str) = true → a = b
  | [], [], _ => rfl
  | [], _ :: _, h => by simp [PyData.eqvAll] at h
  | _ :: _, [], h => by simp [PyData.eqvAll] at h
  | x :: a, y :: b, h => by
    simp only [List.map_cons, PyData.eqvAll, PyData.eqv, Bool.and_eq_true] at h
    rw [textD_inj a b h.2, eq_of_beq h.1]
theorem OT.eq {x y : D} (hx : OT x) (hy : OT y) (h : PyData.eqv x y = true) : x = y := by
  obtain ⟨a, rfl, _⟩ := hx
  obtain ⟨b, rfl, _⟩ := hy
  have : PyData.eqvAll (a.map PyData.str) (b.map PyData.str) = true := by
    simpa [textD, PyData.eqv] using h
  rw [textD_inj a b this]
theorem OT.nod {x : D} (h : OT x) : nod x = true := by
  obtain ⟨ls, rfl, _⟩ := h
  have key : ∀ l : List Str, nodAll (l.map PyData.str) = true := fun l => by
    induction l with
    | nil => rfl
    | cons z r ih => exact Bool.and_eq_true_iff.mpr ⟨rfl, ih⟩
  exact key ls
structure GC (c : Cue) : Prop where
  f0 : 0 ≤ c.f
  ft : c.f < c.t
  t1 : c.t ≤ 90
  x : OT c.x
theorem GC.ok {c : Cue} (g : GC c) : OkCue c := ⟨g.f0, g.ft, by have := g.t1; omega, g.x⟩
def GF (cs : List Cue) : Prop := ∀ c ∈ cs, GC c
theorem top_mem {fr : Int} : ∀ (cs : List Cue) (top : Option Cue) (c : Cue), cs.foldl (step fr) top = some c → top = some c ∨ c ∈ cs
  | [], top, c, h => .inl h
  | d :: cs, top, c, h => by
    rw [List.foldl_cons] at h
    rcases top_mem cs _ c h with h | h
    · unfold step at h
      split at h
      · cases h
        exact .inr (List.mem_cons_self ..)
      · exact .inl h
    · exact .inr (List.mem_cons_of_mem _ h)
theorem text_some {cs : List Cue} {fr : Int} (h : isN (textAt cs fr) = false) : ∃ c ∈ cs, textAt cs fr = c.x := by
  unfold textAt topAt at h ⊢
  cases e : cs.foldl (step fr) none with
  | none => (rw [e] at h; cases h)
  | some c =>
    rcases top_mem cs none c e with z | z
    · cases z
    · exact ⟨c, z, rfl⟩
theorem seen_ot {fr : Int} : ∀ {Ls : List (List Cue)}, (∀ cs ∈ Ls, GF cs) → isN (seenL Ls fr) = false → OT (seenL Ls fr)
  | [], _, h => by cases h
  | cs :: Ls, g, h => by
    by_cases z : isN (textAt cs fr) = true
    · have e : seenL (cs :: Ls) fr = seenL Ls fr := if_pos z
      rw [e] at h ⊢
      exact seen_ot (fun d hd => g d (List.mem_cons_of_mem _ hd)) h
    · have e : seenL (cs :: Ls) fr = textAt cs fr := if_neg z
      rw [e] at h ⊢
      obtain ⟨c, hc, e2⟩ := text_some h
      rw [e2]
      exact (g cs (List.mem_cons_self ..) c hc).x
section
variable {Ls : List (List Cue)} (g : ∀ cs ∈ Ls, GF cs)
include g
theorem g_tx (fr : Int) (h : isN (seenL Ls fr) = false) : TX (seenL Ls fr) := (seen_ot g h).tx
theorem g_eq (i j : Int) (h : isN (seenL Ls i) = false) (e : PyData.eqv (seenL Ls i) (seenL Ls j) = true) : seenL Ls i = seenL Ls j := by
  have hi := seen_ot g h
  by_cases z : isN (seenL Ls j) = true
  · rw [isN_eq z, eqv_non h] at e
    cases e
  · exact hi.eq (seen_ot g (by simpa using z)) e
theorem g_rf (i : Int) (h : isN (seenL Ls i) = false) : PyData.eqv (seenL Ls i) (seenL Ls i) = true := eqv_refl _ (seen_ot g h).nod
theorem g_end {N : Int} (hN : ∀ cs ∈ Ls, ∀ c ∈ cs, c.t ≤ N) (fr : Int) (h : N ≤ fr) : isN (seenL Ls fr) = true := seen_none Ls fun cs hcs c hc y => by
  have := hN cs hcs c hc
  omega
theorem g_neg (fr : Int) (h : fr < 0) : isN (seenL Ls fr) = true := seen_none Ls fun cs hcs c hc y => by
  have := (g cs hcs c hc).f0
  omega
end
theorem runs_len {S : Int → D} : ∀ (ps : List (Int × Int)) (acc : List Cue), (runs S ps acc).length ≤ acc.length + ps.length
  | [], acc => by simp [runs]
  | p :: ps, acc => by
    have h1 := runs_len (S := S) ps (addRun acc p.1 p.2 (S p.1))
    have h2 := addRun_len acc p.1 p.2 (S p.1)
    show (runs S ps (addRun acc p.1 p.2 (S p.1))).length ≤ _
    rw [List.length_cons]
    omega
theorem canon_good {Ls : List (List Cue)} (g : ∀ cs ∈ Ls, GF cs) : GF (canon (seenL Ls) 90) := by
  intro c hc
  have h := ci_canon (g_eq g) 90
  obtain ⟨a, b, d, e⟩ := h.ok c hc
  have ex := h.eq c hc c.f (by omega) b
  refine ⟨a, b, d, ?_⟩
  rw [ex] at e ⊢
  exact seen_ot g e
theorem flattened_good {Ls : List (List Cue)} (g : ∀ cs ∈ Ls, GF cs) (l : (Ls.map List.length).sum ≤ 31) {m : Nat} {P : D → Nat → Prop} (h : (canon (seenL Ls) 90).length ≤ 2 * (Ls.map List.length).sum → P (fileD (canon (seenL Ls) 90)) 0) : r_flattened [.d (laysD Ls)] m P := by
  refine d_flattened l (fun s => g_tx g s) fun B hB => ?_
  have e := runs_canon hB (g_rf g) (fun cs hcs c hc => ⟨(g cs hcs c hc).f0, (g cs hcs c hc).ft⟩) (N := 90) fun cs hcs c hc => (g cs hcs c hc).t1
  rw [e]
  refine h ?_
  rw [← e]
  have h1 := runs_len (S := seenL Ls) (B.zip B.tail) []
  have h2 := hB.len
  rw [List.length_zip] at h1
  simp at h1
  omega
theorem d_flat {U : List Cue} (gU : GF U) (l : U.length ≤ 31) {m : Nat} {P : D → Nat → Prop} (h : P (fileD (canon (seenL [U]) 90)) 0) : r_flat [.d (fileD U)] m P := by
  have g : ∀ cs ∈ [U], GF cs := by
    intro cs hcs
    simp at hcs
    rw [hcs]
    exact gU
  refine ⟨rfl, rfl, d_need_file (by omega) (fun c hc => (gU c hc).ok) ?_⟩
  refine ⟨(by show 1 ≤ 1000000; omega), rfl, rfl, ?_⟩
  exact flattened_good (Ls := [U]) g (by simp; omega) fun _ => ⟨hd_d, h⟩
theorem text_flat {Ls : List (List Cue)} (g : ∀ cs ∈ Ls, GF cs) (fr : Int) : textAt (canon (seenL Ls) 90) fr = seenL Ls fr := by
  rw [text_canon (g_eq g)]
  by_cases h : 0 ≤ fr ∧ fr < ((90 : Nat) : Int)
  · rw [if_pos h]
  · rw [if_neg h]
    by_cases h0 : fr < 0
    · exact (isN_eq (g_neg g fr h0)).symm
    · exact (isN_eq (g_end g (N := 90) (fun cs hcs c hc => (g cs hcs c hc).t1) fr (by omega))).symm
end Q78
namespace Q78
open PySem L2 DL
theorem w1 : OkStr ("a" : Str) := ⟨by decide +kernel, by decide +kernel, by decide +kernel, by decide +kernel, by decide +kernel⟩
theorem w2 : OkStr ("b" : Str) := ⟨by decide +kernel, by decide +kernel, by decide +kernel, by decide +kernel, by decide +kernel⟩
def OTS (x : D) : Prop := ∃ ls : List Str, x = textD ls ∧ 1 ≤ ls.length ∧ ls.length ≤ 2 ∧ ∀ z ∈ ls, OkStr z ∧ z.cps.size ≤ 3
theorem OTS.ot {x : D} (h : OTS x) : OT x := by
  obtain ⟨ls, a, b, c, d⟩ := h
  exact ⟨ls, a, b, by omega, fun z hz => (d z hz).1⟩
/-- a drawn cue -/
structure GS (c : Cue) : Prop where
  f0 : 0 ≤ c.f
  ft : c.f < c.t
  t1 : c.t ≤ 90
  x : OTS c.x
theorem GS.gc {c : Cue} (g : GS c) : GC c := ⟨g.f0, g.ft, by have := g.t1; omega, g.x.ot⟩
end Q78
namespace Q78
open PySem L2 DL
structure Sh (k n : Nat) (d : D) : Prop where
  nd : nod d = true
  sh : d.showable = true
  lv : d.leavesShort 13 = true
  la : d.canLay0 = true
  dp : d.depth ≤ k
  bk : d.bulk ≤ n
structure ShA (k n : Nat) (ds : List D) : Prop where
  nd : nodAll ds = true
  sh : PyData.showableAll ds = true
  lv : PyData.leavesShortAll 13 ds = true
  la : PyData.canLayAll0 ds = true
  dp : PyData.depthAll ds ≤ k
  bk : PyData.bulkAll ds ≤ n * ds.length
theorem sha {k n : Nat} : ∀ ds : List D, (∀ d ∈ ds, Sh k n d) → ShA k (n + 1) ds
  | [], _ => ⟨rfl, rfl, rfl, rfl, by simp [PyData.depthAll], by simp [PyData.bulkAll]⟩
  | d :: ds, h => by
    have a := h d (List.mem_cons_self ..)
    have b := sha ds fun x hx => h x (List.mem_cons_of_mem _ hx)
    refine ⟨?_, ?_, ?_, ?_, ?_, ?_⟩
    · exact Bool.and_eq_true_iff.mpr ⟨a.nd, b.nd⟩
    · exact Bool.and_eq_true_iff.mpr ⟨a.sh, b.sh⟩
    · exact Bool.and_eq_true_iff.mpr ⟨a.lv, b.lv⟩
    · exact Bool.and_eq_true_iff.mpr ⟨a.la, b.la⟩
    · simp only [PyData.depthAll]
      have := a.dp
      have := b.dp
      omega
    · simp only [PyData.bulkAll, List.length_cons]
      have h1 := a.bk
      have h2 := b.bk
      rw [Nat.mul_succ]
      omega
theorem sh_tup {k n : Nat} {ds : List D} (h : ∀ d ∈ ds, Sh k n d) : Sh (k + 1) ((n + 1) * ds.length) (.tuple ds) := by
  have a := sha ds h
  refine ⟨a.nd, a.sh, a.lv, a.la, ?_, a.bk⟩
  simp only [PyData.depth]
  have := a.dp
  omega
theorem Sh.mono {k n k' n' : Nat} {d : D} (h : Sh k n d) (hk : k ≤ k') (hn : n ≤ n') : Sh k' n' d := ⟨h.nd, h.sh, h.lv, h.la, Nat.le_trans h.dp hk, Nat.le_trans h.bk hn⟩
theorem sh_int {i : Int} (h0 : 0 ≤ i) (h1 : i ≤ 999) : Sh 0 0 (.int i) := by
  refine ⟨rfl, ?_, ?_, rfl, Nat.le_refl _, Nat.le_refl _⟩
  · show decide (i.natAbs.log2 < 1920) = true
    refine decide_eq_true ?_
    by_cases z : i.natAbs = 0
    · rw [z]
      decide
    · have : i.natAbs.log2 < 10 := (Nat.log2_lt z).mpr (by omega)
      omega
  · show decide ((PyData.shown (.int i)).length ≤ 13) = true
    exact decide_eq_true (PyData.shown_int_le2 (by omega) (by omega))
theorem sh_str {z : Str} (o : OkStr z) : Sh 0 40 (.str z) := by
  refine ⟨rfl, rfl, ?_, o.lay, Nat.le_refl _, ?_⟩
  · show (z.cps.toList.all fun c => decide (c < 16 ^ 8)) = true
    rw [List.all_eq_true]
    intro c hc
    have := o.ok c hc
    refine decide_eq_true ?_
    have e : 16 ^ 8 = 4294967296 := by decide
    omega
  · show z.cps.size ≤ 40
    have := o.l2
    (rw [Array.length_toList] at this)
    exact this
theorem sh_text {x : D} (h : OT x) : Sh 1 164 x := by
  obtain ⟨ls, rfl, _, l4, o⟩ := h
  have := sh_tup (k := 0) (n := 40) (ds := ls.map PyData.str) fun d hd => by
    obtain ⟨z, hz, rfl⟩ := List.mem_map.mp hd
    exact sh_str (o z hz)
  refine this.mono (Nat.le_refl _) ?_
  rw [List.length_map]
  omega
theorem sh_cue {c : Cue} (g : GC c) : Sh 2 495 c.d := by
  have f0 := g.f0
  have ft := g.ft
  have t1 := g.t1
  refine (sh_tup (k := 1) (n := 164) (ds := [.int c.f, .int c.t, c.x]) fun d hd => ?_).mono (Nat.le_refl _) (by simp)
  simp at hd
  rcases hd with rfl | rfl | rfl
  · exact (sh_int f0 (by omega)).mono (by omega) (by omega)
  · exact (sh_int (by omega) (by omega)).mono (by omega) (by omega)
  · exact sh_text g.x
theorem sh_file {cs : List Cue} (g : GF cs) (l : cs.length ≤ 60) : Sh 3 29760 (fileD cs) := by
  refine (sh_tup (k := 2) (n := 495) (ds := cs.map Cue.d) fun d hd => ?_).mono (Nat.le_refl _) (by rw [List.length_map]; omega)
  obtain ⟨c, hc, rfl⟩ := List.mem_map.mp hd
  exact sh_cue (g c hc)
end Q78
namespace Q78
open PySem L2 DL
def Fol (c d : Cue) : Prop := c.t < d.f ∨ (c.t = d.f ∧ PyData.eqv d.x c.x = false)
theorem canon_fol {S : Int → D} (hE : ∀ i j, isN (S i) = false → PyData.eqv (S i) (S j) = true → S i = S j) (hS : ∀ i j, PyData.eqv (S i) (S j) = PyData.eqv (S j) (S i)) : ∀ N : Nat, (canon S N).Pairwise Fol
  | 0 => List.Pairwise.nil
  | N + 1 => by
    have ih := canon_fol hE hS N
    have h := ci_canon hE N
    rw [canon_succ]
    generalize canon S N = cs at h ih
    by_cases z : isN (S N) = true
    · have e : addRun cs N ((N : Int) + 1) (S N) = cs := if_pos z
      rw [e]
      exact ih
    · have z' : isN (S N) = false := by simpa using z
      rcases List.eq_nil_or_concat cs with rfl | ⟨ini, c, rfl⟩
      · have e : addRun [] N ((N : Int) + 1) (S N) = [⟨N, (N : Int) + 1, S N⟩] := by unfold addRun; rw [if_neg z]; rfl
        rw [e]
        simp
      · rw [List.concat_eq_append] at h ih ⊢
        rw [addRun_snoc z']
        have mc : c ∈ ini ++ [c] := by simp
        obtain ⟨c0, c1, c2, c3⟩ := h.ok c mc
        have dj := h.dj
        rw [List.pairwise_append] at ih dj
        by_cases hc : c.t = N ∧ PyData.eqv c.x (S N) = true
        · rw [if_pos hc, List.pairwise_append]
          have ex : c.x = S c.f := h.eq c mc c.f (by omega) c1
          have eS : S c.f = S N := hE _ _ (by rw [← ex]; exact c3) (by rw [← ex]; exact hc.2)
          refine ⟨ih.1, by simp, fun d hd e he => ?_⟩
          simp at he
          subst he
          have := ih.2.2 d hd c (by simp)
          unfold Fol at this ⊢
          show d.t < c.f ∨ (d.t = c.f ∧ PyData.eqv (S N) d.x = false)
          rw [← eS, ← ex]
          exact this
        · rw [if_neg hc, List.pairwise_append]
          refine ⟨?_, by simp, fun d hd e he => ?_⟩
          · rw [List.pairwise_append]
            exact ih
          simp at he
          subst he
          show d.t < (N : Int) ∨ (d.t = (N : Int) ∧ PyData.eqv (S N) d.x = false)
          rcases List.mem_append.mp hd with hd | hd
          · have := dj.2.2 d hd c (by simp)
            left
            omega
          · simp at hd
            subst hd
            by_cases q : d.t = (N : Int)
            · right
              refine ⟨q, ?_⟩
              have ex : d.x = S d.f := h.eq d mc d.f (by omega) c1
              rw [ex] at hc ⊢
              rw [hS]
              have : ¬ PyData.eqv (S d.f) (S N) = true := fun y => hc ⟨q, y⟩
              simpa using this
            · left
              omega
def df (A B : List Cue) (fr : Int) : Bool := !PyData.eqv (textAt A fr) (textAt B fr)
/-- the first one, as a value -/
inductive Fst (A B : List Cue) : D → Prop where
  | no (h : ∀ fr : Int, 0 ≤ fr → df A B fr = false) : Fst A B .none
  | at (k : Int) (h0 : 0 ≤ k) (h : df A B k = true) (hm : ∀ fr : Int, 0 ≤ fr → fr < k → df A B fr = false) : Fst A B (.int k)
theorem text_ok {A : List Cue} (g : GF A) (fr : Int) : okD (textAt A fr) := by
  by_cases z : isN (textAt A fr) = true
  · rw [isN_eq z]
    show SeqAt.shaped _ = true
    decide
  · obtain ⟨c, hc, e⟩ := text_some (by simpa using z)
    rw [e]
    exact (g c hc).x.tx.ok
theorem text_congr {A : List Cue} {s fr : Int} (h : ∀ c ∈ A, (c.f ≤ fr ↔ c.f ≤ s) ∧ (fr < c.t ↔ s < c.t)) : textAt A fr = textAt A s := by
  unfold textAt topAt
  rw [top_congr A none h]
theorem bor_ahead {A B : List Cue} (gA : GF A) (gB : GF B) {Bs : List Int} (hB : Bor [A, B] Bs) {fr : Int} (d : df A B fr = true) : ∃ b ∈ Bs, b ≤ fr ∧ df A B b = true := by
  have inB : ∀ c, c ∈ A ∨ c ∈ B → c.f ∈ Bs ∧ c.t ∈ Bs := by
    intro c hc
    refine ⟨(hB.mem _).mpr ?_, (hB.mem _).mpr ?_⟩
    all_goals rcases hc with hc | hc
    · exact ⟨A, by simp, c, hc, .inl rfl⟩
    · exact ⟨B, by simp, c, hc, .inl rfl⟩
    · exact ⟨A, by simp, c, hc, .inr rfl⟩
    · exact ⟨B, by simp, c, hc, .inr rfl⟩
  -- something begins at or ahead of the frame
  obtain ⟨c, hc, c1⟩ : ∃ c, (c ∈ A ∨ c ∈ B) ∧ c.f ≤ fr := by
    (refine Classical.byContradiction fun hn => ?_)
    have hn' : ∀ c, (c ∈ A ∨ c ∈ B) → ¬ c.f ≤ fr := fun c hc h => hn ⟨c, hc, h⟩
    have e1 : textAt A fr = .none := text_none fun c hc y => hn' c (.inl hc) y.1
    have e2 : textAt B fr = .none := text_none fun c hc y => hn' c (.inr hc) y.1
    unfold df at d
    rw [e1, e2] at d
    simp [PyData.eqv] at d
  -- the greatest border up to there
  obtain ⟨b, hb, b1, b2⟩ : ∃ b ∈ Bs, b ≤ fr ∧ ∀ j ∈ Bs, j ≤ fr → j ≤ b := by
    have key : ∀ (l : List Int), (∃ j ∈ l, j ≤ fr) → ∃ b ∈ l, b ≤ fr ∧ ∀ j ∈ l, j ≤ fr → j ≤ b := by
      intro l
      induction l with
      | nil => rintro ⟨j, hj, _⟩; cases hj
      | cons x l ih =>
        intro hx
        by_cases hl : ∃ j ∈ l, j ≤ fr
        · obtain ⟨b, hb, b1, b2⟩ := ih hl
          by_cases q : x ≤ fr ∧ b < x
          · refine ⟨x, List.mem_cons_self .., q.1, fun j hj hjf => ?_⟩
            rcases List.mem_cons.mp hj with rfl | hj
            · omega
            · have := b2 j hj hjf; omega
          · refine ⟨b, List.mem_cons_of_mem _ hb, b1, fun j hj hjf => ?_⟩
            rcases List.mem_cons.mp hj with rfl | hj
            · omega
            · exact b2 j hj hjf
        · obtain ⟨j, hj, hjf⟩ := hx
          rcases List.mem_cons.mp hj with rfl | hj
          · refine ⟨j, List.mem_cons_self .., hjf, fun i hi hif => ?_⟩
            rcases List.mem_cons.mp hi with rfl | hi
            · omega
            · exact absurd ⟨i, hi, hif⟩ hl
          · exact absurd ⟨j, hj, hjf⟩ hl
    exact key Bs ⟨c.f, (inB c hc).1, c1⟩
  have cg : ∀ c, (c ∈ A ∨ c ∈ B) → (c.f ≤ fr ↔ c.f ≤ b) ∧ (fr < c.t ↔ b < c.t) := by
    intro c hc
    obtain ⟨i1, i2⟩ := inB c hc
    refine ⟨⟨fun h => b2 _ i1 h, fun h => by omega⟩, ⟨fun h => by omega, fun h => ?_⟩⟩
    refine Classical.byContradiction fun n => ?_
    have := b2 _ i2 (by omega)
    omega
  refine ⟨b, hb, b1, ?_⟩
  unfold df at d ⊢
  rw [← text_congr (A := A) (s := b) (fr := fr) fun c hc => cg c (.inl hc), ← text_congr (A := B) (s := b) (fr := fr) fun c hc => cg c (.inr hc)]
  exact d
theorem ap_loop {A B : List Cue} (gA : GF A) (gB : GF B) {E : DE} : ∀ (Bs : List Int) (s2 : Sl), Bs.Pairwise (· < ·) → ((∀ b ∈ Bs, df A B b = false) → ∀ s2, E.nx [.im (fileD A), .im (fileD B), s2]) → (∀ b ∈ Bs, df A B b = true → (∀ j ∈ Bs, j < b → df A B j = false) → ∀ s2, E.rt (.int b) [.im (fileD A), .im (fileD B), s2]) →
    forL (gN 2) (sIf (bD (d2 gNe (hV (dCall 2 r_text_at (aCons (dV 0) (aCons (dV 2) (aNil))))) (hV (dCall 2 r_text_at (aCons (dV 1) (aCons (dV 2) (aNil))))))) (sRet (dV 2)) (sNo)) E (Bs.map PyData.int) [.im (fileD A), .im (fileD B), s2]
  | [], s2, _, hn, _ => hn (fun _ z => nomatch z) s2
  | b :: Bs, s2, hp, hn, hr => by
    rw [List.pairwise_cons] at hp
    refine ⟨rfl, rfl, d_text_at ?_⟩
    refine ⟨rfl, rfl, d_text_at ?_⟩
    refine ⟨text_ok gA b, text_ok gB b, ?_⟩
    show if df A B b = true then _ else _
    by_cases z : df A B b = true
    · rw [if_pos z]
      refine hr b (List.mem_cons_self ..) z (fun j hj hjb => ?_) _
      rcases List.mem_cons.mp hj with rfl | hj
      · omega
      · have := hp.1 j hj; omega
    · rw [if_neg z]
      have z' : df A B b = false := by simpa using z
      refine ap_loop gA gB Bs _ hp.2 (fun h => hn fun j hj => ?_) fun j hj hd hm => hr j (List.mem_cons_of_mem _ hj) hd fun i hi hij => ?_
      · rcases List.mem_cons.mp hj with rfl | hj
        · exact z'
        · exact h j hj
      · rcases List.mem_cons.mp hi with rfl | hi
        · exact z'
        · exact hm i hi hij
theorem d_apart {A B : List Cue} (gA : GF A) (gB : GF B) (l : A.length + B.length ≤ 31) {m : Nat} {P : D → Nat → Prop} (h : ∀ d, Fst A B d → P d 0) : r_apart [.d (fileD A), .d (fileD B)] m P := by
  refine ⟨rfl, rfl, d_need_file (by omega) (fun c hc => (gA c hc).ok) ?_⟩
  refine ⟨rfl, rfl, d_need_file (by omega) (fun c hc => (gB c hc).ok) ?_⟩
  refine ⟨(by show 2 ≤ 1000000; omega), rfl, rfl, d_bounds (Ls := [A, B]) (by simp; omega) fun Bs hB => ?_⟩
  have pos : ∀ b ∈ Bs, 0 ≤ b := by
    intro b hb
    obtain ⟨cs, hcs, c, hc, e⟩ := (hB.mem b).mp hb
    have g : GC c := by
      simp at hcs
      rcases hcs with rfl | rfl
      · exact gA c hc
      · exact gB c hc
    have := g.f0
    have := g.ft
    omega
  show forL _ _ _ (Bs.map PyData.int) _
  refine ap_loop gA gB Bs _ hB.asc (fun hn s2 => ⟨hd_d, h _ (.no fun fr h0 => ?_)⟩) fun b hb hd hm s2 => ⟨hd_d, h _ (.at b (pos b hb) hd fun fr h0 hf => ?_)⟩
  · refine Classical.byContradiction fun n => ?_
    obtain ⟨b, hb, _, d⟩ := bor_ahead gA gB hB (fr := fr) (by simpa using n)
    rw [hn b hb] at d
    cases d
  · refine Classical.byContradiction fun n => ?_
    obtain ⟨j, hj, j1, d⟩ := bor_ahead gA gB hB (fr := fr) (by simpa using n)
    rw [hm j hj (by omega)] at d
    cases d
theorem d_alike {A B : List Cue} (gA : GF A) (gB : GF B) (l : A.length + B.length ≤ 31) {m : Nat} {P : D → Nat → Prop} (h : ∀ d, Fst A B d → P (.bool (isN d)) 0) : r_alike [.d (fileD A), .d (fileD B)] m P :=
  ⟨rfl, rfl, d_apart gA gB l fun d hd => ⟨hd_d, h d hd⟩⟩
theorem ex_bor {Ls : List (List Cue)} (g : ∀ cs ∈ Ls, GF cs) : ∃ B, Bor Ls B := by
  refine ⟨((List.range 91).map fun i : Nat => (i : Int)).filter fun j => decide (j ∈ accL Ls), ?_, fun j => ?_, ?_⟩
  · refine List.Pairwise.filter _ ?_
    rw [List.pairwise_map]
    refine List.Pairwise.imp ?_ (List.pairwise_lt_range)
    intro a b h
    omega
  · rw [List.mem_filter, List.mem_map]
    have e : j ∈ accL Ls ↔ ∃ cs ∈ Ls, ∃ c ∈ cs, j = c.f ∨ j = c.t := by
      unfold accL
      rw [foldL_mem]
      simp
    constructor
    · rintro ⟨_, h⟩
      exact e.mp (by simpa using h)
    · intro h
      refine ⟨?_, by simpa using e.mpr h⟩
      obtain ⟨cs, hcs, c, hc, q⟩ := h
      have b := g cs hcs c hc
      have b0 := b.f0
      have b1 := b.ft
      have b2 := b.t1
      exact ⟨j.toNat, List.mem_range.mpr (by omega), by omega⟩
  · have h1 := foldL_len Ls []
    rw [List.length_nil, Nat.zero_add] at h1
    refine Nat.le_trans (len_sub ?_ fun x hx => ?_) h1
    · refine List.Pairwise.filter _ ?_
      rw [List.pairwise_map]
      refine List.Pairwise.imp ?_ (List.pairwise_lt_range)
      intro a b h
      omega
    · rw [List.mem_filter] at hx
      have h2 : x ∈ accL Ls := by simpa using hx.2
      exact h2
theorem canon_len {Ls : List (List Cue)} (g : ∀ cs ∈ Ls, GF cs) : (canon (seenL Ls) 90).length ≤ 2 * (Ls.map List.length).sum - 1 := by
  obtain ⟨B, hB⟩ := ex_bor g
  have e := runs_canon hB (g_rf g) (fun cs hcs c hc => ⟨(g cs hcs c hc).f0, (g cs hcs c hc).ft⟩) (N := 90) fun cs hcs c hc => (g cs hcs c hc).t1
  rw [← e]
  have h1 := runs_len (S := seenL Ls) (B.zip B.tail) []
  have h2 := hB.len
  rw [List.length_zip] at h1
  simp at h1
  omega
theorem seen1 {A : List Cue} : seenL [A] = textAt A := by
  funext fr
  show (if isN (textAt A fr) = true then .none else textAt A fr) = _
  by_cases z : isN (textAt A fr) = true
  · rw [if_pos z, isN_eq z]
  · rw [if_neg z]
/-- the flat file of a file -/
def fl (A : List Cue) : List Cue := canon (seenL [A]) 90
theorem gf1 {A : List Cue} (a : GF A) : ∀ cs ∈ [A], GF cs := by
  intro cs h
  simp at h
  rw [h]
  exact a
theorem fl_good {A : List Cue} (g : GF A) : GF (fl A) := canon_good (gf1 g)
theorem fl_text {A : List Cue} (g : GF A) (fr : Int) : textAt (fl A) fr = textAt A fr := by
  show textAt (canon (seenL [A]) 90) fr = _
  rw [text_flat (gf1 g), seen1]
theorem fl_len {A : List Cue} (g : GF A) : (fl A).length ≤ 2 * A.length - 1 := by
  have := canon_len (gf1 g)
  show (canon (seenL [A]) 90).length ≤ _
  simpa using this
theorem eqv_symm_t {A : List Cue} (g : GF A) (i j : Int) : PyData.eqv (seenL [A] i) (seenL [A] j) = PyData.eqv (seenL [A] j) (seenL [A] i) := by
  by_cases e1 : PyData.eqv (seenL [A] i) (seenL [A] j) = true
  · by_cases z : isN (seenL [A] i) = true
    · by_cases z2 : isN (seenL [A] j) = true
      · rw [isN_eq z, isN_eq z2]
      · have z2' : isN (seenL [A] j) = false := by simpa using z2
        obtain ⟨ls, el, _⟩ := seen_ot (gf1 g) z2'
        rw [isN_eq z, el] at e1
        simp [textD, PyData.eqv] at e1
    · rw [g_eq (gf1 g) i j (by simpa using z) e1]
  · by_cases e2 : PyData.eqv (seenL [A] j) (seenL [A] i) = true
    · by_cases z : isN (seenL [A] j) = true
      · by_cases z2 : isN (seenL [A] i) = true
        · rw [isN_eq z, isN_eq z2]
        · have z2' : isN (seenL [A] i) = false := by simpa using z2
          obtain ⟨ls, el, _⟩ := seen_ot (gf1 g) z2'
          rw [isN_eq z, el] at e2
          simp [textD, PyData.eqv] at e2
      · rw [g_eq (gf1 g) j i (by simpa using z) e2]
    · have a : PyData.eqv (seenL [A] i) (seenL [A] j) = false := by simpa using e1
      have b : PyData.eqv (seenL [A] j) (seenL [A] i) = false := by simpa using e2
      rw [a, b]
theorem fl_fol {A : List Cue} (g : GF A) : (fl A).Pairwise Fol := canon_fol (g_eq (gf1 g)) (eqv_symm_t g) 90
end Q78
namespace Q78
open PySem L2 DL
theorem rg_nat (n : Nat) : rgD 0 (n : Int) = (List.range n).map fun i : Nat => .int (i : Int) := by
  unfold rgD
  simp
/-- a comprehension with a test -/
theorem lcL_filt {t : TM} {b : BM} {f : DM} {vs : List Nat} {K : List D → DL.Env → Prop} {ρ : DL.Env} (p : D → Bool) (g : D → D) : ∀ (ds acc : List D),
    (∀ d ∈ ds, ∀ (Q : D → DL.Env → Prop) (R : DL.Env → Prop), (p d = true → ∀ ρ3, wipeE ρ3 vs = ρ → Q (g d) ρ3) → (p d = false → ∀ ρ3, wipeE ρ3 vs = ρ → R ρ3) → t d ρ fun ρ1 => b ρ1 fun k ρ2 => if k = true then f ρ2 Q else R ρ2) →
    K (acc ++ (ds.filter p).map g) ρ → lcL t b f vs K ds acc ρ
  | [], acc, _, hk => by
    show K acc ρ
    simpa using hk
  | d :: ds, acc, h, hk => by
    refine h d (List.mem_cons_self ..) (fun y ρ3 => lcL t b f vs K ds (acc ++ [y]) (wipeE ρ3 vs)) (fun ρ3 => lcL t b f vs K ds acc (wipeE ρ3 vs)) (fun hp ρ3 e => ?_) fun hp ρ3 e => ?_
    · show lcL t b f vs K ds (acc ++ [g d]) (wipeE ρ3 vs)
      rw [e]
      refine lcL_filt p g ds (acc ++ [g d]) (fun d' hd => h d' (List.mem_cons_of_mem _ hd)) ?_
      rw [List.filter_cons_of_pos hp] at hk
      simpa using hk
    · show lcL t b f vs K ds acc (wipeE ρ3 vs)
      rw [e]
      refine lcL_filt p g ds acc (fun d' hd => h d' (List.mem_cons_of_mem _ hd)) ?_
      rw [List.filter_cons_of_neg (by rw [hp]; exact Bool.false_ne_true)] at hk
      exact hk
end Q78
namespace Q78
open PySem L2 DL
theorem atI_nat {l : List D} {i : Nat} {d : D} (h : l[i]? = some d) : atI l (i : Int) = some d := by
  have hi : i < l.length := (List.getElem?_eq_some_iff.mp h).1
  unfold atI ixN
  (rw [if_pos (by omega), if_pos (by omega)])
  exact h
theorem nodt {A : List Cue} (g : GF A) (fr : Int) : nod (textAt A fr) = true := by
  by_cases z : isN (textAt A fr) = true
  · rw [isN_eq z]
    rfl
  · obtain ⟨c, hc, e⟩ := text_some (by simpa using z)
    rw [e]
    exact (g c hc).x.nod
end Q78
namespace Q78
open PySem L2 DL
def cueN (cs : List Cue) (i : Nat) : Cue := cs.getD i ⟨0, 0, .none⟩
def adj (cs : List Cue) (i : Nat) : Bool := decide ((cueN cs i).t = (cueN cs (i + 1)).f)
def same (cs : List Cue) (i j : Nat) : Bool := PyData.eqv (cueN cs i).x (cueN cs j).x
/-- those ahead of high, the nearest first, up to a gap -/
def scan (cs : List Cue) (high : Nat) : Nat → List Nat
  | 0 => []
  | n + 1 => if adj cs n = true then (if same cs n high = true then [n] else []) ++ scan cs high n else []
def prt (cs : List Cue) (high : Nat) : List Nat := scan cs high high
def joi (b : Nat → Nat → Int) (low high p : Nat) : Int := b low p + if p + 1 < high then b (p + 1) (high - 1) else 0
def minI (x : Int) (xs : List Int) : Int := xs.foldl min x
def bv (pt : Nat → List Nat) : Nat → Nat → Nat → Int
  | 0, _, _ => 1
  | n + 1, low, high => if low = high then 1 else minI (bv pt n low (high - 1) + 1) (((pt high).filter fun p => decide (low ≤ p)).map (joi (bv pt n) low high))
def val (pt : Nat → List Nat) (low high : Nat) : Int := bv pt (high - low + 1) low high
theorem minI_mem : ∀ (xs : List Int) (x : Int), minI x xs ∈ x :: xs
  | [], x => List.mem_singleton.mpr rfl
  | y :: xs, x => by
    have h := minI_mem xs (min x y)
    show minI (min x y) xs ∈ _
    (rcases List.mem_cons.mp h with e | e)
    · rw [e]
      by_cases z : x ≤ y
      · rw [Int.min_eq_left z]
        exact List.mem_cons_self
      · rw [Int.min_eq_right (by omega)]
        exact List.mem_cons_of_mem _ List.mem_cons_self
    · exact List.mem_cons_of_mem _ (List.mem_cons_of_mem _ e)
theorem minI_le : ∀ (xs : List Int) (x : Int), ∀ y ∈ x :: xs, minI x xs ≤ y
  | [], x, y, h => by
    rw [List.mem_singleton.mp h]
    exact Int.le_refl _
  | z :: xs, x, y, h => by
    have k := minI_le xs (min x z)
    show minI (min x z) xs ≤ y
    (rcases List.mem_cons.mp h with rfl | h)
    · have := k _ List.mem_cons_self
      omega
    · (rcases List.mem_cons.mp h with rfl | h)
      · have := k _ List.mem_cons_self
        omega
      · exact k y (List.mem_cons_of_mem _ h)
theorem minI_is {x m : Int} {xs : List Int} (hm : m ∈ x :: xs) (hl : ∀ y ∈ x :: xs, m ≤ y) : m = minI x xs := by
  have h1 := hl _ (minI_mem xs x)
  have h2 := minI_le xs x m hm
  omega
theorem scan_lt (cs : List Cue) (high : Nat) : ∀ n, ∀ p ∈ scan cs high n, p < n
  | 0, p, h => nomatch h
  | n + 1, p, h => by
    unfold scan at h
    split at h
    · (rcases List.mem_append.mp h with h | h)
      · split at h
        · rw [List.mem_singleton.mp h]
          omega
        · cases h
      · have := scan_lt cs high n p h
        omega
    · cases h
section
variable {pt : Nat → List Nat} (lt : ∀ high, ∀ p ∈ pt high, p < high)
include lt
theorem bv_more : ∀ (n m low high : Nat), low ≤ high → high - low < n → high - low < m → bv pt n low high = bv pt m low high
  | 0, _, _, _, _, h, _ => by omega
  | _ + 1, 0, _, _, _, _, h => by omega
  | n + 1, m + 1, low, high, h0, h1, h2 => by
    unfold bv
    by_cases z : low = high
    · rw [if_pos z, if_pos z]
    · rw [if_neg z, if_neg z]
      have e1 : bv pt n low (high - 1) = bv pt m low (high - 1) := bv_more n m low (high - 1) (by omega) (by omega) (by omega)
      have e2 : ((pt high).filter fun p => decide (low ≤ p)).map (joi (bv pt n) low high) = ((pt high).filter fun p => decide (low ≤ p)).map (joi (bv pt m) low high) := by
        (refine List.map_congr_left fun p hp => ?_)
        obtain ⟨h3, h4⟩ := List.mem_filter.mp hp
        have h3 := lt high p h3
        have h4 := of_decide_eq_true h4
        unfold joi
        rw [bv_more n m low p h4 (by omega) (by omega)]
        by_cases y : p + 1 < high
        · rw [if_pos y, if_pos y, bv_more n m (p + 1) (high - 1) (by omega) (by omega) (by omega)]
        · rw [if_neg y, if_neg y]
      rw [e1, e2]
theorem val_eq {low high : Nat} (h : low < high) : val pt low high = minI (val pt low (high - 1) + 1) (((pt high).filter fun p => decide (low ≤ p)).map (joi (val pt) low high)) := by
  unfold val
  rw [bv, if_neg (by omega)]
  have e1 : bv pt (high - low) low (high - 1) = bv pt (high - 1 - low + 1) low (high - 1) := bv_more lt _ _ low (high - 1) (by omega) (by omega) (by omega)
  have e2 : ((pt high).filter fun p => decide (low ≤ p)).map (joi (bv pt (high - low)) low high) = ((pt high).filter fun p => decide (low ≤ p)).map (joi (fun low high => bv pt (high - low + 1) low high) low high) := by
    (refine List.map_congr_left fun p hp => ?_)
    obtain ⟨h3, h4⟩ := List.mem_filter.mp hp
    have h3 := lt high p h3
    have h4 := of_decide_eq_true h4
    unfold joi
    rw [bv_more lt (high - low) (p - low + 1) low p h4 (by omega) (by omega)]
    by_cases y : p + 1 < high
    · rw [if_pos y, if_pos y, bv_more lt (high - low) (high - 1 - (p + 1) + 1) (p + 1) (high - 1) (by omega) (by omega) (by omega)]
    · rw [if_neg y, if_neg y]
  rw [e1, e2]
omit lt in
theorem val_one (low : Nat) : val pt low low = 1 := by
  unfold val
  rw [bv, if_pos rfl]
end
def few (cs : List Cue) : Int := if cs.length = 0 then 0 else val (prt cs) 0 (cs.length - 1)
def natD (l : List Nat) : D := .list (l.map fun i : Nat => .int (i : Int))
structure Tx3 (cs : List Cue) : Prop where
  ok : ∀ c ∈ cs, okD c.x
  l : cs.length ≤ 1000
theorem cue_get {cs : List Cue} {i : Nat} (h : i < cs.length) : cueN cs i ∈ cs ∧ (cs.map Cue.d)[i]? = some (cueN cs i).d := by
  unfold cueN
  rw [List.getD_eq_getElem?_getD, List.getElem?_eq_getElem h]
  refine ⟨List.getElem_mem h, ?_⟩
  rw [List.getElem?_map, List.getElem?_eq_getElem h]
  rfl
abbrev paC : BM := bAnd (bD (d2 gGe (hS 4) (hV (dC (.int 0))))) (bD (d2 gEq (hV (d2 gIx (hV (d2 gIx (hS 0) (hS 4))) (hV (dC (.int 1))))) (hV (d2 gIx (hV (d2 gIx (hS 0) (hV (d2 gAdd (hS 4) (hV (dC (.int 1))))))) (hV (dC (.int 0)))))))
abbrev paB : SM := sSeq (sIf (bD (d2 gEq (hV (d2 gIx (hV (d2 gIx (hS 0) (hS 4))) (hV (dC (.int 2))))) (hV (d2 gIx (hV (d2 gIx (hS 0) (hS 2))) (hV (dC (.int 2))))))) (sApp 3 (dV 4)) (sNo)) (sAug 4 gIsub (hV (dC (.int 1))))
theorem eqI (a b : Int) : PyData.eqv (.int a) (.int b) = decide (a = b) := by
  by_cases h : a = b <;> simp [PyData.eqv, h]
theorem pa_while {cs : List Cue} {E : DE} {s1 : Sl} {high : Nat} (t : Tx3 cs) (hh : high < cs.length)
    (h : ∀ s4, E.nx [.im (fileD cs), s1, .im (.int (high : Nat)), .ow (natD (prt cs high)), s4]) :
    sWhile paC paB E [.im (fileD cs), s1, .im (.int (high : Nat)), .ow (.list []), .im (.int ((high : Nat) - 1))] := by
  refine ⟨fun n ρ => ∃ (acc : List Nat), ρ = [.im (fileD cs), s1, .im (.int (high : Nat)), .ow (natD acc), .im (.int ((n : Nat) - 1))] ∧ n ≤ high ∧ acc ++ scan cs high n = prt cs high ∧ acc.length + n ≤ high, ⟨high, [], rfl, Nat.le_refl _, rfl, by simp⟩, ?_⟩
  rintro n ρ ⟨acc, rfl, hn, e, la⟩
  refine ⟨trivial, ?_⟩
  show if decide ((0 : Int) ≤ (n : Nat) - 1) = true then _ else _
  cases n with
  | zero =>
    rw [if_neg (by simp)]
    rw [scan, List.append_nil] at e
    rw [if_neg (by decide), e]
    exact h _
  | succ k =>
    rw [if_pos (decide_eq_true (by omega))]
    have ek : (((k + 1 : Nat) : Int) - 1) = ((k : Nat) : Int) := by omega
    rw [ek]
    have g1 := cue_get (cs := cs) (i := k) (by omega)
    have g2 := cue_get (cs := cs) (i := k + 1) (by omega)
    have g3 := cue_get (cs := cs) (i := high) hh
    refine ⟨trivial, trivial, (cueN cs k).d, atI_nat g1.2, _, rfl, trivial, trivial, (cueN cs (k + 1)).d, ?_, _, rfl, rfl, rfl, ?_⟩
    · have : ((k : Nat) : Int) + 1 = ((k + 1 : Nat) : Int) := by omega
      rw [this]
      exact atI_nat g2.2
    rw [eqI]
    show if adj cs k = true then _ else _
    by_cases z : adj cs k = true
    · rw [if_pos z]
      rw [scan, if_pos z, ← List.append_assoc] at e
      refine ⟨trivial, trivial, (cueN cs k).d, atI_nat g1.2, _, rfl, trivial, trivial, (cueN cs high).d, atI_nat g3.2, _, rfl, t.ok _ g1.1, t.ok _ g3.1, ?_⟩
      show if same cs k high = true then _ else _
      by_cases y : same cs k high = true
      · rw [if_pos y]
        rw [if_pos y] at e
        have l1 := t.l
        refine ⟨trivial, by rw [List.length_map]; omega, ?_⟩
        refine ⟨trivial, ?_⟩
        refine ⟨k, by omega, acc ++ [k], ?_, by omega, e, by simp; omega⟩
        unfold natD
        rw [List.map_append]
        rfl
      · rw [if_neg y]
        rw [if_neg y, List.append_nil] at e
        refine ⟨trivial, ?_⟩
        exact ⟨k, by omega, acc, rfl, by omega, e, by omega⟩
    · rw [if_neg z]
      rw [scan, if_neg z, List.append_nil] at e
      rw [e]
      exact h _
theorem pa_loop {cs : List Cue} {E : DE} (t : Tx3 cs) : ∀ (hs : List Nat) (acc : List D) (s2 s3 s4 : Sl), (∀ h ∈ hs, h < cs.length) → acc.length + hs.length ≤ 1000 →
    (∀ s2 s3 s4, E.nx [.im (fileD cs), .ow (.list (acc ++ hs.map fun h => natD (prt cs h))), s2, s3, s4]) →
    forL (gN 2) (sSeq (sSetN 3 (dLst (lNil))) (sSeq (sSet 4 (d2 DL.gSub (hS 2) (hV (dC (.int 1))))) (sSeq (sWhile paC paB) (sApp 1 (dV 3))))) E (hs.map fun h : Nat => .int (h : Int)) [.im (fileD cs), .ow (.list acc), s2, s3, s4]
  | [], acc, s2, s3, s4, _, _, h => by
    have := h s2 s3 s4
    rw [List.map_nil, List.append_nil] at this
    exact this
  | x :: hs, acc, s2, s3, s4, hl, ln, h => by
    rw [List.length_cons] at ln
    refine ⟨(by show 0 ≤ 1000000; omega), trivial, ?_⟩
    refine pa_while t (hl x List.mem_cons_self) fun s4 => ?_
    (refine ⟨trivial, by omega, ?_⟩)
    refine pa_loop t hs (acc ++ [natD (prt cs x)]) _ _ _ (fun y hy => hl y (List.mem_cons_of_mem _ hy)) (by simp; omega) fun s2 s3 s4 => ?_
    have := h s2 s3 s4
    rw [List.append_assoc]
    exact this
theorem d_partners {cs : List Cue} (t : Tx3 cs) {m : Nat} {P : D → Nat → Prop} (h : P (.list ((List.range cs.length).map fun h => natD (prt cs h))) 0) : r__all_partners [.d (fileD cs)] m P := by
  have l := t.l
  refine ⟨(by show 0 ≤ 1000000; omega), ?_⟩
  refine ⟨trivial, ⟨by rw [List.length_map]; omega, by rw [List.length_map]; omega⟩, ?_⟩
  have e : rgD 0 (((cs.map Cue.d).length : Nat) : Int) = (List.range cs.length).map fun h : Nat => .int (h : Int) := by
    rw [List.length_map]
    exact rg_nat _
  rw [e]
  refine pa_loop t (List.range cs.length) [] _ _ _ (fun x hx => List.mem_range.mp hx) (by simp; omega) fun s2 s3 s4 => ?_
  exact ⟨hd_d, h⟩
end Q78
namespace Q78
open PySem L2 DL
theorem bb_at {n low high k x : Nat} {v : Nat → Nat → Int} (hk : k < n) (h : (k = low ∧ low ≤ x ∧ x < high) ∨ (low < k ∧ k ≤ x ∧ x < n)) : ∃ r, (bbRows n v low high)[k]? = some r ∧ r[x - k]? = some (v k x) := by
  unfold bbRows
  rw [List.getElem?_map, List.getElem?_range hk]
  rcases h with ⟨rfl, h1, h2⟩ | ⟨h0, h1, h2⟩
  · refine ⟨(List.range (high - k)).map fun j => v k (k + j), ?_, ?_⟩
    · show some (if k < k then _ else if k = k then _ else _) = _
      rw [if_neg (Nat.lt_irrefl _), if_pos rfl]
    · rw [List.getElem?_map, List.getElem?_range (by omega)]
      show some (v k (k + (x - k))) = _
      rw [show k + (x - k) = x by omega]
  · refine ⟨(List.range (n - k)).map fun j => v k (k + j), ?_, ?_⟩
    · show some (if k < low then _ else if k = low then _ else _) = _
      (rw [if_neg (by omega), if_neg (by omega)])
    · rw [List.getElem?_map, List.getElem?_range (by omega)]
      show some (v k (k + (x - k))) = _
      rw [show k + (x - k) = x by omega]
section
variable {n low high : Nat} {v : Nat → Nat → Int} (hn : high < n) (hl : low ≤ high)
include hn hl
theorem d_joinedB {p : Nat} (h1 : low ≤ p) (h2 : p < high) {m : Nat} {P : D → Nat → Prop} (h : P (.int (joi v low high p)) 0) : r__joined [.d (rowsN (bbRows n v low high)), .d (.int (low : Nat)), .d (.int (p : Nat)), .d (.int (high : Nat))] m P := by
  obtain ⟨r1, a1, b1⟩ := bb_at (n := n) (low := low) (high := high) (k := low) (x := p) (v := v) (by omega) (.inl ⟨rfl, h1, h2⟩)
  refine ⟨trivial, trivial, .list (r1.map PyData.int), atI_nat (by rw [List.getElem?_map, a1]; rfl), trivial, trivial, .int (v low p), ?_, ?_⟩
  · rw [show ((p : Nat) : Int) - ((low : Nat) : Int) = ((p - low : Nat) : Int) by omega]
    exact atI_nat (by rw [List.getElem?_map, b1]; rfl)
  refine ⟨trivial, trivial, ?_⟩
  show if decide (((p : Nat) : Int) + 1 < ((high : Nat) : Int)) = true then _ else _
  unfold joi at h
  by_cases y : p + 1 < high
  · rw [if_pos (decide_eq_true (by omega))]
    rw [if_pos y] at h
    obtain ⟨r2, a2, b2⟩ := bb_at (n := n) (low := low) (high := high) (k := p + 1) (x := high - 1) (v := v) (by omega) (.inr ⟨by omega, by omega, by omega⟩)
    refine ⟨trivial, trivial, trivial, .list (r2.map PyData.int), ?_, trivial, trivial, .int (v (p + 1) (high - 1)), ?_, ?_⟩
    · rw [show ((p : Nat) : Int) + 1 = ((p + 1 : Nat) : Int) by omega]
      exact atI_nat (by rw [List.getElem?_map, a2]; rfl)
    · rw [show ((high : Nat) : Int) - ((p : Nat) : Int) - 2 = ((high - 1 - (p + 1) : Nat) : Int) by omega]
      exact atI_nat (by rw [List.getElem?_map, b2]; rfl)
    · exact ⟨hd_d, h⟩
  · rw [if_neg (by simp; omega)]
    rw [if_neg y, Int.add_zero] at h
    exact ⟨hd_d, h⟩
end
def joiD (v : Nat → Nat → Int) (low high : Nat) : D → D
  | .int i => .int (joi v low high i.toNat)
  | _ => .none
def geD (low : Nat) : D → Bool
  | .int i => decide ((low : Int) ≤ i)
  | _ => false
theorem d_most {cs : List Cue} {n low high : Nat} (hn : high < n) (hl : low ≤ high) (l1 : n ≤ 1000) {m : Nat} {P : D → Nat → Prop} (h : P (.int (val (prt cs) low high)) 0) : r__most_of [.d (rowsN (bbRows n (val (prt cs)) low high)), .d (natD (prt cs high)), .d (.int (low : Nat)), .d (.int (high : Nat))] m P := by
  have lt : ∀ high, ∀ p ∈ prt cs high, p < high := fun high p hp => scan_lt cs high high p hp
  refine ⟨trivial, trivial, rfl, rfl, ?_⟩
  show if PyData.eqv (.int ((low : Nat) : Int)) (.int ((high : Nat) : Int)) = true then _ else _
  rw [eqI]
  by_cases e : low = high
  · rw [if_pos (decide_eq_true (by omega))]
    subst e
    rw [val_one] at h
    exact ⟨hd_d, h⟩
  · rw [if_neg (by simp; omega)]
    have len : ∀ k, (scan cs high k).length ≤ k := by
      intro k
      induction k with
      | zero => exact Nat.le_refl _
      | succ k ih =>
        unfold scan
        split
        · rw [List.length_append]
          split
          · simp
            omega
          · simp
            omega
        · simp
    have lp := len high
    refine ⟨by rw [List.length_map]; show (scan cs high high).length ≤ _; omega, ⟨by simp, fun j hj => by simp at hj; rcases hj with rfl; rfl⟩, ?_⟩
    refine lcL_filt (ρ := [.im (rowsN (bbRows n (val (prt cs)) low high)), .im (natD (prt cs high)), .im (.int (low : Nat)), .im (.int (high : Nat)), .no, .no]) (geD low) (joiD (val (prt cs)) low high) _ [] ?_ ?_
    · intro d hd Q R hQ hR
      obtain ⟨p, hp, rfl⟩ := List.mem_map.mp hd
      refine ⟨trivial, trivial, ?_⟩
      show if decide (((low : Nat) : Int) ≤ ((p : Nat) : Int)) = true then _ else _
      by_cases z : low ≤ p
      · rw [if_pos (decide_eq_true (by omega))]
        refine ⟨rfl, rfl, d_joinedB hn hl z (lt high p hp) ?_⟩
        exact hQ (decide_eq_true (by omega)) _ rfl
      · rw [if_neg (by simp; omega)]
        exact hR (decide_eq_false (by omega)) _ rfl
    · have e1 : ([] : List D) ++ ((((prt cs high).map fun i : Nat => PyData.int (i : Int)).filter (geD low)).map (joiD (val (prt cs)) low high)) = (((prt cs high).filter fun p => decide (low ≤ p)).map (joi (val (prt cs)) low high)).map PyData.int := by
        rw [List.nil_append, List.filter_map, List.map_map, List.map_map]
        have e2 : (geD low ∘ fun i : Nat => PyData.int (i : Int)) = fun p : Nat => decide (low ≤ p) := by
          funext p
          show decide ((low : Int) ≤ (p : Int)) = _
          by_cases z : low ≤ p
          · rw [decide_eq_true z, decide_eq_true (by omega)]
          · rw [decide_eq_false z, decide_eq_false (by omega)]
        rw [e2]
        rfl
      rw [e1]
      obtain ⟨r1, a1, b1⟩ := bb_at (n := n) (low := low) (high := high) (k := low) (x := high - 1) (v := val (prt cs)) (by omega) (.inl ⟨rfl, by omega, by omega⟩)
      refine ⟨trivial, trivial, .list (r1.map PyData.int), atI_nat (by rw [List.getElem?_map, a1]; rfl), trivial, trivial, .int (val (prt cs) low (high - 1)), ?_, ?_⟩
      · rw [show ((high : Nat) : Int) - 1 - ((low : Nat) : Int) = ((high - 1 - low : Nat) : Int) by omega]
        exact atI_nat (by rw [List.getElem?_map, b1]; rfl)
      rw [val_eq lt (by omega)] at h
      have lx : (((prt cs high).filter fun p => decide (low ≤ p)).map (joi (val (prt cs)) low high)).length ≤ high := by
        rw [List.length_map]
        exact Nat.le_trans (List.length_filter_le ..) lp
      generalize ((prt cs high).filter fun p => decide (low ≤ p)).map (joi (val (prt cs)) low high) = xs at h lx ⊢
      refine ⟨⟨_, rfl⟩, _, rfl, ?_, (val (prt cs) low (high - 1) + 1) :: xs, ?_, (by simp), fun mm hm hle => ?_⟩
      · simp
        omega
      · rw [List.append_nil]
        exact ofInts_map ((val (prt cs) low (high - 1) + 1) :: xs)
      · rw [minI_is hm hle]
        exact ⟨hd_d, h⟩
theorem d_greatest {n : Nat} {v : Nat → Nat → Int} {m : Nat} {P : D → Nat → Prop} (h : P (.int (if n = 0 then 0 else v 0 (n - 1))) 0) : r__greatest [.d (rowsN (bbRows n v 0 n))] m P := by
  have ln : ((bbRows n v 0 n).map fun r => PyData.list (r.map PyData.int)).length = n := by rw [List.length_map, bb_len]
  refine ⟨trivial, rfl, rfl, ?_⟩
  show if PyData.eqv (.int ((((bbRows n v 0 n).map fun r => PyData.list (r.map PyData.int)).length : Nat) : Int)) (.int 0) = true then _ else _
  rw [eqI, ln]
  by_cases z : n = 0
  · rw [if_pos (decide_eq_true (by omega))]
    rw [if_pos z] at h
    exact ⟨hd_d, h⟩
  · rw [if_neg (by simp; omega)]
    rw [if_neg z] at h
    have g := bb_get (n := n) (val := v) (low := 0) (high := n) (by omega)
    refine ⟨trivial, .list (((List.range (n - 0)).map fun j => v 0 (0 + j)).map PyData.int), atI_nat (i := 0) (by rw [List.getElem?_map, g]; rfl), .int (v 0 (n - 1)), ?_, ?_⟩
    · obtain ⟨k, rfl⟩ : ∃ k, n = k + 1 := ⟨n - 1, by omega⟩
      rw [Nat.sub_zero, List.range_succ, List.map_append, List.map_append]
      show atI (_ ++ [PyData.int (v 0 (0 + k))]) (-1) = _
      rw [atI_last]
      simp
    · exact ⟨hd_d, h⟩
theorem d_bestB {cs : List Cue} (t : Tx3 cs) {m : Nat} {P : D → Nat → Prop} (h : P (rowsN (bbRows cs.length (val (prt cs)) 0 cs.length)) 0) : s__best_bounds [.d (fileD cs)] m P := by
  have e : (cs.map Cue.d).length = cs.length := List.length_map ..
  have l := t.l
  refine ⟨by rw [e]; exact l, (List.range cs.length).map fun h => natD (prt cs h), val (prt cs), by rw [List.length_map, List.length_range, e], fun m P' h => d_partners t h, fun low high p h0 hp m P' h => ?_, ?_⟩
  · rw [List.getElem?_map] at hp
    cases z : (List.range cs.length)[high]? with
    | none => rw [z] at hp; cases hp
    | some j =>
      rw [z] at hp
      cases hp
      obtain ⟨h1, h2⟩ := List.getElem?_eq_some_iff.mp z
      rw [List.getElem_range] at h2
      subst h2
      rw [List.length_range] at h1
      rw [e]
      exact d_most h1 h0 l h
  · rw [e]
    exact h
theorem d_fewest {F : D} {cs : List Cue} (hf : ∀ (m : Nat) (P : D → Nat → Prop), P (fileD cs) 0 → r_flat [.d F] m P) (t : Tx3 cs) {m : Nat} {P : D → Nat → Prop} (h : P (.int (few cs)) 0) : r_fewest [.d F] m P := by
  refine ⟨rfl, rfl, hf _ _ ?_⟩
  refine ⟨rfl, rfl, d_bestB t ?_⟩
  refine ⟨rfl, rfl, d_greatest ?_⟩
  exact ⟨hd_d, h⟩
end Q78
namespace Q78
open PySem L2 DL
/-- half open: from i up to below j -/
def vl (pt : Nat → List Nat) (i j : Nat) : Int := if i < j then val pt i (j - 1) else 0
section
variable {pt : Nat → List Nat} (lt : ∀ high, ∀ p ∈ pt high, p < high)
include lt
theorem joi_vl {i p h : Nat} (h1 : i ≤ p) (h2 : p < h) : joi (val pt) i h p = vl pt i (p + 1) + vl pt (p + 1) h := by
  unfold joi vl
  rw [if_pos (show i < p + 1 by omega), Nat.add_sub_cancel]
theorem vl_self (i : Nat) : vl pt i i = 0 := if_neg (Nat.lt_irrefl _)
theorem vl_one (i : Nat) : vl pt i (i + 1) = 1 := by
  unfold vl
  rw [if_pos (by omega), Nat.add_sub_cancel, val_one]
/-- a cue of its own -/
theorem vl_own {i h : Nat} (h1 : i ≤ h) : vl pt i (h + 1) ≤ vl pt i h + 1 := by
  by_cases e : i = h
  · subst e
    rw [vl_one lt, vl_self lt]
    omega
  · have r := val_eq lt (low := i) (high := h) (by omega)
    have m := minI_le (((pt h).filter fun p => decide (i ≤ p)).map (joi (val pt) i h)) (val pt i (h - 1) + 1) _ List.mem_cons_self
    have e1 : vl pt i (h + 1) = val pt i h := by
      unfold vl
      rw [if_pos (by omega), Nat.add_sub_cancel]
    have e2 : vl pt i h = val pt i (h - 1) := by
      unfold vl
      rw [if_pos (by omega)]
    rw [e1, e2, r]
    exact m
theorem vl_link {i p h : Nat} (h1 : i ≤ p) (hp : p ∈ pt h) : vl pt i (h + 1) ≤ vl pt i (p + 1) + vl pt (p + 1) h := by
  have h2 := lt h p hp
  have r := val_eq lt (low := i) (high := h) (by omega)
  have e1 : vl pt i (h + 1) = val pt i h := by
    unfold vl
    rw [if_pos (by omega), Nat.add_sub_cancel]
  rw [e1, r, ← joi_vl lt h1 h2]
  exact minI_le _ _ _ (List.mem_cons_of_mem _ (List.mem_map.mpr ⟨p, List.mem_filter.mpr ⟨hp, decide_eq_true h1⟩, rfl⟩))
theorem vl_some {i h : Nat} (h1 : i ≤ h) : vl pt i (h + 1) = vl pt i h + 1 ∨ ∃ p ∈ pt h, i ≤ p ∧ vl pt i (h + 1) = vl pt i (p + 1) + vl pt (p + 1) h := by
  by_cases e : i = h
  · subst e
    rw [vl_one lt, vl_self lt]
    exact .inl (by omega)
  · have r := val_eq lt (low := i) (high := h) (by omega)
    have e1 : vl pt i (h + 1) = val pt i h := by
      unfold vl
      rw [if_pos (by omega), Nat.add_sub_cancel]
    have e2 : vl pt i h = val pt i (h - 1) := by
      unfold vl
      rw [if_pos (by omega)]
    rw [e1, e2]
    have m := minI_mem (((pt h).filter fun p => decide (i ≤ p)).map (joi (val pt) i h)) (val pt i (h - 1) + 1)
    rw [← r] at m
    rcases List.mem_cons.mp m with m | m
    · exact .inl m
    · obtain ⟨p, hp, ep⟩ := List.mem_map.mp m
      obtain ⟨h3, h4⟩ := List.mem_filter.mp hp
      have h4 := of_decide_eq_true h4
      exact .inr ⟨p, h3, h4, by rw [← joi_vl lt h4 (lt h p h3), ep]⟩
end
theorem few_vl (cs : List Cue) : few cs = vl (prt cs) 0 cs.length := by
  unfold few vl
  by_cases z : cs.length = 0
  · rw [if_pos z, if_neg (by omega)]
  · rw [if_neg z, if_pos (by omega)]
def gapless (cs : List Cue) (i j : Nat) : Bool := (List.range (j - i)).all fun k => adj cs (i + k)
theorem gapless_iff {cs : List Cue} {i j : Nat} : gapless cs i j = true ↔ ∀ k, i ≤ k → k < j → adj cs k = true := by
  unfold gapless
  rw [List.all_eq_true]
  constructor
  · intro h k h1 h2
    have := h (k - i) (List.mem_range.mpr (by omega))
    rw [show i + (k - i) = k by omega] at this
    exact this
  · intro h k hk
    have := List.mem_range.mp hk
    exact h (i + k) (by omega) (by omega)
theorem scan_iff (cs : List Cue) (high : Nat) : ∀ (n p : Nat), p ∈ scan cs high n ↔ p < n ∧ (∀ k, p ≤ k → k < n → adj cs k = true) ∧ same cs p high = true
  | 0, p => by
    constructor
    · intro h
      cases h
    · rintro ⟨h, _⟩
      omega
  | n + 1, p => by
    unfold scan
    by_cases z : adj cs n = true
    · rw [if_pos z, List.mem_append, scan_iff cs high n p]
      constructor
      · rintro (h | ⟨h1, h2, h3⟩)
        · split at h
          · rename_i s
            rw [List.mem_singleton.mp h]
            exact ⟨by omega, fun k k1 k2 => by rw [show k = n by omega]; exact z, s⟩
          · cases h
        · refine ⟨by omega, fun k k1 k2 => ?_, h3⟩
          by_cases e : k = n
          · rw [e]
            exact z
          · exact h2 k k1 (by omega)
      · rintro ⟨h1, h2, h3⟩
        by_cases e : p = n
        · subst e
          left
          rw [if_pos h3]
          exact List.mem_singleton.mpr rfl
        · right
          exact ⟨by omega, fun k k1 k2 => h2 k k1 (by omega), h3⟩
    · rw [if_neg z]
      constructor
      · intro h
        cases h
      · rintro ⟨h1, h2, _⟩
        exact absurd (h2 n (by omega) (by omega)) z
theorem prt_iff {cs : List Cue} {p h : Nat} : p ∈ prt cs h ↔ p < h ∧ gapless cs p h = true ∧ same cs p h = true := by
  unfold prt
  rw [scan_iff, gapless_iff]
theorem prt_lt {cs : List Cue} : ∀ high, ∀ p ∈ prt cs high, p < high := fun _ _ h => (prt_iff.mp h).1
end Q78
namespace Q78
open PySem L2 DL
def fN (cs : List Cue) (i : Nat) : Int := (cueN cs i).f
def tN' (cs : List Cue) (i : Nat) : Int := (cueN cs i).t
def xN (cs : List Cue) (i : Nat) : D := (cueN cs i).x
/-- strokes of the cues from lo up to below hi, the last one going on up to e; as many as told -/
inductive Stk (cs : List Cue) (g : Nat → Option Nat) : Nat → Nat → Int → List Cue → Prop
  | nil (lo : Nat) (e : Int) : Stk cs g lo lo e []
  | own (lo h : Nat) (e : Int) (L : List Cue) (h1 : lo ≤ h) (hg : g h = none) (s : Stk cs g lo h (tN' cs (h - 1)) L) : Stk cs g lo (h + 1) e (L ++ [⟨fN cs h, e, xN cs h⟩])
  | link (lo p h : Nat) (e : Int) (L1 L2 : List Cue) (h1 : lo ≤ p) (h2 : p < h) (hg : g h = some p) (gp : gapless cs p h = true) (sx : xN cs p = xN cs h) (s1 : Stk cs g lo (p + 1) e L1) (s2 : Stk cs g (p + 1) h (tN' cs (h - 1)) L2) : Stk cs g lo (h + 1) e (L1 ++ L2)
/-- side by side, in their order -/
structure Row (cs : List Cue) : Prop where
  ft : ∀ i, i < cs.length → fN cs i < tN' cs i
  up : ∀ i j, i < j → j < cs.length → tN' cs i ≤ fN cs j
def V (L : List Cue) (fr : Int) : Option D := (topAt L fr).map (·.x)
theorem fold_some {fr : Int} : ∀ (B : List Cue) (t : Cue), ∃ u, B.foldl (step fr) (some t) = some u
  | [], t => ⟨t, rfl⟩
  | b :: B, t => by
    rw [List.foldl_cons]
    unfold step
    split
    · exact fold_some B b
    · exact fold_some B t
theorem fold_top {fr : Int} : ∀ (B : List Cue) (t : Cue), (∀ b ∈ B, t.f ≤ b.f) → B.foldl (step fr) (some t) = ((B.foldl (step fr) none).or (some t))
  | [], t, _ => rfl
  | b :: B, t, h => by
    (rw [List.foldl_cons, List.foldl_cons])
    have hb := h b List.mem_cons_self
    by_cases z : b.f ≤ fr ∧ fr < b.t
    · have e1 : step fr (some t) b = some b := if_pos ⟨z.1, z.2, fun u hu => by cases hu; exact hb⟩
      have e2 : step fr none b = some b := if_pos ⟨z.1, z.2, fun u hu => nomatch hu⟩
      rw [e1, e2]
      obtain ⟨u, hu⟩ := fold_some (fr := fr) B b
      rw [hu]
      rfl
    · have e1 : step fr (some t) b = some t := if_neg fun w => z ⟨w.1, w.2.1⟩
      have e2 : step fr none b = none := if_neg fun w => z ⟨w.1, w.2.1⟩
      rw [e1, e2]
      exact fold_top B t fun c hc => h c (List.mem_cons_of_mem _ hc)
theorem V_app {A B : List Cue} (h : ∀ a ∈ A, ∀ b ∈ B, a.f ≤ b.f) (fr : Int) : V (A ++ B) fr = (V B fr).or (V A fr) := by
  unfold V topAt
  rw [List.foldl_append]
  cases z : A.foldl (step fr) none with
  | none => cases B.foldl (step fr) none <;> rfl
  | some t =>
    have tm : t ∈ A := by
      rcases top_mem A none t z with h | h
      · cases h
      · exact h
    rw [fold_top B t (h t tm)]
    cases B.foldl (step fr) none <;> rfl
theorem V_one (c : Cue) (fr : Int) : V [c] fr = if c.f ≤ fr ∧ fr < c.t then some c.x else none := by
  unfold V topAt
  show (step fr none c).map (·.x) = _
  by_cases z : c.f ≤ fr ∧ fr < c.t
  · rw [if_pos z]
    have e : step fr none c = some c := if_pos ⟨z.1, z.2, fun u hu => nomatch hu⟩
    rw [e]
    rfl
  · rw [if_neg z]
    have e : step fr none c = none := if_neg fun w => z ⟨w.1, w.2.1⟩
    rw [e]
    rfl
def In (cs : List Cue) (lo hi : Nat) (fr : Int) (i : Nat) : Prop := lo ≤ i ∧ i < hi ∧ fN cs i ≤ fr ∧ fr < tN' cs i
section
variable {cs : List Cue} (r : Row cs) {g : Nat → Option Nat}
include r
theorem t_mono {i j : Nat} (h : i ≤ j) (hj : j < cs.length) : tN' cs i ≤ tN' cs j := by
  by_cases e : i = j
  · rw [e]
    exact Int.le_refl _
  · have := r.up i j (by omega) hj
    have := r.ft j hj
    omega
theorem f_mono {i j : Nat} (h : i ≤ j) (hj : j < cs.length) : fN cs i ≤ fN cs j := by
  by_cases e : i = j
  · rw [e]
    exact Int.le_refl _
  · have := r.up i j (by omega) hj
    have := r.ft i (by omega)
    omega
/-- what each stroke is -/
theorem str_in {lo hi : Nat} {e : Int} {L : List Cue} (s : Stk cs g lo hi e L) (hn : hi ≤ cs.length) (he : lo < hi → tN' cs (hi - 1) ≤ e) : ∀ c ∈ L, ∃ i, lo ≤ i ∧ i < hi ∧ c.f = fN cs i ∧ c.x = xN cs i ∧ c.f < c.t ∧ (c.t = e ∨ ∃ j, j < hi ∧ c.t = tN' cs j) := by
  induction s with
  | nil lo e => exact fun c hc => nomatch hc
  | own lo h e L h1 hg s ih =>
    intro c hc
    have hf := r.ft h (by omega)
    have he := he (by omega)
    rw [Nat.add_sub_cancel] at he
    (rcases List.mem_append.mp hc with hc | hc)
    · obtain ⟨i, a1, a2, a3, a4, a5, a6⟩ := ih (by omega) (fun _ => Int.le_refl _) c hc
      refine ⟨i, a1, by omega, a3, a4, a5, .inr ?_⟩
      rcases a6 with a6 | ⟨j, j1, j2⟩
      · exact ⟨h - 1, by omega, a6⟩
      · exact ⟨j, by omega, j2⟩
    · rw [List.mem_singleton.mp hc]
      exact ⟨h, h1, by omega, rfl, rfl, (by show fN cs h < e; omega), .inl rfl⟩
  | link lo p h e L1 L2 h1 h2 hg gp sx s1 s2 ih1 ih2 =>
    intro c hc
    have he := he (by omega)
    rw [Nat.add_sub_cancel] at he
    have hp := t_mono r (i := p) (j := h) (by omega) (by omega)
    (rcases List.mem_append.mp hc with hc | hc)
    · obtain ⟨i, a1, a2, a3, a4, a5, a6⟩ := ih1 (by omega) (fun _ => by rw [Nat.add_sub_cancel]; omega) c hc
      refine ⟨i, a1, by omega, a3, a4, a5, ?_⟩
      rcases a6 with a6 | ⟨j, j1, j2⟩
      · exact .inl a6
      · exact .inr ⟨j, by omega, j2⟩
    · obtain ⟨i, a1, a2, a3, a4, a5, a6⟩ := ih2 (by omega) (fun _ => Int.le_refl _) c hc
      refine ⟨i, by omega, by omega, a3, a4, a5, .inr ?_⟩
      rcases a6 with a6 | ⟨j, j1, j2⟩
      · exact ⟨h - 1, by omega, a6⟩
      · exact ⟨j, by omega, j2⟩
theorem in_gap {p h : Nat} (gp : gapless cs p h = true) (hh : h < cs.length) (hp : p ≤ h) {fr : Int} (h1 : tN' cs p ≤ fr) (h2 : fr < tN' cs h) : ∃ i, p < i ∧ i ≤ h ∧ fN cs i ≤ fr ∧ fr < tN' cs i := by
  have ga := gapless_iff.mp gp
  have go : ∀ (d k : Nat), k + d = h → p ≤ k → tN' cs k ≤ fr → ∃ i, p < i ∧ i ≤ h ∧ fN cs i ≤ fr ∧ fr < tN' cs i := by
    intro d
    induction d with
    | zero =>
      intro k e _ a
      rw [show k = h by omega] at a
      omega
    | succ d ih =>
      intro k e hk a
      have ad := of_decide_eq_true (ga k hk (by omega))
      have ad : tN' cs k = fN cs (k + 1) := ad
      by_cases z : fr < tN' cs (k + 1)
      · exact ⟨k + 1, by omega, by omega, by omega, z⟩
      · exact ih (k + 1) (by omega) (by omega) (by omega)
  exact go (h - p) p (by omega) (Nat.le_refl _) h1
theorem in_uniq {lo hi lo' hi' : Nat} {fr : Int} {i j : Nat} (hi1 : hi ≤ cs.length) (hi2 : hi' ≤ cs.length) (a : In cs lo hi fr i) (b : In cs lo' hi' fr j) : i = j := by
  obtain ⟨a1, a2, a3, a4⟩ := a
  obtain ⟨b1, b2, b3, b4⟩ := b
  by_cases z : i < j
  · have := r.up i j z (by omega)
    omega
  · by_cases y : j < i
    · have := r.up j i y (by omega)
      omega
    · omega
/-- what is seen of them -/
theorem str_seen {lo hi : Nat} {e : Int} {L : List Cue} (s : Stk cs g lo hi e L) (hn : hi ≤ cs.length) (he : lo < hi → tN' cs (hi - 1) ≤ e) (fr : Int) :
    (∀ i, In cs lo hi fr i → V L fr = some (xN cs i)) ∧ (lo < hi → tN' cs (hi - 1) ≤ fr → fr < e → V L fr = some (xN cs (hi - 1))) ∧ ((∀ i, ¬ In cs lo hi fr i) → (lo < hi → ¬ (tN' cs (hi - 1) ≤ fr ∧ fr < e)) → V L fr = none) := by
  induction s with
  | nil lo e =>
    refine ⟨fun i h => ?_, fun h => by omega, fun _ _ => rfl⟩
    obtain ⟨a, b, _⟩ := h
    omega
  | own lo h e L h1 hg s ih =>
    obtain ⟨ia, ib, ic⟩ := ih (by omega) fun _ => Int.le_refl _
    have hf := r.ft h (by omega)
    have he := he (by omega)
    rw [Nat.add_sub_cancel] at he ⊢
    have bg : ∀ a ∈ L, ∀ b ∈ [(⟨fN cs h, e, xN cs h⟩ : Cue)], a.f ≤ b.f := fun a ha b hb => by
      rw [List.mem_singleton.mp hb]
      obtain ⟨i, i1, i2, i3, _⟩ := str_in r s (by omega) (fun _ => Int.le_refl _) a ha
      rw [i3]
      exact f_mono r (by omega) (by omega)
    rw [V_app bg, V_one]
    show (∀ i, _ → ((if fN cs h ≤ fr ∧ fr < e then some (xN cs h) else none).or (V L fr)) = _) ∧ (_ → _ → _ → ((if fN cs h ≤ fr ∧ fr < e then some (xN cs h) else none).or (V L fr)) = _) ∧ (_ → _ → ((if fN cs h ≤ fr ∧ fr < e then some (xN cs h) else none).or (V L fr)) = _)
    refine ⟨fun i hi => ?_, fun _ a b => ?_, fun no ne => ?_⟩
    · obtain ⟨a1, a2, a3, a4⟩ := hi
      by_cases y : i = h
      · subst y
        rw [if_pos ⟨a3, by omega⟩]
        rfl
      · have := r.up i h (by omega) (by omega)
        rw [if_neg (by omega)]
        exact ia i ⟨a1, by omega, a3, a4⟩
    · rw [if_pos ⟨by omega, b⟩]
      rfl
    · have n1 : ¬ (fN cs h ≤ fr ∧ fr < e) := fun w => by
        by_cases y : fr < tN' cs h
        · exact no h ⟨h1, by omega, w.1, y⟩
        · exact ne (by omega) ⟨by omega, w.2⟩
      rw [if_neg n1]
      exact ic (fun i hi => no i ⟨hi.1, by have := hi.2.1; omega, hi.2.2⟩) fun _ w => by omega
  | link lo p h e L1 L2 h1 h2 hg gp sx s1 s2 ih1 ih2 =>
    have he := he (by omega)
    rw [Nat.add_sub_cancel] at he ⊢
    have tp := t_mono r (i := p) (j := h) (by omega) (by omega)
    have tpf := r.up p h h2 (by omega)
    obtain ⟨ia, ib, ic⟩ := ih1 (by omega) fun _ => by rw [Nat.add_sub_cancel]; omega
    obtain ⟨ja, jb, jc⟩ := ih2 (by omega) fun _ => Int.le_refl _
    rw [Nat.add_sub_cancel] at ib ic
    have bg : ∀ a ∈ L1, ∀ b ∈ L2, a.f ≤ b.f := fun a ha b hb => by
      obtain ⟨i, i1, i2, i3, _⟩ := str_in r s1 (by omega) (fun _ => by rw [Nat.add_sub_cancel]; omega) a ha
      obtain ⟨j, j1, j2, j3, _⟩ := str_in r s2 (by omega) (fun _ => Int.le_refl _) b hb
      rw [i3, j3]
      exact f_mono r (by omega) (by omega)
    rw [V_app bg]
    have j0 : (∀ i, ¬ In cs (p + 1) h fr i) → V L2 fr = none := fun no => jc no fun _ w => by omega
    refine ⟨fun i hi => ?_, fun _ a b => ?_, fun no ne => ?_⟩
    · obtain ⟨a1, a2, a3, a4⟩ := hi
      by_cases y : p < i ∧ i < h
      · rw [ja i ⟨by omega, y.2, a3, a4⟩]
        rfl
      · have n2 : V L2 fr = none := j0 fun j hj => by
          have := in_uniq r (lo := lo) (hi := h + 1) (by omega) (by omega) ⟨a1, a2, a3, a4⟩ hj
          obtain ⟨b1, b2, _⟩ := hj
          omega
        rw [n2, Option.none_or]
        by_cases y2 : i ≤ p
        · exact ia i ⟨a1, by omega, a3, a4⟩
        · have e1 : i = h := by omega
          subst e1
          rw [← sx]
          exact ib (by omega) (by omega) (by omega)
    · have n2 : V L2 fr = none := j0 fun j hj => by
        obtain ⟨b1, b2, b3, b4⟩ := hj
        have := r.up j h b2 (by omega)
        have := r.ft h (by omega)
        omega
      rw [n2, Option.none_or, ← sx]
      exact ib (by omega) (by omega) b
    · have n2 : V L2 fr = none := j0 fun j hj => no j ⟨by have := hj.1; omega, by have := hj.2.1; omega, hj.2.2⟩
      rw [n2, Option.none_or]
      refine ic (fun i hi => no i ⟨hi.1, by have := hi.2.1; omega, hi.2.2⟩) fun _ w => ?_
      by_cases y : fr < tN' cs h
      · obtain ⟨i, i1, i2, i3, i4⟩ := in_gap r gp (by omega) (by omega) w.1 y
        exact no i ⟨by omega, by omega, i3, i4⟩
      · exact ne (by omega) ⟨by omega, w.2⟩
theorem row_str : ∀ n, n ≤ cs.length → Stk cs (fun _ => none) 0 n (tN' cs (n - 1)) (cs.take n)
  | 0, _ => Stk.nil 0 _
  | n + 1, h => by
    have e : cs.take (n + 1) = cs.take n ++ [⟨fN cs n, tN' cs n, xN cs n⟩] := by
      rw [List.take_succ_eq_append_getElem (by omega)]
      congr 2
      have : cueN cs n = cs[n] := by
        unfold cueN
        rw [List.getD_eq_getElem?_getD, List.getElem?_eq_getElem (by omega)]
        rfl
      show cs[n] = ⟨(cueN cs n).f, (cueN cs n).t, (cueN cs n).x⟩
      rw [this]
    rw [e, Nat.add_sub_cancel]
    exact Stk.own 0 n _ _ (Nat.zero_le _) rfl (row_str n (by omega))
/-- the strokes show the same -/
theorem str_text {L : List Cue} (s : Stk cs g 0 cs.length (tN' cs (cs.length - 1)) L) (fr : Int) : textAt L fr = textAt cs fr := by
  have a := str_seen r s (Nat.le_refl _) (fun _ => Int.le_refl _) fr
  have w := row_str r cs.length (Nat.le_refl _)
  rw [List.take_length] at w
  have b := str_seen r w (Nat.le_refl _) (fun _ => Int.le_refl _) fr
  have e : V L fr = V cs fr := by
    by_cases z : ∃ i, In cs 0 cs.length fr i
    · obtain ⟨i, hi⟩ := z
      rw [a.1 i hi, b.1 i hi]
    · have n1 : ∀ i, ¬ In cs 0 cs.length fr i := fun i hi => z ⟨i, hi⟩
      rw [a.2.2 n1 fun _ w => by omega, b.2.2 n1 fun _ w => by omega]
  have t : ∀ L, textAt L fr = (V L fr).getD .none := fun L => by
    unfold textAt V
    cases topAt L fr <;> rfl
  rw [t, t, e]
end
end Q78
namespace Q78
open PySem L2 DL
def pick1 (cs : List Cue) (lo h : Nat) : Option Nat := (prt cs h).find? fun p => decide (lo ≤ p) && decide (joi (val (prt cs)) lo h p = val (prt cs) lo h)
def sol (cs : List Cue) : Nat → Nat → Nat → List (Option Nat)
  | 0, _, _ => []
  | n + 1, lo, hi => if lo < hi then (match pick1 cs lo (hi - 1) with
    | none => sol cs n lo (hi - 1) ++ [none]
    | some p => sol cs n lo (p + 1) ++ sol cs n (p + 1) (hi - 1) ++ [some p]) else []
theorem pick_some {cs : List Cue} {lo h p : Nat} (e : pick1 cs lo h = some p) : p ∈ prt cs h ∧ lo ≤ p ∧ p < h ∧ joi (val (prt cs)) lo h p = val (prt cs) lo h := by
  have a := List.mem_of_find?_eq_some e
  have b := List.find?_some e
  simp only [Bool.and_eq_true, decide_eq_true_eq] at b
  exact ⟨a, b.1, prt_lt h p a, b.2⟩
theorem sol_more (cs : List Cue) : ∀ (n m lo hi : Nat), hi - lo ≤ n → hi - lo ≤ m → sol cs n lo hi = sol cs m lo hi
  | 0, 0, _, _, _, _ => rfl
  | 0, m + 1, lo, hi, h, _ => by
    unfold sol
    rw [if_neg (by omega)]
  | n + 1, 0, lo, hi, _, h => by
    unfold sol
    rw [if_neg (by omega)]
  | n + 1, m + 1, lo, hi, h1, h2 => by
    unfold sol
    by_cases z : lo < hi
    · rw [if_pos z, if_pos z]
      cases e : pick1 cs lo (hi - 1) with
      | none =>
        show sol cs n lo (hi - 1) ++ [none] = sol cs m lo (hi - 1) ++ [none]
        rw [sol_more cs n m lo (hi - 1) (by omega) (by omega)]
      | some p =>
        obtain ⟨_, a, b, _⟩ := pick_some e
        show sol cs n lo (p + 1) ++ sol cs n (p + 1) (hi - 1) ++ [some p] = sol cs m lo (p + 1) ++ sol cs m (p + 1) (hi - 1) ++ [some p]
        rw [sol_more cs n m lo (p + 1) (by omega) (by omega), sol_more cs n m (p + 1) (hi - 1) (by omega) (by omega)]
    · rw [if_neg z, if_neg z]
def SO (cs : List Cue) (lo hi : Nat) : List (Option Nat) := sol cs (hi - lo) lo hi
theorem SO_nil {cs : List Cue} {lo hi : Nat} (h : hi ≤ lo) : SO cs lo hi = [] := by
  unfold SO
  rw [show hi - lo = 0 by omega]
  rfl
theorem SO_none {cs : List Cue} {lo h : Nat} (h1 : lo ≤ h) (e : pick1 cs lo h = none) : SO cs lo (h + 1) = SO cs lo h ++ [none] := by
  unfold SO
  rw [show h + 1 - lo = (h - lo) + 1 by omega, sol, if_pos (by omega), Nat.add_sub_cancel, e]
theorem SO_some {cs : List Cue} {lo h p : Nat} (h1 : lo ≤ h) (e : pick1 cs lo h = some p) : SO cs lo (h + 1) = SO cs lo (p + 1) ++ SO cs (p + 1) h ++ [some p] := by
  obtain ⟨_, a, b, _⟩ := pick_some e
  unfold SO
  rw [show h + 1 - lo = (h - lo) + 1 by omega, sol, if_pos (by omega), Nat.add_sub_cancel, e]
  show sol cs (h - lo) lo (p + 1) ++ sol cs (h - lo) (p + 1) h ++ [some p] = _
  rw [sol_more cs (h - lo) (p + 1 - lo) lo (p + 1) (by omega) (by omega), sol_more cs (h - lo) (h - (p + 1)) (p + 1) h (by omega) (by omega)]
theorem SO_len (cs : List Cue) : ∀ (n lo hi : Nat), hi ≤ n → (SO cs lo hi).length = hi - lo
  | _, lo, 0, _ => by
    rw [SO_nil (by omega)]
    simp
  | 0, lo, hi + 1, h => by omega
  | n + 1, lo, h + 1, hn => by
    by_cases z : lo ≤ h
    · cases e : pick1 cs lo h with
      | none =>
        rw [SO_none z e, List.length_append, SO_len cs n lo h (by omega)]
        show h - lo + 1 = _
        omega
      | some p =>
        obtain ⟨_, a, b, _⟩ := pick_some e
        rw [SO_some z e, List.length_append, List.length_append, SO_len cs n lo (p + 1) (by omega), SO_len cs n (p + 1) h (by omega)]
        show p + 1 - lo + (h - (p + 1)) + 1 = _
        omega
    · rw [SO_nil (by omega)]
      simp
      omega
theorem so_len (cs : List Cue) (lo hi : Nat) : (SO cs lo hi).length = hi - lo := SO_len cs hi lo hi (Nat.le_refl _)
/-- strokes of what goes on, as few as can be -/
theorem so_str {cs : List Cue} {g : Nat → Option Nat} (hx : ∀ i j, j < cs.length → i < j → same cs i j = true → xN cs i = xN cs j) : ∀ (n lo hi : Nat) (e : Int), hi ≤ n → hi ≤ cs.length → lo ≤ hi → (∀ i, i < hi - lo → g (lo + i) = ((SO cs lo hi)[i]?).getD none) → ∃ L, Stk cs g lo hi e L ∧ (L.length : Int) = vl (prt cs) lo hi
  | _, lo, 0, e, _, _, h, _ => by
    rw [show lo = 0 by omega]
    exact ⟨[], Stk.nil 0 e, by rw [vl_self prt_lt]; rfl⟩
  | 0, lo, hi + 1, e, h, _, _, _ => by omega
  | n + 1, lo, h + 1, e, hn, hc, hl, hg => by
    by_cases z : lo ≤ h
    · cases ep : pick1 cs lo h with
      | none =>
        rw [SO_none z ep] at hg
        have gh := hg (h - lo) (by omega)
        rw [show lo + (h - lo) = h by omega, List.getElem?_append_right (by rw [so_len]; exact Nat.le_refl _), so_len, Nat.sub_self] at gh
        obtain ⟨L, s, l⟩ := so_str hx n lo h (tN' cs (h - 1)) (by omega) (by omega) z fun i hi => by
          have := hg i (by omega)
          rw [List.getElem?_append_left (by rw [so_len]; omega)] at this
          exact this
        refine ⟨_, Stk.own lo h e L z gh s, ?_⟩
        rw [List.length_append, Int.natCast_add, l]
        rcases vl_some (pt := prt cs) prt_lt z with w | ⟨p, hp, h1, w⟩
        · rw [w]
          rfl
        · exfalso
          have h2 := prt_lt h p hp
          have no := List.find?_eq_none.mp ep p hp
          simp only [Bool.and_eq_true, decide_eq_true_eq, not_and] at no
          refine no h1 ?_
          rw [joi_vl prt_lt h1 h2, ← w]
          unfold vl
          rw [if_pos (by omega), Nat.add_sub_cancel]
      | some p =>
        obtain ⟨hp, a, b, ej⟩ := pick_some ep
        rw [SO_some z ep] at hg
        have gh := hg (h - lo) (by omega)
        rw [show lo + (h - lo) = h by omega, List.getElem?_append_right (by rw [List.length_append, so_len, so_len]; omega), List.length_append, so_len, so_len, show h - lo - (p + 1 - lo + (h - (p + 1))) = 0 by omega] at gh
        obtain ⟨L1, s1, l1⟩ := so_str hx n lo (p + 1) e (by omega) (by omega) (by omega) fun i hi => by
          have := hg i (by omega)
          rw [List.getElem?_append_left (by rw [List.length_append, so_len, so_len]; omega), List.getElem?_append_left (by rw [so_len]; omega)] at this
          exact this
        obtain ⟨L2, s2, l2⟩ := so_str hx n (p + 1) h (tN' cs (h - 1)) (by omega) (by omega) (by omega) fun i hi => by
          have := hg (p + 1 - lo + i) (by omega)
          rw [List.getElem?_append_left (by rw [List.length_append, so_len, so_len]; omega), List.getElem?_append_right (by rw [so_len]; omega), so_len, show p + 1 - lo + i - (p + 1 - lo) = i by omega, show lo + (p + 1 - lo + i) = p + 1 + i by omega] at this
          exact this
        obtain ⟨_, gp, sm⟩ := prt_iff.mp hp
        refine ⟨_, Stk.link lo p h e L1 L2 a b gh gp (hx p h (by omega) b sm) s1 s2, ?_⟩
        rw [List.length_append, Int.natCast_add, l1, l2, ← joi_vl prt_lt a b, ej]
        unfold vl
        rw [if_pos (by omega), Nat.add_sub_cancel]
    · rw [show lo = h + 1 by omega]
      exact ⟨[], Stk.nil _ e, by rw [vl_self prt_lt]; rfl⟩
def over (W : List (Option Nat)) (lo : Nat) (l : List (Option Nat)) : List (Option Nat) := W.take lo ++ l ++ W.drop (lo + l.length)
theorem over_len {W l : List (Option Nat)} {lo : Nat} (h : lo + l.length ≤ W.length) : (over W lo l).length = W.length := by
  unfold over
  rw [List.length_append, List.length_append, List.length_take, List.length_drop]
  omega
theorem over_get {W l : List (Option Nat)} {lo : Nat} (h : lo + l.length ≤ W.length) (i : Nat) : (over W lo l)[i]? = if i < lo then W[i]? else if i < lo + l.length then l[i - lo]? else W[i]? := by
  unfold over
  have lt : (W.take lo).length = lo := by rw [List.length_take]; omega
  by_cases z : i < lo
  · rw [if_pos z, List.append_assoc, List.getElem?_append_left (by rw [lt]; exact z), List.getElem?_take, if_pos z]
  · rw [if_neg z]
    by_cases y : i < lo + l.length
    · rw [if_pos y, List.getElem?_append_left (by rw [List.length_append, lt]; exact y), List.getElem?_append_right (by rw [lt]; omega), lt]
    · rw [if_neg y, List.getElem?_append_right (by rw [List.length_append, lt]; omega), List.getElem?_drop, List.length_append, lt]
      congr 1
      omega
theorem over_none {W A : List (Option Nat)} {lo h : Nat} (la : lo + A.length = h) (hh : h < W.length) (c : Option Nat) : over (W.set h c) lo A = over W lo (A ++ [c]) := by
  refine List.ext_getElem? fun i => ?_
  rw [over_get (by rw [List.length_set]; omega), over_get (by rw [List.length_append]; show lo + (A.length + 1) ≤ _; omega), List.length_append, List.getElem?_set]
  show _ = if i < lo then W[i]? else if i < lo + (A.length + 1) then (A ++ [c])[i - lo]? else W[i]?
  by_cases z : i < lo
  · rw [if_pos z, if_pos z, if_neg (by omega)]
  · rw [if_neg z, if_neg z]
    by_cases y : i < lo + A.length
    · rw [if_pos y, if_pos (by omega), List.getElem?_append_left (by omega)]
    · rw [if_neg y]
      by_cases x : i = h
      · subst x
        rw [if_pos rfl, if_pos hh, if_pos (by omega), List.getElem?_append_right (by omega), show i - lo - A.length = 0 by omega]
        rfl
      · rw [if_neg (by omega), if_neg (by omega)]
theorem over_two {W A B : List (Option Nat)} {lo p h : Nat} (la : lo + A.length = p + 1) (lb : p + 1 + B.length = h) (hh : h < W.length) (c : Option Nat) : over (over (W.set h c) (p + 1) B) lo A = over W lo (A ++ B ++ [c]) := by
  have l1 : (over (W.set h c) (p + 1) B).length = W.length := by rw [over_len (by rw [List.length_set]; omega), List.length_set]
  refine List.ext_getElem? fun i => ?_
  rw [over_get (by rw [l1]; omega), over_get (by rw [List.length_set]; omega), over_get (by rw [List.length_append, List.length_append]; show lo + (A.length + B.length + 1) ≤ _; omega), List.length_append, List.length_append, List.getElem?_set]
  show _ = if i < lo then W[i]? else if i < lo + (A.length + B.length + 1) then (A ++ B ++ [c])[i - lo]? else W[i]?
  by_cases z : i < lo
  · rw [if_pos z, if_pos z, if_pos (by omega), if_neg (by omega)]
  · rw [if_neg z, if_neg z]
    by_cases y : i < lo + A.length
    · rw [if_pos y, if_pos (by omega), List.append_assoc, List.getElem?_append_left (by omega)]
    · rw [if_neg y, if_neg (by omega)]
      by_cases w : i < p + 1 + B.length
      · rw [if_pos w, if_pos (by omega), List.append_assoc, List.getElem?_append_right (by omega), List.getElem?_append_left (by omega)]
        congr 1
        omega
      · rw [if_neg w]
        by_cases x : i = h
        · subst x
          rw [if_pos rfl, if_pos hh, if_pos (by omega), List.getElem?_append_right (by rw [List.length_append]; omega), List.length_append, show i - lo - (A.length + B.length) = 0 by omega]
          rfl
        · rw [if_neg (by omega), if_neg (by omega)]
def fillR (cs : List Cue) (R : List (Nat × Nat)) (W : List (Option Nat)) : List (Option Nat) := R.foldr (fun r W => over W r.1 (SO cs r.1 r.2)) W
theorem fill_top (cs : List Cue) (R : List (Nat × Nat)) (r : Nat × Nat) (W : List (Option Nat)) : fillR cs (R ++ [r]) W = fillR cs R (over W r.1 (SO cs r.1 r.2)) := by
  unfold fillR
  rw [List.foldr_append]
  rfl
def down (lo hi : Nat) : List Nat := (List.range (hi - lo)).map fun i => hi - 1 - i
theorem down_nil {lo hi : Nat} (h : hi ≤ lo) : down lo hi = [] := by
  unfold down
  rw [show hi - lo = 0 by omega]
  rfl
theorem down_succ {lo h : Nat} (h1 : lo ≤ h) : down lo (h + 1) = h :: down lo h := by
  unfold down
  rw [show h + 1 - lo = (h - lo) + 1 by omega, List.range_succ_eq_map, List.map_cons, List.map_map]
  show (h + 1 - 1 - 0) :: _ = _
  congr 1
  refine List.map_congr_left fun i hi => ?_
  show h + 1 - 1 - (i + 1) = h - 1 - i
  omega
theorem down_split : ∀ (h lo m : Nat), lo ≤ m → m ≤ h → down lo h = down m h ++ down lo m
  | 0, lo, m, h1, h2 => by
    rw [show m = 0 by omega, show lo = 0 by omega]
    rfl
  | h + 1, lo, m, h1, h2 => by
    by_cases e : m = h + 1
    · rw [e, down_nil (Nat.le_refl (h + 1))]
      rfl
    · rw [down_succ (by omega), down_succ (by omega), down_split h lo m h1 (by omega)]
      rfl
def wk (cs : List Cue) (g : Nat → Option Nat) : List Nat → List Int → List Cue → List Cue
  | [], _, acc => acc
  | i :: is, ends, acc => match g i with
    | none => wk cs g is ends (acc ++ [⟨fN cs i, ends.getD i 0, xN cs i⟩])
    | some p => wk cs g is (ends.set p (ends.getD i 0)) acc
theorem wk_none {cs : List Cue} {g : Nat → Option Nat} {i : Nat} {is : List Nat} {ends : List Int} {acc : List Cue} (h : g i = none) : wk cs g (i :: is) ends acc = wk cs g is ends (acc ++ [(⟨fN cs i, ends.getD i 0, xN cs i⟩ : Cue)]) := by
  rw [wk, h]
theorem wk_some {cs : List Cue} {g : Nat → Option Nat} {i p : Nat} {is : List Nat} {ends : List Int} {acc : List Cue} (h : g i = some p) : wk cs g (i :: is) ends acc = wk cs g is (ends.set p (ends.getD i 0)) acc := by
  rw [wk, h]
theorem getD_set {l : List Int} {i j : Nat} {v : Int} : (l.set i v).getD j 0 = if i = j ∧ j < l.length then v else l.getD j 0 := by
  rw [List.getD_eq_getElem?_getD, List.getD_eq_getElem?_getD, List.getElem?_set]
  by_cases z : i = j
  · subst z
    rw [if_pos rfl]
    by_cases y : i < l.length
    · rw [if_pos y, if_pos ⟨rfl, y⟩]
      rfl
    · rw [if_neg y, if_neg fun w => y w.2, List.getElem?_eq_none (by omega)]
  · rw [if_neg z, if_neg fun w => z w.1]
theorem wk_str {cs : List Cue} {g : Nat → Option Nat} {lo hi : Nat} {e : Int} {L : List Cue} (s : Stk cs g lo hi e L) : ∀ (rest : List Nat) (ends : List Int) (acc : List Cue), hi ≤ ends.length → (lo < hi → ends.getD (hi - 1) 0 = e) → (∀ i, lo ≤ i → i + 1 < hi → ends.getD i 0 = tN' cs i) →
    ∃ ends', ends'.length = ends.length ∧ (∀ i, i < lo → ends'.getD i 0 = ends.getD i 0) ∧ wk cs g (down lo hi ++ rest) ends acc = wk cs g rest ends' (acc ++ L.reverse) := by
  induction s with
  | nil lo e =>
    intro rest ends acc _ _ _
    refine ⟨ends, rfl, fun _ _ => rfl, ?_⟩
    rw [down_nil (Nat.le_refl _), List.reverse_nil, List.append_nil]
    rfl
  | own lo h e L h1 hg s ih =>
    intro rest ends acc hl he ht
    have e0 := he (by omega)
    rw [Nat.add_sub_cancel] at e0
    obtain ⟨ends', l', k', w⟩ := ih rest ends (acc ++ [(⟨fN cs h, e, xN cs h⟩ : Cue)]) (by omega) (fun z => ht (h - 1) (by omega) (by omega)) fun i h1 h2 => ht i h1 (by omega)
    refine ⟨ends', l', k', ?_⟩
    rw [down_succ h1, List.cons_append]
    show (match g h with | none => wk cs g (down lo h ++ rest) ends (acc ++ [(⟨fN cs h, ends.getD h 0, xN cs h⟩ : Cue)]) | some p => wk cs g (down lo h ++ rest) (ends.set p (ends.getD h 0)) acc) = _
    rw [hg, e0]
    show wk cs g (down lo h ++ rest) ends (acc ++ [(⟨fN cs h, e, xN cs h⟩ : Cue)]) = _
    rw [w, List.reverse_append, List.append_assoc]
    rfl
  | link lo p h e L1 L2 h1 h2 hg gp sx s1 s2 ih1 ih2 =>
    intro rest ends acc hl he ht
    have e0 := he (by omega)
    rw [Nat.add_sub_cancel] at e0
    obtain ⟨ends2, l2, k2, w2⟩ := ih2 (down lo (p + 1) ++ rest) (ends.set p e) acc (by rw [List.length_set]; omega) (fun z => by rw [getD_set, if_neg (by omega)]; exact ht (h - 1) (by omega) (by omega)) fun i a b => by
      rw [getD_set, if_neg (by omega)]
      exact ht i (by omega) (by omega)
    rw [List.length_set] at l2
    obtain ⟨ends1, l1, k1, w1⟩ := ih1 rest ends2 (acc ++ L2.reverse) (by omega) (fun _ => by rw [Nat.add_sub_cancel, k2 p (by omega), getD_set, if_pos ⟨rfl, by omega⟩]) fun i a b => by
      rw [k2 i (by omega), getD_set, if_neg (by omega)]
      exact ht i a (by omega)
    refine ⟨ends1, by omega, fun i hi => by rw [k1 i hi, k2 i (by omega), getD_set, if_neg (by omega)], ?_⟩
    rw [down_succ (by omega), List.cons_append]
    show (match g h with | none => wk cs g (down lo h ++ rest) ends (acc ++ [(⟨fN cs h, ends.getD h 0, xN cs h⟩ : Cue)]) | some p => wk cs g (down lo h ++ rest) (ends.set p (ends.getD h 0)) acc) = _
    rw [hg, e0]
    show wk cs g (down lo h ++ rest) (ends.set p e) acc = _
    rw [down_split h lo (p + 1) (by omega) (by omega), List.append_assoc, w2, w1, List.reverse_append, List.append_assoc]
end Q78
namespace Q78
open PySem L2 DL
structure TabD (B : D) (n : Nat) (v : Nat → Nat → Int) : Prop where
  cell : ∀ k x : Nat, k ≤ x → x < n → ∃ r : D, (∀ (i : Int) (P : D → Prop), i = (k : Nat) → P r → gIx B (.int i) P) ∧ (∀ (j : Int) (P : D → Prop), j = (x : Int) - (k : Int) → P (.int (v k x)) → gIx r (.int j) P)
theorem bb_full {n k x : Nat} {v : Nat → Nat → Int} (h1 : k ≤ x) (h2 : x < n) : ∃ r, (bbRows n v 0 n)[k]? = some r ∧ r[x - k]? = some (v k x) := by
  by_cases z : k = 0
  · exact bb_at (by omega) (.inl ⟨z, by omega, h2⟩)
  · exact bb_at (by omega) (.inr ⟨by omega, h1, h2⟩)
theorem tab_list (n : Nat) (v : Nat → Nat → Int) : TabD (rowsN (bbRows n v 0 n)) n v := ⟨fun k x h1 h2 => by
  obtain ⟨r, a, b⟩ := bb_full (v := v) h1 h2
  refine ⟨.list (r.map PyData.int), fun i P e h => ?_, fun j P e h => ?_⟩
  · subst e
    exact ⟨_, atI_nat (by rw [List.getElem?_map, a]; rfl), h⟩
  · rw [show j = ((x - k : Nat) : Int) by omega]
    exact ⟨_, atI_nat (by rw [List.getElem?_map, b]; rfl), h⟩⟩
def tabT (rows : List (List Int)) : D := .tuple (rows.map fun r => .tuple (r.map PyData.int))
theorem tab_tuple (n : Nat) (v : Nat → Nat → Int) : TabD (tabT (bbRows n v 0 n)) n v := ⟨fun k x h1 h2 => by
  obtain ⟨r, a, b⟩ := bb_full (v := v) h1 h2
  refine ⟨.tuple (r.map PyData.int), fun i P e h => ?_, fun j P e h => ?_⟩
  · subst e
    exact ⟨_, atI_nat (by rw [List.getElem?_map, a]; rfl), h⟩
  · rw [show j = ((x - k : Nat) : Int) by omega]
    exact ⟨_, atI_nat (by rw [List.getElem?_map, b]; rfl), h⟩⟩
section
variable {B : D} {n low high : Nat} {v : Nat → Nat → Int} (tb : TabD B n v) (hn : high ≤ n) (hl : low ≤ high)
include tb hn hl
theorem d_joinedT {p : Nat} (h1 : low ≤ p) (h2 : p < high) {m : Nat} {P : D → Nat → Prop} (h : P (.int (joi v low high p)) 0) : r__joined [.d B, .d (.int (low : Nat)), .d (.int (p : Nat)), .d (.int (high : Nat))] m P := by
  obtain ⟨r1, a1, b1⟩ := tb.cell low p h1 (by omega)
  refine ⟨trivial, trivial, a1 _ _ rfl ⟨trivial, trivial, b1 _ _ (by omega) ?_⟩⟩
  refine ⟨trivial, trivial, ?_⟩
  show if decide (((p : Nat) : Int) + 1 < ((high : Nat) : Int)) = true then _ else _
  unfold joi at h
  by_cases y : p + 1 < high
  · rw [if_pos (decide_eq_true (by omega))]
    rw [if_pos y] at h
    obtain ⟨r2, a2, b2⟩ := tb.cell (p + 1) (high - 1) (by omega) (by omega)
    refine ⟨trivial, trivial, trivial, a2 _ _ (by omega) ⟨trivial, trivial, b2 _ _ (by omega) ?_⟩⟩
    exact ⟨hd_d, h⟩
  · rw [if_neg (by simp; omega)]
    rw [if_neg y, Int.add_zero] at h
    exact ⟨hd_d, h⟩
end
def optD : Option Nat → D
  | none => .none
  | some p => .int (p : Nat)
theorem pi_loop {cs : List Cue} {B : D} {n low high : Nat} (tb : TabD B n (val (prt cs))) (hn : high < n) (hl : low ≤ high) {L : D} {E : DE} : ∀ (ps : List Nat) (s4 : Sl), (∀ p ∈ ps, p < high) →
    ((ps.find? fun p => decide (low ≤ p) && decide (joi (val (prt cs)) low high p = val (prt cs) low high)) = none → ∀ s4, E.nx [.im B, .im L, .im (.int (low : Nat)), .im (.int (high : Nat)), s4]) →
    (∀ p, (ps.find? fun p => decide (low ≤ p) && decide (joi (val (prt cs)) low high p = val (prt cs) low high)) = some p → ∀ s4, E.rt (.int (p : Nat)) [.im B, .im L, .im (.int (low : Nat)), .im (.int (high : Nat)), s4]) →
    forL (gN 4) (sIf (bAnd (bD (d2 gGe (hS 4) (hS 2))) (bD (d2 gEq (hV (dCall 4 r__joined (aCons (dV 0) (aCons (dV 2) (aCons (dV 4) (aCons (dV 3) (aNil))))))) (hV (d2 gIx (hV (d2 gIx (hS 0) (hS 2))) (hV (d2 DL.gSub (hS 3) (hS 2)))))))) (sRet (dV 4)) (sNo)) E (ps.map fun p : Nat => .int (p : Int)) [.im B, .im L, .im (.int (low : Nat)), .im (.int (high : Nat)), s4]
  | [], s4, _, h0, _ => h0 rfl s4
  | p :: ps, s4, hp, h0, h1 => by
    have p1 := hp p List.mem_cons_self
    have next : (decide (low ≤ p) && decide (joi (val (prt cs)) low high p = val (prt cs) low high)) = false → forL (gN 4) (sIf (bAnd (bD (d2 gGe (hS 4) (hS 2))) (bD (d2 gEq (hV (dCall 4 r__joined (aCons (dV 0) (aCons (dV 2) (aCons (dV 4) (aCons (dV 3) (aNil))))))) (hV (d2 gIx (hV (d2 gIx (hS 0) (hS 2))) (hV (d2 DL.gSub (hS 3) (hS 2)))))))) (sRet (dV 4)) (sNo)) E (ps.map fun p : Nat => .int (p : Int)) [.im B, .im L, .im (.int (low : Nat)), .im (.int (high : Nat)), .im (.int (p : Nat))] := fun no =>
      pi_loop tb hn hl ps _ (fun q hq => hp q (List.mem_cons_of_mem _ hq)) (fun e => h0 (by rw [List.find?_cons, no]; exact e)) fun q e => h1 q (by rw [List.find?_cons, no]; exact e)
    refine ⟨trivial, trivial, ?_⟩
    show if decide (((low : Nat) : Int) ≤ ((p : Nat) : Int)) = true then _ else _
    by_cases z : low ≤ p
    · rw [if_pos (decide_eq_true (by omega))]
      refine ⟨rfl, rfl, d_joinedT tb (Nat.le_of_lt hn) hl z p1 ?_⟩
      obtain ⟨r1, a1, b1⟩ := tb.cell low high hl hn
      refine ⟨trivial, trivial, a1 _ _ rfl ⟨trivial, trivial, b1 _ _ (by omega) ⟨rfl, rfl, ?_⟩⟩⟩
      rw [eqI]
      show if decide (joi (val (prt cs)) low high p = val (prt cs) low high) = true then _ else _
      by_cases y : joi (val (prt cs)) low high p = val (prt cs) low high
      · rw [if_pos (decide_eq_true y)]
        exact h1 p (by rw [List.find?_cons, decide_eq_true z, decide_eq_true y]; rfl) _
      · rw [if_neg (by simpa using y)]
        exact next (by rw [decide_eq_false y, Bool.and_false])
    · rw [if_neg (by simp; omega)]
      exact next (by rw [decide_eq_false z, Bool.false_and])
theorem d_partner {cs : List Cue} {B : D} {n low high : Nat} (tb : TabD B n (val (prt cs))) (hn : high < n) (hl : low ≤ high) {m : Nat} {P : D → Nat → Prop} (h : P (optD (pick1 cs low high)) 0) : r__partner_in [.d B, .d (natD (prt cs high)), .d (.int (low : Nat)), .d (.int (high : Nat))] m P := by
  refine pi_loop tb hn hl (prt cs high) _ (fun p hp => prt_lt high p hp) (fun e s4 => ?_) fun p e s4 => ?_
  · have e : pick1 cs low high = none := e
    rw [e] at h
    exact ⟨hd_d, h⟩
  · have e : pick1 cs low high = some p := e
    rw [e] at h
    exact ⟨hd_d, h⟩
def WD (W : List (Option Nat)) : D := .list (W.map optD)
def gW (W : List (Option Nat)) (i : Nat) : Option Nat := W.getD i none
theorem w_get {W : List (Option Nat)} {i : Nat} (h : i < W.length) : (W.map optD)[i]? = some (optD (gW W i)) := by
  unfold gW
  (rw [List.getElem?_map, List.getElem?_eq_getElem h, List.getD_eq_getElem?_getD, List.getElem?_eq_getElem h])
  rfl
theorem e_get {l : List Int} {i : Nat} (h : i < l.length) : (l.map PyData.int)[i]? = some (.int (l.getD i 0)) := by
  (rw [List.getElem?_map, List.getElem?_eq_getElem h, List.getD_eq_getElem?_getD, List.getElem?_eq_getElem h])
  rfl
abbrev stBody : SM := sIf (bD (d2 gIs (hV (d2 gIx (hS 1) (hS 4))) (hV (dC .none)))) (sApp 3 (dTup (lCons (d2 gIx (hV (d2 gIx (hS 0) (hS 4))) (hV (dC (.int 0)))) (lCons (d2 gIx (hS 2) (hS 4)) (lCons (d2 gIx (hV (d2 gIx (hS 0) (hS 4))) (hV (dC (.int 2)))) (lNil)))))) (sPut 2 (d2 gIx (hS 1) (hS 4)) (d2 gIx (hS 2) (hS 4)))
theorem st_loop {cs : List Cue} {W : List (Option Nat)} (lw : W.length = cs.length) (hp : ∀ i p, gW W i = some p → p < cs.length) {E : DE} : ∀ (is : List Nat) (ends : List Int) (acc : List Cue) (s4 : Sl), (∀ i ∈ is, i < cs.length) → ends.length = cs.length → acc.length + is.length < 1000000 →
    (∀ (ends2 : List Int) (s4 : Sl), E.nx [.im (fileD cs), .im (WD W), .ow (.list (ends2.map PyData.int)), .ow (.list ((wk cs (gW W) is ends acc).map Cue.d)), s4, .no]) →
    forL (gN 4) stBody E (is.map fun i : Nat => .int (i : Int)) [.im (fileD cs), .im (WD W), .ow (.list (ends.map PyData.int)), .ow (.list (acc.map Cue.d)), s4, .no]
  | [], ends, acc, s4, _, _, _, h => h ends s4
  | i :: is, ends, acc, s4, hi, le, la, h => by
    rw [List.length_cons] at la
    have i1 := hi i List.mem_cons_self
    have wi := w_get (W := W) (i := i) (by omega)
    have ei := e_get (l := ends) (i := i) (by omega)
    have ci := cue_get (cs := cs) i1
    refine ⟨trivial, trivial, _, atI_nat wi, ?_⟩
    cases e : gW W i with
    | none =>
      rw [wk_none e] at h
      refine ⟨trivial, trivial, trivial, _, atI_nat ci.2, _, rfl, trivial, trivial, _, atI_nat ei, trivial, trivial, _, atI_nat ci.2, _, rfl, (by show 3 ≤ 1000000; omega), (by rw [List.length_map]; omega), ?_⟩
      have k := st_loop lw hp (E := E) is ends (acc ++ [(⟨fN cs i, ends.getD i 0, xN cs i⟩ : Cue)]) (.im (.int (i : Nat))) (fun j hj => hi j (List.mem_cons_of_mem _ hj)) le (by rw [List.length_append]; show acc.length + 1 + is.length < 1000000; omega) h
      rw [List.map_append] at k
      exact k
    | some p =>
      rw [wk_some e] at h
      have p1 := hp i p e
      refine ⟨trivial, trivial, _, atI_nat ei, trivial, trivial, trivial, optD (some p), atI_nat (by rw [wi, e]), ?_⟩
      refine ⟨p, ?_, ?_⟩
      · show ixN (ends.map PyData.int).length ((p : Nat) : Int) = some p
        unfold ixN
        rw [if_pos (by omega), if_pos (by rw [List.length_map]; omega)]
        rfl
      · have k := st_loop lw hp (E := E) is (ends.set p (ends.getD i 0)) acc (.im (.int (i : Nat))) (fun j hj => hi j (List.mem_cons_of_mem _ hj)) (by rw [List.length_set]; exact le) (by omega) h
        have es : (ends.set p (ends.getD i 0)).map PyData.int = (ends.map PyData.int).set p (.int (ends.getD i 0)) := by rw [List.map_set]
        rw [es] at k
        exact k
end Q78
namespace Q78
open PySem L2 DL
def endD : D → D
  | .tuple [_, t, _] => t
  | _ => .none
theorem d_strokes {cs : List Cue} {W : List (Option Nat)} {L : List Cue} (ln : cs.length ≤ 1000) (lw : W.length = cs.length) (hp : ∀ i p, gW W i = some p → p < cs.length) (s : Stk cs (gW W) 0 cs.length (tN' cs (cs.length - 1)) L)
    {m : Nat} {P : D → Nat → Prop} (h : P (fileD L) 0) : r__strokes [.d (fileD cs), .d (WD W)] m P := by
  refine ⟨by rw [List.length_map]; omega, ⟨by simp, fun j hj => by simp at hj; rcases hj with rfl; rfl⟩, ?_⟩
  refine lcL_map (ρ := [.im (fileD cs), .im (WD W), .no, .no, .no, .no]) endD _ [] ?_ ?_
  · intro d hd Q hQ
    obtain ⟨c, hc, rfl⟩ := List.mem_map.mp hd
    exact ⟨trivial, _, rfl, hQ _ rfl⟩
  · have e : ([] : List D) ++ (cs.map Cue.d).map endD = (cs.map fun c => c.t).map PyData.int := by
      rw [List.nil_append, List.map_map, List.map_map]
      rfl
    rw [e]
    refine ⟨(by show 0 ≤ 1000000; omega), ?_⟩
    refine ⟨trivial, ⟨by rw [List.length_map]; omega, by rw [List.length_map]; omega⟩, ?_⟩
    have er : rvD (((cs.map Cue.d).length : Nat) : Int) = (down 0 cs.length).map fun i : Nat => .int (i : Int) := by
      rw [List.length_map]
      unfold rvD down
      rw [List.map_map]
      refine List.map_congr_left fun i hi => ?_
      have := List.mem_range.mp hi
      show PyData.int ((cs.length : Int) - 1 - (i : Int)) = .int (((cs.length - 1 - i : Nat)) : Int)
      congr 1
      omega
    rw [er]
    have ld : (down 0 cs.length).length = cs.length := by simp [down]
    refine st_loop lw hp (down 0 cs.length) (cs.map fun c => c.t) [] _ (fun i hi => ?_) (List.length_map ..) (by rw [ld, List.length_nil]; omega) fun ends2 s4 => ?_
    · obtain ⟨j, hj, rfl⟩ := List.mem_map.mp hi
      have := List.mem_range.mp hj
      omega
    · have tg : ∀ i, i < cs.length → (cs.map fun c => c.t).getD i 0 = tN' cs i := fun i hi => by
        unfold tN' cueN
        rw [List.getD_eq_getElem?_getD, List.getElem?_map, List.getD_eq_getElem?_getD, List.getElem?_eq_getElem hi]
        rfl
      obtain ⟨ends', _, _, w⟩ := wk_str s [] (cs.map fun c => c.t) [] (by rw [List.length_map]; exact Nat.le_refl _) (fun z => tg _ (by omega)) fun i _ hi => tg i (by omega)
      rw [List.append_nil, List.nil_append] at w
      rw [w]
      have e2 : wk cs (gW W) [] ends' L.reverse = L.reverse := rfl
      rw [e2]
      have e3 : (L.reverse.map Cue.d).reverse = L.map Cue.d := by rw [← List.map_reverse, List.reverse_reverse]
      have h : P (.tuple (L.map Cue.d)) 0 := h
      rw [← e3] at h
      exact ⟨trivial, hd_d, h⟩
def rD (r : Nat × Nat) : D := .tuple [.int (r.1 : Nat), .int ((r.2 : Nat) - 1)]
def msr (R : List (Nat × Nat)) : Nat := (R.map fun r => 2 * (r.2 - r.1) + 1).sum
theorem msr_app (R T : List (Nat × Nat)) : msr (R ++ T) = msr R + msr T := by
  unfold msr
  rw [List.map_append, List.sum_append]
theorem msr_one (r : Nat × Nat) : msr [r] = 2 * (r.2 - r.1) + 1 := by simp [msr]
theorem msr_len : ∀ R : List (Nat × Nat), R.length ≤ msr R
  | [] => Nat.le_refl _
  | r :: R => by
    have := msr_len R
    have e := msr_app [r] R
    rw [msr_one] at e
    show R.length + 1 ≤ msr ([r] ++ R)
    omega
theorem pop_ok {ρ : DL.Env} {i : Nat} {ds : List D} {d : D} {P : D → DL.Env → Prop} (h : ρ[i]? = some (.ow (.list (ds ++ [d])))) (k : P d (ρ.set i (.ow (.list ds)))) : dPop i ρ P := by
  unfold dPop ownL
  rw [h]
  have e : (ds ++ [d])[(ds ++ [d]).length - 1]? = some d := by simp
  have e2 : (ds ++ [d]).dropLast = ds := List.dropLast_concat
  dsimp only
  rw [e]
  dsimp only
  rw [e2]
  exact k
theorem asg_pop {ρ : DL.Env} {i : Nat} {ds : List D} {d : D} {t : TM} {R : SM} {E : DE} (h : ρ[i]? = some (.ow (.list (ds ++ [d])))) (k : t d (ρ.set i (.ow (.list ds))) (R E)) : sSeq (sAsg (dPop i) t) R E ρ := by
  show dPop i ρ fun d ρ1 => t d ρ1 (R E)
  exact pop_ok h k
theorem over_whole {W l : List (Option Nat)} (h : l.length = W.length) : over W 0 l = l := by
  unfold over
  rw [List.take_zero, List.nil_append, List.drop_eq_nil_of_le (by omega), List.append_nil]
abbrev fiB : SM := sSeq (sAsg (dPop 4) (gTupT 2 (gConsT (gN 5) (gConsT (gN 6) (gNoT))))) (sIf (bD (d2 gLe (hS 5) (hS 6))) (sSeq (sSet 7 (dCall 4 r__partner_in (aCons (dV 1) (aCons (d2 gIx (hS 2) (hS 6)) (aCons (dV 5) (aCons (dV 6) (aNil))))))) (sSeq (sPut 3 (dV 6) (dV 7)) (sIf (bD (d2 gIs (hS 7) (hV (dC .none)))) (sApp 4 (dTup (lCons (dV 5) (lCons (d2 DL.gSub (hS 6) (hV (dC (.int 1)))) (lNil))))) (sSeq (sApp 4 (dTup (lCons (dV 5) (lCons (dV 7) (lNil))))) (sApp 4 (dTup (lCons (d2 gAdd (hS 7) (hV (dC (.int 1)))) (lCons (d2 DL.gSub (hS 6) (hV (dC (.int 1)))) (lNil))))))))) (sNo))
def psD (cs : List Cue) : D := .list ((List.range cs.length).map fun h => natD (prt cs h))
theorem ps_get {cs : List Cue} {h : Nat} (hh : h < cs.length) : ((List.range cs.length).map fun h => natD (prt cs h))[h]? = some (natD (prt cs h)) := by
  rw [List.getElem?_map, List.getElem?_range hh]
  rfl
theorem fi_while {cs : List Cue} {B : D} (ln : cs.length ≤ 1000) (tb : TabD B cs.length (val (prt cs))) {E : DE} (h : ∀ s5 s6 s7, E.nx [.im (fileD cs), .im B, .im (psD cs), .ow (WD (SO cs 0 cs.length)), .ow (.list []), s5, s6, s7]) :
    sWhile (bTruth (hS 4)) fiB E [.im (fileD cs), .im B, .im (psD cs), .ow (WD (List.replicate cs.length none)), .ow (.list [rD (0, cs.length)]), .no, .no, .no] := by
  have l0 : (List.replicate cs.length (none : Option Nat)).length = cs.length := List.length_replicate
  refine ⟨fun n ρ => ∃ (R : List (Nat × Nat)) (W : List (Option Nat)) (s5 s6 s7 : Sl), ρ = [.im (fileD cs), .im B, .im (psD cs), .ow (WD W), .ow (.list (R.map rD)), s5, s6, s7] ∧ W.length = cs.length ∧ (∀ r ∈ R, r.1 ≤ r.2 ∧ r.2 ≤ cs.length) ∧ fillR cs R W = SO cs 0 cs.length ∧ n = msr R ∧ n ≤ 2001,
    ⟨_, [(0, cs.length)], List.replicate cs.length none, .no, .no, .no, rfl, l0, fun r hr => ?_, ?_, rfl, ?_⟩, ?_⟩
  · (rw [List.mem_singleton.mp hr])
    exact ⟨Nat.zero_le _, Nat.le_refl _⟩
  · show over (List.replicate cs.length none) 0 (SO cs 0 cs.length) = _
    exact over_whole (by rw [so_len, l0]; omega)
  · rw [msr_one]
    show 2 * (cs.length - 0) + 1 ≤ 2001
    omega
  rintro n ρ ⟨R, W, s5, s6, s7, rfl, lw, hR, fl, rfl, hm⟩
  refine ⟨trivial, ?_⟩
  rcases List.eq_nil_or_concat R with rfl | ⟨R', r, rfl⟩
  · have fl : W = SO cs 0 cs.length := fl
    rw [fl]
    exact h _ _ _
  · rw [List.concat_eq_append] at hR fl hm ⊢
    have tr : truD (.list ((R' ++ [r]).map rD)) = true := by
      rw [List.map_append]
      show (!(R'.map rD ++ [rD r]).isEmpty) = true
      simp
    show if truD (.list ((R' ++ [r]).map rD)) = true then _ else _
    rw [if_pos tr]
    obtain ⟨lo, hi⟩ := r
    have hr := hR (lo, hi) (List.mem_append_right _ (List.mem_singleton.mpr rfl))
    have hR' : ∀ r ∈ R', r.1 ≤ r.2 ∧ r.2 ≤ cs.length := fun r h => hR r (List.mem_append_left _ h)
    have hr : lo ≤ hi ∧ hi ≤ cs.length := hr
    rw [fill_top] at fl
    have fl : fillR cs R' (over W lo (SO cs lo hi)) = SO cs 0 cs.length := fl
    have ms : msr (R' ++ [(lo, hi)]) = msr R' + (2 * (hi - lo) + 1) := by rw [msr_app, msr_one]
    have ml := msr_len R'
    refine asg_pop (ρ := [.im (fileD cs), .im B, .im (psD cs), .ow (WD W), .ow (.list ((R' ++ [(lo, hi)]).map rD)), s5, s6, s7]) (i := 4) (ds := R'.map rD) (d := rD (lo, hi)) (by show some (Sl.ow (.list ((R' ++ [(lo, hi)]).map rD))) = _; rw [List.map_append]; rfl) ?_
    refine ⟨rfl, rfl, trivial, trivial, ?_⟩
    show if decide (((lo : Nat) : Int) ≤ ((hi : Nat) : Int) - 1) = true then _ else _
    by_cases z : lo < hi
    · rw [if_pos (decide_eq_true (by omega))]
      obtain ⟨hh, rfl⟩ : ∃ hh, hi = hh + 1 := ⟨hi - 1, by omega⟩
      have eh : (((hh + 1 : Nat) : Int) - 1) = ((hh : Nat) : Int) := by omega
      show sSeq _ _ _ [.im (fileD cs), .im B, .im (psD cs), .ow (WD W), .ow (.list (R'.map rD)), .im (.int (lo : Nat)), .im (.int (((hh + 1 : Nat) : Int) - 1)), s7]
      rw [eh]
      refine ⟨trivial, trivial, natD (prt cs hh), atI_nat (ps_get (by omega)), rfl, rfl, d_partner tb (by omega) (by omega) ?_⟩
      refine ⟨trivial, hh, ?_, ?_⟩
      · show ixN (W.map optD).length ((hh : Nat) : Int) = some hh
        unfold ixN
        rw [if_pos (by omega), if_pos (by rw [List.length_map]; omega)]
        rfl
      refine ⟨trivial, ?_⟩
      have eW : (W.map optD).set hh (optD (pick1 cs lo hh)) = (W.set hh (pick1 cs lo hh)).map optD := by rw [List.map_set]
      show if isN (optD (pick1 cs lo hh)) = true then _ else _
      cases e : pick1 cs lo hh with
      | none =>
        rw [e] at eW
        rw [if_pos (show isN (optD none) = true from rfl)]
        rw [SO_none (by omega) e, ← over_none (h := hh) (by rw [so_len]; omega) (by omega)] at fl
        refine ⟨trivial, trivial, (by show 2 ≤ 1000000; omega), (by rw [List.length_map]; omega), ?_⟩
        refine ⟨_, ?_, R' ++ [(lo, hh)], W.set hh none, .im (.int (lo : Nat)), .im (.int (hh : Nat)), .im .none, ?_, by rw [List.length_set]; exact lw, ?_, by rw [fill_top]; exact fl, rfl, ?_⟩
        · rw [ms, msr_app, msr_one]
          show msr R' + (2 * (hh - lo) + 1) < _
          omega
        · show [_, _, _, Sl.ow (.list ((W.map optD).set hh .none)), Sl.ow (.list (R'.map rD ++ [_])), _, _, _] = _
          have eW : (W.map optD).set hh .none = (W.set hh none).map optD := eW
          rw [eW, List.map_append]
          rfl
        · intro r h
          (rcases List.mem_append.mp h with h | h)
          · exact hR' r h
          · rw [List.mem_singleton.mp h]
            exact ⟨by show lo ≤ hh; omega, by show hh ≤ _; omega⟩
        · rw [msr_app, msr_one]
          show msr R' + (2 * (hh - lo) + 1) ≤ 2001
          omega
      | some p =>
        obtain ⟨_, p1, p2, _⟩ := pick_some e
        rw [e] at eW
        rw [if_neg (by exact Bool.false_ne_true)]
        rw [SO_some (by omega) e, ← over_two (p := p) (h := hh) (by rw [so_len]; omega) (by rw [so_len]; omega) (by omega)] at fl
        refine ⟨trivial, (by show 2 ≤ 1000000; omega), (by rw [List.length_map]; omega), ?_⟩
        refine ⟨trivial, trivial, trivial, (by show 2 ≤ 1000000; omega), (by rw [List.length_append, List.length_map]; show R'.length + 1 < _; omega), ?_⟩
        refine ⟨_, ?_, R' ++ [(lo, p + 1)] ++ [(p + 1, hh)], W.set hh (some p), .im (.int (lo : Nat)), .im (.int (hh : Nat)), .im (.int (p : Nat)), ?_, by rw [List.length_set]; exact lw, ?_, by rw [fill_top, fill_top]; exact fl, rfl, ?_⟩
        · rw [ms, msr_app, msr_app, msr_one, msr_one]
          show msr R' + (2 * (p + 1 - lo) + 1) + (2 * (hh - (p + 1)) + 1) < _
          omega
        · show [_, _, _, Sl.ow (.list ((W.map optD).set hh (.int (p : Nat)))), Sl.ow (.list ((R'.map rD ++ [.tuple [.int (lo : Nat), .int (p : Nat)]]) ++ [.tuple [.int (((p : Nat) : Int) + 1), .int (((hh : Nat) : Int) - 1)]])), _, _, _] = _
          have eW : (W.map optD).set hh (.int (p : Nat)) = (W.set hh (some p)).map optD := eW
          have e1 : (.tuple [.int (lo : Nat), .int (p : Nat)] : D) = rD (lo, p + 1) := by
            unfold rD
            show _ = PyData.tuple [.int (lo : Nat), .int (((p + 1 : Nat) : Int) - 1)]
            rw [show (((p + 1 : Nat) : Int) - 1) = (p : Int) by omega]
          have e2 : (.tuple [.int (((p : Nat) : Int) + 1), .int (((hh : Nat) : Int) - 1)] : D) = rD (p + 1, hh) := by
            unfold rD
            show _ = PyData.tuple [.int ((p + 1 : Nat) : Int), .int (((hh : Nat) : Int) - 1)]
            rw [show ((p : Int) + 1) = ((p + 1 : Nat) : Int) by omega]
          rw [eW, e1, e2, List.map_append, List.map_append]
          rfl
        · intro r h
          (rcases List.mem_append.mp h with h | h)
          · (rcases List.mem_append.mp h with h | h)
            · exact hR' r h
            · rw [List.mem_singleton.mp h]
              exact ⟨by show lo ≤ p + 1; omega, by show p + 1 ≤ _; omega⟩
          · rw [List.mem_singleton.mp h]
            exact ⟨by show p + 1 ≤ hh; omega, by show hh ≤ _; omega⟩
        · rw [msr_app, msr_app, msr_one, msr_one]
          show msr R' + (2 * (p + 1 - lo) + 1) + (2 * (hh - (p + 1)) + 1) ≤ 2001
          omega
    · rw [if_neg (by simp; omega)]
      rw [SO_nil (by omega)] at fl
      have e0 : over W lo [] = W := by
        unfold over
        rw [List.append_nil]
        exact List.take_append_drop lo W
      rw [e0] at fl
      exact ⟨msr R', by omega, R', W, .im (.int (lo : Nat)), .im (.int (((hi : Nat) : Int) - 1)), s7, rfl, lw, hR', fl, rfl, by omega⟩
end Q78
namespace Q78
open PySem L2 DL
theorem d_mostT {cs : List Cue} {B : D} {n low high : Nat} (tb : TabD B n (val (prt cs))) (hn : high ≤ n) (hl : low ≤ high) (l1 : high ≤ 1000) {m : Nat} {P : D → Nat → Prop} (h : P (.int (val (prt cs) low high)) 0) : r__most_of [.d B, .d (natD (prt cs high)), .d (.int (low : Nat)), .d (.int (high : Nat))] m P := by
  have lt : ∀ high, ∀ p ∈ prt cs high, p < high := prt_lt
  refine ⟨trivial, trivial, rfl, rfl, ?_⟩
  show if PyData.eqv (.int ((low : Nat) : Int)) (.int ((high : Nat) : Int)) = true then _ else _
  rw [eqI]
  by_cases e : low = high
  · rw [if_pos (decide_eq_true (by omega))]
    subst e
    rw [val_one] at h
    exact ⟨hd_d, h⟩
  · rw [if_neg (by simp; omega)]
    have len : ∀ k, (scan cs high k).length ≤ k := by
      intro k
      induction k with
      | zero => exact Nat.le_refl _
      | succ k ih =>
        unfold scan
        split
        · rw [List.length_append]
          split
          · simp
            omega
          · simp
            omega
        · simp
    have lp : (prt cs high).length ≤ high := len high
    refine ⟨by rw [List.length_map]; omega, ⟨by simp, fun j hj => by simp at hj; rcases hj with rfl; rfl⟩, ?_⟩
    refine lcL_filt (ρ := [.im B, .im (natD (prt cs high)), .im (.int (low : Nat)), .im (.int (high : Nat)), .no, .no]) (geD low) (joiD (val (prt cs)) low high) _ [] ?_ ?_
    · intro d hd Q R hQ hR
      obtain ⟨p, hp, rfl⟩ := List.mem_map.mp hd
      refine ⟨trivial, trivial, ?_⟩
      show if decide (((low : Nat) : Int) ≤ ((p : Nat) : Int)) = true then _ else _
      by_cases z : low ≤ p
      · rw [if_pos (decide_eq_true (by omega))]
        refine ⟨rfl, rfl, d_joinedT tb hn hl z (lt high p hp) ?_⟩
        exact hQ (decide_eq_true (by omega)) _ rfl
      · rw [if_neg (by simp; omega)]
        exact hR (decide_eq_false (by omega)) _ rfl
    · have e1 : ([] : List D) ++ ((((prt cs high).map fun i : Nat => PyData.int (i : Int)).filter (geD low)).map (joiD (val (prt cs)) low high)) = (((prt cs high).filter fun p => decide (low ≤ p)).map (joi (val (prt cs)) low high)).map PyData.int := by
        rw [List.nil_append, List.filter_map, List.map_map, List.map_map]
        have e2 : (geD low ∘ fun i : Nat => PyData.int (i : Int)) = fun p : Nat => decide (low ≤ p) := by
          funext p
          show decide ((low : Int) ≤ (p : Int)) = _
          by_cases z : low ≤ p
          · rw [decide_eq_true z, decide_eq_true (by omega)]
          · rw [decide_eq_false z, decide_eq_false (by omega)]
        rw [e2]
        rfl
      rw [e1]
      obtain ⟨r1, a1, b1⟩ := tb.cell low (high - 1) (by omega) (by omega)
      rw [val_eq lt (by omega)] at h
      have lx : (((prt cs high).filter fun p => decide (low ≤ p)).map (joi (val (prt cs)) low high)).length ≤ high := by
        rw [List.length_map]
        exact Nat.le_trans (List.length_filter_le ..) lp
      generalize ((prt cs high).filter fun p => decide (low ≤ p)).map (joi (val (prt cs)) low high) = xs at h lx ⊢
      refine ⟨trivial, trivial, a1 _ _ rfl ⟨trivial, trivial, b1 _ _ (by omega) ?_⟩⟩
      refine ⟨⟨_, rfl⟩, _, rfl, ?_, (val (prt cs) low (high - 1) + 1) :: xs, ?_, (by simp), fun mm hm hle => ?_⟩
      · simp
        omega
      · rw [List.append_nil]
        exact ofInts_map ((val (prt cs) low (high - 1) + 1) :: xs)
      · rw [minI_is hm hle]
        exact ⟨hd_d, h⟩
structure FlC (cs : List Cue) : Prop where
  row : Row cs
  hx : ∀ i j, j < cs.length → i < j → same cs i j = true → xN cs i = xN cs j
  gf : GF cs
  l : cs.length ≤ 40
theorem FlC.tx {cs : List Cue} (c : FlC cs) : Tx3 cs := ⟨fun d hd => (c.gf d hd).x.tx.ok, by have := c.l; omega⟩
theorem fl_flc {A : List Cue} (g : GF A) (l : A.length ≤ 20) : FlC (fl A) := by
  have h := ci_canon (g_eq (gf1 g)) 90
  have cg := fl_good g
  have ll := fl_len g
  refine ⟨⟨fun i hi => ?_, fun i j hij hj => ?_⟩, fun i j hj hij s => ?_, cg, by omega⟩
  · exact (cg _ (cue_get hi).1).ft
  · have hp := List.pairwise_iff_getElem.mp h.dj i j (show i < (fl A).length by omega) hj hij
    have e : ∀ k (hk : k < (fl A).length), cueN (fl A) k = (fl A)[k] := fun k hk => by
      unfold cueN
      rw [List.getD_eq_getElem?_getD, List.getElem?_eq_getElem hk]
      rfl
    unfold tN' fN
    rw [e i (by omega), e j hj]
    exact hp
  · exact OT.eq (cg _ (cue_get (show i < (fl A).length by omega)).1).x (cg _ (cue_get hj).1).x s
theorem so_lt (cs : List Cue) : ∀ (n lo hi : Nat), hi ≤ n → ∀ (i p : Nat), (SO cs lo hi)[i]? = some (some p) → p < hi
  | _, lo, 0, _, i, p, e => by
    rw [SO_nil (by omega)] at e
    simp at e
  | 0, _, hi + 1, h, _, _, _ => by omega
  | n + 1, lo, h + 1, hn, i, p, e => by
    by_cases z : lo ≤ h
    · cases ep : pick1 cs lo h with
      | none =>
        rw [SO_none z ep] at e
        by_cases y : i < (SO cs lo h).length
        · rw [List.getElem?_append_left y] at e
          have := so_lt cs n lo h (by omega) i p e
          omega
        · rw [List.getElem?_append_right (by omega)] at e
          have := List.mem_of_getElem? e
          simp at this
      | some q =>
        obtain ⟨_, q1, q2, _⟩ := pick_some ep
        rw [SO_some z ep] at e
        have m := List.mem_of_getElem? e
        rcases List.mem_append.mp m with m | m
        · rcases List.mem_append.mp m with m | m
          · obtain ⟨j, hj⟩ := List.mem_iff_getElem?.mp m
            have := so_lt cs n lo (q + 1) (by omega) j p hj
            omega
          · obtain ⟨j, hj⟩ := List.mem_iff_getElem?.mp m
            have := so_lt cs n (q + 1) h (by omega) j p hj
            omega
        · have := List.mem_singleton.mp m
          cases this
          omega
    · rw [SO_nil (by omega)] at e
      simp at e
def told (cs : List Cue) : List Cue := (wk cs (gW (SO cs 0 cs.length)) (down 0 cs.length) (cs.map fun c => c.t) []).reverse
section
variable {cs : List Cue} (c : FlC cs)
include c
theorem told_str : Stk cs (gW (SO cs 0 cs.length)) 0 cs.length (tN' cs (cs.length - 1)) (told cs) ∧ ((told cs).length : Int) = few cs := by
  obtain ⟨L, s, l⟩ := so_str (g := gW (SO cs 0 cs.length)) c.hx cs.length 0 cs.length (tN' cs (cs.length - 1)) (Nat.le_refl _) (Nat.le_refl _) (Nat.zero_le _) fun i hi => by
    unfold gW
    rw [Nat.zero_add, List.getD_eq_getElem?_getD]
  have tg : ∀ i, i < cs.length → (cs.map fun c => c.t).getD i 0 = tN' cs i := fun i hi => by
    unfold tN' cueN
    rw [List.getD_eq_getElem?_getD, List.getElem?_map, List.getD_eq_getElem?_getD, List.getElem?_eq_getElem hi]
    rfl
  obtain ⟨ends', _, _, w⟩ := wk_str s [] (cs.map fun c => c.t) [] (by rw [List.length_map]; exact Nat.le_refl _) (fun z => tg _ (by omega)) fun i _ hi => tg i (by omega)
  rw [List.append_nil, List.nil_append] at w
  have e : told cs = L := by
    unfold told
    rw [w]
    show L.reverse.reverse = L
    exact List.reverse_reverse L
  rw [e, few_vl]
  exact ⟨s, l⟩
theorem told_text (fr : Int) : textAt (told cs) fr = textAt cs fr := str_text c.row (told_str c).1 fr
theorem told_good : GF (told cs) := fun d hd => by
  obtain ⟨i, _, i2, e1, e2, e3, e4⟩ := str_in c.row (told_str c).1 (Nat.le_refl _) (fun _ => Int.le_refl _) d hd
  have g := c.gf _ (cue_get i2).1
  refine ⟨by rw [e1]; exact g.f0, e3, ?_, by rw [e2]; exact g.x⟩
  rcases e4 with e4 | ⟨j, j1, e4⟩
  · rw [e4]
    exact (c.gf _ (cue_get (show cs.length - 1 < cs.length by omega)).1).t1
  · rw [e4]
    exact (c.gf _ (cue_get j1).1).t1
theorem vl_le : ∀ h : Nat, vl (prt cs) 0 h ≤ h
  | 0 => by
    rw [vl_self prt_lt]
    exact Int.le_refl _
  | h + 1 => by
    have a := vl_own (pt := prt cs) prt_lt (i := 0) (h := h) (Nat.zero_le _)
    have := vl_le h
    omega
theorem told_len : (told cs).length ≤ cs.length := by
  have a := (told_str c).2
  have b := vl_le c cs.length
  rw [few_vl] at a
  omega
theorem d_file_of {B : D} (tb : TabD B cs.length (val (prt cs))) {m : Nat} {P : D → Nat → Prop} (h : P (fileD (told cs)) 0) : r__file_of [.d (fileD cs), .d B] m P := by
  have l := c.l
  have st := (told_str c).1
  refine ⟨rfl, rfl, d_partners c.tx ?_⟩
  refine ⟨(by show 1 ≤ 1000000; omega), trivial, ?_⟩
  refine ⟨by rw [List.length_map]; omega, by rw [List.length_map]; omega, by rw [List.length_map]; show 1 * ((cs.length : Nat) : Int).toNat ≤ 1000000; omega, ?_⟩
  refine ⟨trivial, (by show 2 ≤ 1000000; omega), (by show 1 ≤ 1000000; omega), ?_⟩
  have e1 : (List.replicate (((cs.map Cue.d).length : Nat) : Int).toNat [PyData.none]).flatten = (List.replicate cs.length (none : Option Nat)).map optD := by
    rw [List.length_map, Int.toNat_natCast, List.map_replicate]
    show _ = List.replicate cs.length PyData.none
    generalize cs.length = k
    induction k with
    | zero => rfl
    | succ k ih =>
      rw [List.replicate_succ, List.flatten_cons, ih, List.replicate_succ]
      rfl
  show sSeq (sWhile (bTruth (hS 4)) fiB) (sRet _) _ [.im (fileD cs), .im B, .im (psD cs), .ow (.list (List.replicate (((cs.map Cue.d).length : Nat) : Int).toNat [PyData.none]).flatten), .ow (.list [.tuple [.int 0, .int ((((cs.map Cue.d).length : Nat) : Int) - 1)]]), .no, .no, .no]
  rw [e1, List.length_map]
  refine fi_while (by omega) tb fun s5 s6 s7 => ?_
  refine ⟨rfl, rfl, d_strokes (by omega) (so_len cs 0 cs.length) (fun i p e => ?_) st ?_⟩
  · unfold gW at e
    rw [List.getD_eq_getElem?_getD] at e
    cases z : (SO cs 0 cs.length)[i]? with
    | none => rw [z] at e; cases e
    | some q =>
      rw [z] at e
      have e : q = some p := e
      rw [e] at z
      exact so_lt cs cs.length 0 cs.length (Nat.le_refl _) i p z
  · exact ⟨hd_d, h⟩
end
end Q78
namespace Q78
open PySem L2 DL
abbrev tbl (cs : List Cue) : List (List Int) := bbRows cs.length (val (prt cs)) 0 cs.length
abbrev paperD (cs : List Cue) : D := .tuple [fileD (told cs), tabT (tbl cs)]
theorem fewest_eq {A : List Cue} (g : GF A) (l : A.length ≤ 20) {m : Nat} {P : D → Nat → Prop} (h : P (.int (few (fl A))) 0) : r_fewest [.d (fileD A)] m P := d_fewest (cs := fl A) (fun m P h => d_flat g (by omega) h) (fl_flc g l).tx h
theorem d_fewest_file {A : List Cue} (g : GF A) (l : A.length ≤ 20) {m : Nat} {P : D → Nat → Prop} (h : P (fileD (told (fl A))) 0) : r_fewest_file [.d (fileD A)] m P := by
  have c := fl_flc g l
  refine ⟨rfl, rfl, d_flat g (by omega) ?_⟩
  refine ⟨rfl, rfl, d_bestB (cs := fl A) c.tx ?_⟩
  refine ⟨rfl, rfl, d_file_of c (tab_list _ _) ?_⟩
  exact ⟨hd_d, h⟩
def tupR : D → D
  | .list xs => .tuple xs
  | d => d
theorem d_paper {A : List Cue} (g : GF A) (l : A.length ≤ 20) {m : Nat} {P : D → Nat → Prop} (h : P (paperD (fl A)) 0) : r_strokes_paper [.d (fileD A)] m P := by
  have c := fl_flc g l
  have ll := c.l
  refine ⟨rfl, rfl, d_flat g (by omega) ?_⟩
  refine ⟨rfl, rfl, d_bestB (cs := fl A) c.tx ?_⟩
  refine ⟨rfl, rfl, d_file_of c (tab_list _ _) ?_⟩
  refine ⟨by rw [List.length_map, bb_len]; omega, ⟨by simp, fun j hj => by simp at hj; rcases hj with rfl; rfl⟩, ?_⟩
  refine lcL_map (ρ := [.im (fileD A), .im (fileD (fl A)), .im (rowsN (tbl (fl A))), .no]) tupR _ [] ?_ ?_
  · intro d hd Q hQ
    obtain ⟨r, hr, rfl⟩ := List.mem_map.mp hd
    exact ⟨trivial, hQ _ rfl⟩
  · have e : ([] : List D) ++ ((tbl (fl A)).map fun r => PyData.list (r.map PyData.int)).map tupR = (tbl (fl A)).map fun r => PyData.tuple (r.map PyData.int) := by
      rw [List.nil_append, List.map_map]
      rfl
    rw [e]
    exact ⟨(by show 2 ≤ 1000000; omega), hd_d, h⟩
theorem row_loop {cs : List Cue} {B PD : D} {n low : Nat} (tb : TabD B n (val (prt cs))) (lc : n = cs.length) (l1 : n ≤ 1000) (hPD : PD = psD cs) {E : DE} : ∀ (k : Nat) (js : List Nat) (s3 s4 : Sl), (∀ i j, js[i]? = some j → j = k + i ∧ low + j < n) →
    (∀ s3 s4, E.nx [.im B, .im PD, .im (.int (low : Nat)), s3, s4]) →
    forL (gTupT 2 (gConsT (gN 3) (gConsT (gN 4) (gNoT)))) (sIf (bD (d2 gGt (hS 4) (hV (dCall 4 r__most_of (aCons (dV 0) (aCons (d2 gIx (hS 1) (hV (d2 gAdd (hS 2) (hS 3)))) (aCons (dV 2) (aCons (d2 gAdd (hS 2) (hS 3)) (aNil))))))))) (sRet (dC (.bool false))) (sNo)) E (js.map fun j : Nat => .tuple [.int (j : Int), .int (val (prt cs) low (low + j))]) [.im B, .im PD, .im (.int (low : Nat)), s3, s4]
  | k, [], s3, s4, _, h => h _ _
  | k, j :: js, s3, s4, hj, h => by
    obtain ⟨e, hl⟩ := hj 0 j rfl
    subst hPD
    have e2 : ((low : Nat) : Int) + ((j : Nat) : Int) = ((low + j : Nat) : Int) := by omega
    refine ⟨rfl, rfl, trivial, trivial, trivial, trivial, natD (prt cs (low + j)), ?_, trivial, trivial, rfl, rfl, ?_⟩
    · rw [e2]
      exact atI_nat (ps_get (by omega))
    rw [e2]
    refine d_mostT tb (Nat.le_of_lt hl) (by omega) (by omega) ?_
    show if decide (val (prt cs) low (low + j) < val (prt cs) low (low + j)) = true then _ else _
    rw [if_neg (by simp)]
    exact row_loop tb lc l1 rfl (k + 1) js _ _ (fun i x hx => by
      have := hj (i + 1) x hx
      omega) h
theorem bb_row {n k : Nat} {v : Nat → Nat → Int} (h : k < n) : (bbRows n v 0 n)[k]? = some ((List.range (n - k)).map fun j => v k (k + j)) := by
  by_cases z : k = 0
  · subst z
    exact bb_get h
  · unfold bbRows
    rw [List.getElem?_map, List.getElem?_range h]
    show some (if k < 0 then _ else if k = 0 then _ else _) = _
    rw [if_neg (by omega), if_neg z]
theorem en_range (k : Nat) (f : Nat → Int) : enD (((List.range k).map f).map PyData.int) = (List.range k).map fun j : Nat => .tuple [.int (j : Int), .int (f j)] := by
  unfold enD
  refine List.ext_getElem? fun i => ?_
  rw [List.getElem?_mapIdx, List.getElem?_map, List.getElem?_map, List.getElem?_map]
  by_cases z : i < k
  · rw [List.getElem?_range z]
    rfl
  · rw [List.getElem?_eq_none (by simp; omega)]
    rfl
theorem d_is_row {cs : List Cue} (c : FlC cs) {low : Nat} (hl : low < cs.length) {m : Nat} {P : D → Nat → Prop} (h : P (.bool true) 0) : r__is_row [.d (tabT (tbl cs)), .d (psD cs), .d (.int (low : Nat))] m P := by
  have l := c.l
  refine ⟨trivial, trivial, .tuple (((List.range (cs.length - low)).map fun j => val (prt cs) low (low + j)).map PyData.int), atI_nat (by rw [List.getElem?_map, bb_row hl]; rfl), ?_⟩
  show forL _ _ _ (enD (((List.range (cs.length - low)).map fun j => val (prt cs) low (low + j)).map PyData.int)) _
  rw [en_range]
  refine row_loop (cs := cs) (tab_tuple cs.length (val (prt cs))) rfl (by omega) rfl 0 (List.range (cs.length - low)) _ _ (fun i j e => ?_) fun s3 s4 => ?_
  · obtain ⟨h1, h2⟩ := List.getElem?_eq_some_iff.mp e
    rw [List.getElem_range] at h2
    rw [List.length_range] at h1
    omega
  · exact ⟨hd_d, h⟩
theorem all_bools {α : Type} (l : List α) : ofBools (l.map fun _ => PyData.bool true) = some (l.map fun _ => true) ∧ (l.map fun _ => true).all id = true := by
  induction l with
  | nil => exact ⟨rfl, rfl⟩
  | cons a l ih =>
    refine ⟨?_, ?_⟩
    · show (ofBools (l.map fun _ => PyData.bool true)).map (true :: ·) = _
      rw [ih.1]
      rfl
    · exact ih.2
abbrev abB : SM := sSeq (sSet 5 (d2 DL.gSub (hV (dCB gLen (DL.gCons (hS 0) (DL.gNil)))) (hS 3))) (sIf (bOr (bNot (bTruth (hV (dCall 3 r_is_tuple (aCons (dV 4) (aCons (dV 5) (aCons (dV 5) (aNil)))))))) (bNot (bTruth (hV (dCB gAll (DL.gCons (hV (dLc (iSeq (dV 4)) (gN 6) (bYes) (dCall 1 r_is_integer (aCons (dV 6) (aNil))) [6])) (DL.gNil))))))) (sRet (dC (.bool false))) (sNo))
abbrev abR : SM := sIf (bOr (bNot (bTruth (hV (dCall 3 r_is_tuple (aCons (dV 4) (aCons (dV 5) (aCons (dV 5) (aNil)))))))) (bNot (bTruth (hV (dCB gAll (DL.gCons (hV (dLc (iSeq (dV 4)) (gN 6) (bYes) (dCall 1 r_is_integer (aCons (dV 6) (aNil))) [6])) (DL.gNil))))))) (sRet (dC (.bool false))) (sNo)
theorem ab_row {X B : D} {E : DE} {s3 : Sl} {r : List Int} {w : Int} (hw : w = (r.length : Int)) (hl : r.length ≤ 1000) (h : E.nx [.im X, .im B, .no, s3, .im (.tuple (r.map PyData.int)), .im (.int w), .no]) : abR E [.im X, .im B, .no, s3, .im (.tuple (r.map PyData.int)), .im (.int w), .no] := by
  refine ⟨rfl, rfl, d_is_tuple ?_⟩
  rw [List.length_map, decide_eq_true (show w ≤ (r.length : Int) by omega), decide_eq_true (show (r.length : Int) ≤ w by omega)]
  refine ⟨by rw [List.length_map]; omega, ⟨by simp, fun j hj => by simp at hj; rcases hj with rfl; rfl⟩, ?_⟩
  refine lcL_map (ρ := [.im X, .im B, .no, s3, .im (.tuple (r.map PyData.int)), .im (.int w), .no]) (fun _ => .bool true) _ [] ?_ ?_
  · intro d hd Q hQ
    obtain ⟨x, hx, rfl⟩ := List.mem_map.mp hd
    exact ⟨rfl, rfl, d_is_integer (hQ _ rfl)⟩
  · obtain ⟨a1, a2⟩ := all_bools (r.map PyData.int)
    rw [List.nil_append]
    refine ⟨_, a1, ?_⟩
    rw [a2]
    exact h
theorem ab_loop {cs : List Cue} (ln : cs.length ≤ 1000) {B : D} {E : DE} : ∀ (rows : List (List Int)) (k : Nat) (s3 s4 s5 : Sl), (∀ i r, rows[i]? = some r → (r.length : Int) = cs.length - ((k + i : Nat) : Int) ∧ r.length ≤ 1000) → plainS s3 = true → (∀ s3 s4 s5, plainS s3 = true → E.nx [.im (fileD cs), .im B, .no, s3, s4, s5, .no]) →
    forL (gTupT 2 (gConsT (gN 3) (gConsT (gN 4) (gNoT)))) abB E ((rows.map fun r => PyData.tuple (r.map PyData.int)).mapIdx fun i d => .tuple [.int (((k + i : Nat)) : Int), d]) [.im (fileD cs), .im B, .no, s3, s4, s5, .no]
  | [], k, s3, s4, s5, _, p3, h => h _ _ _ p3
  | r :: rows, k, s3, s4, s5, hr, _, h => by
    obtain ⟨e, hl⟩ := hr 0 r rfl
    rw [List.map_cons, List.mapIdx_cons]
    refine ⟨rfl, rfl, trivial, trivial, ?_⟩
    refine ab_row (w := (((cs.map Cue.d).length : Nat) : Int) - (((k + 0 : Nat)) : Int)) (by rw [List.length_map]; omega) hl ?_
    have k1 := ab_loop ln (B := B) (E := E) rows (k + 1) (.im (.int ((k + 0 : Nat) : Int))) (.im (.tuple (r.map PyData.int))) (.im (.int ((((cs.map Cue.d).length : Nat) : Int) - (((k + 0 : Nat)) : Int)))) (fun i x hx => by
      have := hr (i + 1) x hx
      rw [show k + 1 + i = k + (i + 1) by omega]
      exact this) rfl h
    have e2 : (fun (i : Nat) (d : D) => PyData.tuple [.int (((k + 1 + i : Nat)) : Int), d]) = fun (i : Nat) (d : D) => PyData.tuple [.int (((k + (i + 1) : Nat)) : Int), d] := by
      funext i d
      rw [show k + 1 + i = k + (i + 1) by omega]
    rw [e2] at k1
    exact k1
theorem d_are_bounds {cs : List Cue} (c : FlC cs) {m : Nat} {P : D → Nat → Prop} (h : P (.bool true) 0) : r__are_bounds [.d (fileD cs), .d (tabT (tbl cs))] m P := by
  have l := c.l
  have lt : ((tbl cs).map fun r => PyData.tuple (r.map PyData.int)).length = cs.length := by rw [List.length_map, bb_len]
  refine ⟨trivial, trivial, rfl, rfl, d_is_tuple ?_⟩
  rw [lt, List.length_map, decide_eq_true (Int.le_refl _)]
  have e0 : enD ((tbl cs).map fun r => PyData.tuple (r.map PyData.int)) = ((tbl cs).map fun r => PyData.tuple (r.map PyData.int)).mapIdx fun i d => .tuple [.int (((0 + i : Nat)) : Int), d] := by
    unfold enD
    simp only [Nat.zero_add]
  show forL _ _ _ (enD ((tbl cs).map fun r => PyData.tuple (r.map PyData.int))) _
  rw [e0]
  refine ab_loop (by omega) (tbl cs) 0 _ _ _ (fun i r e => ?_) rfl fun s3 s4 s5 p3 => ?_
  · have hi : i < cs.length := by
      have := (List.getElem?_eq_some_iff.mp e).1
      rw [bb_len] at this
      exact this
    rw [bb_row hi] at e
    cases e
    (rw [List.length_map, List.length_range])
    omega
  · refine ⟨rfl, rfl, d_partners c.tx ?_⟩
    refine ⟨trivial, ⟨by rw [List.length_map]; omega, by rw [List.length_map]; omega⟩, ?_⟩
    have er : rgD 0 (((cs.map Cue.d).length : Nat) : Int) = (List.range cs.length).map fun h : Nat => .int (h : Int) := by
      rw [List.length_map]
      exact rg_nat _
    rw [er]
    refine ⟨by rw [List.length_map, List.length_range]; omega, ⟨by simp, fun j hj => by simp at hj; subst hj; exact p3⟩, ?_⟩
    refine lcL_map (ρ := [.im (fileD cs), .im (tabT (tbl cs)), .im (psD cs), .no, s4, s5, .no]) (fun _ => .bool true) _ [] ?_ ?_
    · intro d hd Q hQ
      obtain ⟨x, hx, rfl⟩ := List.mem_map.mp hd
      exact ⟨rfl, rfl, d_is_row c (List.mem_range.mp hx) (hQ _ rfl)⟩
    · obtain ⟨a1, a2⟩ := all_bools ((List.range cs.length).map fun h : Nat => (PyData.int (h : Int)))
      rw [List.nil_append]
      refine ⟨_, a1, ?_⟩
      rw [a2]
      exact ⟨hd_d, h⟩
theorem d_greatestT {n : Nat} {v : Nat → Nat → Int} {m : Nat} {P : D → Nat → Prop} (h : P (.int (if n = 0 then 0 else v 0 (n - 1))) 0) : r__greatest [.d (tabT (bbRows n v 0 n))] m P := by
  have ln : ((bbRows n v 0 n).map fun r => PyData.tuple (r.map PyData.int)).length = n := by rw [List.length_map, bb_len]
  refine ⟨trivial, rfl, rfl, ?_⟩
  show if PyData.eqv (.int ((((bbRows n v 0 n).map fun r => PyData.tuple (r.map PyData.int)).length : Nat) : Int)) (.int 0) = true then _ else _
  rw [eqI, ln]
  by_cases z : n = 0
  · rw [if_pos (decide_eq_true (by omega))]
    rw [if_pos z] at h
    exact ⟨hd_d, h⟩
  · rw [if_neg (by simp; omega)]
    rw [if_neg z] at h
    have g := bb_row (n := n) (k := 0) (v := v) (by omega)
    refine ⟨trivial, .tuple (((List.range (n - 0)).map fun j => v 0 (0 + j)).map PyData.int), atI_nat (i := 0) (by rw [List.getElem?_map, g]; rfl), .int (v 0 (n - 1)), ?_, ?_⟩
    · obtain ⟨k, rfl⟩ : ∃ k, n = k + 1 := ⟨n - 1, by omega⟩
      rw [Nat.sub_zero, List.range_succ, List.map_append, List.map_append]
      show atI (_ ++ [PyData.int (v 0 (0 + k))]) (-1) = _
      rw [atI_last]
      simp
    · exact ⟨hd_d, h⟩
theorem d_is_file {A : List Cue} (g : GF A) (l : A.length ≤ 60) {m : Nat} {P : D → Nat → Prop} (h : P (.bool true) 0) : r_is_file [.d (fileD A)] m P := by
  refine ⟨rfl, rfl, d_is_tuple ?_⟩
  rw [List.length_map, decide_eq_true (show (0 : Int) ≤ (A.length : Int) by omega), decide_eq_true (show (A.length : Int) ≤ 60 by omega)]
  refine ⟨by rw [List.length_map]; omega, ⟨by simp, fun j hj => by simp at hj; rcases hj with rfl; rfl⟩, ?_⟩
  refine lcL_map (ρ := [.im (fileD A), .no]) (fun _ => .bool true) _ [] ?_ ?_
  · intro d hd Q hQ
    obtain ⟨c, hc, rfl⟩ := List.mem_map.mp hd
    exact ⟨rfl, rfl, d_is_cue (g c hc).ok (hQ _ rfl)⟩
  · obtain ⟨a1, a2⟩ := all_bools (A.map Cue.d)
    rw [List.nil_append]
    refine ⟨_, a1, ?_⟩
    rw [a2]
    exact ⟨hd_d, h⟩
theorem fst_same {A B : List Cue} (g : GF B) (e : ∀ fr, textAt A fr = textAt B fr) {d : D} (h : Fst A B d) : d = .none := by
  have no : ∀ fr, df A B fr = false := fun fr => by
    unfold df
    rw [e, eqv_refl _ (nodt g fr)]
    rfl
  cases h with
  | no _ => rfl
  | «at» k h0 hk _ =>
    rw [no k] at hk
    cases hk
theorem told_same {A : List Cue} (g : GF A) (l : A.length ≤ 20) (fr : Int) : textAt (told (fl A)) fr = textAt A fr := by
  rw [told_text (fl_flc g l), fl_text g]
theorem d_check_strokes {A : List Cue} (g : GF A) (l : A.length ≤ 10 ∨ (fl A).length + A.length ≤ 31 ∧ A.length ≤ 20) {m : Nat} {P : D → Nat → Prop} (h : P (.int (few (fl A))) 0) : r_check_strokes [.d (fileD A), .d (paperD (fl A))] m P := by
  have ll := fl_len g
  have l20 : A.length ≤ 20 := by omega
  have l31 : (fl A).length + A.length ≤ 31 := by omega
  have c := fl_flc g l20
  have tl := told_len c
  have tg := told_good c
  have cl := c.l
  have ts := (told_str c).2
  refine ⟨rfl, rfl, d_need_file (by omega) (fun c hc => (g c hc).ok) ?_⟩
  refine ⟨rfl, rfl, d_is_tuple ?_⟩
  refine ⟨rfl, rfl, ?_⟩
  refine ⟨rfl, rfl, d_is_file tg (by omega) ?_⟩
  refine ⟨rfl, rfl, d_apart tg g (by omega) fun d hd => ?_⟩
  rw [fst_same g (told_same g l20) hd]
  refine ⟨rfl, rfl, d_flat g (by omega) ?_⟩
  refine ⟨rfl, rfl, d_are_bounds c ?_⟩
  refine ⟨rfl, rfl, d_greatestT ?_⟩
  refine ⟨trivial, rfl, rfl, ?_⟩
  show if (!PyData.eqv (.int (few (fl A))) (.int ((((told (fl A)).map Cue.d).length : Nat) : Int))) = true then _ else _
  rw [eqI, List.length_map, ts, decide_eq_true rfl]
  refine ⟨trivial, hd_d, ?_⟩
  rw [List.length_map, ts]
  exact h
end Q78
namespace Q78
open PySem L2 DL
/-- which cue is on top: none behind it in the list stands at its place -/
structure Top (A : List Cue) (fr : Int) (d : Cue) : Prop where
  on : d.f ≤ fr ∧ fr < d.t
  most : ∀ c ∈ A, c.f ≤ fr → fr < c.t → c.f ≤ d.f
  last : ∃ A1 A2, A = A1 ++ d :: A2 ∧ ∀ c ∈ A2, c.f ≤ fr → fr < c.t → c.f < d.f
theorem top_is {A : List Cue} {fr : Int} {d : Cue} (h : topAt A fr = some d) : Top A fr d := by
  have key : ∀ (B : List Cue) (d : Cue), B.reverse.foldl (step fr) none = some d → Top B.reverse fr d := by
    intro B
    induction B with
    | nil => exact fun d h => nomatch h
    | cons b B ih =>
      intro d h
      rw [List.reverse_cons] at h ⊢
      rw [List.foldl_append] at h
      have h : step fr (B.reverse.foldl (step fr) none) b = some d := h
      cases e : B.reverse.foldl (step fr) none with
      | none =>
        rw [e] at h
        unfold step at h
        split at h
        · rename_i z
          cases h
          refine ⟨⟨z.1, z.2.1⟩, fun c hc h1 h2 => ?_, B.reverse, [], rfl, fun c hc => nomatch hc⟩
          (rcases List.mem_append.mp hc with hc | hc)
          · exfalso
            have no : ∀ (C : List Cue) (t : Option Cue), C.foldl (step fr) t = none → ∀ c ∈ C, ¬ (c.f ≤ fr ∧ fr < c.t) := by
              intro C
              induction C with
              | nil => exact fun _ _ c hc => nomatch hc
              | cons x C ihc =>
                intro t ht c hc w
                rw [List.foldl_cons] at ht
                (rcases List.mem_cons.mp hc with rfl | hc)
                · cases t with
                  | none =>
                    have e1 : step fr none c = some c := if_pos ⟨w.1, w.2, fun u hu => nomatch hu⟩
                    rw [e1] at ht
                    obtain ⟨u, hu⟩ := fold_some (fr := fr) C c
                    rw [hu] at ht
                    cases ht
                  | some t =>
                    have e1 : ∃ u, step fr (some t) c = some u := by
                      unfold step
                      split
                      · exact ⟨_, rfl⟩
                      · exact ⟨_, rfl⟩
                    obtain ⟨u, e1⟩ := e1
                    rw [e1] at ht
                    obtain ⟨u2, hu⟩ := fold_some (fr := fr) C u
                    rw [hu] at ht
                    cases ht
                · exact ihc _ ht c hc w
            exact no _ _ e c hc ⟨h1, h2⟩
          · rw [List.mem_singleton.mp hc]
            exact Int.le_refl _
        · cases h
      | some t =>
        rw [e] at h
        obtain ⟨to, tm, A1, A2, te, tl⟩ := ih t e
        unfold step at h
        split at h
        · rename_i z
          cases h
          have zt := z.2.2 t rfl
          refine ⟨⟨z.1, z.2.1⟩, fun c hc h1 h2 => ?_, B.reverse, [], rfl, fun c hc => nomatch hc⟩
          (rcases List.mem_append.mp hc with hc | hc)
          · have := tm c hc h1 h2
            omega
          · rw [List.mem_singleton.mp hc]
            exact Int.le_refl _
        · rename_i z
          cases h
          have nb : b.f ≤ fr → fr < b.t → b.f < d.f := fun h1 h2 => by
            refine Classical.byContradiction fun q => z ⟨h1, h2, fun u hu => ?_⟩
            cases hu
            omega
          refine ⟨to, fun c hc h1 h2 => ?_, A1, A2 ++ [b], by rw [te]; simp, fun c hc h1 h2 => ?_⟩
          · rcases List.mem_append.mp hc with hc | hc
            · exact tm c hc h1 h2
            · rw [List.mem_singleton.mp hc] at h1 h2 ⊢
              have := nb h1 h2
              omega
          · rcases List.mem_append.mp hc with hc | hc
            · exact tl c hc h1 h2
            · rw [List.mem_singleton.mp hc] at h1 h2 ⊢
              exact nb h1 h2
  have k := key A.reverse d (by rw [List.reverse_reverse]; exact h)
  rw [List.reverse_reverse] at k
  exact k
theorem Top.mem {A : List Cue} {fr : Int} {d : Cue} (t : Top A fr d) : d ∈ A := by
  obtain ⟨A1, A2, e, _⟩ := t.last
  rw [e]
  exact List.mem_append_right _ List.mem_cons_self
/-- two cues cannot each be above the other -/
theorem top_one {A : List Cue} {f1 f2 : Int} {c d : Cue} (hd : Top A f1 d) (hc : Top A f2 c) (c1 : c.f ≤ f1 ∧ f1 < c.t) (d2 : d.f ≤ f2 ∧ f2 < d.t) : c = d := by
  have e1 := hd.most c hc.mem c1.1 c1.2
  have e2 := hc.most d hd.mem d2.1 d2.2
  obtain ⟨A1, A2, a, na⟩ := hd.last
  obtain ⟨B1, B2, b, nb⟩ := hc.last
  have n1 : c ∉ A2 := fun m => by
    have := na c m c1.1 c1.2
    omega
  have n2 : d ∉ B2 := fun m => by
    have := nb d m d2.1 d2.2
    omega
  rw [a] at b
  rcases List.append_eq_append_iff.mp b with ⟨X, x1, x2⟩ | ⟨X, x1, x2⟩
  · cases X with
    | nil =>
      have x2 : d :: A2 = c :: B2 := x2
      injection x2 with y1 y2
      exact y1.symm
    | cons y X =>
      have x2 : d :: A2 = y :: (X ++ c :: B2) := x2
      injection x2 with y1 y2
      exact absurd (by rw [y2]; exact List.mem_append_right _ List.mem_cons_self) n1
  · cases X with
    | nil =>
      have x2 : c :: B2 = d :: A2 := x2
      injection x2 with y1 y2
    | cons y X =>
      have x2 : c :: B2 = y :: (X ++ d :: A2) := x2
      injection x2 with y1 y2
      exact absurd (by rw [y2]; exact List.mem_append_right _ List.mem_cons_self) n2
open Classical in
/-- how many of the cues are on top somewhere from lo up to below hi -/
noncomputable def cntO (A : List Cue) (own : Nat → Cue) (lo hi : Nat) : Nat := A.countP fun c => decide (∃ i, lo ≤ i ∧ i < hi ∧ own i = c)
theorem countP_two {α : Type} {p q r : α → Bool} : ∀ {A : List α}, (∀ a ∈ A, p a = true → q a = true → False) → (∀ a ∈ A, p a = true ∨ q a = true → r a = true) → A.countP p + A.countP q ≤ A.countP r
  | [], _, _ => Nat.le_refl _
  | a :: A, h1, h2 => by
    have ih := countP_two (A := A) (fun x hx => h1 x (List.mem_cons_of_mem _ hx)) fun x hx => h2 x (List.mem_cons_of_mem _ hx)
    have k1 := h1 a List.mem_cons_self
    have k2 := h2 a List.mem_cons_self
    rw [List.countP_cons, List.countP_cons, List.countP_cons]
    cases ep : p a <;> cases eq : q a <;> cases er : r a <;> simp [ep, eq, er] at k1 k2 ⊢ <;> omega
section
variable {A cs : List Cue} {own : Nat → Cue} (ma : ∀ i, i < cs.length → own i ∈ A)
  (lk : ∀ i j, i < j → j < cs.length → own i = own j → i ∈ prt cs j)
  (cr : ∀ i j k l, i < k → k < j → j < l → l < cs.length → own i = own j → own k = own l → own i = own k)
include ma lk cr
open Classical in
theorem vl_low : ∀ (n lo hi : Nat), hi ≤ n → hi ≤ cs.length → vl (prt cs) lo hi ≤ (cntO A own lo hi : Int)
  | _, lo, 0, _, _ => by
    unfold vl
    rw [if_neg (by omega)]
    omega
  | 0, lo, hi + 1, h, _ => by omega
  | n + 1, lo, h + 1, hn, hc => by
    by_cases z : lo ≤ h
    · by_cases w : ∃ p, lo ≤ p ∧ p < h ∧ own p = own h
      · obtain ⟨p, hp, hm⟩ : ∃ p, (lo ≤ p ∧ p < h ∧ own p = own h) ∧ ∀ q, p < q → q < h → own q ≠ own h := by
          obtain ⟨p0, hp0⟩ := w
          have go : ∀ (d p : Nat), p + d = h → (lo ≤ p ∧ p < h ∧ own p = own h) → ∃ p, (lo ≤ p ∧ p < h ∧ own p = own h) ∧ ∀ q, p < q → q < h → own q ≠ own h := by
            intro d
            induction d using Nat.strongRecOn with
            | _ d ih =>
              intro p e hp
              by_cases y : ∃ q, p < q ∧ q < h ∧ own q = own h
              · obtain ⟨q, q1, q2, q3⟩ := y
                exact ih (h - q) (by omega) q (by omega) ⟨by omega, q2, q3⟩
              · exact ⟨p, hp, fun q q1 q2 q3 => y ⟨q, q1, q2, q3⟩⟩
          exact go (h - p0) p0 (by have := hp0.2.1; omega) hp0
        obtain ⟨h1, h2, h3⟩ := hp
        have a := vl_link prt_lt h1 (lk p h h2 (by omega) h3)
        have b := vl_low n lo (p + 1) (by omega) (by omega)
        have c := vl_low n (p + 1) h (by omega) (by omega)
        have d : cntO A own lo (p + 1) + cntO A own (p + 1) h ≤ cntO A own lo (h + 1) := by
          refine countP_two (fun x _ y1 y2 => ?_) fun x _ y => ?_
          · obtain ⟨i, i1, i2, i3⟩ := of_decide_eq_true y1
            obtain ⟨j, j1, j2, j3⟩ := of_decide_eq_true y2
            by_cases e : i = p
            · subst e
              exact hm j (by omega) j2 (by rw [j3, ← i3, h3])
            · have := cr i j p h (by omega) (by omega) j2 (by omega) (i3.trans j3.symm) h3
              exact hm j (by omega) j2 (by rw [j3, ← i3, this, h3])
          · refine decide_eq_true ?_
            rcases y with y | y
            · obtain ⟨i, i1, i2, i3⟩ := of_decide_eq_true y
              exact ⟨i, i1, by omega, i3⟩
            · obtain ⟨i, i1, i2, i3⟩ := of_decide_eq_true y
              exact ⟨i, by omega, by omega, i3⟩
        omega
      · have a := vl_own (pt := prt cs) prt_lt z
        have b := vl_low n lo h (by omega) (by omega)
        have d : cntO A own lo h + cntO A own h (h + 1) ≤ cntO A own lo (h + 1) := by
          refine countP_two (fun x _ y1 y2 => ?_) fun x _ y => ?_
          · obtain ⟨i, i1, i2, i3⟩ := of_decide_eq_true y1
            obtain ⟨j, j1, j2, j3⟩ := of_decide_eq_true y2
            have : j = h := by omega
            subst this
            exact w ⟨i, i1, i2, i3.trans j3.symm⟩
          · refine decide_eq_true ?_
            rcases y with y | y
            · obtain ⟨i, i1, i2, i3⟩ := of_decide_eq_true y
              exact ⟨i, i1, by omega, i3⟩
            · obtain ⟨i, i1, i2, i3⟩ := of_decide_eq_true y
              exact ⟨i, by omega, by omega, i3⟩
        have e : 1 ≤ cntO A own h (h + 1) := by
          unfold cntO
          exact List.countP_pos_iff.mpr ⟨own h, ma h (by omega), decide_eq_true ⟨h, Nat.le_refl _, by omega, rfl⟩⟩
        omega
    · unfold vl
      rw [if_neg (by omega)]
      omega
theorem few_low : few cs ≤ (A.length : Int) := by
  rw [few_vl]
  have a := vl_low ma lk cr cs.length 0 cs.length (Nat.le_refl _) (Nat.le_refl _)
  have b : cntO A own 0 cs.length ≤ A.length := List.countP_le_length
  omega
end
end Q78
namespace Q78
open PySem L2 DL
theorem fold_no {fr : Int} : ∀ (C : List Cue) (t : Option Cue), C.foldl (step fr) t = none → ∀ c ∈ C, ¬ (c.f ≤ fr ∧ fr < c.t)
  | [], _, _, c, hc => nomatch hc
  | x :: C, t, ht, c, hc => fun w => by
    rw [List.foldl_cons] at ht
    (rcases List.mem_cons.mp hc with rfl | hc)
    · have e1 : ∃ u, step fr t c = some u := by
        cases t with
        | none => exact ⟨c, if_pos ⟨w.1, w.2, fun u hu => nomatch hu⟩⟩
        | some t =>
          unfold step
          split
          · exact ⟨_, rfl⟩
          · exact ⟨_, rfl⟩
      obtain ⟨u, e1⟩ := e1
      rw [e1] at ht
      obtain ⟨u2, hu⟩ := fold_some (fr := fr) C u
      rw [hu] at ht
      cases ht
    · exact fold_no C _ ht c hc w
theorem text_V (L : List Cue) (fr : Int) : textAt L fr = (V L fr).getD .none := by
  unfold textAt V
  cases topAt L fr <;> rfl
section
variable {A : List Cue} (g : GF A) (l : A.length ≤ 20)
include g l
theorem row_V (fr : Int) : (∀ i, In (fl A) 0 (fl A).length fr i → V (fl A) fr = some (xN (fl A) i)) ∧ ((∀ i, ¬ In (fl A) 0 (fl A).length fr i) → V (fl A) fr = none) := by
  have r := (fl_flc g l).row
  have w := row_str r (fl A).length (Nat.le_refl _)
  rw [List.take_length] at w
  have b := str_seen r w (Nat.le_refl _) (fun _ => Int.le_refl _) fr
  exact ⟨b.1, fun no => b.2.2 no fun _ w => by omega⟩
theorem own_is {fr : Int} {i : Nat} (h : In (fl A) 0 (fl A).length fr i) : ∃ c, topAt A fr = some c ∧ c.x = xN (fl A) i := by
  have c := fl_flc g l
  have e := (row_V g l fr).1 i h
  have t := fl_text g fr
  rw [text_V, e] at t
  have t : xN (fl A) i = textAt A fr := t
  cases z : topAt A fr with
  | some d =>
    refine ⟨d, rfl, ?_⟩
    rw [t]
    unfold textAt
    rw [z]
  | none =>
    exfalso
    have e2 : textAt A fr = .none := by
      unfold textAt
      rw [z]
    rw [e2] at t
    have o := (c.gf _ (cue_get (show i < (fl A).length from h.2.1)).1).x.tx.n
    have t : (cueN (fl A) i).x = .none := t
    rw [t] at o
    cases o
def ownC (A : List Cue) (i : Nat) : Cue := (topAt A (fN (fl A) i)).getD ⟨0, 0, .none⟩
theorem in_start {i : Nat} (h : i < (fl A).length) : In (fl A) 0 (fl A).length (fN (fl A) i) i := ⟨Nat.zero_le _, h, Int.le_refl _, (fl_flc g l).row.ft i h⟩
theorem own_top {i : Nat} (h : i < (fl A).length) : Top A (fN (fl A) i) (ownC A i) ∧ (ownC A i).x = xN (fl A) i := by
  obtain ⟨c, e, x⟩ := own_is g l (in_start g l h)
  have : ownC A i = c := by
    unfold ownC
    rw [e]
    rfl
  rw [this]
  exact ⟨top_is e, x⟩
theorem own_over {i j : Nat} {fr : Int} (hi : i < (fl A).length) (hj : j < (fl A).length) (e : ownC A i = ownC A j) (h1 : fN (fl A) i ≤ fr) (h2 : fr ≤ fN (fl A) j) : (ownC A i).f ≤ fr ∧ fr < (ownC A i).t := by
  have a := (own_top g l hi).1.on
  have b := (own_top g l hj).1.on
  rw [← e] at b
  omega
/-- no file that shows the same has fewer cues -/
theorem few_le : few (fl A) ≤ (A.length : Int) := by
  have c := fl_flc g l
  have r := c.row
  refine few_low (own := ownC A) (fun i hi => (own_top g l hi).1.mem) (fun i j hij hj e => ?_) fun i j k m h1 h2 h3 h4 e1 e2 => ?_
  · refine prt_iff.mpr ⟨hij, gapless_iff.mpr fun k k1 k2 => ?_, ?_⟩
    · refine decide_eq_true ?_
      show tN' (fl A) k = fN (fl A) (k + 1)
      have up := r.up k (k + 1) (by omega) (by omega)
      refine Classical.byContradiction fun q => ?_
      have ft := r.ft k (by omega)
      have m1 := f_mono r (i := i) (j := k) (by omega) (by omega)
      have m2 := f_mono r (i := k + 1) (j := j) (by omega) (by omega)
      have ov := own_over g l (fr := tN' (fl A) k) (by omega) hj e (by omega) (by omega)
      have no : ∀ x, ¬ In (fl A) 0 (fl A).length (tN' (fl A) k) x := fun x hx => by
        obtain ⟨_, x2, x3, x4⟩ := hx
        by_cases y : x ≤ k
        · have := t_mono r (i := x) (j := k) y (by omega)
          omega
        · have := f_mono r (i := k + 1) (j := x) (by omega) x2
          omega
      have e0 := (row_V g l (tN' (fl A) k)).2 no
      have t := fl_text g (tN' (fl A) k)
      rw [text_V, e0] at t
      have t : (PyData.none : D) = textAt A (tN' (fl A) k) := t
      have mm := (own_top g l (show i < (fl A).length by omega)).1.mem
      cases z : topAt A (tN' (fl A) k) with
      | none => exact fold_no A none z _ mm ov
      | some d =>
        have e2 : textAt A (tN' (fl A) k) = d.x := by
          unfold textAt
          rw [z]
        rw [e2] at t
        have o := (g d (top_is z).mem).x.tx.n
        rw [← t] at o
        cases o
    · have a := (own_top g l (show i < (fl A).length by omega)).2
      have b := (own_top g l hj).2
      show PyData.eqv (xN (fl A) i) (xN (fl A) j) = true
      rw [← a, ← b, e]
      exact eqv_refl _ ((g _ (own_top g l hj).1.mem).x.nod)
  · have m1 := f_mono r (i := i) (j := k) (by omega) (by omega)
    have m2 := f_mono r (i := k) (j := j) (by omega) (by omega)
    have m3 := f_mono r (i := j) (j := m) (by omega) (by omega)
    have a := own_over g l (fr := fN (fl A) k) (by omega) (by omega) e1 m1 m2
    have b := own_over g l (fr := fN (fl A) j) (by omega) h4 e2 m2 m3
    have k1 := top_one (A := A) (c := ownC A i) (d := ownC A k) (own_top g l (by omega)).1 (by rw [e1]; exact (own_top g l (show j < (fl A).length by omega)).1) a b
    exact k1
end
section
variable {cs : List Cue} (nt : ∀ k, k + 1 < cs.length → adj cs k = true → same cs k (k + 1) = false)
include nt
theorem vl_run : ∀ (n lo hi : Nat), hi ≤ n → hi ≤ cs.length → lo < hi → (((hi - lo) / 2 + 1 : Nat) : Int) ≤ vl (prt cs) lo hi
  | _, _, 0, _, _, h => by omega
  | 0, _, hi + 1, h, _, _ => by omega
  | n + 1, lo, h + 1, hn, hc, hl => by
    by_cases e : lo = h
    · subst e
      rw [vl_one prt_lt, show lo + 1 - lo = 1 by omega]
      exact Int.le_refl _
    · rcases vl_some (pt := prt cs) prt_lt (i := lo) (h := h) (by omega) with w | ⟨p, hp, h1, w⟩
      · have a := vl_run n lo h (by omega) (by omega) (by omega)
        omega
      · obtain ⟨q1, q2, q3⟩ := prt_iff.mp hp
        have q4 : p + 1 < h := by
          refine Classical.byContradiction fun y => ?_
          have e2 : p + 1 = h := by omega
          have := nt p (by omega) (gapless_iff.mp q2 p (Nat.le_refl _) q1)
          rw [e2, q3] at this
          cases this
        have a := vl_run n lo (p + 1) (by omega) (by omega) (by omega)
        have b := vl_run n (p + 1) h (by omega) (by omega) q4
        omega
omit nt in
theorem vl_gap {b : Nat} (gb : b = 0 ∨ adj cs (b - 1) = false) : ∀ (n lo j : Nat), j ≤ n → lo ≤ b → b ≤ j → vl (prt cs) lo b + vl (prt cs) b j ≤ vl (prt cs) lo j
  | _, lo, 0, _, h1, h2 => by
    have : b = 0 := by omega
    subst this
    rw [vl_self prt_lt]
    omega
  | 0, _, j + 1, h, _, _ => by omega
  | n + 1, lo, h + 1, hn, h1, h2 => by
    by_cases e : b = h + 1
    · subst e
      rw [vl_self prt_lt]
      omega
    · rcases vl_some (pt := prt cs) prt_lt (i := lo) (h := h) (by omega) with w | ⟨p, hp, q1, w⟩
      · have a := vl_gap gb n lo h (by omega) h1 (by omega)
        have c := vl_own (pt := prt cs) prt_lt (i := b) (h := h) (by omega)
        omega
      · obtain ⟨q2, q3, _⟩ := prt_iff.mp hp
        have q4 : b ≤ p := by
          refine Classical.byContradiction fun y => ?_
          rcases gb with gb | gb
          · omega
          · rw [gapless_iff.mp q3 (b - 1) (by omega) (by omega)] at gb
            cases gb
        have a := vl_gap gb n lo (p + 1) (by omega) h1 (by omega)
        have c := vl_link (pt := prt cs) prt_lt q4 hp
        omega
end
abbrev boB : SM := sSeq (sSet 2 (d2 gAdd (hS 2) (hV (dC (.int 1))))) (sIf (bOr (bD (d2 gEq (hV (d2 gAdd (hS 3) (hV (dC (.int 1))))) (hV (dCB gLen (DL.gCons (hS 0) (DL.gNil)))))) (bD (d2 gNe (hV (d2 gIx (hV (d2 gIx (hS 0) (hV (d2 gAdd (hS 3) (hV (dC (.int 1))))))) (hV (dC (.int 0))))) (hV (d2 gIx (hS 4) (hV (dC (.int 1)))))))) (sPar 1 2 (lCons (d2 gAdd (hS 1) (hV (d2 gDiv (hV (d2 gAdd (hS 2) (hV (dC (.int 2))))) (hV (dC (.int 2)))))) (lCons (dC (.int 0)) (lNil)))) (sNo))
theorem bo_loop {cs : List Cue} (ln : cs.length ≤ 1000) (nt : ∀ k, k + 1 < cs.length → adj cs k = true → same cs k (k + 1) = false) {E : DE} (h : ∀ (f : Int) s2 s3 s4, f ≤ vl (prt cs) 0 cs.length → E.nx [.im (fileD cs), .im (.int f), s2, s3, s4]) :
    ∀ (rest : List Cue) (k m : Nat) (f : Int) (s3 s4 : Sl), cs = cs.take k ++ rest → k + rest.length = cs.length → m ≤ k → f ≤ vl (prt cs) 0 (k - m) → (rest ≠ [] → k - m = 0 ∨ adj cs (k - m - 1) = false) → (∀ i, k - m ≤ i → i < k → adj cs i = true) → (rest = [] → m = 0) →
    forL (gTupT 2 (gConsT (gN 3) (gConsT (gN 4) (gNoT)))) boB E ((rest.map Cue.d).mapIdx fun i d => .tuple [.int (((k + i : Nat)) : Int), d]) [.im (fileD cs), .im (.int f), .im (.int (m : Nat)), s3, s4]
  | [], k, m, f, s3, s4, _, e, hm, hf, _, _, z => by
    have := z rfl
    subst this
    simp at e
    rw [Nat.sub_zero, e] at hf
    exact h f _ _ _ hf
  | c :: rest, k, m, f, s3, s4, ec, e, hm, hf, gp, ru, _ => by
    rw [List.length_cons] at e
    have gp := gp (List.cons_ne_nil _ _)
    have hk : k < cs.length := by omega
    have lk : (cs.take k).length = k := by rw [List.length_take]; omega
    have ck : cueN cs k = c := by
      unfold cueN
      rw [List.getD_eq_getElem?_getD, ec, List.getElem?_append_right (by omega), lk, Nat.sub_self]
      rfl
    have e2 : (fun (i : Nat) (d : D) => PyData.tuple [.int (((k + 1 + i : Nat)) : Int), d]) = fun (i : Nat) (d : D) => PyData.tuple [.int (((k + (i + 1) : Nat)) : Int), d] := by
      funext i d
      rw [show k + 1 + i = k + (i + 1) by omega]
    have et : cs = cs.take (k + 1) ++ rest := by
      have : cs.take (k + 1) = cs.take k ++ [c] := by
        rw [List.take_succ_eq_append_getElem hk]
        congr 2
        unfold cueN at ck
        rw [List.getD_eq_getElem?_getD, List.getElem?_eq_getElem hk] at ck
        exact ck
      rw [this, List.append_assoc]
      exact ec
    rw [List.map_cons, List.mapIdx_cons]
    refine ⟨rfl, rfl, trivial, trivial, ?_⟩
    refine ⟨trivial, rfl, rfl, ?_⟩
    show if PyData.eqv (.int (((k + 0 : Nat) : Int) + 1)) (.int ((((cs.map Cue.d).length : Nat)) : Int)) = true then _ else _
    rw [eqI, List.length_map]
    have run := vl_run nt cs.length (k - m) (k + 1) (by omega) (by omega) (by omega)
    have gap := vl_gap gp cs.length 0 (k + 1) (by omega) (Nat.zero_le _) (by omega)
    have ef : (((m : Nat) : Int) + 1 + 2) / 2 = (((k + 1 - (k - m)) / 2 + 1 : Nat) : Int) := by
      rw [show k + 1 - (k - m) = m + 1 by omega]
      omega
    have close : ∀ {s3' s4' : Sl}, (rest ≠ [] → adj cs k = false) → forL (gTupT 2 (gConsT (gN 3) (gConsT (gN 4) (gNoT)))) boB E ((rest.map Cue.d).mapIdx fun i d => .tuple [.int (((k + (i + 1) : Nat)) : Int), d]) [.im (fileD cs), .im (.int (f + (((m : Nat) : Int) + 1 + 2) / 2)), .im (.int 0), s3', s4'] := fun {s3' s4'} w => by
      have k1 := bo_loop ln nt h rest (k + 1) 0 (f + (((m : Nat) : Int) + 1 + 2) / 2) s3' s4' et (by omega) (Nat.zero_le _) (by
        rw [Nat.sub_zero, ef]
        omega) (fun z => .inr (by
          rw [Nat.sub_zero, Nat.add_sub_cancel]
          exact w z)) (fun i h1 h2 => by omega) (fun _ => rfl)
      rw [e2] at k1
      exact k1
    by_cases y : k + 1 = cs.length
    · rw [if_pos (decide_eq_true (by omega))]
      refine ⟨trivial, trivial, (by decide), ?_⟩
      exact close fun z => by
        have := List.length_pos_iff.mpr z
        omega
    · rw [if_neg (by simp; omega)]
      have g1 := cue_get (cs := cs) (i := k + 1) (by omega)
      refine ⟨trivial, trivial, (cueN cs (k + 1)).d, ?_, _, rfl, trivial, _, rfl, rfl, rfl, ?_⟩
      · have : (((k + 0 : Nat)) : Int) + 1 = ((k + 1 : Nat) : Int) := by omega
        rw [this]
        exact atI_nat g1.2
      show if (!PyData.eqv (.int (cueN cs (k + 1)).f) (.int c.t)) = true then _ else _
      have ea : adj cs k = decide ((cueN cs k).t = (cueN cs (k + 1)).f) := rfl
      rw [ck] at ea
      rw [eqI]
      by_cases x : c.t = (cueN cs (k + 1)).f
      · rw [decide_eq_true x] at ea
        rw [if_neg (by simp [x])]
        have k1 := bo_loop ln nt h rest (k + 1) (m + 1) f (.im (.int ((k + 0 : Nat) : Int))) (.im c.d) et (by omega) (by omega) (by
          rw [show k + 1 - (m + 1) = k - m by omega]
          exact hf) (fun _ => by
          rw [show k + 1 - (m + 1) = k - m by omega]
          exact gp) (fun i h1 h2 => by
          by_cases w : i = k
          · rw [w]
            exact ea
          · exact ru i (by omega) (by omega)) (fun z => by
          rw [z] at e
          simp at e
          omega)
        rw [e2] at k1
        exact k1
      · rw [decide_eq_false x] at ea
        rw [if_pos (by simp; omega)]
        refine ⟨trivial, trivial, (by decide), ?_⟩
        exact close fun _ => ea
theorem d_borders {cs : List Cue} (ln : cs.length ≤ 1000) (nt : ∀ k, k + 1 < cs.length → adj cs k = true → same cs k (k + 1) = false) {m : Nat} {P : D → Nat → Prop} (h : ∀ f : Int, f ≤ few cs → P (.int f) 0) : r__law_borders [.d (fileD cs)] m P := by
  refine ⟨(by show 2 ≤ 1000000; omega), rfl, rfl, ?_⟩
  show forL _ _ _ (enD (cs.map Cue.d)) _
  have e0 : enD (cs.map Cue.d) = (cs.map Cue.d).mapIdx fun i d => .tuple [.int (((0 + i : Nat)) : Int), d] := by
    unfold enD
    simp only [Nat.zero_add]
  rw [e0]
  refine bo_loop ln nt (fun f s2 s3 s4 hf => ?_) cs 0 0 0 .no .no rfl (by omega) (Nat.le_refl _) (by rw [vl_self prt_lt]; exact Int.le_refl _) (fun _ => .inl rfl) (fun i h1 h2 => by omega) fun z => rfl
  exact ⟨hd_d, h f (by rw [few_vl]; exact hf)⟩
/-- flat cues that touch differ -/
theorem fl_nt {A : List Cue} (g : GF A) (k : Nat) (h : k + 1 < (fl A).length) (a : adj (fl A) k = true) : same (fl A) k (k + 1) = false := by
  have p := List.pairwise_iff_getElem.mp (fl_fol g) k (k + 1) (by omega) h (by omega)
  have e : ∀ i (hi : i < (fl A).length), cueN (fl A) i = (fl A)[i] := fun i hi => by
    unfold cueN
    (rw [List.getD_eq_getElem?_getD, List.getElem?_eq_getElem hi])
    rfl
  rw [← e k (by omega), ← e (k + 1) h] at p
  have a := of_decide_eq_true a
  rcases p with p | ⟨_, p⟩
  · omega
  · show PyData.eqv (cueN (fl A) k).x (cueN (fl A) (k + 1)).x = false
    cases z : PyData.eqv (cueN (fl A) k).x (cueN (fl A) (k + 1)).x with
    | false => rfl
    | true =>
      have cg := fl_good g
      have := OT.eq (cg _ (cue_get (show k < (fl A).length by omega)).1).x (cg _ (cue_get h).1).x z
      rw [this, eqv_refl _ ((cg _ (cue_get h).1).x.nod)] at p
      cases p
end Q78
namespace Q78
open PySem L2 DL
theorem rg_two (i j : Nat) : rgD (i : Int) (j : Int) = (List.range' i (j - i)).map fun k : Nat => PyData.int (k : Int) := by
  unfold rgD
  rw [show ((j : Int) - (i : Int)).toNat = j - i by omega, List.range'_eq_map_range, List.map_map]
  (refine List.map_congr_left fun k _ => ?_)
  show PyData.int ((i : Int) + (k : Int)) = .int ((i + k : Nat) : Int)
  rw [Int.natCast_add]
end Q78
namespace Q78
open PySem L2 DL
def kz (a b : Int) : List Key := [.inl a, .inl b]
def LT (cs : List Cue) (s i : Nat) (X : TD) : Prop := ∀ a b : Int, getT X (kz a b) = if 0 ≤ a ∧ a ≤ b ∧ b < (cs.length : Int) ∧ (b - a + 1 < (s : Int) ∨ b - a + 1 = (s : Int) ∧ a < (i : Int)) then some (.int (val (prt cs) a.toNat b.toNat)) else none
theorem lt_or {cs : List Cue} {s i : Nat} {X : TD} (h : LT cs s i X) {a b : Nat} (h1 : a ≤ b) (h2 : b ≤ cs.length) (h3 : b - a < s) {x y : Int} (ex : x = (a : Nat)) (ey : y = (b : Int) - 1) : (getT X (kz x y)).getD (.int 0) = .int (vl (prt cs) a b) := by
  subst ex ey
  rw [h]
  unfold vl
  by_cases z : a < b
  · rw [if_pos ⟨by omega, by omega, by omega, .inl (by omega)⟩, if_pos z]
    show PyData.int (val (prt cs) _ _) = _
    rw [show ((b : Int) - 1).toNat = b - 1 by omega, Int.toNat_natCast]
  · rw [if_neg (by omega), if_neg z]
    rfl
theorem lt_at {cs : List Cue} {s i : Nat} {X : TD} (h : LT cs s i X) {a b : Nat} (h1 : a ≤ b) (h2 : b < cs.length) (h3 : b - a + 1 < s) : getT X (kz (a : Nat) (b : Nat)) = some (.int (val (prt cs) a b)) := by
  rw [h, if_pos ⟨by omega, by omega, by omega, .inl (by omega)⟩, Int.toNat_natCast, Int.toNat_natCast]
theorem lt_put {cs : List Cue} {s i j : Nat} {X : TD} (h : LT cs s i X) (hs : j + 1 = i + s) (hj : j < cs.length) (s1 : 1 ≤ s) : LT cs s (i + 1) (putT X (kz (i : Nat) (j : Nat)) (.int (val (prt cs) i j))) := fun a b => by
  rw [getT_put]
  by_cases z : kz a b = kz (i : Nat) (j : Nat)
  · rw [if_pos z]
    unfold kz at z
    injection z with z1 z2
    injection z2 with z2 _
    injection z1 with z1
    injection z2 with z2
    subst z1 z2
    rw [if_pos ⟨by omega, by omega, by omega, .inr ⟨by omega, by omega⟩⟩, Int.toNat_natCast, Int.toNat_natCast]
  · rw [if_neg z, h]
    have n : ¬ (a = (i : Nat) ∧ b = (j : Nat)) := fun w => z (by rw [w.1, w.2])
    by_cases w : 0 ≤ a ∧ a ≤ b ∧ b < (cs.length : Int) ∧ (b - a + 1 < (s : Int) ∨ b - a + 1 = (s : Int) ∧ a < (i : Int))
    · rw [if_pos w, if_pos (by omega)]
    · rw [if_neg w, if_neg (by omega)]
theorem lt_next {cs : List Cue} {s i : Nat} {X : TD} (h : LT cs s i X) (hi : i + s = cs.length + 1) : LT cs (s + 1) 0 X := fun a b => by
  rw [h]
  by_cases w : 0 ≤ a ∧ a ≤ b ∧ b < (cs.length : Int) ∧ (b - a + 1 < (s : Int) ∨ b - a + 1 = (s : Int) ∧ a < (i : Int))
  · rw [if_pos w, if_pos (by omega)]
  · rw [if_neg w, if_neg (by omega)]
theorem lt_nil (cs : List Cue) : LT cs 1 0 [] := fun a b => by
  rw [if_neg (by omega)]
  rfl
/-- what is left to look at of the partners below k -/
def endK (cs : List Cue) (i j k : Nat) (t : Bool) (acc : Int) : Int := if t = true then minI acc (((scan cs j k).filter fun p => decide (i ≤ p)).map (joi (val (prt cs)) i j)) else acc
theorem scan_low {cs : List Cue} {i j k : Nat} (h : k ≤ i) : (scan cs j k).filter (fun p => decide (i ≤ p)) = [] := by
  refine List.filter_eq_nil_iff.mpr fun p hp => ?_
  have := scan_lt cs j k p hp
  simp
  omega
abbrev leK : SM := sSeq (sSet 7 (dAnd (dV 7) (d2 gEq (hV (d2 gIx (hV (d2 gIx (hS 0) (hS 5))) (hV (dC (.int 1))))) (hV (d2 gIx (hV (d2 gIx (hS 0) (hV (d2 gAdd (hS 5) (hV (dC (.int 1))))))) (hV (dC (.int 0)))))))) (sIf (bAnd (bTruth (hS 7)) (bD (d2 gEq (hV (d2 gIx (hV (d2 gIx (hS 0) (hS 5))) (hV (dC (.int 2))))) (hV (d2 gIx (hV (d2 gIx (hS 0) (hS 4))) (hV (dC (.int 2)))))))) (sSet 6 (dCB gMin (DL.gCons (hS 6) (DL.gCons (hV (d2 gAdd (hV (dGetT 1 (lCons (dV 3) (lCons (dV 5) (lNil))))) (hV (dGetOrT 1 (lCons (d2 gAdd (hS 5) (hV (dC (.int 1)))) (lCons (d2 DL.gSub (hS 4) (hV (dC (.int 1)))) (lNil))) (dC (.int 0)))))) (DL.gNil))))) (sNo))
theorem le_k {cs : List Cue} (c : FlC cs) {X : TD} {s i j : Nat} (hij : i ≤ j) (hj : j < cs.length) (hs : j + 1 = i + s) (t : LT cs s i X) {S2 : Sl} {E : DE} : ∀ (k : Nat) (acc : Int) (b : Bool) (s5 : Sl), i ≤ k → k ≤ j →
    (∀ s5 s7, E.nx [.im (fileD cs), .ow (tdD X), S2, .im (.int (i : Nat)), .im (.int (j : Nat)), s5, .im (.int (endK cs i j k b acc)), s7]) →
    forL (gN 5) leK E ((down i k).map fun k : Nat => .int (k : Int)) [.im (fileD cs), .ow (tdD X), S2, .im (.int (i : Nat)), .im (.int (j : Nat)), s5, .im (.int acc), .im (.bool b)]
  | 0, acc, b, s5, hi, _, h => by
    have : i = 0 := by omega
    subst this
    have e : endK cs 0 j 0 b acc = acc := by
      unfold endK
      split <;> rfl
    have k := h s5 (.im (.bool b))
    rw [e] at k
    exact k
  | k + 1, acc, b, s5, hi, hk, h => by
    by_cases z : i = k + 1
    · subst z
      have e : endK cs (k + 1) j (k + 1) b acc = acc := by
        unfold endK
        rw [scan_low (Nat.le_refl _)]
        split <;> rfl
      rw [down_nil (Nat.le_refl _)]
      have q := h s5 (.im (.bool b))
      rw [e] at q
      exact q
    · rw [down_succ (by omega), List.map_cons]
      have g1 := cue_get (cs := cs) (i := k) (by omega)
      have g2 := cue_get (cs := cs) (i := k + 1) (by omega)
      have g3 := cue_get (cs := cs) (i := j) hj
      have tx := c.tx
      have go := fun acc b s5 => le_k c hij hj hs t (S2 := S2) (E := E) k acc b s5 (by omega) (by omega)
      have stop : ∀ s5, (∀ s5 s7, E.nx [.im (fileD cs), .ow (tdD X), S2, .im (.int (i : Nat)), .im (.int (j : Nat)), s5, .im (.int acc), s7]) → forL (gN 5) leK E ((down i k).map fun k : Nat => .int (k : Int)) [.im (fileD cs), .ow (tdD X), S2, .im (.int (i : Nat)), .im (.int (j : Nat)), s5, .im (.int acc), .im (.bool false)] := fun s5 q => go acc false s5 q
      cases b with
      | false =>
        refine ⟨trivial, ?_⟩
        exact stop _ h
      | true =>
        refine ⟨trivial, trivial, (cueN cs k).d, atI_nat g1.2, _, rfl, trivial, trivial, (cueN cs (k + 1)).d, ?_, _, rfl, rfl, rfl, ?_⟩
        · have : ((k : Nat) : Int) + 1 = ((k + 1 : Nat) : Int) := by omega
          rw [this]
          exact atI_nat g2.2
        rw [eqI]
        rw [show decide ((cueN cs k).t = (cueN cs (k + 1)).f) = adj cs k from rfl]
        cases ad : adj cs k with
        | false =>
          have e : endK cs i j (k + 1) true acc = acc := by
            unfold endK scan
            rw [if_pos rfl, if_neg (by rw [ad]; decide)]
            rfl
          rw [e] at h
          exact ⟨trivial, stop _ h⟩
        | true =>
          refine ⟨trivial, trivial, trivial, _, atI_nat g1.2, _, rfl, trivial, trivial, _, atI_nat g3.2, _, rfl, tx.ok _ g1.1, tx.ok _ g3.1, ?_⟩
          show if same cs k j = true then _ else _
          by_cases y : same cs k j = true
          · rw [if_pos y]
            have e : endK cs i j (k + 1) true acc = endK cs i j k true (min acc (val (prt cs) i k + vl (prt cs) (k + 1) j)) := by
              unfold endK
              rw [if_pos rfl, if_pos rfl]
              rw [scan, if_pos ad, if_pos y, List.singleton_append, List.filter_cons_of_pos (by simp; omega), List.map_cons]
              show minI (min acc (joi (val (prt cs)) i j k)) _ = _
              have e3 : joi (val (prt cs)) i j k = val (prt cs) i k + vl (prt cs) (k + 1) j := by
                unfold joi vl
                rfl
              rw [e3]
            rw [e] at h
            refine ⟨trivial, trivial, (by show 2 ≤ 1000000; omega), kz (i : Nat) (k : Nat), X, .int (val (prt cs) i k), rfl, .inr rfl, lt_at t (by omega) (by omega) (by omega), ?_⟩
            refine ⟨⟨X, .inr rfl⟩, trivial, trivial, (by show 2 ≤ 1000000; omega), kz (((k : Nat) : Int) + 1) (((j : Nat) : Int) - 1), X, rfl, .inr rfl, ?_⟩
            rw [lt_or t (a := k + 1) (b := j) (by omega) (by omega) (by omega) (by omega) rfl]
            exact go _ true _ h
          · rw [if_neg y]
            have e : endK cs i j (k + 1) true acc = endK cs i j k true acc := by
              unfold endK
              rw [if_pos rfl, if_pos rfl]
              rw [scan, if_pos ad, if_neg y, List.nil_append]
            rw [e] at h
            exact go _ true _ h
abbrev leR : SM := sSeq (sPar 6 7 (lCons (d2 gAdd (hV (dGetOrT 1 (lCons (dV 3) (lCons (d2 DL.gSub (hS 4) (hV (dC (.int 1)))) (lNil))) (dC (.int 0)))) (hV (dC (.int 1)))) (lCons (dC (.bool true)) (lNil)))) (sSeq (sFor (iRangeDn (lCons (d2 DL.gSub (hS 4) (hV (dC (.int 1)))) (lCons (d2 DL.gSub (hS 3) (hV (dC (.int 1)))) (lCons (d2 DL.gSub (hV (dC (.int 0))) (hV (dC (.int 1)))) (lNil))))) (gN 5) leK) (sPutT 1 (lCons (dV 3) (lCons (dV 4) (lNil))) (dV 6)))
theorem le_one {cs : List Cue} (c : FlC cs) {s i j : Nat} {J : Int} (s1 : 1 ≤ s) (hj : j + 1 = i + s) (hc : j < cs.length) (eJ : J = (j : Nat)) {X : TD} (t : LT cs s i X) (hl : X.length < 100000) {S2 s5 s6 s7 : Sl} {E : DE}
    (h : ∀ s5 s7, E.nx [.im (fileD cs), .ow (tdD (putT X (kz (i : Nat) (j : Nat)) (.int (val (prt cs) i j)))), S2, .im (.int (i : Nat)), .im (.int (j : Nat)), s5, .im (.int (val (prt cs) i j)), s7]) :
    leR E [.im (fileD cs), .ow (tdD X), S2, .im (.int (i : Nat)), .im (.int J), s5, s6, s7] := by
  subst eJ
  have l := c.l
  refine ⟨⟨X, .inr rfl⟩, trivial, (by show 2 ≤ 1000000; omega), kz (i : Nat) (((j : Nat) : Int) - 1), X, rfl, .inr rfl, ?_⟩
  rw [lt_or t (a := i) (b := j) (by omega) (by omega) (by omega) rfl rfl]
  refine ⟨trivial, trivial, ⟨rfl, by omega, by omega, by omega, by omega⟩, ?_⟩
  have er : dnD (((j : Nat) : Int) - 1) (((i : Nat) : Int) - 1) = (down i j).map fun k : Nat => .int (k : Int) := by
    unfold dnD down
    rw [List.map_map, show ((((j : Nat) : Int) - 1) - (((i : Nat) : Int) - 1)).toNat = j - i by omega]
    refine List.map_congr_left fun k hk => ?_
    have := List.mem_range.mp hk
    show PyData.int (((j : Nat) : Int) - 1 - (k : Int)) = .int ((j - 1 - k : Nat) : Int)
    congr 1
    omega
  rw [er]
  refine le_k c (by omega) hc hj t j _ true _ (by omega) (Nat.le_refl _) fun s5 s7 => ?_
  have ev : endK cs i j j true (vl (prt cs) i j + 1) = val (prt cs) i j := by
    unfold endK
    rw [if_pos rfl]
    by_cases z : i = j
    · subst z
      rw [scan_low (Nat.le_refl _), vl_self prt_lt, val_one]
      rfl
    · rw [val_eq prt_lt (show i < j by omega)]
      unfold vl
      rw [if_pos (by omega)]
      rfl
  rw [ev]
  exact ⟨trivial, (by show 2 ≤ 1000000; omega), kz (i : Nat) (j : Nat), X, rfl, rfl, by omega, h _ _⟩
abbrev leI : SM := sSeq (sSet 4 (d2 DL.gSub (hV (d2 gAdd (hS 3) (hS 2))) (hV (dC (.int 1))))) leR
theorem le_i {cs : List Cue} (c : FlC cs) {s : Nat} (s1 : 1 ≤ s) (hs : s ≤ cs.length) {E : DE} : ∀ (n i : Nat) (X : TD) (s3 s4 s5 s6 s7 : Sl), i + n + s = cs.length + 1 → LT cs s i X → X.length + n ≤ 100000 →
    (∀ Y s3 s4 s5 s6 s7, LT cs (s + 1) 0 Y → Y.length ≤ X.length + n → E.nx [.im (fileD cs), .ow (tdD Y), .im (.int (s : Nat)), s3, s4, s5, s6, s7]) →
    forL (gN 3) leI E ((List.range' i n).map fun k : Nat => .int (k : Int)) [.im (fileD cs), .ow (tdD X), .im (.int (s : Nat)), s3, s4, s5, s6, s7]
  | 0, i, X, s3, s4, s5, s6, s7, hi, t, _, h => h X _ _ _ _ _ (lt_next t (by omega)) (Nat.le_refl _)
  | n + 1, i, X, s3, s4, s5, s6, s7, hi, t, hl, h => by
    have l := c.l
    rw [List.range'_succ, List.map_cons]
    obtain ⟨j, hj⟩ : ∃ j, j + 1 = i + s := ⟨i + s - 1, by omega⟩
    have pl := putT_len X (kz (i : Nat) (j : Nat)) (.int (val (prt cs) i j))
    refine ⟨trivial, trivial, le_one c s1 hj (by omega) (by omega) t (by omega) fun s5 s7 => ?_⟩
    refine le_i c s1 hs n (i + 1) _ _ _ _ _ _ (by omega) (lt_put t hj (by omega) s1) (by omega) fun Y s3 s4 s5 s6 s7 hY lY => h Y _ _ _ _ _ hY (by omega)
theorem le_s {cs : List Cue} (c : FlC cs) {E : DE} : ∀ (n s : Nat) (X : TD) (s2 s3 s4 s5 s6 s7 : Sl), s + n = cs.length + 1 → 1 ≤ s → LT cs s 0 X → X.length ≤ s * 50 →
    (∀ Y s2 s3 s4 s5 s6 s7, LT cs (cs.length + 1) 0 Y → E.nx [.im (fileD cs), .ow (tdD Y), s2, s3, s4, s5, s6, s7]) →
    forL (gN 2) (sFor (iRange1 (lCons (d2 gAdd (hV (d2 DL.gSub (hV (dCB gLen (DL.gCons (hS 0) (DL.gNil)))) (hS 2))) (hV (dC (.int 1)))) (lNil))) (gN 3) leI) E ((List.range' s n).map fun k : Nat => .int (k : Int)) [.im (fileD cs), .ow (tdD X), s2, s3, s4, s5, s6, s7]
  | 0, s, X, s2, s3, s4, s5, s6, s7, hs, _, t, _, h => by
    have : s = cs.length + 1 := by omega
    subst this
    exact h X _ _ _ _ _ _ t
  | n + 1, s, X, s2, s3, s4, s5, s6, s7, hs, s1, t, hl, h => by
    have l := c.l
    rw [List.range'_succ, List.map_cons]
    refine ⟨trivial, trivial, ⟨by rw [List.length_map]; omega, by rw [List.length_map]; omega⟩, ?_⟩
    have er : rgD 0 ((((cs.map Cue.d).length : Nat) : Int) - ((s : Nat) : Int) + 1) = (List.range' 0 (cs.length + 1 - s)).map fun k : Nat => .int (k : Int) := by
      rw [List.length_map, show ((cs.length : Nat) : Int) - ((s : Nat) : Int) + 1 = ((cs.length + 1 - s : Nat) : Int) by omega]
      exact rg_two 0 _
    rw [er]
    have e50 : (s + 1) * 50 = s * 50 + 50 := by rw [Nat.add_mul]
    have top : s * 50 ≤ 41 * 50 := Nat.mul_le_mul_right _ (by omega)
    refine le_i c s1 (by omega) (cs.length + 1 - s) 0 X _ _ _ _ _ (by omega) t (by omega) fun Y s3 s4 s5 s6 s7 hY lY => ?_
    exact le_s c n (s + 1) Y _ _ _ _ _ _ (by omega) (by omega) hY (by omega) h
theorem d_least {cs : List Cue} (c : FlC cs) {m : Nat} {P : D → Nat → Prop} (h : ∀ Y, LT cs (cs.length + 1) 0 Y → P (tdD Y) 0) : r__law_least [.d (fileD cs)] m P := by
  have l := c.l
  refine ⟨trivial, ⟨by omega, by omega, by rw [List.length_map]; omega, by rw [List.length_map]; omega⟩, ?_⟩
  have er : rgD 1 ((((cs.map Cue.d).length : Nat) : Int) + 1) = (List.range' 1 cs.length).map fun k : Nat => .int (k : Int) := by
    have := rg_two 1 (cs.length + 1)
    rw [Int.natCast_add, Nat.add_sub_cancel] at this
    rw [List.length_map]
    exact this
  rw [er]
  refine le_s c cs.length 1 [] _ _ _ _ _ _ (by omega) (Nat.le_refl _) (lt_nil cs) (Nat.zero_le _) fun Y s2 s3 s4 s5 s6 s7 hY => ?_
  exact ⟨hd_d, h Y hY⟩
end Q78
namespace Q78
open PySem L2 DL
abbrev Ct := Int × Int
def rng (a b : Int) : List Int := (List.range (b - a).toNat).map fun i => a + ((i : Nat) : Int)
theorem rng_len {a b : Int} (h : a ≤ b) : ((rng a b).length : Int) = b - a := by
  unfold rng
  (rw [List.length_map, List.length_range])
  omega
theorem rng_mem {a b x : Int} : x ∈ rng a b ↔ a ≤ x ∧ x < b := by
  unfold rng
  rw [List.mem_map]
  constructor
  · rintro ⟨i, hi, rfl⟩
    have := List.mem_range.mp hi
    omega
  · intro h
    exact ⟨(x - a).toNat, List.mem_range.mpr (by omega), by omega⟩
theorem p0 {a b : Int} {P : D → Prop} (h : P (.int a)) : gIx (.tuple [.int a, .int b]) (.int 0) P := ⟨_, rfl, h⟩
theorem p1 {a b : Int} {P : D → Prop} (h : P (.int b)) : gIx (.tuple [.int a, .int b]) (.int 1) P := ⟨_, rfl, h⟩
theorem rg_rng (a b : Int) : rgD a b = (rng a b).map PyData.int := by
  unfold rgD rng
  rw [List.map_map]
  rfl
theorem okD_pairs (ps : List Ct) : okD (.list (ps.map pairD)) := by
  have key : ∀ ps : List Ct, PyData.canLayAll0 (ps.map pairD) = true ∧ PyData.depthAll (ps.map pairD) ≤ 1 := by
    intro ps
    induction ps with
    | nil => exact ⟨rfl, by simp [PyData.depthAll]⟩
    | cons p ps ih =>
      obtain ⟨a, b⟩ := ih
      simp only [List.map_cons, PyData.canLayAll0, PyData.depthAll, a]
      refine ⟨rfl, ?_⟩
      have : (pairD p).depth = 1 := rfl
      omega
  obtain ⟨a, b⟩ := key ps
  show SeqAt.shaped _ = true
  unfold SeqAt.shaped
  simp only [PyData.canLay0, a, PyData.depth, Bool.true_and]
  simp
  omega
theorem x1 : OkStr ("c" : Str) := ⟨by decide +kernel, by decide +kernel, by decide +kernel, by decide +kernel, by decide +kernel⟩
theorem x2 : OkStr ("d d" : Str) := ⟨by decide +kernel, by decide +kernel, by decide +kernel, by decide +kernel, by decide +kernel⟩
theorem d_text {m : Nat} {P : D → Nat → Prop} (hm : m < 1048000) (h : ∀ x, OTS x → P x (m + 1)) : r__law_text [.ora] m P := by
  refine ⟨by show 1 ≤ 1000000; omega, by show 1 ≤ 1000000; omega, by show 1 ≤ 1000000; omega, by show 2 ≤ 1000000; omega, by show 1 ≤ 1000000; omega, by show 5 ≤ 1000000; omega, trivial, rfl, rfl, rfl, 5, rfl, by omega, by omega, by omega, fun i i0 i1 => ?_⟩
  have c : i = 0 ∨ i = 1 ∨ i = 2 ∨ i = 3 ∨ i = 4 := by omega
  rcases c with rfl | rfl | rfl | rfl | rfl
  · exact ⟨_, rfl, h _ ⟨["a"], rfl, by decide, by decide, fun z hz => by rw [List.mem_singleton.mp hz]; exact ⟨w1, by decide +kernel⟩⟩⟩
  · exact ⟨_, rfl, h _ ⟨["b"], rfl, by decide, by decide, fun z hz => by rw [List.mem_singleton.mp hz]; exact ⟨w2, by decide +kernel⟩⟩⟩
  · exact ⟨_, rfl, h _ ⟨["c"], rfl, by decide, by decide, fun z hz => by rw [List.mem_singleton.mp hz]; exact ⟨x1, by decide +kernel⟩⟩⟩
  · refine ⟨_, rfl, h _ ⟨["a", "b"], rfl, by decide, by decide, fun z hz => ?_⟩⟩
    (rcases List.mem_cons.mp hz with rfl | hz)
    · exact ⟨w1, by decide +kernel⟩
    · (rw [List.mem_singleton.mp hz])
      exact ⟨w2, by decide +kernel⟩
  · exact ⟨_, rfl, h _ ⟨["d d"], rfl, by decide, by decide, fun z hz => by rw [List.mem_singleton.mp hz]; exact ⟨x2, by decide +kernel⟩⟩⟩
end Q78
namespace Q78
open PySem L2 DL
def OkTd (T : List Ct) : Prop := ∀ p ∈ T, 0 ≤ p.1 ∧ p.1 < p.2 ∧ p.2 ≤ 60
theorem eqv_nilP (T : List Ct) : PyData.eqv (.list (T.map pairD)) (.list []) = decide (T = []) := by
  cases T <;> simp [PyData.eqv, PyData.eqvAll]
def farD : D → Bool
  | .tuple [.int a, .int b] => decide (b > a + 1)
  | _ => false
def news (low high e : Int) : List Ct := [(low + 1, high), (high, e), (low + 1, high)].filter fun p => decide (p.2 > p.1 + 1)
theorem news_len (low high e : Int) : (news low high e).length ≤ 3 := List.length_filter_le ..
theorem news_ok {low high e : Int} (h0 : 0 ≤ low) (h1 : low < high) (h2 : high ≤ e) (h3 : e ≤ 60) : OkTd (news low high e) := fun p hp => by
  obtain ⟨hm, hd⟩ := List.mem_filter.mp hp
  have hd := of_decide_eq_true hd
  simp at hm
  rcases hm with rfl | rfl | rfl <;> (simp at hd ⊢; omega)
abbrev skC : BM := bAnd (bD (d2 gNe (hS 3) (hV (dLst (lNil))))) (bD (d2 gLt (hV (dCB gLen (DL.gCons (hS 2) (DL.gNil)))) (hS 1)))
abbrev skB : SM := sSeq (sAsg (dPopA 3 (dCallO 0 2 s_next (aOra 0 (aCons (dCB gLen (DL.gCons (hS 3) (DL.gNil))) (aNil))))) (gTupT 2 (gConsT (gN 8) (gConsT (gN 9) (gNoT))))) (sSeq (sSet 4 (d2 gAdd (hS 8) (hV (dCallO 0 2 s_next (aOra 0 (aCons (dCB gMin (DL.gCons (hV (dC (.int 4))) (DL.gCons (hV (d2 DL.gSub (hS 9) (hS 8))) (DL.gNil)))) (aNil))))))) (sSeq (sSet 5 (d2 gAdd (hV (d2 gAdd (hS 4) (hV (dC (.int 1))))) (hV (dCallO 0 2 s_next (aOra 0 (aCons (d2 DL.gSub (hS 9) (hS 4)) (aNil))))))) (sSeq (sApp 2 (dTup (lCons (dV 4) (lCons (dV 5) (lCons (dCallO 0 1 r__law_text (aOra 0 (aNil))) (lNil)))))) (sSetN 3 (dCat (hS 3) (hV (dLc (iSeq (dLst (lCons (dTup (lCons (d2 gAdd (hS 4) (hV (dC (.int 1)))) (lCons (dV 5) (lNil)))) (lCons (dTup (lCons (dV 5) (lCons (dV 9) (lNil)))) (lCons (dTup (lCons (d2 gAdd (hS 4) (hV (dC (.int 1)))) (lCons (dV 5) (lNil)))) (lNil)))))) (gN 10) (bD (d2 gGt (hV (d2 gIx (hS 10) (hV (dC (.int 1))))) (hV (d2 gAdd (hV (d2 gIx (hS 10) (hV (dC (.int 0))))) (hV (dC (.int 1))))))) (dV 10) [10])))))))
theorem er_map : ∀ (T : List Ct) (k : Nat), (T.map pairD).eraseIdx k = (T.eraseIdx k).map pairD
  | [], _ => rfl
  | _ :: _, 0 => rfl
  | p :: T, k + 1 => congrArg (pairD p :: ·) (er_map T k)
theorem sk_step {E : DE} {m : Nat} {M : Int} {F : List Cue} {T : List Ct} {s4 s5 s8 s9 : Sl} (hm : m < 1040000) (lF : F.length < 100) (lT : T.length < 100) (nT : T ≠ []) (oT : OkTd T) (oF : ∀ c ∈ F, GS c)
    (h : ∀ (c : Cue) (T2 : List Ct) s4 s5 s8 s9, GS c → OkTd T2 → T2.length ≤ T.length + 3 → E.nx [.ora (m + 4), .im (.int M), .ow (.list ((F ++ [c]).map Cue.d)), .ow (.list (T2.map pairD)), s4, s5, .no, .no, s8, s9, .no]) :
    skB E [.ora m, .im (.int M), .ow (.list (F.map Cue.d)), .ow (.list (T.map pairD)), s4, s5, .no, .no, s8, s9, .no] := by
  have pos : 0 < T.length := List.length_pos_iff.mpr nT
  refine ⟨trivial, trivial, trivial, rfl, rfl, rfl, ((T.map pairD).length : Nat), rfl, by rw [List.length_map]; omega, by rw [List.length_map]; omega, by omega, fun i i0 i1 => ?_⟩
  rw [List.length_map] at i1
  have hi : i.toNat < T.length := by omega
  refine ⟨i.toNat, by rw [Int.toNat_of_nonneg i0], by omega, pairD T[i.toNat], by rw [List.getElem?_map, List.getElem?_eq_getElem hi]; rfl, ?_⟩
  have oP := oT T[i.toNat] (List.getElem_mem hi)
  have eE : (T.map pairD).eraseIdx i.toNat = (T.eraseIdx i.toNat).map pairD := er_map T i.toNat
  have oE : OkTd (T.eraseIdx i.toNat) := fun p hp => oT p (List.mem_of_mem_eraseIdx hp)
  have lE : (T.eraseIdx i.toNat).length ≤ T.length := List.length_eraseIdx_le ..
  rw [eE]
  generalize T[i.toNat] = p at oP ⊢
  generalize T.eraseIdx i.toNat = T1 at oE lE ⊢
  refine ⟨rfl, rfl, trivial, trivial, trivial, trivial, rfl, rfl, rfl, min 4 (p.2 - p.1), rfl, by omega, by omega, by omega, fun u u0 u1 => ?_⟩
  refine ⟨trivial, trivial, trivial, trivial, rfl, rfl, rfl, p.2 - (p.1 + u), rfl, by omega, by omega, by omega, fun v v0 v1 => ?_⟩
  have e1 : p.1 + u < p.1 + u + 1 + v := by omega
  refine ⟨trivial, trivial, rfl, rfl, rfl, (d_text (by omega) fun x hx => ?_)⟩
  refine ⟨(by show 3 ≤ 1000000; omega), (by rw [List.length_map]; omega), ?_⟩
  refine ⟨trivial, trivial, (by show 2 ≤ 1000000; omega), (by show 2 ≤ 1000000; omega), trivial, (by show 2 ≤ 1000000; omega), (by show 3 ≤ 1000000; omega), ?_⟩
  refine ⟨(by show 3 ≤ 1000000; omega), ⟨by simp, fun j hj => by simp at hj; rcases hj with rfl; rfl⟩, ?_⟩
  refine lcL_filt (ρ := [.ora (m + 1 + 1 + 1 + 1), .im (.int M), .ow (.list (F.map Cue.d ++ [.tuple [.int (p.1 + u), .int (p.1 + u + 1 + v), x]])), .ow (.list (T1.map pairD)), .im (.int (p.1 + u)), .im (.int (p.1 + u + 1 + v)), .no, .no, .im (.int p.1), .im (.int p.2), .no]) farD id ([(p.1 + u + 1, p.1 + u + 1 + v), (p.1 + u + 1 + v, p.2), (p.1 + u + 1, p.1 + u + 1 + v)].map pairD) [] ?_ ?_
  · intro d hd Q Z hQ hZ
    (obtain ⟨q, hq, rfl⟩ := List.mem_map.mp hd)
    refine ⟨trivial, p1 ⟨trivial, p0 ?_⟩⟩
    show if decide (q.2 > q.1 + 1) = true then _ else _
    by_cases z : q.2 > q.1 + 1
    · rw [if_pos (decide_eq_true z)]
      exact hQ (decide_eq_true z) _ rfl
    · rw [if_neg (by simpa using z)]
      exact hZ (decide_eq_false z) _ rfl
  · have e : ([] : List D) ++ (([(p.1 + u + 1, p.1 + u + 1 + v), (p.1 + u + 1 + v, p.2), (p.1 + u + 1, p.1 + u + 1 + v)].map pairD).filter farD).map id = (news (p.1 + u) (p.1 + u + 1 + v) p.2).map pairD := by
      rw [List.nil_append, List.map_id, List.filter_map]
      rfl
    rw [e]
    have nl := news_len (p.1 + u) (p.1 + u + 1 + v) p.2
    have no := news_ok (low := p.1 + u) (high := p.1 + u + 1 + v) (e := p.2) (by omega) e1 (by omega) (by omega)
    generalize news (p.1 + u) (p.1 + u + 1 + v) p.2 = W at nl no ⊢
    have k := h ⟨p.1 + u, p.1 + u + 1 + v, x⟩ (T1 ++ W) (.im (.int (p.1 + u))) (.im (.int (p.1 + u + 1 + v))) (.im (.int p.1)) (.im (.int p.2)) ⟨by show 0 ≤ p.1 + u; omega, e1, by show p.1 + u + 1 + v ≤ 90; omega, hx⟩ (fun q hq => (List.mem_append.mp hq).elim (oE q) (no q)) (by rw [List.length_append]; omega)
    rw [List.map_append, List.map_append] at k
    exact ⟨by rw [List.length_map, List.length_map]; omega, k⟩
end Q78
namespace Q78
open PySem L2 DL
theorem sk_loop {E : DE} {m n : Nat} {T : List Ct} (hm : m < 1030000) (hn : n ≤ 8) (lT : T.length ≤ 1) (oT : OkTd T)
    (h : ∀ (k : Nat) (F : List Cue) (T2 : List Ct) s4 s5 s8 s9, k ≤ m + 4 * n → F.length ≤ n → (∀ c ∈ F, GS c) → E.nx [.ora k, .im (.int (n : Nat)), .ow (.list (F.map Cue.d)), .ow (.list (T2.map pairD)), s4, s5, .no, .no, s8, s9, .no]) :
    sWhile skC skB E [.ora m, .im (.int (n : Nat)), .ow (.list (([] : List Cue).map Cue.d)), .ow (.list (T.map pairD)), .no, .no, .no, .no, .no, .no, .no] := by
  refine ⟨fun r ρ => ∃ (k : Nat) (F : List Cue) (T : List Ct) (s4 s5 s8 s9 : Sl), ρ = [.ora k, .im (.int (n : Nat)), .ow (.list (F.map Cue.d)), .ow (.list (T.map pairD)), s4, s5, .no, .no, s8, s9, .no] ∧ F.length + r = n ∧ T.length ≤ 1 + 3 * F.length ∧ OkTd T ∧ (∀ c ∈ F, GS c) ∧ k ≤ m + 4 * F.length,
    ⟨n, m, [], T, .no, .no, .no, .no, rfl, Nat.zero_add n, lT, oT, (fun _ z => nomatch z), Nat.le_refl _⟩, ?_⟩
  rintro r ρ ⟨k, F, T, s4, s5, s8, s9, rfl, a, b, c, d, e⟩
  refine ⟨trivial, (by show 0 ≤ 1000000; omega), okD_pairs T, okD_pairs [], ?_⟩
  show if (!PyData.eqv (.list (T.map pairD)) (.list [])) = true then _ else _
  rw [eqv_nilP]
  by_cases z : T = []
  · rw [if_neg (by simp [z])]
    exact h _ _ _ _ _ _ _ (by omega) (by omega) d
  · rw [if_pos (by simp [z])]
    refine ⟨trivial, trivial, ?_⟩
    show if decide ((((F.map Cue.d).length : Nat) : Int) < (n : Nat)) = true then _ else _
    rw [List.length_map]
    by_cases y : F.length < n
    · rw [if_pos (decide_eq_true (by omega))]
      refine sk_step (by omega) (by omega) (by omega) z c d fun q T2 s4 s5 s8 s9 gq oT2 lT2 => ?_
      refine ⟨r - 1, by omega, k + 4, F ++ [q], T2, s4, s5, s8, s9, rfl, ?_, ?_, oT2, fun x hx => ?_, ?_⟩
      · (rw [List.length_append, List.length_singleton])
        omega
      · (rw [List.length_append, List.length_singleton])
        omega
      · (rcases List.mem_append.mp hx with hx | hx)
        · exact d x hx
        · rw [List.mem_singleton.mp hx]
          exact gq
      · (rw [List.length_append, List.length_singleton])
        omega
    · rw [if_neg (by simp; omega)]
      exact h _ _ _ _ _ _ _ (by omega) (by omega) d
abbrev rwC : BM := bD (d2 gNe (hS 7) (hV (dLst (lNil))))
abbrev rwB : SM := sApp 6 (d2 gIx (hS 2) (hV (dPopA 7 (dCallO 0 2 s_next (aOra 0 (aCons (dCB gLen (DL.gCons (hS 7) (DL.gNil))) (aNil)))))))
theorem er_ints : ∀ (T : List Int) (k : Nat), (T.map PyData.int).eraseIdx k = (T.eraseIdx k).map PyData.int
  | [], _ => rfl
  | _ :: _, 0 => rfl
  | p :: T, k + 1 => congrArg (PyData.int p :: ·) (er_ints T k)
theorem eqv_nilI (ps : List Int) : PyData.eqv (.list (ps.map PyData.int)) (.list []) = decide (ps = []) := by
  cases ps <;> simp [PyData.eqv, PyData.eqvAll]
theorem rw_loop {E : DE} {m : Nat} {s1 s3 s4 s5 s8 s9 : Sl} {F : List Cue} (hm : m < 1035000) (lF : F.length ≤ 8) (oF : ∀ c ∈ F, GS c) {L : List Int} (lL : L.length ≤ F.length) (oL : ∀ i ∈ L, 0 ≤ i ∧ i < (F.length : Int))
    (h : ∀ (k : Nat) (W : List Cue) s7, k ≤ m + F.length → W.length ≤ F.length → (∀ c ∈ W, GS c) → E.nx [.ora k, s1, .ow (.list (F.map Cue.d)), s3, s4, s5, .ow (.list (W.map Cue.d)), s7, s8, s9, .no]) :
    sWhile rwC rwB E [.ora m, s1, .ow (.list (F.map Cue.d)), s3, s4, s5, .ow (.list (([] : List Cue).map Cue.d)), .ow (.list (L.map PyData.int)), s8, s9, .no] := by
  refine ⟨fun r ρ => ∃ (k : Nat) (W : List Cue) (L : List Int), ρ = [.ora k, s1, .ow (.list (F.map Cue.d)), s3, s4, s5, .ow (.list (W.map Cue.d)), .ow (.list (L.map PyData.int)), s8, s9, .no] ∧ L.length = r ∧ W.length + L.length ≤ F.length ∧ (∀ i ∈ L, 0 ≤ i ∧ i < (F.length : Int)) ∧ (∀ c ∈ W, GS c) ∧ k ≤ m + W.length,
    ⟨L.length, m, [], L, rfl, rfl, by simpa using lL, oL, (fun _ z => nomatch z), Nat.le_refl _⟩, ?_⟩
  rintro r ρ ⟨k, W, L, rfl, a, b, c, d, e⟩
  refine ⟨trivial, (by show 0 ≤ 1000000; omega), okD_ints L, okD_ints [], ?_⟩
  show if (!PyData.eqv (.list (L.map PyData.int)) (.list [])) = true then _ else _
  rw [eqv_nilI]
  by_cases z : L = []
  · rw [if_neg (by simp [z])]
    exact h _ _ _ (by omega) (by omega) d
  · rw [if_pos (by simp [z])]
    have pos : 0 < L.length := List.length_pos_iff.mpr z
    refine ⟨trivial, trivial, trivial, trivial, trivial, rfl, rfl, rfl, ((L.map PyData.int).length : Nat), rfl, by rw [List.length_map]; omega, by rw [List.length_map]; omega, by omega, fun i i0 i1 => ?_⟩
    rw [List.length_map] at i1
    have hi : i.toNat < L.length := by omega
    refine ⟨i.toNat, by rw [Int.toNat_of_nonneg i0], by omega, .int L[i.toNat], by rw [List.getElem?_map, List.getElem?_eq_getElem hi]; rfl, ?_⟩
    have oP := c L[i.toNat] (List.getElem_mem hi)
    have oE : ∀ x ∈ L.eraseIdx i.toNat, 0 ≤ x ∧ x < (F.length : Int) := fun x hx => c x (List.mem_of_mem_eraseIdx hx)
    have lE : (L.eraseIdx i.toNat).length = L.length - 1 := by rw [List.length_eraseIdx, if_pos hi]
    rw [er_ints]
    generalize L[i.toNat] = p at oP ⊢
    generalize L.eraseIdx i.toNat = L1 at oE lE ⊢
    have hp : p.toNat < F.length := by omega
    refine ⟨(F[p.toNat]).d, ?_, ?_⟩
    · have at2 : atI (F.map Cue.d) ((p.toNat : Nat) : Int) = some (F[p.toNat]).d := atI_nat (by rw [List.getElem?_map, List.getElem?_eq_getElem hp]; rfl)
      have ep : ((p.toNat : Nat) : Int) = p := by omega
      rw [ep] at at2
      exact at2
    · refine ⟨by rw [List.length_map]; omega, r - 1, by omega, k + 1, W ++ [F[p.toNat]], L1, ?_, by omega, ?_, oE, fun x hx => ?_, ?_⟩
      · rw [List.map_append]
        rfl
      · (rw [List.length_append, List.length_singleton])
        omega
      · (rcases List.mem_append.mp hx with hx | hx)
        · exact d x hx
        · rw [List.mem_singleton.mp hx]
          exact oF _ (List.getElem_mem hp)
      · (rw [List.length_append, List.length_singleton])
        omega
theorem d_drawn {m n : Nat} {P : D → Nat → Prop} (hm : m < 1020000) (hn : n ≤ 8) (h : ∀ (F : List Cue) (m' : Nat), (∀ c ∈ F, GS c) → F.length ≤ n → m' ≤ m + 60 → P (fileD F) m') : r__law_strokes [.ora, .d (.int (n : Nat))] m P := by
  refine ⟨by show 0 ≤ 1000000; omega, ?_⟩
  refine ⟨trivial, rfl, rfl, rfl, 5, rfl, by omega, by omega, by omega, fun i i0 i1 => ?_⟩
  refine ⟨trivial, rfl, rfl, rfl, 40, rfl, by omega, by omega, by omega, fun j j0 j1 => ?_⟩
  refine ⟨by show 2 ≤ 1000000; omega, by show 1 ≤ 1000000; omega, ?_⟩
  refine sk_loop (m := m + 1 + 1) (n := n) (T := [(i, 12 + j)]) (by omega) hn (Nat.le_refl _) (fun p hp => ?_) fun k F T2 s4 s5 s8 s9 hk lF oF => ?_
  · (rw [List.mem_singleton.mp hp])
    show 0 ≤ i ∧ i < 12 + j ∧ 12 + j ≤ 60
    omega
  · refine ⟨by show 0 ≤ 1000000; omega, trivial, ⟨by omega, by rw [List.length_map]; omega⟩, ?_⟩
    rw [List.length_map]
    have er : rgD 0 (F.length : Int) = (rng 0 (F.length : Int)).map PyData.int := rg_rng _ _
    rw [er]
    have lr := rng_len (a := 0) (b := (F.length : Int)) (by omega)
    refine rw_loop (m := k) (by omega) (by omega) oF (by omega) (fun x hx => by have := rng_mem.mp hx; omega) fun k2 W s7 hk2 lW oW => ?_
    exact ⟨trivial, h W k2 oW (by omega) (by omega)⟩
end Q78
namespace Q78
open PySem L2 DL
abbrev flI : SM := sIf (bAnd (bD (d2 gNe (hS 3) (hV (dLst (lNil))))) (bAnd (bD (d2 gEq (hV (d2 gIx (hV (d2 gIx (hS 3) (hV (dNeg (dC (.int 1)))))) (hV (dC (.int 1))))) (hV (d2 gIx (hS 1) (hS 2))))) (bD (d2 gEq (hV (d2 gIx (hV (d2 gIx (hS 3) (hV (dNeg (dC (.int 1)))))) (hV (dC (.int 2))))) (hS 6))))) (sPut 3 (dNeg (dC (.int 1))) (dTup (lCons (d2 gIx (hV (d2 gIx (hS 3) (hV (dNeg (dC (.int 1)))))) (hV (dC (.int 0)))) (lCons (d2 gIx (hS 1) (hV (d2 gAdd (hS 2) (hV (dC (.int 1)))))) (lCons (dV 6) (lNil)))))) (sApp 3 (dTup (lCons (d2 gIx (hS 1) (hS 2)) (lCons (d2 gIx (hS 1) (hV (d2 gAdd (hS 2) (hV (dC (.int 1)))))) (lCons (dV 6) (lNil))))))
abbrev flB : SM := sIf (bD (d2 gIsNot (hS 6) (hV (dC .none)))) flI (sNo)
theorem fl_step {A x : D} {M : List D} {k a b : Int} {s4 s5 s7 : Sl} {E : DE} {acc : List Cue} (y1 : ∀ P : D → Prop, gIx (.list M) (.int k) P ↔ P (.int a)) (y2 : ∀ P : D → Prop, gIx (.list M) (.int (k + 1)) P ↔ P (.int b)) (tx : isN x = false → TX x) (ta : ∀ c ∈ acc, TX c.x) (l : acc.length < 1000000 - 1)
    (h : E.nx [.im A, .im (.list M), .im (.int k), .ow (.list ((addRun acc a b x).map Cue.d)), s4, s5, .im x, s7]) :
    flB E [.im A, .im (.list M), .im (.int k), .ow (.list (acc.map Cue.d)), s4, s5, .im x, s7] := by
  have oa := okD_cues ta
  have o0 : okD (.list []) := by
    show SeqAt.shaped _ = true
    decide
  by_cases z : isN x = true
  · have e1 : addRun acc a b x = acc := if_pos z
    rw [e1] at h
    refine ⟨trivial, ?_⟩
    show if (!isN x) = true then _ else _
    rw [if_neg (by rw [z]; decide)]
    exact h
  · have z' : isN x = false := by simpa using z
    have ox : okD x := (tx z').ok
    refine ⟨trivial, ?_⟩
    show if (!isN x) = true then _ else _
    rw [if_pos (by rw [z']; decide)]
    rcases List.eq_nil_or_concat acc with rfl | ⟨ini, c, rfl⟩
    · have ev : PyData.eqv (.list []) (.list []) = true := by decide
      have e1 : addRun [] a b x = [⟨a, b, x⟩] := by unfold addRun; rw [if_neg z]; rfl
      rw [e1] at h
      simp [raw, startE, arSl, sSeq, sIf, sRet, sRetN, sNo, sSet, sSetN, sExpr, sAsg, dCall, dCallO, aCons, aNil, aOra, dV, hS, hV, dC, d2, see, seeAll, dCB, DL.gCons, DL.gNil, dChain, bD, bAnd, bOr, bNot, dAnd, dOr, dNot, dNeg, dIf, dIsi, bTruth, truD, lCons, lNil, dTup, dLst, isD, gCmp, gAdd, DL.gSub, gIs, gIsNot, gLen, gN, gTupT, gConsT, gNoT, ownL, dSl, oI, oNo, gNe, o0, ev, sApp, y1, y2]
      exact h
    · rw [List.concat_eq_append] at ta l h oa ⊢
      have tc := ta c (by simp)
      have e0 : ((ini ++ [c]).map Cue.d) = ini.map Cue.d ++ [.tuple [.int c.f, .int c.t, c.x]] := by rw [List.map_append]; rfl
      have hl : (ini.map Cue.d).length < 1000000 - 2 := by simp at l ⊢; omega
      have hX : (c.t = a ∧ PyData.eqv c.x x = true → E.nx [.im A, .im (.list M), .im (.int k), .ow (.list ((ini ++ [Cue.mk c.f b x]).map Cue.d)), s4, s5, .im x, s7]) ∧ (¬ (c.t = a ∧ PyData.eqv c.x x = true) → E.nx [.im A, .im (.list M), .im (.int k), .ow (.list (((ini ++ [c]) ++ [Cue.mk a b x]).map Cue.d)), s4, s5, .im x, s7]) := by
        refine ⟨fun hc => ?_, fun hc => ?_⟩
        · rw [addRun_snoc z', if_pos hc] at h
          exact h
        · rw [addRun_snoc z', if_neg hc] at h
          exact h
      clear h
      have en : ∀ q : List D, ∀ d : D, PyData.eqv (.list (q ++ [d])) (.list []) = false := fun q d => by cases q <;> simp [PyData.eqv, PyData.eqvAll]
      rw [e0] at oa ⊢
      have oc := tc.ok
      have oi : ∀ j : Int, okD (.int j) := fun j => rfl
      have ei : PyData.eqv (.int c.t) (.int a) = (c.t == a) := by simp [PyData.eqv]
      simp only [List.map_append, List.map_cons, List.map_nil] at hX
      generalize ini.map Cue.d = q at hl hX oa ⊢
      have x1 : ∀ (d : D) (P : D → Prop), gIx (.list (q ++ [d])) (.int (-1)) P ↔ P d := fun d P => ⟨fun ⟨d', h', p⟩ => by rw [atI_last] at h'; cases h'; exact p, fun p => ⟨d, atI_last, p⟩⟩
      have x2 : ∀ P : D → Prop, gIx (.tuple [.int c.f, .int c.t, c.x]) (.int 0) P ↔ P (.int c.f) := fun P => gIx_iff.1
      have x3 : ∀ P : D → Prop, gIx (.tuple [.int c.f, .int c.t, c.x]) (.int 1) P ↔ P (.int c.t) := fun P => gIx_iff.2.1
      have x4 : ∀ P : D → Prop, gIx (.tuple [.int c.f, .int c.t, c.x]) (.int 2) P ↔ P c.x := fun P => gIx_iff.2.2
      have x5 : ∀ d d' : D, (q ++ [d]).set q.length d' = q ++ [d'] := fun d d' => by simp
      obtain ⟨hA, hB⟩ := hX
      by_cases h1 : c.t = a
      · have hb : (c.t == a) = true := by simp [h1]
        by_cases h2 : PyData.eqv c.x x = true
        · have h := hA ⟨h1, h2⟩
          clear h1
          simp [raw, startE, arSl, sSeq, sIf, sRet, sRetN, sNo, sSet, sSetN, sExpr, sAsg, dCall, dCallO, aCons, aNil, aOra, dV, hS, hV, dC, d2, see, seeAll, dCB, DL.gCons, DL.gNil, dChain, bD, bAnd, bOr, bNot, dAnd, dOr, dNot, dNeg, dIf, dIsi, bTruth, truD, lCons, lNil, dTup, dLst, isD, gCmp, gAdd, DL.gSub, gIs, gIsNot, gLen, gN, gTupT, gConsT, gNoT, ownL, dSl, oI, oNo, gNe, gEq, oa, o0, ox, oc, oi, en, ei, hb, h2, x1, x2, x3, x4, x5, y1, y2, sPut, ixN_last]
          exact h
        · have h := hB fun y => h2 y.2
          clear h1
          have h2' : PyData.eqv c.x x = false := by simpa using h2
          simp [raw, startE, arSl, sSeq, sIf, sRet, sRetN, sNo, sSet, sSetN, sExpr, sAsg, dCall, dCallO, aCons, aNil, aOra, dV, hS, hV, dC, d2, see, seeAll, dCB, DL.gCons, DL.gNil, dChain, bD, bAnd, bOr, bNot, dAnd, dOr, dNot, dNeg, dIf, dIsi, bTruth, truD, lCons, lNil, dTup, dLst, isD, gCmp, gAdd, DL.gSub, gIs, gIsNot, gLen, gN, gTupT, gConsT, gNoT, ownL, dSl, oI, oNo, gNe, gEq, oa, o0, ox, oc, oi, en, ei, hb, h2', x1, x2, x3, x4, y1, y2, sApp]
          refine ⟨by omega, ?_⟩
          simpa [Cue.d] using h
      · have h := hB fun y => h1 y.1
        have hb : (c.t == a) = false := by simp [h1]
        simp [raw, startE, arSl, sSeq, sIf, sRet, sRetN, sNo, sSet, sSetN, sExpr, sAsg, dCall, dCallO, aCons, aNil, aOra, dV, hS, hV, dC, d2, see, seeAll, dCB, DL.gCons, DL.gNil, dChain, bD, bAnd, bOr, bNot, dAnd, dOr, dNot, dNeg, dIf, dIsi, bTruth, truD, lCons, lNil, dTup, dLst, isD, gCmp, gAdd, DL.gSub, gIs, gIsNot, gLen, gN, gTupT, gConsT, gNoT, ownL, dSl, oI, oNo, gNe, gEq, oa, o0, ox, oc, oi, en, ei, hb, x1, x2, x3, x4, y1, y2, sApp]
        refine ⟨by omega, ?_⟩
        simpa [Cue.d] using h
def mk1 (ns : List Int) (c : Cue) : List Int := ns ++ [c.f, c.t].filter fun i => decide (i ∉ ns)
theorem mk1_mem {ns : List Int} {c : Cue} {j : Int} : j ∈ mk1 ns c ↔ j ∈ ns ∨ j = c.f ∨ j = c.t := by
  unfold mk1
  rw [List.mem_append, List.mem_filter]
  simp
  by_cases z : j ∈ ns <;> simp [z]
theorem mk1_nodup {ns : List Int} {c : Cue} (h : ns.Nodup) (ne : c.f ≠ c.t) : (mk1 ns c).Nodup := by
  unfold mk1
  refine List.nodup_append.mpr ⟨h, ?_, fun a ha b hb e => ?_⟩
  · exact List.Nodup.sublist List.filter_sublist (by simp [ne])
  · subst e
    have := of_decide_eq_true (List.mem_filter.mp hb).2
    exact this ha
theorem mk1_len (ns : List Int) (c : Cue) : (mk1 ns c).length ≤ ns.length + 2 := by
  unfold mk1
  rw [List.length_append]
  have := List.length_filter_le (fun i => decide (i ∉ ns)) [c.f, c.t]
  simp at this ⊢
  omega
def notP (ns : List Int) : D → Bool
  | .int i => decide (i ∉ ns)
  | _ => false
theorem any_in (ns : List Int) (i : Int) : ((ns.map PyData.int).any fun z => PyData.eqv z (.int i)) = decide (i ∈ ns) := by
  induction ns with
  | nil => rfl
  | cons n ns ih =>
    rw [List.map_cons, List.any_cons, ih, eqI]
    by_cases z : n = i
    · simp [z]
    · have : ¬ i = n := fun e => z e.symm
      simp [z, this]
theorem mark_loop {F : D} {s2 s3 : Sl} {E : DE} : ∀ (A : List Cue) (ns : List Int) (s4 s5 s6 : Sl), ns.length + 2 * A.length ≤ 1000 → (∀ s4 s5 s6, E.nx [.im F, .im (.list ((A.foldl mk1 ns).map PyData.int)), s2, s3, s4, s5, s6, .no]) →
    forL (gTupT 3 (gConsT (gN 4) (gConsT (gN 5) (gConsT (gN 6) (gNoT))))) (sSet 1 (d2 gAdd (hS 1) (hV (dLc (iSeq (dTup (lCons (dV 4) (lCons (dV 5) (lNil))))) (gN 7) (bD (d2 gNotIn (hS 7) (hS 1))) (dV 7) [7])))) E (A.map Cue.d) [.im F, .im (.list (ns.map PyData.int)), s2, s3, s4, s5, s6, .no]
  | [], ns, s4, s5, s6, _, h => h s4 s5 s6
  | c :: A, ns, s4, s5, s6, l, h => by
    rw [List.length_cons] at l
    have lm := mk1_len ns c
    refine ⟨rfl, rfl, trivial, (by show 2 ≤ 1000000; omega), (by show 2 ≤ 1000000; omega), ⟨by simp, fun j hj => by simp at hj; rcases hj with rfl; rfl⟩, ?_⟩
    refine lcL_filt (ρ := [.im F, .im (.list (ns.map PyData.int)), s2, s3, .im (.int c.f), .im (.int c.t), .im c.x, .no]) (notP ns) id [.int c.f, .int c.t] [] ?_ ?_
    · intro d hd Q R hQ hR
      have key : ∀ i : Int, d = .int i → gNotIn (.int i) (.list (ns.map PyData.int)) fun d => match d with
          | .bool b => if b = true then Q (.int i) [.im F, .im (.list (ns.map PyData.int)), s2, s3, .im (.int c.f), .im (.int c.t), .im c.x, .im (.int i)] else R [.im F, .im (.list (ns.map PyData.int)), s2, s3, .im (.int c.f), .im (.int c.t), .im c.x, .im (.int i)]
          | _ => False := fun i e => by
        subst e
        refine ⟨rfl, okD_ints _, ?_⟩
        rw [any_in]
        show if (!decide (i ∈ ns)) = true then _ else _
        by_cases z : i ∈ ns
        · rw [if_neg (by simp [z])]
          exact hR (decide_eq_false (fun w => w z)) _ rfl
        · rw [if_pos (by simp [z])]
          exact hQ (decide_eq_true z) _ rfl
      simp at hd
      rcases hd with rfl | rfl
      · exact ⟨trivial, trivial, key c.f rfl⟩
      · exact ⟨trivial, trivial, key c.t rfl⟩
    · have e : ([] : List D) ++ (([.int c.f, .int c.t] : List D).filter (notP ns)).map id = ([c.f, c.t].filter fun i => decide (i ∉ ns)).map PyData.int := by
        rw [List.nil_append, List.map_id]
        show (([c.f, c.t].map PyData.int).filter (notP ns)) = _
        rw [List.filter_map]
        rfl
      rw [e]
      have l2 : ([c.f, c.t].filter fun i => decide (i ∉ ns)).length ≤ 2 := List.length_filter_le ..
      refine ⟨by rw [List.length_map, List.length_map]; omega, ?_⟩
      rw [← List.map_append]
      exact mark_loop A (mk1 ns c) _ _ _ (by omega) h
theorem marks_bor {A : List Cue} (g : GF A) {B : List Int} (p : B.Perm (A.foldl mk1 [])) (s : B.Pairwise (· ≤ ·)) : Bor [A] B := by
  have key : ∀ (A : List Cue) (ns : List Int), GF A → ns.Nodup → (A.foldl mk1 ns).Nodup ∧ (∀ j, j ∈ A.foldl mk1 ns ↔ j ∈ ns ∨ ∃ c ∈ A, j = c.f ∨ j = c.t) ∧ (A.foldl mk1 ns).length ≤ ns.length + 2 * A.length := by
    intro A
    induction A with
    | nil => exact fun ns _ h => ⟨h, fun j => by simp, Nat.le_refl _⟩
    | cons c A ih =>
      intro ns g h
      obtain ⟨a, b, d⟩ := ih (mk1 ns c) (fun x hx => g x (List.mem_cons_of_mem _ hx)) (mk1_nodup h (by have := (g c List.mem_cons_self).ft; omega))
      have lm := mk1_len ns c
      refine ⟨a, fun j => ?_, ?_⟩
      · rw [List.foldl_cons, b j, mk1_mem]
        constructor
        · rintro ((w | w) | ⟨x, hx, w⟩)
          · exact .inl w
          · exact .inr ⟨c, List.mem_cons_self, w⟩
          · exact .inr ⟨x, List.mem_cons_of_mem _ hx, w⟩
        · rintro (w | ⟨x, hx, w⟩)
          · exact .inl (.inl w)
          · rcases List.mem_cons.mp hx with rfl | hx
            · exact .inl (.inr w)
            · exact .inr ⟨x, hx, w⟩
      · rw [List.foldl_cons, List.length_cons]
        omega
  obtain ⟨a, b, d⟩ := key A [] g List.nodup_nil
  refine ⟨?_, fun j => ?_, ?_⟩
  · have nd := p.nodup_iff.mpr a
    have both := List.Pairwise.and s nd
    exact both.imp fun w => by
      have := w.1
      have := w.2
      omega
  · rw [p.mem_iff, b]
    simp
  · rw [p.length_eq]
    simpa using d
theorem fl_loop {A : List Cue} {B : List Int} {E : DE} (lb : B.length ≤ 1000) (tx : ∀ s, isN (textAt A s) = false → TX (textAt A s)) : ∀ (n k : Nat) (acc : List Cue) (s2 s4 s5 s6 : Sl), k + n + 1 = B.length → (∀ c ∈ acc, TX c.x) → acc.length ≤ k →
    (∀ s2 s4 s5 s6, E.nx [.im (fileD A), .im (.list (B.map PyData.int)), s2, .ow (.list ((runs (textAt A) ((B.zip B.tail).drop k) acc).map Cue.d)), s4, s5, s6, .no]) →
    forL (gN 2) (sSeq (sSet 6 (dCall 2 r__law_seen (aCons (dV 0) (aCons (d2 gIx (hS 1) (hS 2)) (aNil))))) flB) E ((List.range' k n).map fun k : Nat => .int (k : Int)) [.im (fileD A), .im (.list (B.map PyData.int)), s2, .ow (.list (acc.map Cue.d)), s4, s5, s6, .no]
  | 0, k, acc, s2, s4, s5, s6, hk, ta, la, h => by
    have e : (B.zip B.tail).drop k = [] := List.drop_eq_nil_of_le (by rw [List.length_zip, List.length_tail]; omega)
    have q := h s2 s4 s5 s6
    rw [e] at q
    exact q
  | n + 1, k, acc, s2, s4, s5, s6, hk, ta, la, h => by
    rw [List.range'_succ, List.map_cons]
    have k1 : k < B.length := by omega
    have k2 : k + 1 < B.length := by omega
    have a1 : atI (B.map PyData.int) ((k : Nat) : Int) = some (.int B[k]) := atI_nat (by rw [List.getElem?_map, List.getElem?_eq_getElem k1]; rfl)
    have a2 : atI (B.map PyData.int) (((k : Nat) : Int) + 1) = some (.int B[k + 1]) := by
      rw [show ((k : Nat) : Int) + 1 = ((k + 1 : Nat) : Int) by omega]
      exact atI_nat (by rw [List.getElem?_map, List.getElem?_eq_getElem k2]; rfl)
    have ed : (B.zip B.tail).drop k = (B[k], B[k + 1]) :: (B.zip B.tail).drop (k + 1) := by
      rw [List.drop_eq_getElem_cons (by rw [List.length_zip, List.length_tail]; omega)]
      congr 1
      rw [List.getElem_zip, List.getElem_tail]
    rw [ed] at h
    have tx0 := tx B[k]
    refine ⟨trivial, trivial, .int B[k], a1, rfl, rfl, d_seen ?_⟩
    have hl := addRun_len acc B[k] B[k + 1] (textAt A B[k])
    refine fl_step (a := B[k]) (b := B[k + 1]) (fun P => ⟨fun ⟨d, e, p⟩ => by rw [a1] at e; cases e; exact p, fun p => ⟨_, a1, p⟩⟩) (fun P => ⟨fun ⟨d, e, p⟩ => by rw [a2] at e; cases e; exact p, fun p => ⟨_, a2, p⟩⟩) tx0 ta (by omega) ?_
    exact fl_loop lb tx n (k + 1) _ _ _ _ _ (by omega) (addRun_all ta tx0) (by omega) h
theorem d_flatted {A : List Cue} (g : GF A) (l : A.length ≤ 100) {m : Nat} {P : D → Nat → Prop} (h : P (fileD (fl A)) 0) : r__law_flatted [.d (fileD A)] m P := by
  refine ⟨(by show 0 ≤ 1000000; omega), (by show 0 ≤ 1000000; omega), ?_⟩
  refine mark_loop A [] _ _ _ (by simpa using by omega) fun s4 s5 s6 => ?_
  refine ⟨trivial, _, ofInts_map _, fun B hp hs => ?_⟩
  have hB := marks_bor g hp hs
  have lB := hB.len
  simp at lB
  have tx : ∀ s, isN (textAt A s) = false → TX (textAt A s) := fun s z => by
    obtain ⟨c, hc, e⟩ := text_some z
    rw [e]
    exact (g c hc).x.tx
  have e : runs (textAt A) (B.zip B.tail) [] = fl A := by
    have := runs_canon hB (g_rf (gf1 g)) (fun cs hcs c hc => ⟨(gf1 g cs hcs c hc).f0, (gf1 g cs hcs c hc).ft⟩) (N := 90) fun cs hcs c hc => (gf1 g cs hcs c hc).t1
    rw [seen1] at this
    unfold fl
    rw [seen1]
    exact this
  refine ⟨trivial, ⟨by rw [List.length_map]; omega, by rw [List.length_map]; omega⟩, ?_⟩
  cases hb : B.length with
  | zero =>
    have en : B = [] := List.length_eq_zero_iff.mp hb
    subst en
    have e2 : fl A = [] := by rw [← e]; rfl
    rw [e2] at h
    exact ⟨trivial, hd_d, h⟩
  | succ n =>
    have er : rgD 0 ((((B.map PyData.int).length : Nat) : Int) - 1) = (List.range' 0 n).map fun k : Nat => .int (k : Int) := by
      rw [List.length_map, hb, show ((n + 1 : Nat) : Int) - 1 = ((n : Nat) : Int) by omega]
      exact rg_two 0 n
    rw [er]
    refine fl_loop (by omega) tx n 0 [] _ _ _ _ (by omega) (fun _ z => nomatch z) (Nat.zero_le _) fun s2 s4 s5 s6 => ?_
    rw [List.drop_zero, e]
    exact ⟨trivial, hd_d, h⟩
end Q78
namespace Q78
open PySem L2 DL
theorem nf_loop {T : SM} {F : Sl} {E : DE} (h : ∀ s1 s2, E.nx [F, s1, s2]) : ∀ (ds : List D) (s1 s2 : Sl), (∀ d ∈ ds, ∃ (i : Int) (c : Cue), d = .tuple [.int i, c.d] ∧ OkCue c) →
    forL (gTupT 2 (gConsT (gN 1) (gConsT (gN 2) (gNoT)))) (sIf (bNot (bTruth (hV (dCall 1 r_is_cue (aCons (dV 2) (aNil)))))) T (sNo)) E ds [F, s1, s2]
  | [], s1, s2, _ => h _ _
  | d :: ds, s1, s2, hd => by
    obtain ⟨i, c, rfl, oc⟩ := hd _ (List.mem_cons_self ..)
    refine ⟨rfl, ?_⟩
    refine ⟨rfl, ?_⟩
    refine ⟨rfl, rfl, d_is_cue oc ?_⟩
    exact nf_loop h ds _ _ fun d' h' => hd d' (List.mem_cons_of_mem _ h')
theorem dx_need_file {cs : List Cue} {m : Nat} {P : D → Nat → Prop} {PX : Exn → Nat → Prop} (l : cs.length ≤ 60) (o : ∀ c ∈ cs, OkCue c) (h : P (fileD cs) 0) : rx_need_file [.d (fileD cs)] m P PX := by
  refine ⟨rfl, rfl, d_is_tuple ?_⟩
  have a1 : ((cs.map Cue.d).length : Int) ≤ 60 := by rw [List.length_map]; omega
  have a0 : (0 : Int) ≤ ((cs.map Cue.d).length : Int) := by omega
  rw [decide_eq_true a0, decide_eq_true a1]
  show forL _ _ _ (enD (cs.map Cue.d)) [.im (fileD cs), .no, .no]
  refine nf_loop (fun s1 s2 => ?_) _ _ _ fun d hd => ?_
  · exact ⟨hd_d, h⟩
  · obtain ⟨i, hi⟩ := List.getElem?_of_mem hd
    obtain ⟨e, h1, h2⟩ := enD_get hi
    rw [List.getElem?_map] at h1
    cases z : cs[i]? with
    | none => rw [z] at h1; cases h1
    | some c =>
      rw [z] at h1
      cases h1
      exact ⟨_, c, h2, o c (List.mem_of_getElem? z)⟩
/-- what comes of a paper whose file is good -/
theorem dx_check {A F : List Cue} {B : D} (gA : GF A) (gF : GF F) (lA : A.length ≤ 20) (lF : F.length ≤ 40) (l31 : F.length + A.length ≤ 31) (tx : ∀ fr, textAt F fr = textAt A fr) (b : Bool) (hb : ∀ (m : Nat) (P : D → Nat → Prop), P (.bool b) 0 → r__are_bounds [.d (fileD (fl A)), .d B] m P)
    (hg : b = true → ∃ G : Int, G ≠ (F.length : Int) ∧ ∀ (m : Nat) (P : D → Nat → Prop), P (.int G) 0 → r__greatest [.d B] m P) {m : Nat} {P : D → Nat → Prop} {PX : Exn → Nat → Prop} (h : PX ⟨"BadPaper", some ("part", .str ("bounds" : Str))⟩ 0) : rx_check_strokes [.d (fileD A), .d (.tuple [fileD F, B])] m P PX := by
  refine ⟨rfl, rfl, dx_need_file (by omega) (fun c hc => (gA c hc).ok) ?_⟩
  refine ⟨rfl, rfl, d_is_tuple ?_⟩
  refine ⟨rfl, rfl, ?_⟩
  refine ⟨rfl, rfl, d_is_file gF (by omega) ?_⟩
  refine ⟨rfl, rfl, d_apart gF gA (by omega) fun d hd => ?_⟩
  rw [fst_same gA tx hd]
  refine ⟨rfl, rfl, d_flat gA (by omega) ?_⟩
  refine ⟨rfl, rfl, hb _ _ ?_⟩
  cases b with
  | false => exact ⟨hd_d, h⟩
  | true =>
    obtain ⟨G, ne, hG⟩ := hg rfl
    refine ⟨rfl, rfl, hG _ _ ?_⟩
    refine ⟨trivial, rfl, rfl, ?_⟩
    show if (!PyData.eqv (.int G) (.int (((F.map Cue.d).length : Nat) : Int))) = true then _ else _
    rw [eqI, List.length_map, decide_eq_false ne]
    exact ⟨hd_d, h⟩
theorem d_refused {A : List Cue} {X : D} (hx : ∀ (m : Nat) (P : D → Nat → Prop) (PX : Exn → Nat → Prop), PX ⟨"BadPaper", some ("part", .str ("bounds" : Str))⟩ 0 → rx_check_strokes [.d (fileD A), .d X] m P PX) {m : Nat} {P : D → Nat → Prop} (h : P (.str ("bounds" : Str)) 0) : r__law_refused [.d (fileD A), .d X] m P := by
  refine ⟨(by show 2 ≤ 1000000; omega), rfl, rfl, ?_⟩
  refine ⟨rfl, rfl, hx _ _ _ ?_⟩
  refine ⟨rfl, (by show 2 < 5; omega), _, rfl, ?_⟩
  refine ⟨trivial, ?_⟩
  exact ⟨hd_d, h⟩
def vM (cs : List Cue) (n k x : Nat) : Int := if k + 1 = n then 2 else val (prt cs) k x
abbrev moreR (cs : List Cue) : List (List Int) := bbRows cs.length (vM cs cs.length) 0 cs.length
theorem bb_last {n : Nat} {v : Nat → Nat → Int} : bbRows (n + 1) v 0 (n + 1) = ((List.range n).map fun k => (List.range (n + 1 - k)).map fun j => v k (k + j)) ++ [[v n n]] := by
  refine List.ext_getElem? fun i => ?_
  by_cases z : i < n
  · rw [bb_row (by omega), List.getElem?_append_left (by simpa using z), List.getElem?_map, List.getElem?_range z]
    rfl
  · by_cases y : i = n
    · subst y
      rw [bb_row (by omega), List.getElem?_append_right (by simp)]
      simp
    · rw [List.getElem?_eq_none (by rw [bb_len]; omega), List.getElem?_eq_none (by simp; omega)]
theorem more_tab {cs : List Cue} {n : Nat} (h : cs.length = n + 1) : TabD (tabT (moreR cs)) n (val (prt cs)) := ⟨fun k x h1 h2 => by
  obtain ⟨r, a, b⟩ := (tab_tuple cs.length (vM cs cs.length)).cell k x h1 (by omega)
  have e : vM cs cs.length k x = val (prt cs) k x := if_neg (by omega)
  rw [e] at b
  exact ⟨r, a, b⟩⟩
theorem row_loop2 {cs : List Cue} {B PD : D} {n low : Nat} (tb : TabD B n (val (prt cs))) (lc : cs.length = n + 1) (l1 : n ≤ 1000) (hPD : PD = psD cs) {E : DE} : ∀ (k : Nat) (js : List Nat) (s3 s4 : Sl), (∀ i j, js[i]? = some j → j = k + i ∧ low + j ≤ n) →
    (∀ s3 s4, E.nx [.im B, .im PD, .im (.int (low : Nat)), s3, s4]) →
    forL (gTupT 2 (gConsT (gN 3) (gConsT (gN 4) (gNoT)))) (sIf (bD (d2 gGt (hS 4) (hV (dCall 4 r__most_of (aCons (dV 0) (aCons (d2 gIx (hS 1) (hV (d2 gAdd (hS 2) (hS 3)))) (aCons (dV 2) (aCons (d2 gAdd (hS 2) (hS 3)) (aNil))))))))) (sRet (dC (.bool false))) (sNo)) E (js.map fun j : Nat => .tuple [.int (j : Int), .int (val (prt cs) low (low + j))]) [.im B, .im PD, .im (.int (low : Nat)), s3, s4]
  | k, [], s3, s4, _, h => h _ _
  | k, j :: js, s3, s4, hj, h => by
    obtain ⟨e, hl⟩ := hj 0 j rfl
    subst hPD
    have e2 : ((low : Nat) : Int) + ((j : Nat) : Int) = ((low + j : Nat) : Int) := by omega
    refine ⟨rfl, rfl, trivial, trivial, trivial, trivial, natD (prt cs (low + j)), ?_, trivial, trivial, rfl, rfl, ?_⟩
    · rw [e2]
      exact atI_nat (ps_get (by omega))
    rw [e2]
    refine d_mostT tb hl (by omega) (by omega) ?_
    show if decide (val (prt cs) low (low + j) < val (prt cs) low (low + j)) = true then _ else _
    rw [if_neg (by simp)]
    exact row_loop2 tb lc l1 rfl (k + 1) js _ _ (fun i x hx => by
      have := hj (i + 1) x hx
      omega) h
theorem d_row_more {cs : List Cue} (c : FlC cs) {low n : Nat} (hn : cs.length = n + 1) (hl : low < cs.length) {m : Nat} {P : D → Nat → Prop} (h : P (.bool (decide (low ≠ n))) 0) : r__is_row [.d (tabT (moreR cs)), .d (psD cs), .d (.int (low : Nat))] m P := by
  have l := c.l
  refine ⟨trivial, trivial, .tuple (((List.range (cs.length - low)).map fun j => vM cs cs.length low (low + j)).map PyData.int), atI_nat (by rw [List.getElem?_map, bb_row hl]; rfl), ?_⟩
  show forL _ _ _ (enD (((List.range (cs.length - low)).map fun j => vM cs cs.length low (low + j)).map PyData.int)) _
  by_cases z : low = n
  · rw [decide_eq_false (fun w => w z)] at h
    subst z
    have e : ((List.range (cs.length - low)).map fun j => vM cs cs.length low (low + j)) = [2] := by
      rw [show cs.length - low = 1 by omega]
      show [vM cs cs.length low (low + 0)] = [2]
      unfold vM
      rw [if_pos hn.symm]
    rw [e]
    refine ⟨rfl, rfl, trivial, trivial, trivial, trivial, natD (prt cs low), ?_, trivial, trivial, rfl, rfl, ?_⟩
    · show atI _ (((low : Nat) : Int) + 0) = _
      rw [Int.add_zero]
      exact atI_nat (ps_get (by omega))
    show r__most_of [.d (tabT (moreR cs)), .d (natD (prt cs low)), .d (.int (low : Nat)), .d (.int (((low : Nat) : Int) + 0))] _ _
    rw [Int.add_zero]
    refine d_mostT (more_tab hn) (Nat.le_refl _) (Nat.le_refl _) (by omega) ?_
    rw [val_one]
    exact ⟨hd_d, h⟩
  · rw [decide_eq_true z] at h
    have e : ((List.range (cs.length - low)).map fun j => vM cs cs.length low (low + j)) = (List.range (cs.length - low)).map fun j => val (prt cs) low (low + j) := by
      refine List.map_congr_left fun j _ => ?_
      exact if_neg (by omega)
    rw [e, en_range]
    refine row_loop2 (cs := cs) (more_tab hn) hn (by omega) rfl 0 (List.range (cs.length - low)) _ _ (fun i j e => ?_) fun s3 s4 => ?_
    · obtain ⟨h1, h2⟩ := List.getElem?_eq_some_iff.mp e
      rw [List.getElem_range] at h2
      rw [List.length_range] at h1
      omega
    · exact ⟨hd_d, h⟩
theorem of_bools {α : Type} (f : α → Bool) (l : List α) : ofBools (l.map fun x => PyData.bool (f x)) = some (l.map f) := by
  induction l with
  | nil => rfl
  | cons a l ih =>
    show (ofBools (l.map fun x => PyData.bool (f x))).map (f a :: ·) = _
    rw [ih]
    rfl
def neD (n : Nat) : D → D
  | .int i => .bool (decide (i.toNat ≠ n))
  | d => d
theorem d_bounds_more {cs : List Cue} (c : FlC cs) {n : Nat} (hn : cs.length = n + 1) {m : Nat} {P : D → Nat → Prop} (h : P (.bool false) 0) : r__are_bounds [.d (fileD cs), .d (tabT (moreR cs))] m P := by
  have l := c.l
  have lt : ((moreR cs).map fun r => PyData.tuple (r.map PyData.int)).length = cs.length := by rw [List.length_map, bb_len]
  refine ⟨trivial, trivial, rfl, rfl, d_is_tuple ?_⟩
  rw [lt, List.length_map, decide_eq_true (Int.le_refl _)]
  have e0 : enD ((moreR cs).map fun r => PyData.tuple (r.map PyData.int)) = ((moreR cs).map fun r => PyData.tuple (r.map PyData.int)).mapIdx fun i d => .tuple [.int (((0 + i : Nat)) : Int), d] := by
    unfold enD
    simp only [Nat.zero_add]
  show forL _ _ _ (enD ((moreR cs).map fun r => PyData.tuple (r.map PyData.int))) _
  rw [e0]
  refine ab_loop (by omega) (moreR cs) 0 _ _ _ (fun i r e => ?_) rfl fun s3 s4 s5 p3 => ?_
  · have hi : i < cs.length := by
      have := (List.getElem?_eq_some_iff.mp e).1
      rw [bb_len] at this
      exact this
    rw [bb_row hi] at e
    cases e
    (rw [List.length_map, List.length_range])
    omega
  · refine ⟨rfl, rfl, d_partners c.tx ?_⟩
    refine ⟨trivial, ⟨by rw [List.length_map]; omega, by rw [List.length_map]; omega⟩, ?_⟩
    have er : rgD 0 (((cs.map Cue.d).length : Nat) : Int) = (List.range cs.length).map fun h : Nat => .int (h : Int) := by
      rw [List.length_map]
      exact rg_nat _
    rw [er]
    refine ⟨by rw [List.length_map, List.length_range]; omega, ⟨by simp, fun j hj => by simp at hj; subst hj; exact p3⟩, ?_⟩
    refine lcL_map (ρ := [.im (fileD cs), .im (tabT (moreR cs)), .im (psD cs), .no, s4, s5, .no]) (neD n) _ [] ?_ ?_
    · intro d hd Q hQ
      obtain ⟨x, hx, rfl⟩ := List.mem_map.mp hd
      refine ⟨rfl, rfl, d_row_more c hn (List.mem_range.mp hx) ?_⟩
      exact hQ _ rfl
    · have e1 : ([] : List D) ++ ((List.range cs.length).map fun h : Nat => (PyData.int (h : Int))).map (neD n) = (List.range cs.length).map fun x => PyData.bool (decide (x ≠ n)) := by
        rw [List.nil_append, List.map_map]
        rfl
      rw [e1]
      refine ⟨_, of_bools _ _, ?_⟩
      have e2 : ((List.range cs.length).map fun x => decide (x ≠ n)).all id = false := by
        rw [List.all_eq_false]
        exact ⟨decide (n ≠ n), List.mem_map.mpr ⟨n, List.mem_range.mpr (by omega), rfl⟩, by simp⟩
      rw [e2]
      exact ⟨hd_d, h⟩
end Q78
namespace Q78
open PySem L2 DL
def wr13 : SM := sRet (dOr (d2 gEq (hS 6) (hV (dCB gLen (DL.gCons (hS 1) (DL.gNil))))) (d2 gInU (hV (dCall 2 r__law_refused (aCons (dV 0) (aCons (dTup (lCons (dV 1) (lCons (dV 3) (lNil)))) (aNil))))) (hV (dTup (lCons (dC (.str ("file" : Str))) (lCons (dC (.str ("bounds" : Str))) (lNil)))))))
def wr12 : SM := sSeq (sIf (bD (d2 gNe (hV (dCall 2 r__law_refused (aCons (dV 0) (aCons (dTup (lCons (dV 7) (lCons (dV 5) (lNil)))) (aNil))))) (hV (dC (.str ("bounds" : Str)))))) (sRet (dC (.bool false))) (sNo)) wr13
def wr11 : SM := sSeq (sSet 5 (d2 gAdd (hV (dSl (hS 3) (oNo) (oI (dNeg (dC (.int 1)))))) (hV (dTup (lCons (dTup (lCons (d2 gAdd (hV (d2 gIx (hV (d2 gIx (hS 3) (hV (dNeg (dC (.int 1)))))) (hV (dC (.int 0))))) (hV (dC (.int 1)))) (lNil))) (lNil)))))) wr12
def wr10 : SM := sSeq (sIf (bD (d2 gEq (hS 1) (hV (dTup (lNil))))) (sRet (d2 gEq (hV (dCall 2 r__law_refused (aCons (dV 0) (aCons (dTup (lCons (dTup (lNil)) (lCons (dTup (lCons (dTup (lCons (dC (.int 1)) (lNil))) (lNil))) (lNil)))) (aNil))))) (hV (dC (.str ("bounds" : Str)))))) (sNo)) wr11
def wr9 : SM := sSeq (sIf (bOr (bD (d2 gNe (hV (dCall 2 r_check_strokes (aCons (dV 0) (aCons (dV 4) (aNil))))) (hS 6))) (bD (d2 gNe (hV (dCall 2 r_check_strokes (aCons (dV 0) (aCons (dTup (lCons (dV 7) (lCons (dV 3) (lNil)))) (aNil))))) (hS 6)))) (sRet (dC (.bool false))) (sNo)) wr10
def wr8 : SM := sSeq (sSet 4 (dCall 1 r_strokes_paper (aCons (dV 0) (aNil)))) wr9
def wr7 : SM := sSeq (sSet 3 (dCB gTuple (DL.gCons (hV (dLc (iRange1 (lCons (dCB gLen (DL.gCons (hS 1) (DL.gNil))) (lNil))) (gN 8) (bYes) (dCB gTuple (DL.gCons (hV (dLc (iRange2 (lCons (dV 8) (lCons (dCB gLen (DL.gCons (hS 1) (DL.gNil))) (lNil)))) (gN 9) (bYes) (dGetT 2 (lCons (dV 8) (lCons (dV 9) (lNil)))) [9])) (DL.gNil))) [8])) (DL.gNil)))) wr8
def wr6 : SM := sSeq (sIf (bOr (bD (d2 gNe (hV (dCall 1 r__law_flatted (aCons (dV 7) (aNil)))) (hS 1))) (bOr (bD (d2 gNotB (hV (dCall 2 r_alike (aCons (dV 7) (aCons (dV 0) (aNil))))) (hV (dC (.bool true))))) (bD (d2 gNe (hV (dCall 1 r_fewest_file (aCons (dV 0) (aNil)))) (hS 7))))) (sRet (dC (.bool false))) (sNo)) wr7
def wr5 : SM := sSeq (sIf (bOr (bD (d2 gGt (hS 6) (hV (dCB gLen (DL.gCons (hS 0) (DL.gNil)))))) (bOr (bD (d2 gLt (hS 6) (hV (dCall 1 r__law_borders (aCons (dV 1) (aNil)))))) (bD (d2 gNe (hV (dCB gLen (DL.gCons (hS 7) (DL.gNil)))) (hS 6))))) (sRet (dC (.bool false))) (sNo)) wr6
def wr4 : SM := sSeq (sIf (bOr (bD (d2 gNeS (hV (dCB gReprA (DL.gCons (hV (dCall 1 r_flat (aCons (dV 0) (aNil)))) (DL.gNil)))) (hV (dCB gReprA (DL.gCons (hS 1) (DL.gNil)))))) (bOr (bD (d2 gNe (hV (dCall 1 r_fewest (aCons (dV 0) (aNil)))) (hS 6))) (bD (d2 gNe (hV (dCall 1 r_fewest (aCons (dV 0) (aNil)))) (hS 6))))) (sRet (dC (.bool false))) (sNo)) wr5
def wr3 : SM := sSeq (sPar 6 7 (lCons (dGetOrT 2 (lCons (dC (.int 0)) (lCons (d2 DL.gSub (hV (dCB gLen (DL.gCons (hS 1) (DL.gNil)))) (hV (dC (.int 1)))) (lNil))) (dC (.int 0))) (lCons (dCall 1 r_fewest_file (aCons (dV 0) (aNil))) (lNil)))) wr4
def wr2 : SM := sSeq (sSet 2 (dCall 1 r__law_least (aCons (dV 1) (aNil)))) wr3
def wr1 : SM := sSeq (sSet 1 (dCall 1 r__law_flatted (aCons (dV 0) (aNil)))) wr2
theorem set_row {i : Nat} {f : DM} {R : SM} {E : DE} {ρ : DL.Env} (h : f ρ fun d ρ1 => R E (ρ1.set i (.im d))) : sSeq (sSet i f) R E ρ := h
theorem nes_same {z : Str} {p : Prop} {Q : Prop} (h : Q) : gNeS (.str z) (.str z) fun d => (match d with | .bool b => (if b = true then p else Q) | _ => False) := by
  show if (!decide (z = z)) = true then p else Q
  rw [decide_eq_true rfl]
  exact h
theorem sh_okT {k n : Nat} {xs : List D} (h : Sh k n (.tuple xs)) (hk : k ≤ 60) (hn : n ≤ 66000) : DL.okR (.tuple xs) := by
  refine ⟨h.nd, h.sh, Nat.le_trans h.dp hk, ?_⟩
  have := PyData.shown_le_bulk 13 (by omega) _ h.lv
  have := h.bk
  omega
theorem okD_file {acc : List Cue} (h : ∀ c ∈ acc, TX c.x) : okD (fileD acc) := by
  have h := okD_cues h
  unfold okD SeqAt.shaped at h ⊢
  simpa [PyData.canLay0, PyData.depth, fileD] using h
theorem self_file {cs : List Cue} (h : ∀ c ∈ cs, OT c.x) : okD (fileD cs) ∧ PyData.eqv (fileD cs) (fileD cs) = true := by
  refine ⟨okD_file fun c hc => (h c hc).tx, eqv_refl _ ?_⟩
  have all : ∀ l : List Cue, (∀ c ∈ l, OT c.x) → nodAll (l.map Cue.d) = true := by
    intro l
    induction l with
    | nil => exact fun _ => rfl
    | cons c l ih =>
      intro h
      refine Bool.and_eq_true_iff.mpr ⟨?_, ih fun d hd => h d (List.mem_cons_of_mem _ hd)⟩
      have := (h c List.mem_cons_self).nod
      show (true && (true && (nod c.x && true))) = true
      rw [this]
      rfl
  exact all cs h
/-- a file of the law -/
structure Fi (A : List Cue) : Prop where
  g : GF A
  l : A.length ≤ 10
section
variable {A : List Cue} (f : Fi A)
include f
theorem Fi.l20 : A.length ≤ 20 := by have := f.l; omega
theorem Fi.l31 : (fl A).length + A.length ≤ 31 := by
  have := f.l
  have := fl_len f.g
  omega
theorem Fi.c : FlC (fl A) := fl_flc f.g f.l20
theorem Fi.tl : (told (fl A)).length ≤ (fl A).length := told_len f.c
theorem Fi.tg : GF (told (fl A)) := told_good f.c
theorem Fi.flat_told : fl (told (fl A)) = fl A := by
  have e : seenL [told (fl A)] = seenL [A] := by
    funext fr
    rw [seen1, seen1]
    exact told_same f.g f.l20 fr
  unfold fl
  have e : seenL [told (canon (seenL [A]) 90)] = seenL [A] := e
  rw [e]
theorem Fi.cnt : ((told (fl A)).length : Int) = few (fl A) := (told_str f.c).2
end
theorem okB : okD (.str ("bounds" : Str)) := by
  show SeqAt.shaped _ = true
  decide +kernel
theorem eqB : PyData.eqv (.str ("bounds" : Str)) (.str ("bounds" : Str)) = true := by decide +kernel
theorem anyB : (([("file" : Str), ("bounds" : Str)]).any fun z => z == ("bounds" : Str)) = true := by decide +kernel
theorem bb_is (n : Nat) (v : Nat → Nat → Int) : bbRows n v 0 n = (List.range n).map fun k => (List.range (n - k)).map fun j => v k (k + j) := by
  refine List.ext_getElem? fun i => ?_
  by_cases z : i < n
  · rw [bb_row z, List.getElem?_map, List.getElem?_range z]
    rfl
  · rw [List.getElem?_eq_none (by rw [bb_len]; omega), List.getElem?_eq_none (by simp; omega)]
theorem cut_last (X : List D) (a : D) : cutD (X ++ [a]) none (some (-1)) = X := by
  unfold cutD
  have e1 : HT.sIx (X ++ [a]).length (X ++ [a]).length (some (-1)) = X.length := by
    unfold HT.sIx
    simp
    omega
  have e2 : HT.sIx (X ++ [a]).length 0 none = 0 := rfl
  rw [e1, e2]
  simp
abbrev wE (A : List Cue) (Y : TD) (s3 s4 s5 s8 s9 : Sl) : DL.Env := [.im (fileD A), .im (fileD (fl A)), .im (tdD Y), s3, s4, s5, .im (.int (few (fl A))), .im (fileD (told (fl A))), s8, s9]
theorem eqv_nilT (cs : List Cue) : PyData.eqv (fileD cs) (.tuple []) = decide (cs = []) := by
  cases cs <;> simp [fileD, PyData.eqv, PyData.eqvAll]
section
variable {A : List Cue} (f : Fi A) {Y : TD} {s3 s4 s5 s8 s9 : Sl} {E : DE} (hE : ∀ ρ : DL.Env, ρ[0]? = some (.im (fileD A)) → E.rt (.bool true) ρ)
include f hE
theorem w_13 : wr13 E (wE A Y (.im (tabT (tbl (fl A)))) s4 s5 s8 s9) := by
  have c := f.c
  have l20 := f.l20
  have l31 := f.l31
  unfold wr13
  refine ⟨trivial, trivial, rfl, rfl, ?_⟩
  rw [eqI, List.length_map]
  by_cases e : few (fl A) = ((fl A).length : Int)
  · rw [decide_eq_true e]
    exact hE _ rfl
  · rw [decide_eq_false e]
    refine ⟨(by show 2 ≤ 1000000; omega), rfl, rfl, d_refused (fun m P PX h => dx_check (F := fl A) f.g (fl_good f.g) l20 c.l l31 (fl_text f.g) true (fun m P h => d_are_bounds c h) (fun _ => ⟨few (fl A), e, fun m P h => d_greatestT h⟩) h) ?_⟩
    refine ⟨(by show 2 ≤ 1000000; omega), _, rfl, ?_⟩
    rw [anyB]
    exact hE _ rfl
theorem w_12 {n : Nat} (hn : (fl A).length = n + 1) : wr12 E (wE A Y (.im (tabT (tbl (fl A)))) s4 (.im (tabT (moreR (fl A)))) s8 s9) := by
  have c := f.c
  have l20 := f.l20
  have l31 := f.l31
  have tl := f.tl
  have lc := c.l
  unfold wr12
  refine ⟨(by show 2 ≤ 1000000; omega), rfl, rfl, d_refused (fun m P PX h => dx_check (F := told (fl A)) f.g f.tg l20 (by omega) (by omega) (told_same f.g l20) false (fun m P h => d_bounds_more c hn h) (fun w => nomatch w) h) ?_⟩
  refine ⟨okB, okB, ?_⟩
  show if (!PyData.eqv (.str ("bounds" : Str)) (.str ("bounds" : Str))) = true then _ else _
  rw [eqB]
  exact w_13 f hE
theorem w_11 {n : Nat} (hn : (fl A).length = n + 1) : wr11 E (wE A Y (.im (tabT (tbl (fl A)))) s4 s5 s8 s9) := by
  have c := f.c
  have lc := c.l
  have e1 : tabT (tbl (fl A)) = .tuple ((((List.range n).map fun k => (List.range (n + 1 - k)).map fun j => val (prt (fl A)) k (k + j)).map fun r => PyData.tuple (r.map PyData.int)) ++ [.tuple [.int 1]]) := by
    show PyData.tuple ((bbRows (fl A).length _ 0 (fl A).length).map _) = _
    rw [hn, bb_last, List.map_append, val_one]
    rfl
  have e2 : tabT (moreR (fl A)) = .tuple ((((List.range n).map fun k => (List.range (n + 1 - k)).map fun j => val (prt (fl A)) k (k + j)).map fun r => PyData.tuple (r.map PyData.int)) ++ [.tuple [.int 2]]) := by
    show PyData.tuple ((bbRows (fl A).length (vM (fl A) (fl A).length) 0 (fl A).length).map _) = _
    rw [hn, bb_last, List.map_append]
    have : vM (fl A) (n + 1) n n = 2 := if_pos rfl
    rw [this]
    congr 2
    refine congrArg _ (List.map_congr_left fun k hk => ?_)
    have := List.mem_range.mp hk
    refine List.map_congr_left fun j _ => ?_
    exact if_neg (by omega)
  have k := w_12 (Y := Y) (s4 := s4) (s8 := s8) (s9 := s9) f hE hn
  have lx : (((List.range n).map fun k => (List.range (n + 1 - k)).map fun j => val (prt (fl A)) k (k + j)).map fun r => PyData.tuple (r.map PyData.int)).length = n := by simp
  unfold wr11
  rw [e2] at k
  rw [e1] at k ⊢
  generalize (((List.range n).map fun k => (List.range (n + 1 - k)).map fun j => val (prt (fl A)) k (k + j)).map fun r => PyData.tuple (r.map PyData.int)) = X at k lx ⊢
  refine ⟨trivial, trivial, .tuple [.int 1], atI_last, .int 1, rfl, (by show 1 ≤ 1000000; omega), (by show 1 ≤ 1000000; omega), ?_⟩
  rw [cut_last]
  refine ⟨by simp; omega, ?_⟩
  exact k
theorem w_10 : wr10 E (wE A Y (.im (tabT (tbl (fl A)))) s4 s5 s8 s9) := by
  have c := f.c
  have l20 := f.l20
  have l31 := f.l31
  have o := self_file (cs := fl A) fun c hc => ((fl_good f.g) c hc).x
  unfold wr10
  refine ⟨trivial, (by show 0 ≤ 1000000; omega), o.1, rfl, ?_⟩
  show if PyData.eqv (fileD (fl A)) (.tuple []) = true then _ else _
  rw [eqv_nilT]
  by_cases z : fl A = []
  · rw [if_pos (decide_eq_true z)]
    have tx : ∀ fr, textAt [] fr = textAt A fr := fun fr => by rw [← fl_text f.g, z]
    refine ⟨(by show 0 ≤ 1000000; omega), (by show 1 ≤ 1000000; omega), (by show 1 ≤ 1000000; omega), (by show 2 ≤ 1000000; omega), rfl, rfl, d_refused (fun m P PX h => dx_check (F := []) f.g (fun _ w => nomatch w) l20 (Nat.zero_le _) (by simp; omega) tx false (fun m P h => ?_) (fun w => nomatch w) h) ?_⟩
    · rw [z]
      refine ⟨trivial, trivial, rfl, rfl, d_is_tuple ?_⟩
      exact ⟨hd_d, h⟩
    · refine ⟨okB, okB, ?_⟩
      rw [eqB]
      exact hE _ rfl
  · rw [if_neg (by simp [z])]
    obtain ⟨n, hn⟩ : ∃ n, (fl A).length = n + 1 := ⟨(fl A).length - 1, by have := List.length_pos_iff.mpr z; omega⟩
    exact w_11 f hE hn
theorem w_8 : wr8 E (wE A Y (.im (tabT (tbl (fl A)))) s4 s5 s8 s9) := by
  have l20 := f.l20
  have lf := f.l
  unfold wr8
  refine set_row ⟨rfl, rfl, d_paper f.g l20 ?_⟩
  unfold wr9
  refine ⟨rfl, rfl, d_check_strokes f.g (.inl lf) ?_⟩
  refine ⟨trivial, rfl, rfl, ?_⟩
  show if (!PyData.eqv (.int (few (fl A))) (.int (few (fl A)))) = true then _ else _
  rw [eqI, decide_eq_true rfl]
  refine ⟨(by show 2 ≤ 1000000; omega), rfl, rfl, d_check_strokes f.g (.inl lf) ?_⟩
  refine ⟨trivial, rfl, rfl, ?_⟩
  show if (!PyData.eqv (.int (few (fl A))) (.int (few (fl A)))) = true then _ else _
  rw [eqI, decide_eq_true rfl]
  exact w_10 f hE
end
end Q78
namespace Q78
open PySem L2 DL
theorem nes_orB {f g : DM} {B : BM} {A R : SM} {E : DE} {ρ : DL.Env} (h : f ρ fun d ρ1 => g ρ1 fun e ρ2 => gNeS d e fun z => (match z with | .bool b => (if b = true then A { E with nx := R E } ρ2 else B ρ2 fun b ρ3 => if b = true then A { E with nx := R E } ρ3 else R E ρ3) | _ => False)) : sSeq (sIf (bOr (bD (d2 gNeS (hV f) (hV g))) B) A (sNo)) R E ρ := h
def rowT (n : Nat) (v : Nat → Nat → Int) (k : Nat) : D := .tuple (((List.range (n - k)).map fun j => v k (k + j)).map PyData.int)
def celD (v : Nat → Nat → Int) (k : Nat) : D → D
  | .int j => .int (v k j.toNat)
  | d => d
def rowD' (n : Nat) (v : Nat → Nat → Int) : D → D
  | .int k => rowT n v k.toNat
  | d => d
section
variable {A : List Cue} (f : Fi A) {Y : TD} (t : LT (fl A) ((fl A).length + 1) 0 Y) {s3 s4 s5 s8 s9 : Sl} {E : DE} (hE : ∀ ρ : DL.Env, ρ[0]? = some (.im (fileD A)) → E.rt (.bool true) ρ)
include f t hE
theorem w_7 : wr7 E (wE A Y .no .no .no .no .no) := by
  have c := f.c
  have lc := c.l
  unfold wr7
  refine ⟨trivial, ⟨by rw [List.length_map]; omega, by rw [List.length_map]; omega⟩, ?_⟩
  have er : rgD 0 ((((fl A).map Cue.d).length : Nat) : Int) = (List.range (fl A).length).map fun h : Nat => .int (h : Int) := by
    rw [List.length_map]
    exact rg_nat _
  rw [er]
  refine ⟨by rw [List.length_map, List.length_range]; omega, ⟨by simp, fun j hj => by simp at hj; subst hj; rfl⟩, ?_⟩
  refine lcL_map (ρ := wE A Y .no .no .no .no .no) (rowD' (fl A).length (val (prt (fl A)))) _ [] ?_ ?_
  · intro d hd Q hQ
    obtain ⟨x, hx, rfl⟩ := List.mem_map.mp hd
    have hx := List.mem_range.mp hx
    refine ⟨trivial, ⟨by omega, by omega, by rw [List.length_map]; omega, by rw [List.length_map]; omega⟩, ?_⟩
    have er2 : rgD ((x : Nat) : Int) ((((fl A).map Cue.d).length : Nat) : Int) = (List.range' x ((fl A).length - x)).map fun k : Nat => .int (k : Int) := by
      rw [List.length_map]
      exact rg_two x _
    rw [er2]
    refine ⟨by rw [List.length_map, List.length_range']; omega, ⟨by simp, fun j hj => by simp at hj; subst hj; rfl⟩, ?_⟩
    refine lcL_map (ρ := wE A Y .no .no .no (.im (.int (x : Nat))) .no) (celD (val (prt (fl A))) x) _ [] ?_ ?_
    · intro d hd Q hQ
      obtain ⟨j, hj, rfl⟩ := List.mem_map.mp hd
      have hj := List.mem_range'_1.mp hj
      refine ⟨trivial, (by show 2 ≤ 1000000; omega), kz (x : Nat) (j : Nat), Y, .int (val (prt (fl A)) x j), rfl, .inl rfl, lt_at t (by omega) (by omega) (by omega), ?_⟩
      exact hQ _ rfl
    · have e : ([] : List D) ++ ((List.range' x ((fl A).length - x)).map fun k : Nat => (PyData.int (k : Int))).map (celD (val (prt (fl A))) x) = ((List.range ((fl A).length - x)).map fun j => val (prt (fl A)) x (x + j)).map PyData.int := by
        rw [List.nil_append, List.range'_eq_map_range, List.map_map, List.map_map, List.map_map]
        rfl
      rw [e]
      exact hQ _ rfl
  · have e : ([] : List D) ++ ((List.range (fl A).length).map fun h : Nat => (PyData.int (h : Int))).map (rowD' (fl A).length (val (prt (fl A)))) = (tbl (fl A)).map fun r => PyData.tuple (r.map PyData.int) := by
      have eb : tbl (fl A) = _ := bb_is _ _
      rw [List.nil_append, List.map_map, eb, List.map_map]
      rfl
    rw [e]
    exact w_8 f hE
theorem w_6 : wr6 E (wE A Y .no .no .no .no .no) := by
  have c := f.c
  have l20 := f.l20
  have l31 := f.l31
  have tl := f.tl
  have ft := f.flat_told
  have o := self_file (cs := fl A) fun c hc => ((fl_good f.g) c hc).x
  have o2 := self_file (cs := told (fl A)) fun c hc => (f.tg c hc).x
  unfold wr6
  refine ⟨rfl, rfl, d_flatted f.tg (by omega) ?_⟩
  rw [ft]
  refine ⟨trivial, o.1, o.1, ?_⟩
  show if (!PyData.eqv (fileD (fl A)) (fileD (fl A))) = true then _ else _
  rw [o.2]
  refine ⟨rfl, rfl, d_alike f.tg f.g (by omega) fun d hd => ?_⟩
  have e0 : d = .none := fst_same f.g (fun fr => told_same f.g l20 fr) hd
  subst e0
  refine ⟨rfl, rfl, d_fewest_file f.g l20 ?_⟩
  refine ⟨trivial, o2.1, o2.1, ?_⟩
  show if (!PyData.eqv (fileD (told (fl A))) (fileD (told (fl A)))) = true then _ else _
  rw [o2.2]
  exact w_7 f t hE
theorem w_5 : wr5 E (wE A Y .no .no .no .no .no) := by
  have c := f.c
  have l20 := f.l20
  have cn := f.cnt
  have le := few_le f.g l20
  have lc := c.l
  unfold wr5
  refine ⟨trivial, trivial, ?_⟩
  show if decide ((((A.map Cue.d).length : Nat) : Int) < few (fl A)) = true then _ else _
  rw [List.length_map, if_neg (by simp; omega)]
  refine ⟨trivial, rfl, rfl, d_borders (by omega) (fl_nt f.g) fun b hb => ?_⟩
  show if decide (few (fl A) < b) = true then _ else _
  rw [if_neg (by simp; omega)]
  refine ⟨trivial, trivial, rfl, rfl, ?_⟩
  show if (!PyData.eqv (.int ((((told (fl A)).map Cue.d).length : Nat) : Int)) (.int (few (fl A)))) = true then _ else _
  rw [eqI, List.length_map, cn, decide_eq_true rfl]
  exact w_6 f t hE
theorem w_4 : wr4 E (wE A Y .no .no .no .no .no) := by
  have c := f.c
  have l20 := f.l20
  have lc := c.l
  have ok : DL.okR (fileD (fl A)) := sh_okT (sh_file (fl_good f.g) (by omega)) (by omega) (by omega)
  have go := w_5 (E := E) f t hE
  unfold wr4
  refine nes_orB ?_
  refine ⟨rfl, rfl, d_flat f.g (by omega) ?_⟩
  refine ⟨ok, trivial, ok, nes_same ?_⟩
  refine ⟨rfl, rfl, fewest_eq f.g l20 ?_⟩
  refine ⟨trivial, rfl, rfl, ?_⟩
  show if (!PyData.eqv (.int (few (fl A))) (.int (few (fl A)))) = true then _ else _
  rw [eqI, decide_eq_true rfl]
  refine ⟨rfl, rfl, fewest_eq f.g l20 ?_⟩
  refine ⟨trivial, rfl, rfl, ?_⟩
  show if (!PyData.eqv (.int (few (fl A))) (.int (few (fl A)))) = true then _ else _
  rw [eqI, decide_eq_true rfl]
  exact go
end
theorem w_1 {A : List Cue} (f : Fi A) {E : DE} (hE : ∀ ρ : DL.Env, ρ[0]? = some (.im (fileD A)) → E.rt (.bool true) ρ) : wr1 E [.im (fileD A), .no, .no, .no, .no, .no, .no, .no, .no, .no] := by
  have c := f.c
  have l20 := f.l20
  have lc := c.l
  unfold wr1
  refine set_row ⟨rfl, rfl, d_flatted f.g (by omega) ?_⟩
  unfold wr2
  refine set_row ⟨rfl, rfl, d_least c fun Y t => ?_⟩
  unfold wr3
  refine ⟨⟨Y, .inl rfl⟩, trivial, (by show 2 ≤ 1000000; omega), kz 0 (((fl A).length : Int) - 1), Y, ?_, .inl rfl, ?_⟩
  · show [PyData.int 0, .int (((((fl A).map Cue.d).length : Nat) : Int) - 1)] = _
    rw [List.length_map]
    rfl
  rw [lt_or t (a := 0) (b := (fl A).length) (x := 0) (y := ((fl A).length : Int) - 1) (Nat.zero_le _) (Nat.le_refl _) (by omega) rfl rfl, ← few_vl]
  refine ⟨rfl, rfl, d_fewest_file f.g l20 ?_⟩
  exact w_4 f t hE
theorem d_right {A : List Cue} (f : Fi A) {m : Nat} {P : D → Nat → Prop} (h : P (.bool true) 0) : r__law_right [.d (fileD A)] m P := by
  refine w_1 f fun ρ hρ => ?_
  show (match ρ[0]? with
    | some (Sl.ora m') => _
    | _ => _)
  rw [hρ]
  exact ⟨hd_d, h⟩
end Q78
namespace Q78
open PySem L2 DL
def sgn (n : Nat) : D := .tuple [.str ⟨#[n]⟩]
def lx5 : SM := sRet (dAnd (d2 gEq (hV (dCall 1 r_fewest (aCons (dCB gTuple (DL.gCons (hS 6) (DL.gNil))) (aNil)))) (hS 4)) (dAnd (dCall 1 r__law_right (aCons (dCB gTuple (DL.gCons (hS 5) (DL.gNil))) (aNil))) (dCall 1 r__law_right (aCons (dCB gTuple (DL.gCons (hS 6) (DL.gNil))) (aNil)))))
def lx4 : SM := sSeq (sIf (bOr (bD (d2 gNe (hV (dCall 1 r_fewest (aCons (dCB gTuple (DL.gCons (hS 5) (DL.gNil))) (aNil)))) (hV (d2 gAdd (hS 4) (hV (dC (.int 1))))))) (bD (d2 gNe (hV (dCB gLen (DL.gCons (hV (dCall 1 r_flat (aCons (dCB gTuple (DL.gCons (hS 5) (DL.gNil))) (aNil)))) (DL.gNil)))) (hV (d2 gAdd (hV (d2 gMul (hV (dC (.int 2))) (hS 4))) (hV (dC (.int 1)))))))) (sRet (dC (.bool false))) (sNo)) lx5
def lx3 : SM := sSeq (sFor (iRange1 (lCons (dV 4) (lNil))) (gN 3) (sSeq (sApp 5 (dTup (lCons (d2 gAdd (hV (dC (.int 3))) (hV (d2 gMul (hV (dC (.int 6))) (hS 3)))) (lCons (d2 gAdd (hV (dC (.int 6))) (hV (d2 gMul (hV (dC (.int 6))) (hS 3)))) (lCons (dTup (lCons (d2 gIx (hV (dC (.str ("bcdefgh" : Str)))) (hS 3)) (lNil))) (lNil)))))) (sApp 6 (dTup (lCons (d2 gMul (hV (dC (.int 6))) (hS 3)) (lCons (d2 gAdd (hV (d2 gMul (hV (dC (.int 6))) (hS 3))) (hV (dC (.int 6)))) (lCons (dTup (lCons (d2 gIx (hV (dC (.str ("bcdefgh" : Str)))) (hS 3)) (lNil))) (lNil)))))))) lx4
def lx2 : SM := sSeq (sParINN 4 5 6 (d2 gAdd (hV (dC (.int 1))) (hV (dCallO 1 2 s_next (aOra 1 (aCons (dC (.int 6)) (aNil)))))) (dLst (lCons (dTup (lCons (dC (.int 0)) (lCons (dC (.int 40)) (lCons (dTup (lCons (dC (.str ("a" : Str))) (lNil))) (lNil))))) (lNil))) (dLst (lNil))) lx3
def lx1 : SM := sSeq (sFor (iRange1 (lCons (d2 gAdd (hV (dC (.int 4))) (hV (dCB gMin (DL.gCons (hV (dC (.int 8))) (DL.gCons (hV (dCB gLen (DL.gCons (hS 0) (DL.gNil)))) (DL.gNil)))))) (lNil))) (gN 2) (sIf (bNot (bTruth (hV (dCall 1 r__law_right (aCons (dCallO 1 2 r__law_strokes (aOra 1 (aCons (dCallO 1 2 s_next (aOra 1 (aCons (dC (.int 9)) (aNil)))) (aNil)))) (aNil)))))) (sRet (dC (.bool false))) (sNo))) lx2
theorem lx_is : g_law = lx1 := rfl
theorem sgn_ok (n : Nat) (h1 : 33 ≤ n) (h2 : n ≤ 126) (h3 : n ≠ 37) : OT (sgn n) := by
  refine ⟨[⟨#[n]⟩], rfl, by show 1 ≤ 1; omega, by show 1 ≤ 4; omega, fun z hz => ?_⟩
  rw [List.mem_singleton.mp hz]
  refine ⟨by show 1 ≤ 1; omega, by show 1 ≤ 40; omega, fun c hc => ?_, fun e => ?_, fun e => ?_⟩
  · have : c = n := List.mem_singleton.mp hc
    omega
  · have : some n = some 32 := e
    cases this
    omega
  · have : some n = some 32 := e
    cases this
    omega
def oCue (k : Nat) : Cue := ⟨3 + 6 * (k : Int), 6 + 6 * (k : Int), sgn (98 + k)⟩
def aCue (k : Nat) : Cue := ⟨6 * (k : Int), 6 * (k : Int) + 6, sgn (98 + k)⟩
def ovr (s : Nat) : List Cue := ⟨0, 40, sgn 97⟩ :: (List.range s).map oCue
def apt (s : Nat) : List Cue := (List.range s).map aCue
theorem ovr_snoc (s : Nat) : (ovr (s + 1)).map Cue.d = (ovr s).map Cue.d ++ [(oCue s).d] := by
  unfold ovr
  rw [List.range_succ, List.map_append, List.map_cons, List.map_append, List.map_cons]
  rfl
theorem apt_snoc (s : Nat) : (apt (s + 1)).map Cue.d = (apt s).map Cue.d ++ [(aCue s).d] := by
  unfold apt
  rw [List.range_succ, List.map_append, List.map_append]
  rfl
theorem ovr_ok {s : Nat} (h : s ≤ 6) : Fi (ovr s) := by
  refine ⟨fun c hc => ?_, by unfold ovr; simp; omega⟩
  unfold ovr at hc
  (rcases List.mem_cons.mp hc with rfl | hc)
  · exact ⟨by decide, by decide, by decide, sgn_ok 97 (by omega) (by omega) (by omega)⟩
  · obtain ⟨k, hk, rfl⟩ := List.mem_map.mp hc
    have hk := List.mem_range.mp hk
    exact ⟨(by show 0 ≤ 3 + 6 * (k : Int); omega), (by show 3 + 6 * (k : Int) < 6 + 6 * (k : Int); omega), (by show 6 + 6 * (k : Int) ≤ 90; omega), sgn_ok _ (by omega) (by omega) (by omega)⟩
theorem apt_ok {s : Nat} (h : s ≤ 6) : Fi (apt s) := by
  refine ⟨fun c hc => ?_, by unfold apt; simp; omega⟩
  unfold apt at hc
  obtain ⟨k, hk, rfl⟩ := List.mem_map.mp hc
  have hk := List.mem_range.mp hk
  exact ⟨(by show 0 ≤ 6 * (k : Int); omega), (by show 6 * (k : Int) < 6 * (k : Int) + 6; omega), (by show 6 * (k : Int) + 6 ≤ 90; omega), sgn_ok _ (by omega) (by omega) (by omega)⟩
theorem all_few : ((List.range 6).all fun i => decide (few (fl (ovr (i + 1))) = (i : Int) + 2) && (decide ((fl (ovr (i + 1))).length = 2 * (i + 1) + 1) && decide (few (fl (apt (i + 1))) = (i : Int) + 1))) = true := by decide +kernel
theorem ovr_few {s : Nat} (h1 : 1 ≤ s) (h2 : s ≤ 6) : few (fl (ovr s)) = (s : Int) + 1 ∧ (fl (ovr s)).length = 2 * s + 1 ∧ few (fl (apt s)) = (s : Int) := by
  have a := List.all_eq_true.mp all_few (s - 1) (List.mem_range.mpr (by omega))
  rw [Bool.and_eq_true, Bool.and_eq_true] at a
  have a1 := of_decide_eq_true a.1
  have a2 := of_decide_eq_true a.2.1
  have a3 := of_decide_eq_true a.2.2
  rw [show s - 1 + 1 = s by omega] at a1 a2 a3
  exact ⟨by omega, a2, by omega⟩
abbrev lE (S : D) (m : Nat) (s2 s3 : Sl) (s : Nat) (k : Nat) : DL.Env := [.im S, .ora m, s2, s3, .im (.int (s : Int)), .ow (.list ((ovr k).map Cue.d)), .ow (.list ((apt k).map Cue.d))]
section
variable {S : D} {m : Nat} {s2 s3 : Sl} {E : DE} {s : Nat} (h1 : 1 ≤ s) (h2 : s ≤ 6) (h : ∀ ρ, E.rt (.bool true) ρ)
include h1 h2 h
theorem x_5 : lx5 E (lE S m s2 s3 s s) := by
  have fo := ovr_ok h2
  have fa := apt_ok h2
  have ⟨e1, e2, e3⟩ := ovr_few h1 h2
  unfold lx5
  refine ⟨trivial, rfl, rfl, fewest_eq fa.g fa.l20 ?_⟩
  rw [e3]
  refine ⟨trivial, rfl, rfl, ?_⟩
  rw [eqI, decide_eq_true rfl]
  refine ⟨trivial, rfl, rfl, d_right fo ?_⟩
  refine ⟨trivial, rfl, rfl, d_right fa ?_⟩
  exact h _
theorem x_4 : lx4 E (lE S m s2 s3 s s) := by
  have fo := ovr_ok h2
  have ⟨e1, e2, e3⟩ := ovr_few h1 h2
  have k5 := fun E h => x_5 (S := S) (m := m) (s2 := s2) (s3 := s3) (E := E) h1 h2 h
  unfold lx4
  refine ⟨trivial, rfl, rfl, fewest_eq fo.g fo.l20 ?_⟩
  rw [e1]
  refine ⟨trivial, rfl, rfl, ?_⟩
  show if (!PyData.eqv (.int ((s : Int) + 1)) (.int ((s : Int) + 1))) = true then _ else _
  rw [eqI, decide_eq_true rfl]
  refine ⟨trivial, rfl, rfl, d_flat fo.g (by have := fo.l20; omega) ?_⟩
  refine ⟨trivial, (by omega), rfl, rfl, ?_⟩
  show if (!PyData.eqv (.int ((((fl (ovr s)).map Cue.d).length : Nat) : Int)) (.int (2 * (s : Int) + 1))) = true then _ else _
  rw [eqI, List.length_map, e2, decide_eq_true (by omega)]
  exact k5 _ h
end
end Q78
namespace Q78
open PySem L2 DL
theorem gs_good {A : List Cue} (h : ∀ c ∈ A, GS c) : GF A := fun c hc => (h c hc).gc
abbrev xB3 : SM := sSeq (sApp 5 (dTup (lCons (d2 gAdd (hV (dC (.int 3))) (hV (d2 gMul (hV (dC (.int 6))) (hS 3)))) (lCons (d2 gAdd (hV (dC (.int 6))) (hV (d2 gMul (hV (dC (.int 6))) (hS 3)))) (lCons (dTup (lCons (d2 gIx (hV (dC (.str ("bcdefgh" : Str)))) (hS 3)) (lNil))) (lNil)))))) (sApp 6 (dTup (lCons (d2 gMul (hV (dC (.int 6))) (hS 3)) (lCons (d2 gAdd (hV (d2 gMul (hV (dC (.int 6))) (hS 3))) (hV (dC (.int 6)))) (lCons (dTup (lCons (d2 gIx (hV (dC (.str ("bcdefgh" : Str)))) (hS 3)) (lNil))) (lNil))))))
abbrev xB1 : SM := sIf (bNot (bTruth (hV (dCall 1 r__law_right (aCons (dCallO 1 2 r__law_strokes (aOra 1 (aCons (dCallO 1 2 s_next (aOra 1 (aCons (dC (.int 9)) (aNil)))) (aNil)))) (aNil)))))) (sRet (dC (.bool false))) (sNo)
theorem x_3loop {S : D} {m : Nat} {s2 : Sl} {E : DE} {s : Nat} (h2 : s ≤ 6) (h : ∀ s3, E.nx (lE S m s2 s3 s s)) : ∀ (n k : Nat) (s3 : Sl), k + n = s → forL (gN 3) xB3 E ((List.range' k n).map fun k : Nat => .int (k : Int)) (lE S m s2 s3 s k)
  | 0, k, s3, e => by
    have : k = s := by omega
    subst this
    exact h _
  | n + 1, k, s3, e => by
    rw [List.range'_succ, List.map_cons]
    have hl : ("bcdefgh" : Str).length ≤ 1000000 := by decide +kernel
    have ha : atI ("bcdefgh" : Str).cps.toList ((k : Nat) : Int) = some (98 + k) := by
      have c : k = 0 ∨ k = 1 ∨ k = 2 ∨ k = 3 ∨ k = 4 ∨ k = 5 := by omega
      rcases c with rfl | rfl | rfl | rfl | rfl | rfl <;> decide +kernel
    have lo : ((ovr k).map Cue.d).length = k + 1 := by unfold ovr; simp
    have la : ((apt k).map Cue.d).length = k := by unfold apt; simp
    refine ⟨trivial, trivial, (by omega), trivial, (by omega), trivial, hl, _, ha, (by show 1 ≤ 1000000; omega), (by show 3 ≤ 1000000; omega), (by rw [lo]; omega), ?_⟩
    refine ⟨trivial, trivial, (by omega), trivial, (by omega), trivial, hl, _, ha, (by show 1 ≤ 1000000; omega), (by show 3 ≤ 1000000; omega), (by rw [la]; omega), ?_⟩
    have go := x_3loop h2 h n (k + 1) (.im (.int (k : Nat))) (by omega)
    unfold lE at go
    rw [ovr_snoc, apt_snoc] at go
    exact go
theorem x_2 {S : D} {m : Nat} {s2 : Sl} {E : DE} (hm : m < 1000000) (h : ∀ ρ, E.rt (.bool true) ρ) : lx2 E [.im S, .ora m, s2, .no, .no, .no, .no] := by
  unfold lx2
  refine ⟨trivial, rfl, rfl, rfl, 6, rfl, by omega, by omega, by omega, fun i i0 i1 => ?_⟩
  obtain ⟨s, rfl⟩ : ∃ s : Nat, i = s := ⟨i.toNat, by omega⟩
  refine ⟨(by show 1 ≤ 1000000; omega), (by show 3 ≤ 1000000; omega), (by show 1 ≤ 1000000; omega), (by show 0 ≤ 1000000; omega), ?_⟩
  have e1 : (1 : Int) + ((s : Nat) : Int) = ((s + 1 : Nat) : Int) := by omega
  have key : lx3 E (lE S (m + 1) s2 .no (s + 1) 0) := by
    unfold lx3
    refine ⟨⟨by omega, by omega⟩, ?_⟩
    have er : rgD 0 ((s + 1 : Nat) : Int) = (List.range' 0 (s + 1)).map fun k : Nat => .int (k : Int) := rg_two 0 _
    rw [er]
    exact x_3loop (by omega) (fun s3 => x_4 (by omega) (by omega) h) (s + 1) 0 _ (by omega)
  unfold lE at key
  rw [← e1] at key
  exact key
theorem x_1 {S : D} {E : DE} : ∀ (ks : List D) (m : Nat) (s2 : Sl), m + 90 * ks.length < 1000000 → (∀ m' s2, m' ≤ m + 90 * ks.length → E.nx [.im S, .ora m', s2, .no, .no, .no, .no]) →
    forL (gN 2) xB1 E ks [.im S, .ora m, s2, .no, .no, .no, .no]
  | [], m, s2, _, h => h m _ (Nat.le_refl _)
  | d :: ks, m, s2, hm, h => by
    rw [List.length_cons] at hm h
    refine ⟨trivial, trivial, rfl, rfl, rfl, 9, rfl, by omega, by omega, by omega, fun i i0 i1 => ?_⟩
    obtain ⟨n, rfl⟩ : ∃ n : Nat, i = n := ⟨i.toNat, by omega⟩
    refine ⟨rfl, rfl, rfl, d_drawn (by omega) (by omega) fun F m' gF lF hm' => ?_⟩
    have f : Fi F := ⟨gs_good gF, by omega⟩
    refine ⟨rfl, rfl, d_right f ?_⟩
    exact x_1 ks m' (.im d) (by omega) fun m2 s2 h2 => h m2 s2 (by omega)
theorem law_says : ∀ ns : List Int, ns.length ≤ 63 → lawSays ns := by
  intro ns hl
  show g_law ⟨fun _ => False, fun d _ => d = .bool true, fun _ => False, fun _ => False⟩ _
  rw [lx_is]
  unfold lx1
  refine ⟨trivial, ⟨by omega, by omega⟩, ?_⟩
  have lr : (rgD 0 (4 + min 8 ((ns.map PyData.int).length : Int))).length = (4 + min 8 ((ns.map PyData.int).length : Int)).toNat := by simp [rgD]
  refine x_1 _ 0 _ ?_ fun m' s2 hm' => ?_
  · show 0 + 90 * (rgD 0 (4 + min 8 ((ns.map PyData.int).length : Int))).length < 1000000
    omega
  · have hm' : m' ≤ 0 + 90 * (rgD 0 (4 + min 8 ((ns.map PyData.int).length : Int))).length := hm'
    exact x_2 (by omega) fun ρ => rfl
end Q78
open PySem PyProof.Rows PySem.W in
set_option maxRecDepth 100100 in
set_option maxHeartbeats 0 in
theorem PySem.Challenge.cw_captionhouse_k78_whole_fewest_cues_of_fi_holds : PySem.Challenge.rw_captionhouse_k78_whole_fewest_cues_of_fi.Holds := by
  w_on
  o_law
  refine HandSHeadRun.head_any (r := Q78.hdR) (q := Q78.hdQ) (H := Q78.hdH) (ob := fun s => Q78.hdA.map (HandSHeadRun.getT s)) (M := 20000) (loose := Q78.hdN) (kwd := []) (fun s => congrArg (fun g => Q78.hdA.map g) (funext fun b => HandSHeadRun.getT_eq s b)) (by kernel_rfl) (fun s => by kernel_rfl) Q78.hdRun (by rfl) (by rfl) (by rfl) (by rfl) (by first | assumption | decide +kernel) (by decide +kernel) ⟨rfl, rfl, rfl, rfl, rfl, by decide +kernel⟩ ?hw ?hc
  (case hw => w_witness2)
  k_fill
  refine DL.walkG (l := PySem.Challenge.rw_captionhouse_k78_whole_fewest_cues_of_fi) (n := 63) (k := 12) (x := "_law_script") (sp := fun w => Q78.spLawG (_)) rfl (by decide) rfl ⟨rfl, by decide, by decide⟩ (fun w h Y => PySem.W.kIn_of Y) ?F (fun w H a ns hl sq => ⟨a, ns, rfl, sq, hl, fun _ => rfl⟩)
  case F =>
    intro w gl fa h KX G hgl
    refine' Q78.all_mk KX G hgl ?a0 ?l0 ?c0 ?k0 ?a1 ?l1 ?c1 ?k1 ?a2 ?l2 ?c2 ?k2 ?a3 ?l3 ?c3 ?k3 ?a4 ?l4 ?c4 ?k4 ?a5 ?l5 ?c5 ?k5 ?a6 ?l6 ?c6 ?k6 ?a7 ?l7 ?c7 ?k7 ?a8 ?l8 ?c8 ?k8 ?a9 ?l9 ?c9 ?k9 ?a10 ?l10 ?c10 ?k10 ?a11 ?l11 ?c11 ?k11 ?a12 ?l12 ?c12 ?k12 ?a13 ?l13 ?c13 ?k13 ?a14 ?l14 ?c14 ?k14 ?a15 ?l15 ?c15 ?k15 ?a16 ?l16 ?c16 ?k16 ?a17 ?l17 ?c17 ?k17 ?a18 ?l18 ?c18 ?k18 ?a19 ?l19 ?c19 ?k19 ?a20 ?l20 ?c20 ?k20 ?a21 ?l21 ?c21 ?k21 ?a22 ?l22 ?c22 ?k22 ?a23 ?l23 ?c23 ?k23 ?a24 ?l24 ?c24 ?k24 ?a25 ?l25 ?c25 ?k25 ?a26 ?l26 ?c26 ?k26 ?a27 ?l27 ?c27 ?k27 ?a28 ?l28 ?c28 ?k28 ?a29 ?l29 ?c29 ?k29 ?a30 ?l30 ?c30 ?k30 ?a31 ?l31 ?c31 ?k31 ?a32 ?l32 ?c32 ?k32 ?a33 ?l33 ?c33 ?k33 ?a34 ?l34 ?c34 ?k34 ?a35 ?l35 ?c35 ?k35 ?a36 ?l36 ?c36 ?k36 ?a37 ?l37 ?c37 ?k37 ?a38 ?l38 ?c38 ?k38 ?a39 ?l39 ?c39 ?k39 ?a40 ?l40 ?c40 ?k40 ?a41 ?l41 ?c41 ?k41 ?a42 ?l42 ?c42 ?k42 ?a43 ?l43 ?c43 ?k43 ?xa0 ?xl0 ?xs0 ?xe0 ?xt0 ?xk0 ?xc0 ?xb0 ?xi0 ?xy0 ?xf0 ?xd0 ?xg0 ?xn0 ?xa1 ?xl1 ?xs1 ?xe1 ?xt1 ?xk1 ?xc1 ?xb1 ?xi1 ?xy1 ?xf1 ?xd1 ?xg1 ?xn1 ?xp1 ?xq1 ?xr1 ?xvV ?z_ValueError ?z_all ?z_bool ?z_enumerate ?z_int ?z_isinstance ?z_len ?z_list ?z_min ?z_ord ?z_range ?z_repr ?z_reversed ?z_sorted ?z_str ?z_tuple ?z_zip ?v_LOWEST_OF_LINES ?v_MOST_CUES ?v_MOST_FRAME ?v_MOST_LINES ?v_MOST_SIGNS ?v_PERCENT ?v_TILDE Q78.law_says
    (case a0 => k_is)
    (case l0 => k_is)
    (case c0 => k_is)
    (case k0 => k_is)
    (case a1 => k_is)
    (case l1 => k_is)
    (case c1 => k_is)
    (case k1 => k_is)
    (case a2 => k_is)
    (case l2 => k_is)
    (case c2 => k_is)
    (case k2 => k_is)
    (case a3 => k_is)
    (case l3 => k_is)
    (case c3 => k_is)
    (case k3 => k_is)
    (case a4 => k_is)
    (case l4 => k_is)
    (case c4 => k_is)
    (case k4 => k_is)
    (case a5 => k_is)
    (case l5 => k_is)
    (case c5 => k_is)
    (case k5 => k_is)
    (case a6 => k_is)
    (case l6 => k_is)
    (case c6 => k_is)
    (case k6 => k_is)
    (case a7 => k_is)
    (case l7 => k_is)
    (case c7 => k_is)
    (case k7 => k_is)
    (case a8 => k_is)
    (case l8 => k_is)
    (case c8 => k_is)
    (case k8 => k_is)
    (case a9 => k_is)
    (case l9 => k_is)
    (case c9 => k_is)
    (case k9 => k_is)
    (case a10 => k_is)
    (case l10 => k_is)
    (case c10 => k_is)
    (case k10 => k_is)
    (case a11 => k_is)
    (case l11 => k_is)
    (case c11 => k_is)
    (case k11 => k_is)
    (case a12 => k_is)
    (case l12 => k_is)
    (case c12 => k_is)
    (case k12 => k_is)
    (case a13 => k_is)
    (case l13 => k_is)
    (case c13 => k_is)
    (case k13 => k_is)
    (case a14 => k_is)
    (case l14 => k_is)
    (case c14 => k_is)
    (case k14 => k_is)
    (case a15 => k_is)
    (case l15 => k_is)
    (case c15 => k_is)
    (case k15 => k_is)
    (case a16 => k_is)
    (case l16 => k_is)
    (case c16 => k_is)
    (case k16 => k_is)
    (case a17 => k_is)
    (case l17 => k_is)
    (case c17 => k_is)
    (case k17 => k_is)
    (case a18 => k_is)
    (case l18 => k_is)
    (case c18 => k_is)
    (case k18 => k_is)
    (case a19 => k_is)
    (case l19 => k_is)
    (case c19 => k_is)
    (case k19 => k_is)
    (case a20 => k_is)
    (case l20 => k_is)
    (case c20 => k_is)
    (case k20 => k_is)
    (case a21 => k_is)
    (case l21 => k_is)
    (case c21 => k_is)
    (case k21 => k_is)
    (case a22 => k_is)
    (case l22 => k_is)
    (case c22 => k_is)
    (case k22 => k_is)
    (case a23 => k_is)
    (case l23 => k_is)
    (case c23 => k_is)
    (case k23 => k_is)
    (case a24 => k_is)
    (case l24 => k_is)
    (case c24 => k_is)
    (case k24 => k_is)
    (case a25 => k_is)
    (case l25 => k_is)
    (case c25 => k_is)
    (case k25 => k_is)
    (case a26 => k_is)
    (case l26 => k_is)
    (case c26 => k_is)
    (case k26 => k_is)
    (case a27 => k_is)
    (case l27 => k_is)
    (case c27 => k_is)
    (case k27 => k_is)
    (case a28 => k_is)
    (case l28 => k_is)
    (case c28 => k_is)
    (case k28 => k_is)
    (case a29 => k_is)
    (case l29 => k_is)
    (case c29 => k_is)
    (case k29 => k_is)
    (case a30 => k_is)
    (case l30 => k_is)
    (case c30 => k_is)
    (case k30 => k_is)
    (case a31 => k_is)
    (case l31 => k_is)
    (case c31 => k_is)
    (case k31 => k_is)
    (case a32 => k_is)
    (case l32 => k_is)
    (case c32 => k_is)
    (case k32 => k_is)
    (case a33 => k_is)
    (case l33 => k_is)
    (case c33 => k_is)
    (case k33 => k_is)
    (case a34 => k_is)
    (case l34 => k_is)
    (case c34 => k_is)
    (case k34 => k_is)
    (case a35 => k_is)
    (case l35 => k_is)
    (case c35 => k_is)
    (case k35 => k_is)
    (case a36 => k_is)
    (case l36 => k_is)
    (case c36 => k_is)
    (case k36 => k_is)
    (case a37 => k_is)
    (case l37 => k_is)
    (case c37 => k_is)
    (case k37 => k_is)
    (case a38 => k_is)
    (case l38 => k_is)
    (case c38 => k_is)
    (case k38 => k_is)
    (case a39 => k_is)
    (case l39 => k_is)
    (case c39 => k_is)
    (case k39 => k_is)
    (case a40 => k_is)
    (case l40 => k_is)
    (case c40 => k_is)
    (case k40 => k_is)
    (case a41 => k_is)
    (case l41 => k_is)
    (case c41 => k_is)
    (case k41 => k_is)
    (case a42 => k_is)
    (case l42 => k_is)
    (case c42 => k_is)
    (case k42 => k_is)
    (case a43 => k_is)
    (case l43 => k_is)
    (case c43 => k_is)
    (case k43 => k_is)
    (case xa0 => k_is)
    (case xl0 => k_is)
    (case xs0 => k_is)
    (case xe0 => k_is)
    (case xt0 => k_is)
    (case xk0 => k_is)
    (case xc0 => k_is)
    (case xb0 => k_is)
    (case xi0 => k_is)
    (case xy0 => k_is)
    (case xf0 => k_is)
    (case xd0 => k_is)
    (case xg0 => k_is)
    (case xn0 => k_is)
    (case xa1 => k_is)
    (case xl1 => k_is)
    (case xs1 => k_is)
    (case xe1 => k_is)
    (case xt1 => k_is)
    (case xk1 => k_is)
    (case xc1 => k_is)
    (case xb1 => k_is)
    (case xi1 => k_is)
    (case xy1 => k_is)
    (case xf1 => k_is)
    (case xd1 => k_is)
    (case xg1 => k_is)
    (case xn1 => k_is)
    (case xp1 => k_is)
    (case xq1 => k_is)
    (case xr1 => k_is)
    (case xvV => k_is)
    (case z_ValueError => k_is)
    (case z_all => k_is)
    (case z_bool => k_is)
    (case z_enumerate => k_is)
    (case z_int => k_is)
    (case z_isinstance => k_is)
    (case z_len => k_is)
    (case z_list => k_is)
    (case z_min => k_is)
    (case z_ord => k_is)
    (case z_range => k_is)
    (case z_repr => k_is)
    (case z_reversed => k_is)
    (case z_sorted => k_is)
    (case z_str => k_is)
    (case z_tuple => k_is)
    (case z_zip => k_is)
    (case v_LOWEST_OF_LINES => k_is)
    (case v_MOST_CUES => k_is)
    (case v_MOST_FRAME => k_is)
    (case v_MOST_LINES => k_is)
    (case v_MOST_SIGNS => k_is)
    (case v_PERCENT => k_is)
    (case v_TILDE => k_is)

import PyProof.Rows.All
import Wide.All
import OpenK.AllK
import Wide.FinOn
import HandS.ForMost
import HandS.Flow
import HandS.IsInst
import HandS.Walk
import HandS.Zip
import HandS.Conv
import HandS.Wide
import HandS.TupAny
import HandS.Style
import HandS.SortInts
import KE.GoesMore
import HandS.Deep
import HandS.Text
import HandS.Strs
import HandS.SetBool
import HandS.Comp
import HandS.Gcd
import KE.DataMinMax
import KE.KTupSum
import KE.KMathGC
import HandS.EndBits
import HandS.ExcInit
import HandS.TryOnly
import HandS.WordsExc
import KE.GoesEnum
import HandS.ExcField
import HandS.StrMore
import HandS.TupMul
import HandS.Star
import HandS.Defaults
import PyProof.TupleOfStr
import HandS.FStr
import HandS.TryMany
import KE.KDictKeyed
import PyProof.ListStr
import KE.KDictZip
import KE.GoesZip
import HandS.ListItems
import PyProof.Rows.SetFrom
import HandS.SetKeys
import HandS.DictComp
import HandS.NoneIn
import HandS.Dict
import HandS.Flt
import KE.SortData
import HandS.TupSets
import PyProof.Rows.StrClose
import PyProof.Rows.StrCut
import PyProof.Rows.ShownEnds
import HandS.Head0
import HandS.Head1
import HandS.Head2
import KE.KStateDown
import PySem.Challenge.RW_captionhouse_k23_whole_sending_judged
set_option Elab.async false
set_option linter.all false
set_option maxRecDepth 100000
set_option maxHeartbeats 3900000
namespace Q23
open PySem.Calls PySem PyProof.Rows PySem.W
abbrev hdR : OpenRow := OpenLaw.row PySem.Challenge.rw_captionhouse_k23_whole_sending_judged
def hdQ : Program := view hdR.prog [83]
def hdN0 : List PySem.Str := [Str.ofString "BLANK_SIGN", Str.ofString "HIDE", Str.ofString "ROLL", Str.ofString "stepped", Str.ofString "control_behind", Str.ofString "cells_behind", Str.ofString "cursor_cell", Str.ofString "rolling_rows", Str.ofString "with_cells", Str.ofString "MOST_SIGNS", Str.ofString "TILDE", Str.ofString "PERCENT", Str.ofString "is_integer", Str.ofString "is_within", Str.ofString "is_tuple", Str.ofString "is_one_of", Str.ofString "is_sign", Str.ofString "has_signs", Str.ofString "BadSize", Str.ofString "BadPaper", Str.ofString "BadCode", Str.ofString "BadCues", Str.ofString "MOST_ROWS", Str.ofString "MOST_COLUMNS", Str.ofString "MOST_CODES", Str.ofString "LOWEST_OF_CELLS", Str.ofString "LONE_WORDS", Str.ofString "need_screen", Str.ofString "blank", Str.ofString "is_code", Str.ofString "first_state", Str.ofString "pictures", Str.ofString "need_codes", Str.ofString "are_codes", Str.ofString "is_code_of", Str.ofString "is_cell_sign"]
def hdN1 : List PySem.Str := [Str.ofString "cells_of", Str.ofString "memory_of", Str.ofString "MOST_LINES", Str.ofString "LOWEST_OF_LINES", Str.ofString "is_text", Str.ofString "_is_line", Str.ofString "MOST_SENDABLE", Str.ofString "LAST_FRAME", Str.ofString "send_paper", Str.ofString "check_send", Str.ofString "_need_cues", Str.ofString "_is_sendable", Str.ofString "_has_room", Str.ofString "_load_of", Str.ofString "_picture_of", Str.ofString "_free_frames", Str.ofString "_first_short", Str.ofString "_stream_of", Str.ofString "_sends", Str.ofString "_law_begun", Str.ofString "_law_next", Str.ofString "_law_size", Str.ofString "_law_code", Str.ofString "_law_rolled", Str.ofString "_law_written", Str.ofString "_law_cursor", Str.ofString "_law_stepped", Str.ofString "_law_told", Str.ofString "_law_first", Str.ofString "_law_text", Str.ofString "_law_cost", Str.ofString "_law_cues", Str.ofString "_law_free", Str.ofString "_law_short", Str.ofString "_law_picture", Str.ofString "_law_shown"]
def hdN2 : List PySem.Str := [Str.ofString "_law_does_send", Str.ofString "_law_due", Str.ofString "_law_outcome", Str.ofString "_law_bent"]
def hdN : List PySem.Str := hdN0 ++ (hdN1 ++ (hdN2))
section
local macro_rules
  | `(tactic| o_head $t:term) => `(tactic| (have hk := $t; assumption))
set_option maxRecDepth 100001 in
set_option maxHeartbeats 0 in
theorem hd0 (h : hdR.Holds) : hdR.Holds := by k_head
end
def hdP : Params := by constructor <;> exact default
noncomputable def hdA : List Addr := (hd0.heap_1 hdP).map (·.1)
theorem hdE : ∀ P, hdA = (hd0.heap_1 P).map (·.1) := fun _ => by kernel_rfl
noncomputable abbrev hdH : Hook := kHook hd0.heap_1 hdA hdE
set_option maxRecDepth 100001 in
set_option maxHeartbeats 0 in
theorem hdRun (w : World) : HandSHeadRun.RunEq hdR hdQ hdH (fun s => hdA.map (HandSHeadRun.getT s)) 20000 hdN w := by
  intro os
  kernel_rfl
end Q23
namespace DL
open PySem L2
abbrev D := PyData
def KD : Key → D
  | .inl i => .int i
  | .inr x => .str x
mutual
/-- the value v is the datum d, in what stands at H -/
inductive At (K : PySem.W.Frag) (H : Hp) : V → D → Prop
  | non : At K H .non .none
  | bl (b : Bool) : At K H (.bl b) (.bool b)
  | int (i : Int) : At K H (.int i) (.int i)
  | str (x : Str) : At K H (.str x) (.str x)
  | lst {a : Addr} {xs : List V} {ds : List D} : SqL K H a xs → AtAll K H xs ds → At K H (.ref a) (.list ds)
  | tup {a : Addr} {xs : List V} {ds : List D} : SqT K H a xs → AtAll K H xs ds → At K H (.ref a) (.tuple ds)
  | dk {a : Addr} {ks : List Key} {xs : List V} {ds : List D} : Rd H a (.dK (ks.zip xs)) → ks ≠ [] → ks.length = xs.length → AtAll K H xs ds → At K H (.ref a) (.dict ((ks.map KD).zip ds))
  | dt {a : Addr} {ks : List (List Key)} {xs : List V} {ds : List D} : H a = some (.dT (ks.zip xs)) → ks.length = xs.length → AtAll K H xs ds → At K H (.ref a) (.dict ((ks.map fun k => PyData.tuple (k.map KD)).zip ds))
inductive AtAll (K : PySem.W.Frag) (H : Hp) : List V → List D → Prop
  | nil : AtAll K H [] []
  | cons {v : V} {vs : List V} {d : D} {ds : List D} : At K H v d → AtAll K H vs ds → AtAll K H (v :: vs) (d :: ds)
end
def Ex (G G' : Hp) : Prop := ∀ a o, G a = some o → G' a = some o
theorem Ex.refl (G : Hp) : Ex G G := fun _ _ h => h
theorem Ex.trans {G G1 G2 : Hp} (a : Ex G G1) (b : Ex G1 G2) : Ex G G2 := fun x o h => b x o (a x o h)
theorem Ex.new {G : Hp} {p : Addr} {o : HO} (h : G p = none) : Ex G (upd G p o) := fun a u e => by
  rw [upd_ne (ne_of_none e h)]
  exact e
theorem Ex.rd {H H' : Hp} {a : Addr} {u : HO} (e : Ex H H') (h : Rd H a u) : Rd H' a u := by
  rcases h with h | ⟨o, h⟩
  · exact Or.inl (e a _ h)
  · exact Or.inr ⟨o, e a _ h⟩
theorem Ex.sl {K : PySem.W.Frag} {H H' : Hp} {a : Addr} {xs : List V} (e : Ex H H') (h : SqL K H a xs) : SqL K H' a xs := by
  rcases h with h | h
  · exact Or.inl (e.rd h)
  · exact Or.inr h
theorem Ex.st {K : PySem.W.Frag} {H H' : Hp} {a : Addr} {xs : List V} (e : Ex H H') (h : SqT K H a xs) : SqT K H' a xs := by
  rcases h with h | h
  · exact Or.inl (e.rd h)
  · exact Or.inr h
theorem At.mono {K : PySem.W.Frag} {H H' : Hp} (e : Ex H H') {v : V} {d : D} (h : At K H v d) : At K H' v d := by
  refine At.rec (motive_1 := fun v d _ => At K H' v d) (motive_2 := fun vs ds _ => AtAll K H' vs ds) ?_ ?_ ?_ ?_ ?_ ?_ ?_ ?_ ?_ ?_ h
  · exact .non
  · exact fun b => .bl b
  · exact fun i => .int i
  · exact fun x => .str x
  · exact fun s _ i => .lst (e.sl s) i
  · exact fun s _ i => .tup (e.st s) i
  · exact fun s n l _ i => .dk (e.rd s) n l i
  · exact fun s l _ i => .dt (e _ _ s) l i
  · exact .nil
  · exact fun _ _ i j => .cons i j
theorem AtAll.mono {K : PySem.W.Frag} {H H' : Hp} (e : Ex H H') : ∀ {vs : List V} {ds : List D}, AtAll K H vs ds → AtAll K H' vs ds
  | _, _, .nil => .nil
  | _, _, .cons h t => .cons (h.mono e) (AtAll.mono e t)
section
variable {K : PySem.W.Frag} {H : Hp}
theorem AtAll.length : ∀ {vs : List V} {ds : List D}, AtAll K H vs ds → vs.length = ds.length
  | _, _, .nil => rfl
  | _, _, .cons _ t => congrArg (· + 1) t.length
theorem AtAll.append : ∀ {vs ws : List V} {ds es : List D}, AtAll K H vs ds → AtAll K H ws es → AtAll K H (vs ++ ws) (ds ++ es)
  | _, _, _, _, .nil, s => s
  | _, _, _, _, .cons r t, s => .cons r (t.append s)
theorem AtAll.take : ∀ {vs : List V} {ds : List D} (n : Nat), AtAll K H vs ds → AtAll K H (vs.take n) (ds.take n)
  | _, _, 0, _ => by simpa using AtAll.nil
  | _, _, _ + 1, .nil => .nil
  | _, _, n + 1, .cons r t => .cons r (t.take n)
theorem AtAll.drop : ∀ {vs : List V} {ds : List D} (n : Nat), AtAll K H vs ds → AtAll K H (vs.drop n) (ds.drop n)
  | _, _, 0, r => r
  | _, _, _ + 1, .nil => .nil
  | _, _, n + 1, .cons _ t => t.drop n
theorem AtAll.get : ∀ {vs : List V} {ds : List D} {i : Nat} {d : D}, AtAll K H vs ds → ds[i]? = some d → ∃ v, vs[i]? = some v ∧ At K H v d
  | _, _, _, _, .nil, e => (by simp at e)
  | _, _, 0, _, .cons r _, e => (by simp at e; subst e; exact ⟨_, rfl, r⟩)
  | _, _, i + 1, d, .cons _ t, e => by
    obtain ⟨v, h1, h2⟩ := t.get (i := i) (d := d) (by simpa using e)
    exact ⟨v, by simpa using h1, h2⟩
theorem AtAll.set {x : V} {d : D} (r : At K H x d) : ∀ {vs : List V} {ds : List D} (i : Nat), AtAll K H vs ds → AtAll K H (vs.set i x) (ds.set i d)
  | _, _, _, .nil => .nil
  | _, _, 0, .cons _ t => (.cons r t)
  | _, _, i + 1, .cons q t => .cons q (AtAll.set r i t)
theorem AtAll.reverse : ∀ {vs : List V} {ds : List D}, AtAll K H vs ds → AtAll K H vs.reverse ds.reverse
  | _, _, .nil => .nil
  | _, _, .cons r t => by
    (rw [List.reverse_cons, List.reverse_cons])
    exact t.reverse.append (.cons r .nil)
theorem AtAll.dropLast {vs : List V} {ds : List D} (h : AtAll K H vs ds) : AtAll K H vs.dropLast ds.dropLast := by
  rw [List.dropLast_eq_take, List.dropLast_eq_take, h.length]
  exact h.take _
theorem AtAll.ints : ∀ {vs : List V} {ns : List Int}, AtAll K H vs (ns.map PyData.int) → vs = ns.map V.int
  | _, [], .nil => rfl
  | _, n :: ns, .cons r t => by cases r; rw [t.ints]; rfl
theorem AtAll.bools : ∀ {vs : List V} {ns : List Bool}, AtAll K H vs (ns.map PyData.bool) → vs = ns.map V.bl
  | _, [], .nil => rfl
  | _, n :: ns, .cons r t => by cases r; rw [t.bools]; rfl
theorem AtAll.strs : ∀ {vs : List V} {ns : List Str}, AtAll K H vs (ns.map PyData.str) → vs = ns.map V.str
  | _, [], .nil => rfl
  | _, n :: ns, .cons r t => by cases r; rw [t.strs]; rfl
theorem AtAll.ofInts : ∀ (ns : List Int), AtAll K H (ns.map V.int) (ns.map PyData.int)
  | [] => .nil
  | n :: ns => .cons (.int n) (AtAll.ofInts ns)
end
mutual
def nod : D → Bool
  | .list xs => nodAll xs
  | .tuple xs => nodAll xs
  | .dict _ => false
  | _ => true
def nodAll : List D → Bool
  | [] => true
  | x :: xs => nod x && nodAll xs
end
theorem At.dp {K : PySem.W.Frag} {H : Hp} {v : V} {d : D} (h : At K H v d) : nod d = true → Dp K H v d := by
  refine At.rec (motive_1 := fun v d _ => nod d = true → Dp K H v d) (motive_2 := fun vs ds _ => nodAll ds = true → DpAll K H vs ds) ?_ ?_ ?_ ?_ ?_ ?_ ?_ ?_ ?_ ?_ h
  · exact fun _ => .non
  · exact fun b _ => .bl b
  · exact fun i _ => .int i
  · exact fun x _ => .str x
  · exact fun s _ i e => .lst s (i (by simpa [nod] using e))
  · exact fun s _ i e => .tup s (i (by simpa [nod] using e))
  · exact fun _ _ _ _ _ e => by simp [nod] at e
  · exact fun _ _ _ _ e => by simp [nod] at e
  · exact fun _ => .nil
  · exact fun _ _ i j e => by
      simp only [nodAll, Bool.and_eq_true] at e
      exact .cons (i e.1) (j e.2)
end DL
namespace DL
open PySem L2
def Foot : Option Addr → Hp → Addr → Prop
  | none, _, _ => False
  | some q, H, a => a = q ∨ ∃ kvs k, H q = some (.dK kvs) ∧ (k, V.ref a) ∈ kvs
theorem Foot.eqv {p : Option Addr} {H H' : Hp} (h : ∀ q, p = some q → H' q = H q) (a : Addr) : Foot p H' a ↔ Foot p H a := by
  cases p with
  | none => exact Iff.rfl
  | some q =>
    have e := h q rfl
    show (a = q ∨ ∃ kvs k, H' q = some (.dK kvs) ∧ (k, V.ref a) ∈ kvs) ↔ (a = q ∨ ∃ kvs k, H q = some (.dK kvs) ∧ (k, V.ref a) ∈ kvs)
    rw [e]
structure Orc where
  I : Addr → Hp → Prop
  cnt : Addr → Hp → Nat
  al : ∀ q H a, I q H → Foot (some q) H a → H a ≠ none
  st : ∀ q H H', I q H → (∀ a, Foot (some q) H a → H' a = H a) → I q H'
  sc : ∀ q H H', I q H → (∀ a, Foot (some q) H a → H' a = H a) → cnt q H' = cnt q H
/-- no source of numbers -/
def Orc.nil : Orc := ⟨fun _ _ => False, fun _ _ => 0, fun _ _ _ h => h.elim, fun _ _ _ h => h.elim, fun _ _ _ h => h.elim⟩
/-- from F0 (known to stay) and H0 (all) to F and H -/
structure World (R : Orc) (p : Option Addr) (F0 H0 F H : Hp) : Prop where
  ff : Ex F0 F
  fh : Ex F H
  kp : ∀ a o, H0 a = some o → ¬ Foot p H0 a → H a = some o ∧ ¬ Foot p H a
  dom : ∀ a, H0 a ≠ none → H a ≠ none
  fn : ∀ a, H0 a ≠ none → F0 a = none → F a = none
  ft : ∀ a, F a ≠ none → ¬ Foot p H a
  or : ∀ q, p = some q → R.I q H
theorem World.start {R : Orc} {p : Option Addr} {F H : Hp} (fh : Ex F H) (ft : ∀ a, F a ≠ none → ¬ Foot p H a) (or : ∀ q, p = some q → R.I q H) : World R p F H F H :=
  ⟨Ex.refl F, fh, fun _ _ h f => ⟨h, f⟩, fun _ h => h, fun _ _ h => h, ft, or⟩
theorem World.here {R : Orc} {p : Option Addr} {F0 H0 F H : Hp} (w : World R p F0 H0 F H) : World R p F H F H := World.start w.fh w.ft w.or
theorem World.trans {R : Orc} {p : Option Addr} {F0 H0 F H F' H' : Hp} (w : World R p F0 H0 F H) (v : World R p F H F' H') : World R p F0 H0 F' H' := by
  refine ⟨w.ff.trans v.ff, v.fh, fun a o h f => ?_, fun a h => v.dom a (w.dom a h), fun a h f => v.fn a (w.dom a h) (w.fn a h f), v.ft, v.or⟩
  obtain ⟨h1, f1⟩ := w.kp a o h f
  exact v.kp a o h1 f1
theorem World.ofNone {R : Orc} {p : Option Addr} {F0 H0 F H F' H' : Hp} (w : World R p F0 H0 F H) (v : World R none F H F' H') : World R p F H F' H' := by
  have all : ∀ a, H a ≠ none → H' a = H a := fun a h => by
    cases e : H a with
    | none => exact absurd e h
    | some o => exact (v.kp a o e (fun z => z)).1
  have al : ∀ a, Foot p H a → H a ≠ none := fun a h => by
    cases p with
    | none => exact h.elim
    | some q => exact R.al q H a (w.or q rfl) h
  have hq : ∀ q, p = some q → H' q = H q := fun q e => all q (al q (by subst e; exact .inl rfl))
  have ff : ∀ a, Foot p H' a ↔ Foot p H a := Foot.eqv hq
  refine ⟨v.ff, v.fh, fun a o h f => ⟨(v.kp a o h (fun z => z)).1, fun z => f ((ff a).mp z)⟩, v.dom, v.fn, fun a h z => ?_, fun q e => ?_⟩
  · have z' := (ff a).mp z
    cases e : F a with
    | some o => exact w.ft a (by rw [e]; exact Option.some_ne_none o) z'
    | none => exact h (v.fn a (al a z') e)
  · subst e
    exact R.st q H H' (w.or q rfl) fun a h => all a (al a h)
theorem World.foot_al {R : Orc} {p : Option Addr} {F0 H0 F H : Hp} (w : World R p F0 H0 F H) {a : Addr} (h : Foot p H a) : H a ≠ none := by
  cases p with
  | none => exact h.elim
  | some q => exact R.al q H a (w.or q rfl) h
/-- a new object that is known from then on -/
theorem World.newF {R : Orc} {p : Option Addr} {F0 H0 F H : Hp} (w : World R p F0 H0 F H) {q : Addr} (o : HO) (hq : H q = none) : World R none F H (upd F q o) (upd H q o) := by
  refine ⟨?_, ?_, ?_, ?_, ?_, fun _ _ z => z, fun _ e => nomatch e⟩
  · intro a u e
    have : a ≠ q := fun z => by
      have := w.fh a u e
      rw [z, hq] at this
      cases this
    rw [upd_ne this]
    exact e
  · intro a u e
    by_cases h : a = q
    · subst h
      rw [upd_same] at e ⊢
      exact e
    · rw [upd_ne h] at e ⊢
      exact w.fh a u e
  · exact fun a u e _ => ⟨Ex.new hq a u e, fun z => z⟩
  · intro a h
    by_cases e : a = q
    · subst e
      exact absurd hq h
    · rw [upd_ne e]
      exact h
  · intro a h e
    by_cases z : a = q
    · subst z
      exact absurd hq h
    · rw [upd_ne z]
      exact e
/-- a new object that may change -/
theorem World.newO {R : Orc} {p : Option Addr} {F0 H0 F H : Hp} (w : World R p F0 H0 F H) {q : Addr} (o : HO) (hq : H q = none) : World R none F H F (upd H q o) := by
  refine ⟨Ex.refl F, fun a u e => Ex.new hq a u (w.fh a u e), fun a u e _ => ⟨Ex.new hq a u e, fun z => z⟩, fun a h => ?_, fun _ _ e => e, fun _ _ z => z, fun _ e => nomatch e⟩
  by_cases e : a = q
  · subst e
    exact absurd hq h
  · rw [upd_ne e]
    exact h
inductive Sl where
  | no | im (d : D) | ow (d : D) | ora (n : Nat)
structure Cn where
  K : PySem.W.Frag
  R : Orc
  p : Option Addr
  F0 : Hp
  H0 : Hp
/-- an object on the side: a datum's, or just this one -/
inductive XO where
  | d (d : D) | o (o : HO)
instance : Coe D XO := ⟨XO.d⟩
abbrev XX := List (Addr × XO)
/-- a list or dict that nobody else holds -/
def OwnO (K : PySem.W.Frag) (F H : Hp) (a : Addr) : D → Prop
  | .list ds => ∃ vs, H a = some (.lst vs) ∧ AtAll K F vs ds
  | .dict kd => (∃ (ks : List Key) (vs : List V) (ds : List D), kd = (ks.map KD).zip ds ∧ ks ≠ [] ∧ ks.length = vs.length ∧ H a = some (.dK (ks.zip vs)) ∧ AtAll K F vs ds) ∨
      ∃ (ks : List (List Key)) (vs : List V) (ds : List D), kd = (ks.map fun k => PyData.tuple (k.map KD)).zip ds ∧ ks.length = vs.length ∧ H a = some (.dT (ks.zip vs)) ∧ AtAll K F vs ds
  | _ => False
def OwnO.mono {K : PySem.W.Frag} {F F' H H' : Hp} {a : Addr} (e : Ex F F') (h : H' a = H a) : ∀ {d : D}, OwnO K F H a d → OwnO K F' H' a d
  | .list ds, ⟨vs, h1, h2⟩ => ⟨vs, h.trans h1, h2.mono e⟩
  | .dict kd, .inl ⟨ks, vs, ds, h0, hn, hl, h1, h2⟩ => .inl ⟨ks, vs, ds, h0, hn, hl, h.trans h1, h2.mono e⟩
  | .dict kd, .inr ⟨ks, vs, ds, h0, hl, h1, h2⟩ => .inr ⟨ks, vs, ds, h0, hl, h.trans h1, h2.mono e⟩
theorem OwnO.at {K : PySem.W.Frag} {F H : Hp} {a : Addr} : ∀ {d : D}, OwnO K F H a d → ∃ o, H a = some o ∧ ∀ F', Ex F F' → F' a = some o → At K F' (.ref a) d
  | .list ds, ⟨vs, h1, h2⟩ => ⟨_, h1, fun F' e h => .lst (.inl (.inl h)) (h2.mono e)⟩
  | .dict kd, .inl ⟨ks, vs, ds, h0, hn, hl, h1, h2⟩ => ⟨_, h1, fun F' e h => by subst h0; exact .dk (.inl h) hn hl (h2.mono e)⟩
  | .dict kd, .inr ⟨ks, vs, ds, h0, hl, h1, h2⟩ => ⟨_, h1, fun F' e h => by subst h0; exact .dt h hl (h2.mono e)⟩
def OwnX (K : PySem.W.Frag) (F H : Hp) (a : Addr) : XO → Prop
  | .d d => OwnO K F H a d
  | .o o => H a = some o
theorem OwnX.mono {K : PySem.W.Frag} {F F' H H' : Hp} {a : Addr} (e : Ex F F') (h : H' a = H a) : ∀ {x : XO}, OwnX K F H a x → OwnX K F' H' a x
  | .d _, z => OwnO.mono e h z
  | .o _, z => h.trans z
theorem OwnX.some {K : PySem.W.Frag} {F H : Hp} {a : Addr} : ∀ {x : XO}, OwnX K F H a x → ∃ o, H a = some o
  | .d _, z => let ⟨o, h, _⟩ := OwnO.at z; ⟨o, h⟩
  | .o o, z => ⟨o, z⟩
theorem OwnX.at {K : PySem.W.Frag} {F H : Hp} {a : Addr} {d : D} (h : OwnX K F H a (.d d)) : ∃ o, H a = Option.some o ∧ ∀ F', Ex F F' → F' a = Option.some o → At K F' (.ref a) d := OwnO.at h
/-- as it stands at a, the address being younger than the entry -/
structure Own (c : Cn) (F H : Hp) (a : Addr) (d : XO) : Prop where
  o : OwnX c.K F H a d
  f : F a = none
  y : c.H0 a = none
  n : ¬ Foot c.p H a
structure Slots (c : Cn) (F H : Hp) (σ : L2.St) (ρ : List Sl) (xx : XX) : Prop where
  len : ρ.length = σ.length
  im : ∀ (i : Nat) (d : D), ρ[i]? = some (.im d) → ∃ v, σ[i]? = some (some v) ∧ At c.K F v d
  ow : ∀ (i : Nat) (d : D), ρ[i]? = some (.ow d) → ∃ a, σ[i]? = some (some (.ref a)) ∧ Own c F H a d
  dj : ∀ (i j : Nat) (d e : D) (a : Addr), ρ[i]? = some (.ow d) → ρ[j]? = some (.ow e) → σ[i]? = some (some (.ref a)) → σ[j]? = some (some (.ref a)) → i = j
  or : ∀ (i n : Nat), ρ[i]? = some (.ora n) → ∃ q, c.p = some q ∧ σ[i]? = some (some (.ref q)) ∧ c.R.cnt q H ≤ n
  ou : ∀ (i j m n : Nat), ρ[i]? = some (.ora m) → ρ[j]? = some (.ora n) → i = j
  ex : ∀ p ∈ xx, Own c F H p.1 p.2 ∧ ∀ (i : Nat) (e : D), ρ[i]? = some (.ow e) → σ[i]? ≠ some (some (.ref p.1))
  xd : (xx.map (·.1)).Nodup
structure Rel (c : Cn) (F H : Hp) (σ : L2.St) (ρ : List Sl) (xx : XX) : Prop where
  w : World c.R c.p c.F0 c.H0 F H
  s : Slots c F H σ ρ xx
theorem Own.step {c : Cn} {F H F' H' : Hp} {a : Addr} {d : XO} (h : Own c F H a d) (v : World c.R c.p F H F' H') : Own c F' H' a d := by
  obtain ⟨o, ho⟩ := h.o.some
  obtain ⟨h1, h2⟩ := v.kp a o ho h.n
  exact ⟨h.o.mono v.ff (h1.trans ho.symm), v.fn a (by rw [ho]; exact Option.some_ne_none o) h.f, h.y, h2⟩
theorem Slots.step {c : Cn} {F H F' H' : Hp} {σ : L2.St} {ρ : List Sl} {xx : XX} (s : Slots c F H σ ρ xx) (v : World c.R c.p F H F' H') (hq : ∀ q, c.p = some q → c.R.cnt q H' ≤ c.R.cnt q H) : Slots c F' H' σ ρ xx := by
  refine ⟨s.len, fun i d e => ?_, fun i d e => ?_, s.dj, fun i n e => ?_, s.ou, fun p hp => ⟨(s.ex p hp).1.step v, (s.ex p hp).2⟩, s.xd⟩
  · obtain ⟨u, h1, h2⟩ := s.im i d e
    exact ⟨u, h1, h2.mono v.ff⟩
  · obtain ⟨a, h1, h2⟩ := s.ow i d e
    exact ⟨a, h1, h2.step v⟩
  · obtain ⟨q, h1, h2, h3⟩ := s.or i n e
    exact ⟨q, h1, h2, Nat.le_trans (hq q h1) h3⟩
theorem Rel.step {c : Cn} {F H F' H' : Hp} {σ : L2.St} {ρ : List Sl} {xx : XX} (r : Rel c F H σ ρ xx) (v : World c.R c.p F H F' H') (hq : ∀ q, c.p = some q → c.R.cnt q H' ≤ c.R.cnt q H) : Rel c F' H' σ ρ xx := ⟨r.w.trans v, r.s.step v hq⟩
theorem Rel.stepN {c : Cn} {F H F' H' : Hp} {σ : L2.St} {ρ : List Sl} {xx : XX} (r : Rel c F H σ ρ xx) (v : World c.R none F H F' H') : Rel c F' H' σ ρ xx := r.step (r.w.ofNone v) fun q e => by
  refine Nat.le_of_eq (c.R.sc q H H' (r.w.or q e) fun a ha => ?_)
  have al := c.R.al q H a (r.w.or q e) ha
  cases z : H a with
  | none => exact absurd z al
  | some o => exact (v.kp a o z fun y => y).1
theorem ora_back {ρ : List Sl} {k : Nat} {x : Sl} (hx : ∀ m, x ≠ .ora m) {i m : Nat} (q : (ρ.set k x)[i]? = some (.ora m)) : ρ[i]? = some (.ora m) := by
  rw [List.getElem?_set] at q
  by_cases z : k = i
  · rw [if_pos z] at q
    split at q
    · exact absurd (Option.some.inj q) (hx m)
    · cases q
  · rw [if_neg z] at q
    exact q
theorem ou_set {ρ : List Sl} {k : Nat} {x : Sl} (hx : ∀ m, x ≠ .ora m) (h : ∀ (i j m n : Nat), ρ[i]? = some (.ora m) → ρ[j]? = some (.ora n) → i = j) : ∀ (i j m n : Nat), (ρ.set k x)[i]? = some (.ora m) → (ρ.set k x)[j]? = some (.ora n) → i = j :=
  fun i j m n a b => h i j m n (ora_back hx a) (ora_back hx b)
theorem Rel.apart {c : Cn} {F H : Hp} {σ : L2.St} {ρ : List Sl} {xx : XX} (r : Rel c F H σ ρ xx) {a : Addr} {o : HO} (n : ¬ Foot c.p H a) : ∀ (i n : Nat), ρ[i]? = some (.ora n) → ∃ q, c.p = some q ∧ σ[i]? = some (some (.ref q)) ∧ c.R.cnt q (upd H a o) ≤ n := by
  intro i m e
  obtain ⟨q, h1, h2, h3⟩ := r.s.or i m e
  refine ⟨q, h1, h2, ?_⟩
  rw [c.R.sc q H _ (r.w.or q h1) fun b hb => ?_]
  · exact h3
  · rw [upd_ne]
    intro z
    subst z
    exact n (by rw [h1]; exact hb)
/-- an own object becomes known -/
theorem Rel.freeze {c : Cn} {F H : Hp} {σ : L2.St} {ρ : List Sl} {xx : XX} (r : Rel c F H σ ρ xx) {i : Nat} {d : D} (e : ρ[i]? = some (.ow d)) :
    ∃ F' v, σ[i]? = some (some v) ∧ Ex F F' ∧ At c.K F' v d ∧ Rel c F' H σ (ρ.set i (.im d)) xx := by
  obtain ⟨a, h1, h2⟩ := r.s.ow i d e
  obtain ⟨o, ho, at_⟩ := h2.o.at
  have ef : Ex F (upd F a o) := Ex.new h2.f
  have hi : i < ρ.length := (List.getElem?_eq_some_iff.mp e).1
  refine ⟨upd F a o, .ref a, h1, ef, at_ _ ef upd_same, ⟨?_, ?_⟩⟩
  · refine ⟨r.w.ff.trans ef, fun b u q => ?_, r.w.kp, r.w.dom, fun b h f => ?_, fun b h => ?_, r.w.or⟩
    · by_cases z : b = a
      · subst z
        rw [upd_same] at q
        cases q
        exact ho
      · rw [upd_ne z] at q
        exact r.w.fh b u q
    · by_cases z : b = a
      · subst z
        exact absurd h2.y h
      · rw [upd_ne z]
        exact r.w.fn b h f
    · by_cases z : b = a
      · subst z
        exact h2.n
      · rw [upd_ne z] at h
        exact r.w.ft b h
  · refine ⟨by simpa using r.s.len, fun j x q => ?_, fun j x q => ?_, fun j k x y b q1 q2 s1 s2 => ?_, fun j n q => r.s.or j n (ora_back (by intro m z; cases z) q), ou_set (by intro m z; cases z) r.s.ou, fun p hp => ?_, r.s.xd⟩
    · rw [List.getElem?_set] at q
      by_cases z : i = j
      · subst z
        rw [if_pos rfl, if_pos hi] at q
        cases q
        exact ⟨.ref a, h1, at_ _ ef upd_same⟩
      · rw [if_neg z] at q
        obtain ⟨v, g1, g2⟩ := r.s.im j x q
        exact ⟨v, g1, g2.mono ef⟩
    · rw [List.getElem?_set] at q
      by_cases z : i = j
      · subst z
        rw [if_pos rfl, if_pos hi] at q
        cases q
      · rw [if_neg z] at q
        obtain ⟨b, g1, g2⟩ := r.s.ow j x q
        have hb : b ≠ a := fun zz => by
          subst zz
          exact z (r.s.dj i j d x b e q h1 g1)
        exact ⟨b, g1, ⟨g2.o.mono ef rfl, by rw [upd_ne hb]; exact g2.f, g2.y, g2.n⟩⟩
    · rw [List.getElem?_set] at q1 q2
      by_cases z : i = j
      · subst z
        rw [if_pos rfl, if_pos hi] at q1
        cases q1
      · rw [if_neg z] at q1
        by_cases z2 : i = k
        · subst z2
          rw [if_pos rfl, if_pos hi] at q2
          cases q2
        · rw [if_neg z2] at q2
          exact r.s.dj j k x y b q1 q2 s1 s2
    · obtain ⟨g2, gn⟩ := r.s.ex p hp
      have hb : p.1 ≠ a := fun zz => gn i d e (by rw [zz]; exact h1)
      refine ⟨⟨g2.o.mono ef rfl, by rw [upd_ne hb]; exact g2.f, g2.y, g2.n⟩, fun j x q => ?_⟩
      rw [List.getElem?_set] at q
      by_cases z : i = j
      · subst z
        rw [if_pos rfl, if_pos hi] at q
        cases q
      · rw [if_neg z] at q
        exact gn j x q
/-- an own object changes -/
theorem Rel.mut {c : Cn} {F H : Hp} {σ : L2.St} {ρ : List Sl} {xx : XX} (r : Rel c F H σ ρ xx) {i : Nat} {d d' : D} {a : Addr} {o : HO} (e : ρ[i]? = some (.ow d)) (h1 : σ[i]? = some (some (.ref a)))
    (hn : OwnO c.K F (upd H a o) a d') : Rel c F (upd H a o) σ (ρ.set i (.ow d')) xx := by
  obtain ⟨a', h1', h2⟩ := r.s.ow i d e
  rw [h1] at h1'
  cases h1'
  obtain ⟨o0, ho, _⟩ := h2.o.at
  have hi : i < ρ.length := (List.getElem?_eq_some_iff.mp e).1
  have hq : ∀ q, c.p = some q → upd H a o q = H q := fun q ep => by
    rw [upd_ne]
    intro z
    subst z
    exact h2.n (by rw [ep]; exact .inl rfl)
  have ff : ∀ b, Foot c.p (upd H a o) b ↔ Foot c.p H b := Foot.eqv hq
  refine ⟨⟨r.w.ff, fun b u q => ?_, fun b u q f => ?_, fun b h => ?_, r.w.fn, fun b h z => r.w.ft b h ((ff b).mp z), fun q ep => ?_⟩, ?_⟩
  · rw [upd_ne (fun z => by subst z; rw [h2.f] at q; cases q)]
    exact r.w.fh b u q
  · obtain ⟨g1, g2⟩ := r.w.kp b u q f
    refine ⟨?_, fun z => g2 ((ff b).mp z)⟩
    rw [upd_ne (fun z => by subst z; rw [h2.y] at q; cases q)]
    exact g1
  · by_cases z : b = a
    · subst z
      rw [upd_same]
      exact Option.some_ne_none o
    · rw [upd_ne z]
      exact r.w.dom b h
  · refine c.R.st q H _ (r.w.or q ep) fun b hb => ?_
    rw [upd_ne]
    intro z
    subst z
    exact h2.n (by rw [ep]; exact hb)
  · refine ⟨by simpa using r.s.len, fun j x q => ?_, fun j x q => ?_, fun j k x y b q1 q2 s1 s2 => ?_, fun j n q => r.apart h2.n j n (ora_back (by intro m z; cases z) q), ou_set (by intro m z; cases z) r.s.ou, fun p hp => ?_, r.s.xd⟩
    · rw [List.getElem?_set] at q
      by_cases z : i = j
      · subst z
        rw [if_pos rfl, if_pos hi] at q
        cases q
      · rw [if_neg z] at q
        exact r.s.im j x q
    · rw [List.getElem?_set] at q
      by_cases z : i = j
      · subst z
        rw [if_pos rfl, if_pos hi] at q
        cases q
        exact ⟨a, h1, ⟨hn, h2.f, h2.y, fun z => h2.n ((ff a).mp z)⟩⟩
      · rw [if_neg z] at q
        obtain ⟨b, g1, g2⟩ := r.s.ow j x q
        have hb : b ≠ a := fun zz => by
          subst zz
          exact z (r.s.dj i j d x b e q h1 g1)
        exact ⟨b, g1, ⟨g2.o.mono (Ex.refl F) (upd_ne hb), g2.f, g2.y, fun z => g2.n ((ff b).mp z)⟩⟩
    · have back : ∀ (k : Nat) (y : D), (ρ.set i (.ow d'))[k]? = some (.ow y) → ∃ y', ρ[k]? = some (.ow y') := fun k y q => by
        rw [List.getElem?_set] at q
        by_cases z : i = k
        · subst z
          exact ⟨d, e⟩
        · rw [if_neg z] at q
          exact ⟨y, q⟩
      obtain ⟨x', q1'⟩ := back j x q1
      obtain ⟨y', q2'⟩ := back k y q2
      exact r.s.dj j k x' y' b q1' q2' s1 s2
    · obtain ⟨g2, gn⟩ := r.s.ex p hp
      have hb : p.1 ≠ a := fun zz => gn i d e (by rw [zz]; exact h1)
      refine ⟨⟨g2.o.mono (Ex.refl F) (upd_ne hb), g2.f, g2.y, fun z => g2.n ((ff p.1).mp z)⟩, fun j x q => ?_⟩
      rw [List.getElem?_set] at q
      by_cases z : i = j
      · subst z
        exact gn i d e
      · rw [if_neg z] at q
        exact gn j x q
/-- a new object, held by nobody -/
structure Fresh (c : Cn) (F H : Hp) (σ : L2.St) (ρ : List Sl) (xx : XX) (a : Addr) (d : XO) : Prop where
  own : Own c F H a d
  ne : ∀ (i : Nat) (e : D), ρ[i]? = some (.ow e) → σ[i]? ≠ some (some (.ref a))
  nx : ∀ p ∈ xx, p.1 ≠ a
theorem set_lt {α : Type} {ρ : List α} {i j : Nat} {x y : α} (h : (ρ.set i x)[j]? = some y) : (i = j ∧ i < ρ.length ∧ x = y) ∨ (i ≠ j ∧ ρ[j]? = some y) := by
  rw [List.getElem?_set] at h
  by_cases z : i = j
  · rw [if_pos z] at h
    by_cases hl : i < ρ.length
    · rw [if_pos hl] at h
      exact .inl ⟨z, hl, Option.some.inj h⟩
    · rw [if_neg hl] at h
      cases h
  · rw [if_neg z] at h
    exact .inr ⟨z, h⟩
theorem get_set_ne {α : Type} {ρ : List α} {i j : Nat} {x : α} (h : i ≠ j) : (ρ.set i x)[j]? = ρ[j]? := by rw [List.getElem?_set, if_neg h]
theorem get_set_eq {α : Type} {ρ : List α} {i : Nat} {x : α} (h : i < ρ.length) : (ρ.set i x)[i]? = some x := by rw [List.getElem?_set, if_pos rfl, if_pos h]
theorem Slots.put {c : Cn} {F H : Hp} {σ : L2.St} {ρ : List Sl} {xx : XX} (s : Slots c F H σ ρ xx) {v : V} {x : Sl} (i : Nat)
    (him : ∀ d, x = .im d → At c.K F v d) (how : ∀ d, x = .ow d → ∃ a, v = .ref a ∧ Fresh c F H σ ρ xx a d) (hor : ∀ n, x ≠ .ora n) : Slots c F H (σ.set i (some v)) (ρ.set i x) xx := by
  refine ⟨by simpa using s.len, fun j d q => ?_, fun j d q => ?_, fun j k d e b q1 q2 s1 s2 => ?_, fun j n q => ?_, ou_set hor s.ou, fun p hp => ⟨(s.ex p hp).1, fun j d q => ?_⟩, s.xd⟩
  · rcases set_lt q with ⟨rfl, hl, e⟩ | ⟨z, q⟩
    · exact ⟨v, get_set_eq (by rw [← s.len]; exact hl), him d e⟩
    · obtain ⟨u, g1, g2⟩ := s.im j d q
      exact ⟨u, by rw [get_set_ne z]; exact g1, g2⟩
  · rcases set_lt q with ⟨rfl, hl, e⟩ | ⟨z, q⟩
    · obtain ⟨a, ev, fr⟩ := how d e
      subst ev
      exact ⟨a, get_set_eq (by rw [← s.len]; exact hl), fr.own⟩
    · obtain ⟨u, g1, g2⟩ := s.ow j d q
      exact ⟨u, by rw [get_set_ne z]; exact g1, g2⟩
  · rcases set_lt q1 with ⟨rfl, hl, e1⟩ | ⟨z, q1⟩
    · rcases set_lt q2 with ⟨rfl, _, _⟩ | ⟨z2, q2⟩
      · rfl
      · exfalso
        obtain ⟨a, ev, fr⟩ := how d e1
        rw [get_set_eq (by rw [← s.len]; exact hl)] at s1
        rw [get_set_ne z2] at s2
        cases s1
        cases ev
        exact fr.ne k e q2 s2
    · rcases set_lt q2 with ⟨rfl, hl, e2⟩ | ⟨z2, q2⟩
      · exfalso
        obtain ⟨a, ev, fr⟩ := how e e2
        rw [get_set_eq (by rw [← s.len]; exact hl)] at s2
        rw [get_set_ne z] at s1
        cases s2
        cases ev
        exact fr.ne j d q1 s1
      · rw [get_set_ne z] at s1
        rw [get_set_ne z2] at s2
        exact s.dj j k d e b q1 q2 s1 s2
  · rcases set_lt q with ⟨rfl, hl, e⟩ | ⟨z, q⟩
    · exact absurd e (hor n)
    · obtain ⟨u, g1, g2, g3⟩ := s.or j n q
      exact ⟨u, g1, by rw [get_set_ne z]; exact g2, g3⟩
  · rcases set_lt q with ⟨rfl, hl, e⟩ | ⟨z, q⟩
    · obtain ⟨a, ev, fr⟩ := how d e
      subst ev
      rw [get_set_eq (by rw [← s.len]; exact hl)]
      intro zz
      cases zz
      exact fr.nx p hp rfl
    · rw [get_set_ne z]
      exact (s.ex p hp).2 j d q
theorem Rel.putI {c : Cn} {F H : Hp} {σ : L2.St} {ρ : List Sl} {xx : XX} (r : Rel c F H σ ρ xx) {v : V} {d : D} (i : Nat) (h : At c.K F v d) : Rel c F H (σ.set i (some v)) (ρ.set i (.im d)) xx :=
  ⟨r.w, r.s.put i (fun _ e => by cases e; exact h) (fun _ e => by cases e) (by intro m z; cases z)⟩
theorem Rel.putO {c : Cn} {F H : Hp} {σ : L2.St} {ρ : List Sl} {xx : XX} (r : Rel c F H σ ρ xx) {a : Addr} {d : D} (i : Nat) (h : Fresh c F H σ ρ xx a d) : Rel c F H (σ.set i (some (.ref a))) (ρ.set i (.ow d)) xx :=
  ⟨r.w, r.s.put i (fun _ e => by cases e) (fun _ e => by cases e; exact ⟨a, rfl, h⟩) (by intro m z; cases z)⟩
/-- what an own slot holds becomes known, as a value -/
theorem Fresh.freeze {c : Cn} {F H : Hp} {σ : L2.St} {ρ : List Sl} {xx : XX} {a : Addr} {d : D} (r : Rel c F H σ ρ xx) (h : Fresh c F H σ ρ xx a d) : ∃ F', Ex F F' ∧ At c.K F' (.ref a) d ∧ Rel c F' H σ ρ xx := by
  obtain ⟨o, ho, at_⟩ := h.own.o.at
  have ef : Ex F (upd F a o) := Ex.new h.own.f
  refine ⟨upd F a o, ef, at_ _ ef upd_same, ⟨⟨r.w.ff.trans ef, fun b u q => ?_, r.w.kp, r.w.dom, fun b g f => ?_, fun b g => ?_, r.w.or⟩, ⟨r.s.len, fun j x q => ?_, fun j x q => ?_, r.s.dj, r.s.or, r.s.ou, fun p hp => ?_, r.s.xd⟩⟩⟩
  · by_cases z : b = a
    · subst z
      rw [upd_same] at q
      cases q
      exact ho
    · rw [upd_ne z] at q
      exact r.w.fh b u q
  · by_cases z : b = a
    · subst z
      exact absurd h.own.y g
    · rw [upd_ne z]
      exact r.w.fn b g f
  · by_cases z : b = a
    · subst z
      exact h.own.n
    · rw [upd_ne z] at g
      exact r.w.ft b g
  · obtain ⟨v, g1, g2⟩ := r.s.im j x q
    exact ⟨v, g1, g2.mono ef⟩
  · obtain ⟨b, g1, g2⟩ := r.s.ow j x q
    have hb : b ≠ a := fun zz => by
      subst zz
      exact h.ne j x q g1
    exact ⟨b, g1, ⟨g2.o.mono ef rfl, by rw [upd_ne hb]; exact g2.f, g2.y, g2.n⟩⟩
  · obtain ⟨g2, gn⟩ := r.s.ex p hp
    exact ⟨⟨g2.o.mono ef rfl, by rw [upd_ne (h.nx p hp)]; exact g2.f, g2.y, g2.n⟩, gn⟩
theorem Fresh.new {c : Cn} {F H : Hp} {σ : L2.St} {ρ : List Sl} {xx : XX} (r : Rel c F H σ ρ xx) {q : Addr} {o : HO} {d : XO} (hq : H q = none) (h : OwnX c.K F (upd H q o) q d) :
    Rel c F (upd H q o) σ ρ xx ∧ Fresh c F (upd H q o) σ ρ xx q d := by
  have w := r.w.newO o hq
  refine ⟨r.stepN w, ⟨⟨h, ?_, ?_, fun z => ?_⟩, fun i e q1 q2 => ?_, fun p hp z => ?_⟩⟩
  · cases e : F q with
    | none => rfl
    | some u =>
      have := r.w.fh q u e
      rw [hq] at this
      cases this
  · cases e : c.H0 q with
    | none => rfl
    | some u => exact absurd hq (r.w.dom q (by rw [e]; exact Option.some_ne_none u))
  · have e : ∀ u, c.p = some u → upd H q o u = H u := fun u ep => by
      rw [upd_ne]
      intro zz
      subst zz
      exact r.w.foot_al (a := u) (by rw [ep]; exact .inl rfl) hq
    exact r.w.foot_al ((Foot.eqv e q).mp z) hq
  · obtain ⟨a, g1, g2⟩ := r.s.ow i e q1
    rw [q2] at g1
    cases g1
    obtain ⟨u, hu⟩ := g2.o.some
    rw [hq] at hu
    cases hu
  · obtain ⟨u, hu⟩ := (r.s.ex p hp).1.o.some
    rw [z, hq] at hu
    cases hu
/-- one more object on the side, and off again -/
theorem Rel.pushX {c : Cn} {F H : Hp} {σ : L2.St} {ρ : List Sl} {xx : XX} {a : Addr} {d : XO} (r : Rel c F H σ ρ xx) (h : Fresh c F H σ ρ xx a d) : Rel c F H σ ρ ((a, d) :: xx) := by
  refine ⟨r.w, ⟨r.s.len, r.s.im, r.s.ow, r.s.dj, r.s.or, r.s.ou, fun p hp => ?_, ?_⟩⟩
  · (rcases List.mem_cons.mp hp with rfl | hp)
    · exact ⟨h.own, h.ne⟩
    · exact r.s.ex p hp
  · rw [List.map_cons, List.nodup_cons]
    refine ⟨fun z => ?_, r.s.xd⟩
    obtain ⟨p, hp, e⟩ := List.mem_map.mp z
    exact h.nx p hp e
theorem Rel.popX {c : Cn} {F H : Hp} {σ : L2.St} {ρ : List Sl} {xx : XX} {a : Addr} {d : XO} (r : Rel c F H σ ρ ((a, d) :: xx)) : Rel c F H σ ρ xx ∧ Fresh c F H σ ρ xx a d := by
  have hx := r.s.xd
  rw [List.map_cons, List.nodup_cons] at hx
  have h0 := r.s.ex (a, d) (List.mem_cons_self ..)
  exact ⟨⟨r.w, ⟨r.s.len, r.s.im, r.s.ow, r.s.dj, r.s.or, r.s.ou, fun p hp => r.s.ex p (List.mem_cons_of_mem _ hp), hx.2⟩⟩, ⟨h0.1, h0.2, fun p hp e => hx.1 (List.mem_map.mpr ⟨p, hp, e⟩)⟩⟩
theorem Rel.mutX {c : Cn} {F H : Hp} {σ : L2.St} {ρ : List Sl} {xx : XX} {a : Addr} {d d' : XO} {o : HO} (r : Rel c F H σ ρ ((a, d) :: xx)) (hn : OwnX c.K F (upd H a o) a d') : Rel c F (upd H a o) σ ρ ((a, d') :: xx) := by
  obtain ⟨r0, h2⟩ := r.popX
  have hq : ∀ q, c.p = some q → upd H a o q = H q := fun q ep => by
    rw [upd_ne]
    intro z
    subst z
    exact h2.own.n (by rw [ep]; exact .inl rfl)
  have ff : ∀ b, Foot c.p (upd H a o) b ↔ Foot c.p H b := Foot.eqv hq
  have r1 : Rel c F (upd H a o) σ ρ xx := by
    refine ⟨⟨r0.w.ff, fun b u q => ?_, fun b u q f => ?_, fun b h => ?_, r0.w.fn, fun b h z => r0.w.ft b h ((ff b).mp z), fun q ep => ?_⟩, ⟨r0.s.len, r0.s.im, fun i x q => ?_, r0.s.dj, r0.apart h2.own.n, r0.s.ou, fun p hp => ?_, r0.s.xd⟩⟩
    · rw [upd_ne (fun z => by subst z; rw [h2.own.f] at q; cases q)]
      exact r0.w.fh b u q
    · obtain ⟨g1, g2⟩ := r0.w.kp b u q f
      refine ⟨?_, fun z => g2 ((ff b).mp z)⟩
      rw [upd_ne (fun z => by subst z; rw [h2.own.y] at q; cases q)]
      exact g1
    · by_cases z : b = a
      · subst z
        rw [upd_same]
        exact Option.some_ne_none o
      · rw [upd_ne z]
        exact r0.w.dom b h
    · refine c.R.st q H _ (r0.w.or q ep) fun b hb => ?_
      rw [upd_ne]
      intro z
      subst z
      exact h2.own.n (by rw [ep]; exact hb)
    · obtain ⟨b, g1, g2⟩ := r0.s.ow i x q
      have hb : b ≠ a := fun zz => by
        subst zz
        exact h2.ne i x q g1
      exact ⟨b, g1, ⟨g2.o.mono (Ex.refl F) (upd_ne hb), g2.f, g2.y, fun z => g2.n ((ff b).mp z)⟩⟩
    · obtain ⟨g2, gn⟩ := r0.s.ex p hp
      exact ⟨⟨g2.o.mono (Ex.refl F) (upd_ne (h2.nx p hp)), g2.f, g2.y, fun z => g2.n ((ff p.1).mp z)⟩, gn⟩
  exact r1.pushX ⟨⟨hn, h2.own.f, h2.own.y, fun z => h2.own.n ((ff a).mp z)⟩, h2.ne, h2.nx⟩
theorem Rel.newF {c : Cn} {F H : Hp} {σ : L2.St} {ρ : List Sl} {xx : XX} (r : Rel c F H σ ρ xx) {q : Addr} (o : HO) (hq : H q = none) : Rel c (upd F q o) (upd H q o) σ ρ xx := r.stepN (r.w.newF o hq)
theorem Rel.efF {c : Cn} {F H : Hp} {σ : L2.St} {ρ : List Sl} {xx : XX} (r : Rel c F H σ ρ xx) {q : Addr} (o : HO) (hq : H q = none) : Ex F (upd F q o) := (r.w.newF o hq).ff
end DL
namespace DL
open PySem L2
/-- the count of a source behind a call of a def that draws -/
theorem Rel.drew {c : Cn} {F H F' H' : Hp} {σ : L2.St} {ρ : List Sl} {xx : XX} (r : Rel c F H σ ρ xx) (v : World c.R c.p F H F' H') {i m n : Nat} (e : ρ[i]? = some (.ora m)) (hn : ∀ q, c.p = some q → c.R.cnt q H' ≤ n) : Rel c F' H' σ (ρ.set i (.ora n)) xx := by
  have nr : ∀ {j : Nat} {x : Sl}, (ρ.set i (.ora n))[j]? = some x → (∀ k, x ≠ .ora k) → ρ[j]? = some x := by
    intro j x q hx
    rcases set_lt q with ⟨_, _, z⟩ | ⟨_, q⟩
    · exact absurd z.symm (hx n)
    · exact q
  refine ⟨r.w.trans v, ⟨by simpa using r.s.len, fun j d q => ?_, fun j d q => ?_, fun j k d e' b q1 q2 => ?_, fun j k q => ?_, fun j k a b q1 q2 => ?_, fun p hp => ⟨(r.s.ex p hp).1.step v, fun j d q => (r.s.ex p hp).2 j d (nr q fun _ z => by cases z)⟩, r.s.xd⟩⟩
  · obtain ⟨u, h1, h2⟩ := r.s.im j d (nr q fun _ z => by cases z)
    exact ⟨u, h1, h2.mono v.ff⟩
  · obtain ⟨a, h1, h2⟩ := r.s.ow j d (nr q fun _ z => by cases z)
    exact ⟨a, h1, h2.step v⟩
  · exact r.s.dj j k d e' b (nr q1 fun _ z => by cases z) (nr q2 fun _ z => by cases z)
  · rcases set_lt q with ⟨z, _, y⟩ | ⟨z, q⟩
    · subst z
      cases y
      obtain ⟨p, h1, h2, _⟩ := r.s.or i m e
      exact ⟨p, h1, h2, hn p h1⟩
    · exact absurd (r.s.ou i j m k e q) z
  · have one : ∀ {j a : Nat}, (ρ.set i (.ora n))[j]? = some (.ora a) → i = j := by
      intro j a q
      rcases set_lt q with ⟨z, _, _⟩ | ⟨_, q⟩
      · exact z
      · exact r.s.ou i j m a e q
    exact (one q1).symm.trans (one q2)
end DL
namespace DL
open PySem L2
abbrev Env := List Sl
abbrev DM := Env → (D → Env → Prop) → Prop
abbrev BM := Env → (Bool → Env → Prop) → Prop
inductive Ar where
  | d (x : D) | ora
abbrev LM := Env → (List D → Env → Prop) → Prop
abbrev AM := Env → (List Ar → Env → Prop) → Prop
/-- a value, or what stands in a slot by the time it is wanted -/
inductive Hd where
  | val (d : D) | slot (i : Nat)
abbrev HM := Env → (Hd → Env → Prop) → Prop
def see (ρ : Env) (h : Hd) (k : D → Prop) : Prop := match h with
  | .val d => k d
  | .slot i => match ρ[i]? with
    | some (.im d) => k d
    | some (.ow d) => k d
    | _ => False
def HdAt (c : Cn) (F : Hp) (σ : L2.St) : Hd → V → Prop
  | .val d, v => At c.K F v d
  | .slot i, v => σ[i]? = some (some v)
def tD (c : Cn) (f : DM) : TE := fun σ H Q => ∃ F ρ xx P, Rel c F H σ ρ xx ∧ f ρ P ∧ ∀ d ρ' v F' H', P d ρ' → Ex F F' → Rel c F' H' σ ρ' xx → At c.K F' v d → Q v H'
/-- a new object, held by nobody -/
def tN (c : Cn) (f : DM) : TE := fun σ H Q => ∃ F ρ xx P, Rel c F H σ ρ xx ∧ f ρ P ∧ ∀ d ρ' a F' H', P d ρ' → Ex F F' → Rel c F' H' σ ρ' xx → Fresh c F' H' σ ρ' xx a d → Q (.ref a) H'
def tH (c : Cn) (f : HM) : TE := fun σ H Q => ∃ F ρ xx P, Rel c F H σ ρ xx ∧ f ρ P ∧ ∀ d ρ' v F' H', P d ρ' → Ex F F' → Rel c F' H' σ ρ' xx → HdAt c F' σ d v → Q v H'
def tT (c : Cn) (f : BM) : TT := fun σ H Q => ∃ F ρ xx P, Rel c F H σ ρ xx ∧ f ρ P ∧ ∀ b ρ' F' H', P b ρ' → Ex F F' → Rel c F' H' σ ρ' xx → Q b H'
def tL (c : Cn) (f : LM) : TA := fun σ H Q => ∃ F ρ xx P, Rel c F H σ ρ xx ∧ f ρ P ∧ ∀ ds ρ' vs F' H', P ds ρ' → Ex F F' → Rel c F' H' σ ρ' xx → AtAll c.K F' vs ds → Q vs H'
def ArAt (c : Cn) (F : Hp) : V → Ar → Prop
  | v, .d x => At c.K F v x
  | v, .ora => ∃ q, c.p = some q ∧ v = .ref q
def tAr (c : Cn) (f : AM) : TA := fun σ H Q => ∃ F ρ xx P, Rel c F H σ ρ xx ∧ f ρ P ∧ ∀ ds ρ' vs F' H', P ds ρ' → Ex F F' → Rel c F' H' σ ρ' xx → Paired (ArAt c F') vs ds → Q vs H'
theorem PE.to {X : Cx} {e : Expr} {t t' : TE} (h : PE X e t) (w : ∀ σ H Q, t' σ H Q → t σ H Q) : PE X e t' := ⟨fun pins s σ H Q I q => h.run pins s σ H Q I (w σ H Q q)⟩
theorem PT.to {X : Cx} {e : Expr} {t t' : TT} (h : PT X e t) (w : ∀ σ H Q, t' σ H Q → t σ H Q) : PT X e t' := ⟨fun pins s σ H Q I q => h.run pins s σ H Q I (w σ H Q q)⟩
theorem PA.to {X : Cx} {e : List Expr} {t t' : TA} (h : PA X e t) (w : ∀ σ H Q, t' σ H Q → t σ H Q) : PA X e t' := ⟨fun pos pins s σ H Q I q => h.run pos pins s σ H Q I (w σ H Q q)⟩
/-- what is to be read of a value: known, or the own object of a slot -/
def Bo (c : Cn) (F H : Hp) (v : V) (d : D) : Prop := At c.K F v d ∨ ∃ a, v = .ref a ∧ OwnO c.K F H a d
theorem Bo.at {c : Cn} {F H : Hp} {v : V} {d : D} (e : Ex F H) (h : Bo c F H v d) : At c.K H v d := by
  rcases h with h | ⟨a, rfl, h⟩
  · exact h.mono e
  · obtain ⟨o, ho, k⟩ := h.at
    exact k H e ho
theorem see_bo {c : Cn} {F H : Hp} {σ : L2.St} {ρ : Env} {xx : XX} (r : Rel c F H σ ρ xx) {h : Hd} {v : V} (hv : HdAt c F σ h v) {k : D → Prop} (hs : see ρ h k) : ∃ d, Bo c F H v d ∧ k d := by
  cases h with
  | val d => exact ⟨d, .inl hv, hs⟩
  | slot i =>
    unfold see at hs
    have hv' : σ[i]? = some (some v) := hv
    simp only at hs
    split at hs
    · rename_i d e
      obtain ⟨u, g1, g2⟩ := r.s.im i d e
      rw [hv'] at g1
      cases g1
      exact ⟨d, .inl g2, hs⟩
    · rename_i d e
      obtain ⟨u, g1, g2⟩ := r.s.ow i d e
      rw [hv'] at g1
      cases g1
      exact ⟨d, .inr ⟨u, rfl, g2.o⟩, hs⟩
    · exact hs.elim
theorem HdAt.mono {c : Cn} {F F' : Hp} (e : Ex F F') {σ : L2.St} {h : Hd} {v : V} (x : HdAt c F σ h v) : HdAt c F' σ h v := by
  cases h with
  | val d => exact At.mono e x
  | slot i => exact x
section
variable {X : Cx} {c : Cn} {e a b : Expr} {pos : Pos}
def dC (d : D) : DM := fun ρ P => P d ρ
theorem de_c {t : V} {d : D} (h : PE X e (tC t)) (hd : ∀ F, At c.K F t d) : PE X e (tD c (dC d)) := PE.to h fun σ H Q ⟨F, ρ, xx, P, r, q, k⟩ => k d ρ t F H q (Ex.refl F) r (hd F)
theorem de_int {i : Int} {j : Nat} : PE X (.Constant (.int i) j pos) (tD c (dC (.int i))) := de_c pe_int fun _ => .int i
theorem de_bl {i : Bool} {j : Nat} : PE X (.Constant (.bool i) j pos) (tD c (dC (.bool i))) := de_c pe_bl fun _ => .bl i
theorem de_non {j : Nat} : PE X (.Constant .none j pos) (tD c (dC .none)) := de_c pe_non fun _ => .non
theorem de_str {x : Str} {j : Nat} : PE X (.Constant (.str x) j pos) (tD c (dC (.str x))) := de_c pe_str fun _ => .str x
/-- a name of the module that holds a number, a text -/
theorem de_gint {x : Str} {i : Int} (hg : Gl X x) (hm : ∃ t, X.mg x = some (.int i t)) (hd : (x == ("__debug__" : Str)) = false := by decide) : PE X (.Name x pos) (tD c (dC (.int i))) := by
  obtain ⟨t, hm⟩ := hm
  exact de_c (pe_glob (v := .int i) hg hm ⟨t, rfl⟩ hd) fun _ => .int i
/-- a name of the module that holds a tuple of the top -/
theorem de_gref {x : Str} {u : Addr} {d : D} (hg : Gl X x) (hm : X.mg x = some (.ref u)) (ha : ∀ F, At c.K F (.ref u) d) (hd : (x == ("__debug__" : Str)) = false := by decide) : PE X (.Name x pos) (tD c (dC d)) :=
  de_c (pe_glob (v := .ref u) hg hm rfl hd) ha
/-- the slot's value, which is known from then on -/
def dV (i : Nat) : DM := fun ρ P => match ρ[i]? with
  | some (.im d) => P d ρ
  | some (.ow d) => P d (ρ.set i (.im d))
  | _ => False
theorem de_v {i : Nat} (h : PE X e (tVar i)) : PE X e (tD c (dV i)) := PE.to h fun σ H Q ⟨F, ρ, xx, P, r, q, k⟩ => by
  unfold dV at q
  split at q
  · rename_i d e
    obtain ⟨v, g1, g2⟩ := r.s.im i d e
    exact ⟨v, g1, k d ρ v F H q (Ex.refl F) r g2⟩
  · rename_i d e
    obtain ⟨F', v, g1, g2, g3, g4⟩ := r.freeze e
    exact ⟨v, g1, k d _ v F' H q g2 g4 g3⟩
  · exact q.elim
def hS (i : Nat) : HM := fun ρ P => (match ρ[i]? with
  | some (.im _) => True
  | some (.ow _) => True
  | _ => False) ∧ P (.slot i) ρ
theorem dh_v {i : Nat} (h : PE X e (tVar i)) : PE X e (tH c (hS i)) := PE.to h fun σ H Q ⟨F, ρ, xx, P, r, ⟨q0, q⟩, k⟩ => by
  split at q0
  · rename_i d e
    obtain ⟨v, g1, g2⟩ := r.s.im i d e
    exact ⟨v, g1, k _ ρ v F H q (Ex.refl F) r g1⟩
  · rename_i d e
    obtain ⟨v, g1, g2⟩ := r.s.ow i d e
    exact ⟨.ref v, g1, k _ ρ _ F H q (Ex.refl F) r g1⟩
  · exact q0.elim
def hV (f : DM) : HM := fun ρ P => f ρ fun d ρ' => P (.val d) ρ'
theorem dh_of {f : DM} (h : PE X e (tD c f)) : PE X e (tH c (hV f)) := PE.to h fun σ H Q ⟨F, ρ, xx, P, r, q, k⟩ => ⟨F, ρ, xx, _, r, q, fun d ρ' v F' H' p e r' at_ => k (.val d) ρ' v F' H' p e r' at_⟩
theorem de_n {f : DM} (h : PE X e (tN c f)) : PE X e (tD c f) := PE.to h fun σ H Q ⟨F, ρ, xx, P, r, q, k⟩ => ⟨F, ρ, xx, P, r, q, fun d ρ' a F' H' p e r' fr => by
  obtain ⟨F2, e2, at_, r2⟩ := fr.freeze r'
  exact k d ρ' (.ref a) F2 H' p (e.trans e2) r2 at_⟩
abbrev G2 := D → D → (D → Prop) → Prop
/-- f does on values what g tells of data -/
def Sem2 (X : Cx) (c : Cn) (f : Value → Value → Sem Value) (g : G2) : Prop := ∃ r : R2, OpR X f r ∧ ∀ (F H : Hp) (σ : L2.St) (ρ : Env) (xx : XX) (x y : D) (vx vy : V) (P : D → Prop) (Q : VK), Rel c F H σ ρ xx → Bo c F H vx x → Bo c F H vy y → g x y P →
  (∀ z v F' H', P z → Ex F F' → Rel c F' H' σ ρ xx → At c.K F' v z → Q v H') → r vx vy H Q
def d2 (g : G2) (fa fb : HM) : DM := fun ρ P => fa ρ fun x ρ1 => fb ρ1 fun y ρ2 => see ρ2 x fun dx => see ρ2 y fun dy => g dx dy fun z => P z ρ2
theorem d2_use {r : R2} {g : G2} {fa fb : HM} {ta tb : TE} (hr : ∀ (F H : Hp) (σ : L2.St) (ρ : Env) (xx : XX) (x y : D) (vx vy : V) (P : D → Prop) (Q : VK), Rel c F H σ ρ xx → Bo c F H vx x → Bo c F H vy y → g x y P →
    (∀ z v F' H', P z → Ex F F' → Rel c F' H' σ ρ xx → At c.K F' v z → Q v H') → r vx vy H Q) (ea : ta = tH c fa) (eb : tb = tH c fb) : ∀ σ H Q, tD c (d2 g fa fb) σ H Q → tOp r ta tb σ H Q := by
  rintro σ H Q ⟨F, ρ, xx, P, rel, q, k⟩
  subst ea eb
  refine ⟨F, ρ, xx, _, rel, q, fun x ρ1 v F1 H1 q1 e1 r1 h1 => ?_⟩
  refine ⟨F1, ρ1, xx, _, r1, q1, fun y ρ2 u F2 H2 q2 e2 r2 h2 => ?_⟩
  obtain ⟨dx, bx, q2⟩ := see_bo r2 (h1.mono e2) q2
  obtain ⟨dy, by_, q2⟩ := see_bo r2 h2 q2
  exact hr F2 H2 σ ρ2 xx dx dy v u _ Q r2 bx by_ q2 fun z w F' H' pz ez rz az => k z ρ2 w F' H' pz ((e1.trans e2).trans ez) rz az
theorem de_bin {op : Operator} {g : G2} {fa fb : HM} (hs : Sem2 X c (binaryOp op) g) (ha : PE X a (tH c fa)) (hb : PE X b (tH c fb)) : PE X (.BinOp a op b pos) (tD c (d2 g fa fb)) := by
  obtain ⟨r, ho, hr⟩ := hs
  exact PE.to (pe_op ho ha hb) (d2_use hr rfl rfl)
theorem de_cmp {op : CmpOp} {g : G2} {fa fb : HM} (hs : Sem2 X c (compareOp op) g) (ha : PE X a (tH c fa)) (hb : PE X b (tH c fb)) (hm : behindInMarks op b = false) : PE X (.Compare a [op] [b] pos) (tD c (d2 g fa fb)) := by
  obtain ⟨r, ho, hr⟩ := hs
  exact PE.to (pe_cmpR ho ha hb hm) (d2_use hr rfl rfl)
/-- a test: what is a bool -/
def bD (f : DM) : BM := fun ρ P => f ρ fun d ρ' => match d with
  | .bool b => P b ρ'
  | _ => False
theorem bD_use {f : DM} {t : TE} (et : t = tD c f) : ∀ σ H Q, tT c (bD f) σ H Q → (t σ H fun x H' => ∃ k, x = .bl k ∧ Q k H') := by
  rintro σ H Q ⟨F, ρ, xx, P, rel, q, k⟩
  subst et
  refine ⟨F, ρ, xx, _, rel, q, fun d ρ' v F' H' p e r at_ => ?_⟩
  cases d <;> first | exact p.elim | (cases at_; exact ⟨_, rfl, k _ ρ' F' H' p e r⟩)
theorem dt_cmp {op : CmpOp} {g : G2} {fa fb : HM} (hs : Sem2 X c (compareOp op) g) (ha : PE X a (tH c fa)) (hb : PE X b (tH c fb)) (hm : behindInMarks op b = false) : PT X (.Compare a [op] [b] pos) (tT c (bD (d2 g fa fb))) := by
  obtain ⟨r, ho, hr⟩ := hs
  refine PT.to (pt_cmpR ho ha hb hm) fun σ H Q h => d2_use hr rfl rfl σ H _ ?_
  exact bD_use rfl σ H Q h
/-- a < b < e -/
def dChain (g g' : G2) (fa fb fc : HM) : DM := fun ρ P => fa ρ fun x ρ1 => fb ρ1 fun y ρ2 => see ρ2 x fun dx => see ρ2 y fun dy => g dx dy fun z => match z with
  | .bool true => fc ρ2 fun w ρ3 => see ρ3 y fun dy' => see ρ3 w fun dw => g' dy' dw fun z' => P z' ρ3
  | .bool false => P (.bool false) ρ2
  | _ => False
theorem dChain_use {r r' : R2} {g g' : G2} {fa fb fc : HM} {ta tb tc : TE} (hr : ∀ (F H : Hp) (σ : L2.St) (ρ : Env) (xx : XX) (x y : D) (vx vy : V) (P : D → Prop) (Q : VK), Rel c F H σ ρ xx → Bo c F H vx x → Bo c F H vy y → g x y P →
    (∀ z v F' H', P z → Ex F F' → Rel c F' H' σ ρ xx → At c.K F' v z → Q v H') → r vx vy H Q)
    (hr' : ∀ (F H : Hp) (σ : L2.St) (ρ : Env) (xx : XX) (x y : D) (vx vy : V) (P : D → Prop) (Q : VK), Rel c F H σ ρ xx → Bo c F H vx x → Bo c F H vy y → g' x y P →
    (∀ z v F' H', P z → Ex F F' → Rel c F' H' σ ρ xx → At c.K F' v z → Q v H') → r' vx vy H Q) (ea : ta = tH c fa) (eb : tb = tH c fb) (ec : tc = tH c fc) : ∀ σ H Q, tD c (dChain g g' fa fb fc) σ H Q → tChain r r' ta tb tc σ H Q := by
  rintro σ H Q ⟨F, ρ, xx, P, rel, q, k⟩
  subst ea eb ec
  refine ⟨F, ρ, xx, _, rel, q, fun x ρ1 v F1 H1 q1 e1 r1 h1 => ?_⟩
  refine ⟨F1, ρ1, xx, _, r1, q1, fun y ρ2 u F2 H2 q2 e2 r2 h2 => ?_⟩
  obtain ⟨dx, bx, q2⟩ := see_bo r2 (h1.mono e2) q2
  obtain ⟨dy, by_, q2⟩ := see_bo r2 h2 q2
  refine hr F2 H2 σ ρ2 xx dx dy v u _ _ r2 bx by_ q2 fun z w F' H' pz ez rz az => ?_
  split at pz
  · cases az
    refine ⟨true, rfl, ?_⟩
    rw [if_pos rfl]
    refine ⟨F', ρ2, xx, _, rz, pz, fun t ρ3 s F3 H3 q3 e3 r3 h3 => ?_⟩
    obtain ⟨dy', by', q3⟩ := see_bo r3 (h2.mono (ez.trans e3)) q3
    obtain ⟨dw, bw, q3⟩ := see_bo r3 h3 q3
    exact hr' F3 H3 σ ρ3 xx dy' dw u s _ Q r3 by' bw q3 fun z' w' F4 H4 p4 e4 r4 a4 => k z' ρ3 w' F4 H4 p4 ((((e1.trans e2).trans ez).trans e3).trans e4) r4 a4
  · cases az
    refine ⟨false, rfl, ?_⟩
    (rw [if_neg Bool.false_ne_true])
    exact k _ ρ2 _ F' H' pz ((e1.trans e2).trans ez) rz (.bl false)
  · exact pz.elim
theorem de_chain {e3 : Expr} {op op' : CmpOp} {g g' : G2} {fa fb fc : HM} (hs : Sem2 X c (compareOp op) g) (hs' : Sem2 X c (compareOp op') g') (ha : PE X a (tH c fa)) (hb : PE X b (tH c fb)) (hc : PE X e3 (tH c fc)) (hm : lastMarks [op, op'] [b, e3] = false) :
    PE X (.Compare a [op, op'] [b, e3] pos) (tD c (dChain g g' fa fb fc)) := by
  obtain ⟨r, ho, hr⟩ := hs
  obtain ⟨r', ho', hr'⟩ := hs'
  exact PE.to (pe_chain ho ho' ha hb hc hm) (dChain_use hr hr' rfl rfl rfl)
theorem dt_chain {e3 : Expr} {op op' : CmpOp} {g g' : G2} {fa fb fc : HM} (hs : Sem2 X c (compareOp op) g) (hs' : Sem2 X c (compareOp op') g') (ha : PE X a (tH c fa)) (hb : PE X b (tH c fb)) (hc : PE X e3 (tH c fc)) (hm : lastMarks [op, op'] [b, e3] = false) :
    PT X (.Compare a [op, op'] [b, e3] pos) (tT c (bD (dChain g g' fa fb fc))) := by
  obtain ⟨r, ho, hr⟩ := hs
  obtain ⟨r', ho', hr'⟩ := hs'
  refine PT.to (pt_chain ho ho' ha hb hc hm) fun σ H Q h => dChain_use hr hr' rfl rfl rfl σ H _ (bD_use rfl σ H Q h)
def bAnd (f g : BM) : BM := fun ρ P => f ρ fun b ρ1 => if b = true then g ρ1 P else P false ρ1
def bOr (f g : BM) : BM := fun ρ P => f ρ fun b ρ1 => if b = true then P true ρ1 else g ρ1 P
def bNot (f : BM) : BM := fun ρ P => f ρ fun b ρ1 => P (!b) ρ1
variable {rest : List Expr}
theorem dw_and {f g : BM} (ha : PT X a (tT c f)) (hb : PW X (.BoolOp .And (b :: rest) pos) (tT c g)) : PW X (.BoolOp .And (a :: b :: rest) pos) (tT c (bAnd f g)) := by
  have h := pw_and ha hb
  refine ⟨fun wh pins s σ H Q I q => h.run wh pins s σ H Q I ?_⟩
  obtain ⟨F, ρ, xx, P, rel, q, k⟩ := q
  refine ⟨F, ρ, xx, _, rel, q, fun t ρ1 F1 H1 q1 e1 r1 => ?_⟩
  cases t with
  | true => exact ⟨F1, ρ1, xx, P, r1, q1, fun t' ρ2 F2 H2 q2 e2 r2 => k t' ρ2 F2 H2 q2 (e1.trans e2) r2⟩
  | false => exact k false ρ1 F1 H1 q1 e1 r1
theorem dw_or {f g : BM} (ha : PT X a (tT c f)) (hb : PW X (.BoolOp .Or (b :: rest) pos) (tT c g)) : PW X (.BoolOp .Or (a :: b :: rest) pos) (tT c (bOr f g)) := by
  have h := pw_or ha hb
  refine ⟨fun wh pins s σ H Q I q => h.run wh pins s σ H Q I ?_⟩
  obtain ⟨F, ρ, xx, P, rel, q, k⟩ := q
  refine ⟨F, ρ, xx, _, rel, q, fun t ρ1 F1 H1 q1 e1 r1 => ?_⟩
  cases t with
  | true => exact k true ρ1 F1 H1 q1 e1 r1
  | false => exact ⟨F1, ρ1, xx, P, r1, q1, fun t' ρ2 F2 H2 q2 e2 r2 => k t' ρ2 F2 H2 q2 (e1.trans e2) r2⟩
theorem dt_not {f : BM} (ha : PT X a (tT c f)) : PT X (.UnaryOp .Not a pos) (tT c (bNot f)) :=
  PT.to (pt_not ha) fun σ H Q ⟨F, ρ, xx, P, rel, q, k⟩ => ⟨F, ρ, xx, _, rel, q, fun t ρ1 F1 H1 q1 e1 r1 => k _ ρ1 F1 H1 q1 e1 r1⟩
/-- the same as values, of bools -/
def dAnd (f g : DM) : DM := fun ρ P => f ρ fun d ρ1 => match d with
  | .bool true => g ρ1 P
  | .bool false => P (.bool false) ρ1
  | _ => False
def dOr (f g : DM) : DM := fun ρ P => f ρ fun d ρ1 => match d with
  | .bool true => P (.bool true) ρ1
  | .bool false => g ρ1 P
  | _ => False
def dNot (f : DM) : DM := fun ρ P => f ρ fun d ρ1 => match d with
  | .bool b => P (.bool (!b)) ρ1
  | _ => False
theorem de_and {f g : DM} (ha : PE X a (tD c f)) (hb : PE X (.BoolOp .And (b :: rest) pos) (tD c g)) : PE X (.BoolOp .And (a :: b :: rest) pos) (tD c (dAnd f g)) :=
  PE.to (pe_and ha hb) fun σ H Q ⟨F, ρ, xx, P, rel, q, k⟩ => ⟨F, ρ, xx, _, rel, q, fun d ρ1 v F1 H1 q1 e1 r1 a1 => by
    split at q1
    · cases a1
      exact ⟨true, rfl, F1, ρ1, xx, P, r1, q1, fun t' ρ2 v2 F2 H2 q2 e2 r2 a2 => k t' ρ2 v2 F2 H2 q2 (e1.trans e2) r2 a2⟩
    · cases a1
      exact ⟨false, rfl, k _ ρ1 _ F1 H1 q1 e1 r1 (.bl false)⟩
    · exact q1.elim⟩
theorem de_or {f g : DM} (ha : PE X a (tD c f)) (hb : PE X (.BoolOp .Or (b :: rest) pos) (tD c g)) : PE X (.BoolOp .Or (a :: b :: rest) pos) (tD c (dOr f g)) :=
  PE.to (pe_or ha hb) fun σ H Q ⟨F, ρ, xx, P, rel, q, k⟩ => ⟨F, ρ, xx, _, rel, q, fun d ρ1 v F1 H1 q1 e1 r1 a1 => by
    split at q1
    · cases a1
      exact ⟨true, rfl, k _ ρ1 _ F1 H1 q1 e1 r1 (.bl true)⟩
    · cases a1
      exact ⟨false, rfl, F1, ρ1, xx, P, r1, q1, fun t' ρ2 v2 F2 H2 q2 e2 r2 a2 => k t' ρ2 v2 F2 H2 q2 (e1.trans e2) r2 a2⟩
    · exact q1.elim⟩
theorem de_not {f : DM} (ha : PE X a (tD c f)) : PE X (.UnaryOp .Not a pos) (tD c (dNot f)) :=
  PE.to (pe_not ha) fun σ H Q ⟨F, ρ, xx, P, rel, q, k⟩ => ⟨F, ρ, xx, _, rel, q, fun d ρ1 v F1 H1 q1 e1 r1 a1 => by
    cases d <;> first | exact q1.elim | (cases a1; exact ⟨_, rfl, k _ ρ1 _ F1 H1 q1 e1 r1 (.bl _)⟩)⟩
def dIf (t : BM) (f g : DM) : DM := fun ρ P => t ρ fun b ρ1 => if b = true then f ρ1 P else g ρ1 P
theorem de_if {e3 : Expr} {t : BM} {f g : DM} (hc : PT X e3 (tT c t)) (ha : PE X a (tD c f)) (hb : PE X b (tD c g)) : PE X (.IfExp e3 a b pos) (tD c (dIf t f g)) :=
  PE.to (pe_ifExp hc ha hb) fun σ H Q ⟨F, ρ, xx, P, rel, q, k⟩ => ⟨F, ρ, xx, _, rel, q, fun d ρ1 F1 H1 q1 e1 r1 => by
    cases d with
    | true => exact ⟨F1, ρ1, xx, P, r1, q1, fun t' ρ2 v2 F2 H2 q2 e2 r2 a2 => k t' ρ2 v2 F2 H2 q2 (e1.trans e2) r2 a2⟩
    | false => exact ⟨F1, ρ1, xx, P, r1, q1, fun t' ρ2 v2 F2 H2 q2 e2 r2 a2 => k t' ρ2 v2 F2 H2 q2 (e1.trans e2) r2 a2⟩⟩
/-- by truth -/
def truD : D → Bool
  | .none => false
  | .bool b => b
  | .int i => i != 0
  | .str x => x.length != 0
  | .list xs => !xs.isEmpty
  | .tuple xs => !xs.isEmpty
  | .dict xs => !xs.isEmpty
def lNil : LM := fun ρ P => P [] ρ
def lCons (f : DM) (g : LM) : LM := fun ρ P => f ρ fun d ρ1 => g ρ1 fun ds ρ2 => P (d :: ds) ρ2
theorem dl_nil : PA X [] (tL c lNil) := PA.to pa_nil fun σ H Q ⟨F, ρ, xx, P, rel, q, k⟩ => k [] ρ [] F H q (Ex.refl F) rel .nil
theorem dl_cons {es : List Expr} {f : DM} {g : LM} (ha : PE X e (tD c f)) (hr : PA X es (tL c g)) (hs : starEach (e :: es) X.env = (false, eval e X.env) :: starEach es X.env := by rfl) : PA X (e :: es) (tL c (lCons f g)) :=
  PA.to (pa_cons ha hr hs) fun σ H Q ⟨F, ρ, xx, P, rel, q, k⟩ => ⟨F, ρ, xx, _, rel, q, fun d ρ1 v F1 H1 q1 e1 r1 a1 => ⟨F1, ρ1, xx, _, r1, q1, fun ds ρ2 vs F2 H2 q2 e2 r2 a2 =>
    k (d :: ds) ρ2 (v :: vs) F2 H2 q2 (e1.trans e2) r2 (.cons (a1.mono e2) a2)⟩⟩
def dTup (f : LM) : DM := fun ρ P => f ρ fun ds ρ1 => ds.length ≤ 1000000 ∧ P (.tuple ds) ρ1
def dLst (f : LM) : DM := fun ρ P => f ρ fun ds ρ1 => ds.length ≤ 1000000 ∧ P (.list ds) ρ1
theorem sz {n : Nat} (h : n ≤ 1000000) : n ≤ sizeLine := Nat.le_trans h (by rw [sizeLine_eq]; decide)
theorem szl {n : Nat} (h : n ≤ 1000000) : n < sizeLine := Nat.lt_of_le_of_lt h (by rw [sizeLine_eq]; decide)
theorem de_tup {es : List Expr} {x1 : Nat} {f : LM} (h : PA X es (tL c f)) : PE X (.Tuple es x1 pos) (tD c (dTup f)) :=
  PE.to (pe_tup h) fun σ H Q ⟨F, ρ, xx, P, rel, q, k⟩ => ⟨F, ρ, xx, _, rel, q, fun ds ρ1 vs F1 H1 q1 e1 r1 a1 => ⟨sz (by rw [a1.length]; exact q1.1), fun p hp => by
    have e2 := r1.efF (.tup vs) hp
    exact k _ ρ1 _ _ _ q1.2 (e1.trans e2) (r1.newF _ hp) (.tup (.inl (.inl upd_same)) (a1.mono e2))⟩⟩
theorem dn_lst {es : List Expr} {f : LM} (h : PA X es (tL c f)) : PE X (.List es pos) (tN c (dLst f)) :=
  PE.to (pe_lst h) fun σ H Q ⟨F, ρ, xx, P, rel, q, k⟩ => ⟨F, ρ, xx, _, rel, q, fun ds ρ1 vs F1 H1 q1 e1 r1 a1 => ⟨sz (by rw [a1.length]; exact q1.1), fun p hp => by
    obtain ⟨r2, fr⟩ := Fresh.new (o := .lst vs) (d := .d <| .list ds) r1 hp ⟨vs, upd_same, a1⟩
    exact k _ ρ1 _ _ _ q1.2 e1 r2 fr⟩⟩
/-- arguments of a call of an own def: the source of numbers may be among them -/
def aNil : AM := fun ρ P => P [] ρ
def aCons (f : DM) (g : AM) : AM := fun ρ P => f ρ fun d ρ1 => g ρ1 fun ds ρ2 => P (.d d :: ds) ρ2
def aOra (i : Nat) (g : AM) : AM := fun ρ P => (match ρ[i]? with
  | some (.ora _) => True
  | _ => False) ∧ g ρ fun ds ρ2 => P (.ora :: ds) ρ2
theorem ArAt.mono {F F' : Hp} (e : Ex F F') {v : V} {x : Ar} (h : ArAt c F v x) : ArAt c F' v x := by
  cases x with
  | d x => exact At.mono e h
  | ora => exact h
theorem da_nil : PA X [] (tAr c aNil) := PA.to pa_nil fun σ H Q ⟨F, ρ, xx, P, rel, q, k⟩ => k [] ρ [] F H q (Ex.refl F) rel .nil
theorem da_cons {es : List Expr} {f : DM} {g : AM} (ha : PE X e (tD c f)) (hr : PA X es (tAr c g)) (hs : starEach (e :: es) X.env = (false, eval e X.env) :: starEach es X.env := by rfl) : PA X (e :: es) (tAr c (aCons f g)) :=
  PA.to (pa_cons ha hr hs) fun σ H Q ⟨F, ρ, xx, P, rel, q, k⟩ => ⟨F, ρ, xx, _, rel, q, fun d ρ1 v F1 H1 q1 e1 r1 a1 => ⟨F1, ρ1, xx, _, r1, q1, fun ds ρ2 vs F2 H2 q2 e2 r2 a2 =>
    k (.d d :: ds) ρ2 (v :: vs) F2 H2 q2 (e1.trans e2) r2 (.cons (show ArAt c F2 v (.d d) from a1.mono e2) a2)⟩⟩
theorem da_ora {es : List Expr} {i : Nat} {g : AM} (ha : PE X e (tVar i)) (hr : PA X es (tAr c g)) (hs : starEach (e :: es) X.env = (false, eval e X.env) :: starEach es X.env := by rfl) : PA X (e :: es) (tAr c (aOra i g)) :=
  PA.to (pa_cons ha hr hs) fun σ H Q ⟨F, ρ, xx, P, rel, ⟨q0, q⟩, k⟩ => by
    split at q0
    · rename_i e0
      obtain ⟨p, h1, h2, _⟩ := rel.s.or i _ e0
      exact ⟨.ref p, h2, F, ρ, xx, _, rel, q, fun ds ρ2 vs F2 H2 q2 e2 r2 a2 => k (.ora :: ds) ρ2 (.ref p :: vs) F2 H2 q2 e2 r2 (.cons (show ArAt c F2 (.ref p) .ora from ⟨p, h1, rfl⟩) a2)⟩
    · exact q0.elim
end
end DL
namespace DL
open PySem L2
open PyProof.Rows in
theorem op_catLL {X : Cx} : OpR X (binaryOp .Add) (fun x y H Q => ∃ l b xs zs, x = .ref l ∧ y = .ref b ∧ SqL X.K H l xs ∧ SqL X.K H b zs ∧ xs.length + zs.length ≤ sizeLine ∧ ∀ p, H p = none → Q (.ref p) (upd H p (.lst (xs ++ zs)))) := by
  (intro pins s σ H x y v u Q I rx ry h)
  (obtain ⟨l, b, xs, zs, rfl, rfl, hH, hB, hz, q⟩ := h)
  cases rx
  cases ry
  obtain ⟨its, r, pl, _⟩ := I.list hH
  obtain ⟨its2, r2, pl2, _⟩ := I.list hB
  obtain ⟨⟨cls, dd, data, sl⟩, n, ho, hc, hd0, hd⟩ := id pl
  obtain ⟨⟨cls2, dd2, data2, sl2⟩, n2, ho2, hc2, hd02, hd2⟩ := id pl2
  simp only at hc hd hc2 hd2 hd0 hd02
  subst hc hd hc2 hd2
  have e : its.toArray ++ its2.toArray = (its ++ its2).toArray := by simp
  have h1 := r.length
  have h2 := r2.length
  refine concat_meets ⟨_, ho, rfl⟩ ⟨_, ho2, rfl⟩ noFill_list_add seq_list_add PySem.F.slot_list_add PySem.F.entry_list_add (PySem.F.args_list_add_2 _ _) (list_addW l b its.toArray its2.toArray n n2 dd dd2 sl sl2 (by simp only [List.size_toArray]; omega)) ⟨ho, ho2, ?_⟩
  rw [e]
  (exact ⟨.ref _, _, I.lnew (t' := s.toks) (r.append r2) (by rw [List.length_append]; omega), rfl, q _ I.fresh⟩)
open PyProof.Rows in
theorem op_repA {X : Cx} : OpR X (binaryOp .Mult) (fun x y H Q => ∃ l k xs, x = .ref l ∧ y = .int k ∧ SqL X.K H l xs ∧ -(2 ^ 63) ≤ k ∧ k < 2 ^ 63 ∧ xs.length * k.toNat ≤ sizeLine ∧
    ∀ p, H p = none → Q (.ref p) (upd H p (.lst (List.replicate k.toNat xs).flatten))) := by
  (intro pins s σ H x y v u Q I rx ry h)
  (obtain ⟨l, k, xs, rfl, rfl, hH, h1, h2, hz, q⟩ := h)
  cases rx
  obtain ⟨t, rfl⟩ := ry
  obtain ⟨its, r, pl, _⟩ := I.list hH
  obtain ⟨⟨cls, dd, data, sl⟩, n, ho, hc, hd0, hd⟩ := id pl
  simp only at hc hd hd0
  subst hc hd
  have hl := r.length
  have hsz' : its.toArray.size * k.toNat ≤ 2 ^ 24 := by rw [List.size_toArray, ← hl]; rw [sizeLine_eq] at hz; omega
  refine wpAny_binaryOp_repeat_ref (T := "list") (U := "int") (by decide) ⟨_, ho, rfl⟩ (fun s' => typeIs_int s' k t) noFill_list_mul F.fills_int_mul F.slot_int_rmul repeat_list F.slot_int_index.lookup
    (call_meets F.slot_int_rmul (typeIs_int s k t) F.entry_int_rmul (F.args_int_rmul_2 _ _) (lm_int_rmul_list_any k t l its.toArray n dd sl)
      ⟨ho, rfl, ⟨_, ho, rfl⟩,
        call_meets F.slot_list_mul ⟨_, ho, rfl⟩ F.entry_list_mul (F.args_list_mul_2 _ _)
        (lm_list_mul_any l its.toArray n dd sl k t (by simp [Builtin.List.listFitsIndex]; omega) (by omega) (by simp [Builtin.List.listTooLong, sizeLine]; omega))
        ⟨ho, ?_⟩⟩)
  rw [listMul_foldl_if]
  (exact ⟨.ref _, _, I.lnew (t' := s.toks) (r.rep k.toNat) (by rw [PyProof.Rows.lm_len_rep_flat, Nat.mul_comm]; exact hz), rfl, q _ I.fresh⟩)
section
variable {c : Cn} {F H : Hp} {v : V}
theorem bo_int {i : Int} (h : Bo c F H v (.int i)) : v = .int i := by
  rcases h with h | ⟨a, _, h⟩
  · cases h; rfl
  · exact h.elim
theorem bo_bl {i : Bool} (h : Bo c F H v (.bool i)) : v = .bl i := by
  rcases h with h | ⟨a, _, h⟩
  · cases h; rfl
  · exact h.elim
theorem bo_str {i : Str} (h : Bo c F H v (.str i)) : v = .str i := by
  rcases h with h | ⟨a, _, h⟩
  · cases h; rfl
  · exact h.elim
theorem bo_non (h : Bo c F H v .none) : v = .non := by
  rcases h with h | ⟨a, _, h⟩
  · cases h; rfl
  · exact h.elim
theorem bo_lst {ds : List D} (e : Ex F H) (h : Bo c F H v (.list ds)) : ∃ a xs, v = .ref a ∧ SqL c.K H a xs ∧ AtAll c.K F xs ds := by
  rcases h with h | ⟨a, rfl, vs, h1, h2⟩
  · cases h with
    | lst s t => exact ⟨_, _, rfl, e.sl s, t⟩
  · exact ⟨a, vs, rfl, SqL.of h1, h2⟩
theorem bo_tup {ds : List D} (e : Ex F H) (h : Bo c F H v (.tuple ds)) : ∃ a xs, v = .ref a ∧ SqT c.K F a xs ∧ SqT c.K H a xs ∧ AtAll c.K F xs ds := by
  rcases h with h | ⟨a, rfl, h⟩
  · cases h with
    | tup s t => exact ⟨_, _, rfl, s, e.st s, t⟩
  · exact h.elim
end
def gAdd : G2 := fun x y P => match x, y with
  | .int i, .int j => P (.int (i + j))
  | .str a, .str b => a.length + b.length ≤ 1000000 ∧ P (.str (a ++ b))
  | .list xs, .list ys => xs.length + ys.length ≤ 1000000 ∧ P (.list (xs ++ ys))
  | .tuple xs, .tuple ys => xs.length + ys.length ≤ 1000000 ∧ P (.tuple (xs ++ ys))
  | _, _ => False
def gSub : G2 := fun x y P => match x, y with
  | .int i, .int j => P (.int (i - j))
  | _, _ => False
def gMul : G2 := fun x y P => match x, y with
  | .int i, .int j => ((-(2 ^ 64) < i ∧ i < 2 ^ 64) ∨ (-(2 ^ 64) < j ∧ j < 2 ^ 64)) ∧ P (.int (i * j))
  | .list xs, .int k => (-(2 ^ 63) ≤ k ∧ k < 2 ^ 63) ∧ xs.length * k.toNat ≤ 1000000 ∧ P (.list (List.replicate k.toNat xs).flatten)
  | _, _ => False
def gPow : G2 := fun x y P => match x, y with
  | .int i, .int j => (0 ≤ j ∧ j ≤ 1000000 ∧ i.natAbs < 2 ^ 64) ∧ P (.int (i ^ j.toNat))
  | _, _ => False
theorem AtAll.nil_iff {K : PySem.W.Frag} {H : Hp} {vs : List V} {ds : List D} (h : AtAll K H vs ds) : vs = [] ↔ ds = [] := by cases h <;> simp
section
variable {X : Cx} {c : Cn}
theorem sem_add (hK : X.K = c.K) : Sem2 X c (binaryOp .Add) gAdd := by
  refine ⟨_, (op_add.or op_add_str).or (op_catLL.or L2.op_catA), fun F H σ ρ xx x y vx vy P Q r bx by_ g k => ?_⟩
  have e := r.w.fh
  unfold gAdd at g
  split at g
  · cases bo_int bx; cases bo_int by_
    exact .inl (.inl ⟨_, _, rfl, rfl, k _ _ F H g (Ex.refl F) r (.int _)⟩)
  · cases bo_str bx; cases bo_str by_
    exact .inl (.inr ⟨_, _, rfl, rfl, sz g.1, k _ _ F H g.2 (Ex.refl F) r (.str _)⟩)
  · obtain ⟨a, xs, rfl, s1, t1⟩ := bo_lst e bx
    obtain ⟨b, ys, rfl, s2, t2⟩ := bo_lst e by_
    refine .inr (.inl ⟨a, b, xs, ys, rfl, rfl, by rw [hK]; exact s1, by rw [hK]; exact s2, sz (by rw [t1.length, t2.length]; exact g.1), fun p hp => ?_⟩)
    have e2 := r.efF (.lst (xs ++ ys)) hp
    exact k _ _ _ _ g.2 e2 (r.newF _ hp) (.lst (.inl (.inl upd_same)) ((t1.append t2).mono e2))
  · obtain ⟨a, xs, rfl, f1, s1, t1⟩ := bo_tup e bx
    obtain ⟨b, ys, rfl, f2, s2, t2⟩ := bo_tup e by_
    refine .inr (.inr ⟨a, b, xs, ys, rfl, rfl, by rw [hK]; exact s1, by rw [hK]; exact s2, sz (by rw [t1.length, t2.length]; exact g.1), fun z => ?_, fun _ z => ?_, fun _ _ p hp => ?_⟩)
    · refine k _ _ F H g.2 (Ex.refl F) r ?_
      rw [t1.nil_iff.mp z, List.nil_append]
      exact .tup f2 t2
    · refine k _ _ F H g.2 (Ex.refl F) r ?_
      rw [t2.nil_iff.mp z, List.append_nil]
      exact .tup f1 t1
    · have e2 := r.efF (.tup (xs ++ ys)) hp
      exact k _ _ _ _ g.2 e2 (r.newF _ hp) (.tup (.inl (.inl upd_same)) ((t1.append t2).mono e2))
  · exact g.elim
theorem sem_sub : Sem2 X c (binaryOp .Sub) gSub := by
  refine ⟨_, op_sub, fun F H σ ρ xx x y vx vy P Q r bx by_ g k => ?_⟩
  unfold gSub at g
  split at g
  · cases bo_int bx; cases bo_int by_
    exact ⟨_, _, rfl, rfl, k _ _ F H g (Ex.refl F) r (.int _)⟩
  · exact g.elim
theorem AtAll.rep {K : PySem.W.Frag} {H : Hp} {vs : List V} {ds : List D} (h : AtAll K H vs ds) : ∀ n : Nat, AtAll K H (List.replicate n vs).flatten (List.replicate n ds).flatten
  | 0 => .nil
  | n + 1 => by
    (rw [List.replicate_succ, List.replicate_succ, List.flatten_cons, List.flatten_cons])
    exact h.append (AtAll.rep h n)
theorem sem_mul (hK : X.K = c.K) : Sem2 X c (binaryOp .Mult) gMul := by
  refine ⟨_, op_mul.or op_repA, fun F H σ ρ xx x y vx vy P Q r bx by_ g k => ?_⟩
  have e := r.w.fh
  unfold gMul at g
  split at g
  · cases bo_int bx; cases bo_int by_
    exact .inl ⟨_, _, rfl, rfl, g.1, k _ _ F H g.2 (Ex.refl F) r (.int _)⟩
  · obtain ⟨a, xs, rfl, s1, t1⟩ := bo_lst e bx
    cases bo_int by_
    refine .inr ⟨a, _, xs, rfl, rfl, by rw [hK]; exact s1, g.1.1, g.1.2, sz (by rw [t1.length]; exact g.2.1), fun p hp => ?_⟩
    exact k _ _ _ _ g.2.2 (r.efF _ hp) (r.newF _ hp) (.lst (.inl (.inl upd_same)) ((t1.rep _).mono (r.efF _ hp)))
  · exact g.elim
theorem sem_pow : Sem2 X c (binaryOp .Pow) gPow := by
  refine ⟨_, op_pow, fun F H σ ρ xx x y vx vy P Q r bx by_ g k => ?_⟩
  unfold gPow at g
  split at g
  · cases bo_int bx; cases bo_int by_
    exact ⟨_, _, rfl, rfl, g.1, k _ _ F H g.2 (Ex.refl F) r (.int _)⟩
  · exact g.elim
def gCmp (p : Int → Int → Bool) : G2 := fun x y P => match x, y with
  | .int i, .int j => P (.bool (p i j))
  | _, _ => False
theorem sem_cmp {op : CmpOp} {p : Int → Int → Bool} (h : OpR X (compareOp op) (rI0 fun i j => .bl (p i j))) : Sem2 X c (compareOp op) (gCmp p) := by
  refine ⟨_, h, fun F H σ ρ xx x y vx vy P Q r bx by_ g k => ?_⟩
  unfold gCmp at g
  split at g
  · cases bo_int bx; cases bo_int by_
    exact ⟨_, _, rfl, rfl, k _ _ F H g (Ex.refl F) r (.bl _)⟩
  · exact g.elim
abbrev gLt : G2 := gCmp fun i j => decide (i < j)
abbrev gLe : G2 := gCmp fun i j => decide (i ≤ j)
abbrev gGt : G2 := gCmp fun i j => decide (j < i)
abbrev gGe : G2 := gCmp fun i j => decide (j ≤ i)
theorem sem_lt : Sem2 X c (compareOp .Lt) gLt := sem_cmp op_lt
theorem sem_le : Sem2 X c (compareOp .LtE) gLe := sem_cmp op_le
theorem sem_gt : Sem2 X c (compareOp .Gt) gGt := sem_cmp op_gt
theorem sem_ge : Sem2 X c (compareOp .GtE) gGe := sem_cmp op_ge
def isN : D → Bool
  | .none => true
  | _ => false
def gIs : G2 := fun x y P => match y with
  | .none => P (.bool (isN x))
  | _ => False
def gIsNot : G2 := fun x y P => match y with
  | .none => P (.bool (!isN x))
  | _ => False
theorem isN_dec {F H : Hp} {v : V} {d : D} (h : Bo c F H v d) : decide (v = .non) = isN d := by
  rcases h with h | ⟨a, rfl, _⟩
  · cases h <;> rfl
  · cases d <;> first | rfl | (rename_i h; exact h.elim)
theorem sem_is : Sem2 X c (compareOp .Is) gIs := by
  refine ⟨_, op_isN, fun F H σ ρ xx x y vx vy P Q r bx by_ g k => ?_⟩
  unfold gIs at g
  split at g
  · cases bo_non by_
    refine ⟨rfl, ?_⟩
    rw [isN_dec bx]
    exact k _ _ F H g (Ex.refl F) r (.bl _)
  · exact g.elim
theorem sem_isnot : Sem2 X c (compareOp .IsNot) gIsNot := by
  refine ⟨_, op_notN, fun F H σ ρ xx x y vx vy P Q r bx by_ g k => ?_⟩
  unfold gIsNot at g
  split at g
  · cases bo_non by_
    refine ⟨rfl, ?_⟩
    rw [isN_dec bx]
    exact k _ _ F H g (Ex.refl F) r (.bl _)
  · exact g.elim
/-- == of data: texts of signs, no dicts, not too deep -/
def okD (d : D) : Prop := SeqAt.shaped d = true
theorem okD.nod {d : D} (h : okD d) : nod d = true := by
  have h1 : d.canLay0 = true := SeqAt.canLay_of_shaped h
  have all : ∀ d : D, d.canLay0 = true → DL.nod d = true := fun d => by
    refine PyData.rec (motive_1 := fun d => d.canLay0 = true → DL.nod d = true) (motive_2 := fun ds => PyData.canLayAll0 ds = true → DL.nodAll ds = true) (motive_3 := fun _ => True) (motive_4 := fun _ => True) ?_ ?_ ?_ ?_ ?_ ?_ ?_ ?_ ?_ ?_ ?_ ?_ d
    · exact fun _ => rfl
    · exact fun _ _ => rfl
    · exact fun _ _ => rfl
    · exact fun _ _ => rfl
    · exact fun xs ih h => by simp only [DL.nod]; exact ih (by simpa only [PyData.canLay0] using h)
    · exact fun xs ih h => by simp only [DL.nod]; exact ih (by simpa only [PyData.canLay0] using h)
    · exact fun _ _ h => by simp [PyData.canLay0] at h
    · exact fun _ => rfl
    · exact fun x xs i j h => by
        simp only [PyData.canLayAll0, Bool.and_eq_true] at h
        simp only [DL.nodAll, Bool.and_eq_true]
        exact ⟨i h.1, j h.2⟩
    all_goals (intros; trivial)
  exact all d h1
def gEq : G2 := fun x y P => okD x ∧ okD y ∧ P (.bool (PyData.eqv x y))
def gNe : G2 := fun x y P => okD x ∧ okD y ∧ P (.bool (!PyData.eqv x y))
theorem sem_eq (hK : X.K = c.K) (hu : X.A.units + 64 < cLine) : Sem2 X c (compareOp .Eq) gEq := by
  refine ⟨_, op_eqD hu, fun F H σ ρ xx x y vx vy P Q r bx by_ g k => ?_⟩
  have e := r.w.fh
  refine ⟨x, y, by rw [hK]; exact (bx.at e).dp g.1.nod, by rw [hK]; exact (by_.at e).dp g.2.1.nod, g.1, g.2.1, k _ _ F H g.2.2 (Ex.refl F) r (.bl _)⟩
theorem sem_ne (hK : X.K = c.K) (hu : X.A.units + 64 < cLine) : Sem2 X c (compareOp .NotEq) gNe := by
  refine ⟨_, op_neD hu, fun F H σ ρ xx x y vx vy P Q r bx by_ g k => ?_⟩
  have e := r.w.fh
  refine ⟨x, y, by rw [hK]; exact (bx.at e).dp g.1.nod, by rw [hK]; exact (by_.at e).dp g.2.1.nod, g.1, g.2.1, k _ _ F H g.2.2 (Ex.refl F) r (.bl _)⟩
def gIx : G2 := fun x y P => match x, y with
  | .list xs, .int i => ∃ d, atI xs i = some d ∧ P d
  | .tuple xs, .int i => ∃ d, atI xs i = some d ∧ P d
  | .str z, .int i => z.length ≤ 1000000 ∧ ∃ n, atI z.cps.toList i = some n ∧ P (.str ⟨#[n]⟩)
  | _, _ => False
theorem atI_at {K : PySem.W.Frag} {F : Hp} {xs : List V} {ds : List D} (t : AtAll K F xs ds) {i : Int} {d : D} (h : atI ds i = some d) : ∃ v, atI xs i = some v ∧ At K F v d := by
  unfold atI at h ⊢
  rw [t.length]
  cases e : ixN ds.length i with
  | none => (rw [e] at h; cases h)
  | some j =>
    rw [e] at h
    exact t.get h
theorem ix_use (hK : X.K = c.K) : ∀ (F H : Hp) (σ : L2.St) (ρ : Env) (xx : XX) (x y : D) (vx vy : V) (P : D → Prop) (Q : VK), Rel c F H σ ρ xx → Bo c F H vx x → Bo c F H vy y → gIx x y P →
    (∀ z v F' H', P z → Ex F F' → Rel c F' H' σ ρ xx → At c.K F' v z → Q v H') → rIx X.K vx vy H Q := fun F H σ ρ xx x y vx vy P Q r bx by_ g k => by
  have e := r.w.fh
  unfold gIx at g
  split at g
  · obtain ⟨a, xs, rfl, s1, t1⟩ := bo_lst e bx
    cases bo_int by_
    obtain ⟨d, h1, h2⟩ := g
    obtain ⟨u, h3, h4⟩ := atI_at t1 h1
    exact .inl ⟨a, xs, _, u, rfl, rfl, by rw [hK]; exact s1, h3, k _ _ F H h2 (Ex.refl F) r h4⟩
  · obtain ⟨a, xs, rfl, _, s1, t1⟩ := bo_tup e bx
    cases bo_int by_
    obtain ⟨d, h1, h2⟩ := g
    obtain ⟨u, h3, h4⟩ := atI_at t1 h1
    exact .inr (.inl ⟨a, xs, _, u, rfl, rfl, by rw [hK]; exact s1, h3, k _ _ F H h2 (Ex.refl F) r h4⟩)
  · cases bo_str bx; cases bo_int by_
    obtain ⟨hz, n, h1, h2⟩ := g
    exact .inr (.inr ⟨_, _, n, rfl, rfl, sz hz, h1, k _ _ F H h2 (Ex.refl F) r (.str _)⟩)
  · exact g.elim
theorem de_ix {a b : Expr} {pos : Pos} {fa fb : HM} (hK : X.K = c.K) (ha : PE X a (tH c fa)) (hb : PE X b (tH c fb)) (hs : PlainIx b) : PE X (.Subscript a b pos) (tD c (d2 gIx fa fb)) :=
  PE.to (pe_ix ix_seq ha hb hs) (d2_use (ix_use hK) rfl rfl)
abbrev OM := Env → (Option Int → Env → Prop) → Prop
def tOI (c : Cn) (f : OM) : TO := fun σ H Q => ∃ F ρ xx P, Rel c F H σ ρ xx ∧ f ρ P ∧ ∀ o ρ' F' H', P o ρ' → Ex F F' → Rel c F' H' σ ρ' xx → Q o H'
def oNo : OM := fun ρ P => P none ρ
def oI (f : DM) : OM := fun ρ P => f ρ fun d ρ' => match d with
  | .int i => P (some i) ρ'
  | _ => False
theorem PO.to {e : Option Expr} {t t' : TO} (h : PO X e t) (w : ∀ σ H Q, t' σ H Q → t σ H Q) : PO X e t' := ⟨fun pins s σ H Q I q => h.run pins s σ H Q I (w σ H Q q)⟩
theorem do_no : PO X none (tOI c oNo) := PO.to po_none fun σ H Q ⟨F, ρ, xx, P, r, q, k⟩ => k none ρ F H q (Ex.refl F) r
theorem do_i {e : Expr} {f : DM} (h : PE X e (tD c f)) : PO X (some e) (tOI c (oI f)) := PO.to (po_some h) fun σ H Q ⟨F, ρ, xx, P, r, q, k⟩ => ⟨F, ρ, xx, _, r, q, fun d ρ' v F' H' p e r' a => by
  cases d <;> first | exact p.elim | (cases a; exact ⟨_, rfl, k _ ρ' F' H' p e r'⟩)⟩
/-- xs[lo:hi] -/
def cutD (xs : List D) (lo hi : Option Int) : List D := (xs.drop (HT.sIx xs.length 0 lo)).take (HT.sIx xs.length xs.length hi - HT.sIx xs.length 0 lo)
theorem cut_at {K : PySem.W.Frag} {F : Hp} {xs : List V} {ds : List D} (t : AtAll K F xs ds) (lo hi : Option Int) : AtAll K F (cutV xs lo hi) (cutD ds lo hi) := by
  unfold cutV cutD
  rw [t.length]
  exact (t.drop _).take _
def dSl (fa : HM) (fl fu : OM) : DM := fun ρ P => fa ρ fun h ρ1 => fl ρ1 fun lo ρ2 => fu ρ2 fun hi ρ3 => see ρ3 h fun d => match d with
  | .list xs => P (.list (cutD xs lo hi)) ρ3
  | .tuple xs => P (.tuple (cutD xs lo hi)) ρ3
  | .str z => z.length ≤ 1000000 ∧ P (.str (cutS z lo hi)) ρ3
  | _ => False
end
end DL
namespace DL
open PySem L2
section
variable {X : Cx} {c : Cn} {e : Expr} {pos : Pos}
theorem de_sl {lo hi : Option Expr} {p2 : Pos} {fa : HM} {fl fu : OM} (hK : X.K = c.K) (he : PE X e (tH c fa)) (hl : PO X lo (tOI c fl)) (hu : PO X hi (tOI c fu)) : PE X (.Subscript e (.Slice lo hi none p2) pos) (tD c (dSl fa fl fu)) := by
  refine PE.to (pe_slice ((sl_list.or sl_tupA).or sl_str) he hl hu) ?_
  rintro σ H Q ⟨F, ρ, xx, P, rel, q, k⟩
  refine ⟨F, ρ, xx, _, rel, q, fun h ρ1 v F1 H1 q1 e1 r1 h1 => ⟨F1, ρ1, xx, _, r1, q1, fun o ρ2 F2 H2 q2 e2 r2 => ⟨F2, ρ2, xx, _, r2, q2, fun u ρ3 F3 H3 q3 e3 r3 => ?_⟩⟩⟩
  obtain ⟨d, bd, q3⟩ := see_bo r3 (h1.mono (e2.trans e3)) q3
  have ex := r3.w.fh
  split at q3
  · obtain ⟨a, xs, rfl, s1, t1⟩ := bo_lst ex bd
    refine .inl (.inl ⟨a, xs, rfl, by rw [hK]; exact s1, fun p hp => ?_⟩)
    exact k _ ρ3 _ _ _ q3 (((e1.trans e2).trans e3).trans (r3.efF _ hp)) (r3.newF _ hp) (.lst (.inl (.inl upd_same)) ((cut_at t1 o u).mono (r3.efF _ hp)))
  · obtain ⟨a, xs, rfl, f1, s1, t1⟩ := bo_tup ex bd
    refine .inl (.inr ⟨a, xs, rfl, by rw [hK]; exact s1, fun hw => ?_, fun _ p hp => ?_⟩)
    · refine k _ ρ3 _ F3 H3 q3 ((e1.trans e2).trans e3) r3 ?_
      have hc := cut_at t1 o u
      have hz : cutV xs o u = xs := by
        unfold cutV
        rw [hw.1, hw.2]
        simp
      rw [hz] at hc
      exact .tup f1 hc
    · exact k _ ρ3 _ _ _ q3 (((e1.trans e2).trans e3).trans (r3.efF _ hp)) (r3.newF _ hp) (.tup (.inl (.inl upd_same)) ((cut_at t1 o u).mono (r3.efF _ hp)))
  · cases bo_str bd
    exact .inr ⟨_, rfl, sz q3.1, k _ ρ3 _ F3 H3 q3.2 ((e1.trans e2).trans e3) r3 (.str _)⟩
  · exact q3.elim
theorem tru_of {F H : Hp} {v : V} {d : D} (r : Ex F H) (b : Bo c F H v d) (hd : ∀ s, d = .str s → s.length ≤ 1000000) (hn : ∀ kd, d ≠ .dict kd) : TruV c.K v H (truD d) := by
  cases d with
  | none => cases bo_non b; rfl
  | bool x => cases bo_bl b; rfl
  | int i => cases bo_int b; rfl
  | str s =>
    cases bo_str b
    refine ⟨sz (hd s rfl), ?_⟩
    show (s.length != 0) = ((s.length : Int) != 0)
    cases h : s.length with
    | zero => rfl
    | succ n =>
      have h1 : (n + 1 != 0) = true := by simp
      have h2 : (((n + 1 : Nat) : Int) != 0) = true := by simp only [bne_iff_ne, ne_eq]; omega
      rw [h1, h2]
  | list xs =>
    obtain ⟨a, ys, rfl, s1, t1⟩ := bo_lst r b
    refine .inl ⟨ys, s1, ?_⟩
    cases t1 <;> rfl
  | tuple xs =>
    obtain ⟨a, ys, rfl, _, s1, t1⟩ := bo_tup r b
    refine .inr (.inl ⟨ys, s1, ?_⟩)
    cases t1 <;> rfl
  | dict kd => exact absurd rfl (hn kd)
def bTruth (f : HM) : BM := fun ρ P => f ρ fun h ρ1 => see ρ1 h fun d => match d with
  | .str s => s.length ≤ 1000000 ∧ P (truD (.str s)) ρ1
  | .dict _ => False
  | d => P (truD d) ρ1
theorem dt_truth {f : HM} (hK : X.K = c.K) (ha : PE X e (tH c f)) (he : ∀ whole, isTrue e X.env whole = (do let v ← whole; standAt e.pos; holding [v] (truthy v)) := by intro _; rfl) : PT X e (tT c (bTruth f)) := by
  refine PT.to (pt_truth ha he) ?_
  rintro σ H Q ⟨F, ρ, xx, P, rel, q, k⟩
  refine ⟨F, ρ, xx, _, rel, q, fun h ρ1 v F1 H1 q1 e1 r1 h1 => ?_⟩
  obtain ⟨d, bd, q1⟩ := see_bo r1 h1 q1
  rw [hK]
  cases d with
  | str s => exact ⟨_, tru_of r1.w.fh bd (fun t ht => by cases ht; exact q1.1) (fun _ z => by cases z), k _ ρ1 F1 H1 q1.2 e1 r1⟩
  | dict kd => exact q1.elim
  | _ => exact ⟨_, tru_of r1.w.fh bd (fun t ht => by cases ht) (fun _ z => by cases z), k _ ρ1 F1 H1 q1 e1 r1⟩
abbrev HLM := Env → (List Hd → Env → Prop) → Prop
def tHL (c : Cn) (f : HLM) : TA := fun σ H Q => ∃ F ρ xx P, Rel c F H σ ρ xx ∧ f ρ P ∧ ∀ hs ρ' vs F' H', P hs ρ' → Ex F F' → Rel c F' H' σ ρ' xx → Paired (fun v h => HdAt c F' σ h v) vs hs → Q vs H'
def gNil : HLM := fun ρ P => P [] ρ
def gCons (f : HM) (g : HLM) : HLM := fun ρ P => f ρ fun h ρ1 => g ρ1 fun hs ρ2 => P (h :: hs) ρ2
theorem dg_nil : PA X [] (tHL c gNil) := PA.to pa_nil fun σ H Q ⟨F, ρ, xx, P, rel, q, k⟩ => k [] ρ [] F H q (Ex.refl F) rel .nil
theorem dg_cons {es : List Expr} {f : HM} {g : HLM} (ha : PE X e (tH c f)) (hr : PA X es (tHL c g)) (hs : starEach (e :: es) X.env = (false, eval e X.env) :: starEach es X.env := by rfl) : PA X (e :: es) (tHL c (gCons f g)) :=
  PA.to (pa_cons ha hr hs) fun σ H Q ⟨F, ρ, xx, P, rel, q, k⟩ => ⟨F, ρ, xx, _, rel, q, fun d ρ1 v F1 H1 q1 e1 r1 a1 => ⟨F1, ρ1, xx, _, r1, q1, fun ds ρ2 vs F2 H2 q2 e2 r2 a2 =>
    k (d :: ds) ρ2 (v :: vs) F2 H2 q2 (e1.trans e2) r2 (.cons (a1.mono e2) a2)⟩⟩
def seeAll (ρ : Env) : List Hd → (List D → Prop) → Prop
  | [], k => k []
  | h :: hs, k => see ρ h fun d => seeAll ρ hs fun ds => k (d :: ds)
theorem seeAll_bo {F H : Hp} {σ : L2.St} {ρ : Env} {xx : XX} (r : Rel c F H σ ρ xx) : ∀ {vs : List V} {hs : List Hd}, Paired (fun v h => HdAt c F σ h v) vs hs → ∀ {k : List D → Prop}, seeAll ρ hs k → ∃ ds, Paired (Bo c F H) vs ds ∧ k ds
  | _, _, .nil, k, h => ⟨[], .nil, h⟩
  | _, _, .cons h t, k, q => by
    obtain ⟨d, b, q⟩ := see_bo r h q
    obtain ⟨ds, bs, q⟩ := seeAll_bo r t q
    exact ⟨d :: ds, .cons b bs, q⟩
abbrev GC := List D → (D → Prop) → Prop
def SemC (X : Cx) (c : Cn) (f : Value) (g : GC) : Prop := ∃ r : List V → Hp → VK → Prop, CallR X f r ∧ ∀ (F H : Hp) (σ : L2.St) (ρ : Env) (xx : XX) (ds : List D) (vs : List V) (P : D → Prop) (Q : VK), Rel c F H σ ρ xx → Paired (Bo c F H) vs ds → g ds P →
  (∀ z v F' H', P z → Ex F F' → Rel c F' H' σ ρ xx → At c.K F' v z → Q v H') → r vs H Q
def dCB (g : GC) (f : HLM) : DM := fun ρ P => f ρ fun hs ρ1 => seeAll ρ1 hs fun ds => g ds fun z => P z ρ1
theorem dCB_use {f : Value} {g : GC} {fh : HLM} {r : List V → Hp → VK → Prop} (hr : ∀ (F H : Hp) (σ : L2.St) (ρ : Env) (xx : XX) (ds : List D) (vs : List V) (P : D → Prop) (Q : VK), Rel c F H σ ρ xx → Paired (Bo c F H) vs ds → g ds P →
    (∀ z v F' H', P z → Ex F F' → Rel c F' H' σ ρ xx → At c.K F' v z → Q v H') → r vs H Q) : ∀ σ H Q, tD c (dCB g fh) σ H Q → tCB r (tHL c fh) σ H Q := by
  rintro σ H Q ⟨F, ρ, xx, P, rel, q, k⟩
  refine ⟨F, ρ, xx, _, rel, q, fun hs ρ1 vs F1 H1 q1 e1 r1 h1 => ?_⟩
  obtain ⟨ds, bs, q1⟩ := seeAll_bo r1 h1 q1
  exact hr F1 H1 σ ρ1 xx ds vs _ Q r1 bs q1 fun z v F' H' pz ez rz az => k z ρ1 v F' H' pz (e1.trans ez) rz az
variable {x : Str} {p : Pos} {es : List Expr} {fh : HLM} {g : GC}
theorem de_cb {id : String} (hs : SemC X c (.builtin id) g) (hg : Gl X x) (hm : X.mg x = none) (hv : bootBuiltins x = some (.builtin id)) (ha : PA X (e :: es) (tHL c fh)) (hn : x ≠ "__name__" := by decide) (hdb : (x == ("__debug__" : Str)) = false := by decide)
    (he : starEach (e :: es) X.env = (false, eval e X.env) :: starEach es X.env := by rfl) (hpl : (backTo pos (starEach es X.env)).any (·.1) = false := by rfl) : PE X (.Call (.Name x p) (e :: es) [] pos) (tD c (dCB g fh)) := by
  obtain ⟨r, ho, hr⟩ := hs
  exact PE.to (pe_callB ho hg hm hv ha hn hdb he hpl) (dCB_use (f := .none) hr)
theorem de_ct {T : String} (hs : SemC X c (.type T) g) (hg : Gl X x) (hm : X.mg x = none) (hv : bootBuiltins x = some (.type T)) (ha : PA X (e :: es) (tHL c fh)) (hn : x ≠ "__name__" := by decide) (hdb : (x == ("__debug__" : Str)) = false := by decide)
    (he : starEach (e :: es) X.env = (false, eval e X.env) :: starEach es X.env := by rfl) (hpl : (backTo pos (starEach es X.env)).any (·.1) = false := by rfl) : PE X (.Call (.Name x p) (e :: es) [] pos) (tD c (dCB g fh)) := by
  obtain ⟨r, ho, hr⟩ := hs
  exact PE.to (pe_callTy ho hg hm hv ha hn hdb he hpl) (dCB_use (f := .none) hr)
theorem pr1 {R : V → D → Prop} {vs : List V} {d : D} (h : Paired R vs [d]) : ∃ v, vs = [v] ∧ R v d := by
  cases h with
  | cons a t => cases t; exact ⟨_, rfl, a⟩
theorem pr2 {R : V → D → Prop} {vs : List V} {d d' : D} (h : Paired R vs [d, d']) : ∃ v u, vs = [v, u] ∧ R v d ∧ R u d' := by
  cases h with
  | cons a t => cases t with
    | cons b t => cases t; exact ⟨_, _, rfl, a, b⟩
def gLen : GC := fun ds P => match ds with
  | [.list xs] => P (.int xs.length)
  | [.tuple xs] => P (.int xs.length)
  | [.str s] => s.length ≤ 1000000 ∧ P (.int s.length)
  | _ => False
theorem sem_len (hK : X.K = c.K) : SemC X c (.builtin "len") gLen := by
  refine ⟨_, call_len, fun F H σ ρ xx ds vs P Q r bs g k => ?_⟩
  unfold gLen at g
  split at g
  · obtain ⟨v, rfl, b⟩ := pr1 bs
    obtain ⟨a, ys, rfl, s1, t1⟩ := bo_lst r.w.fh b
    exact ⟨_, _, rfl, .inl ⟨ys, by rw [hK]; exact s1, rfl⟩, by rw [t1.length]; exact k _ _ F H g (Ex.refl F) r (.int _)⟩
  · obtain ⟨v, rfl, b⟩ := pr1 bs
    obtain ⟨a, ys, rfl, _, s1, t1⟩ := bo_tup r.w.fh b
    exact ⟨_, _, rfl, .inr ⟨ys, by rw [hK]; exact s1, rfl⟩, by rw [t1.length]; exact k _ _ F H g (Ex.refl F) r (.int _)⟩
  · obtain ⟨v, rfl, b⟩ := pr1 bs
    cases bo_str b
    exact ⟨_, _, rfl, ⟨sz g.1, rfl⟩, k _ _ F H g.2 (Ex.refl F) r (.int _)⟩
  · exact g.elim
/-- a list of numbers, of truths -/
def ofInts : List D → Option (List Int)
  | [] => some []
  | .int i :: ds => (ofInts ds).map (i :: ·)
  | _ :: _ => none
theorem ofInts_eq : ∀ {ds : List D} {ns : List Int}, ofInts ds = some ns → ds = ns.map PyData.int
  | [], ns, h => by cases h; rfl
  | .int i :: ds, ns, h => by
    unfold ofInts at h
    cases e : ofInts ds with
    | none => (rw [e] at h; cases h)
    | some ms =>
      rw [e] at h
      cases h
      rw [ofInts_eq e]
      rfl
  | .none :: _, _, h => nomatch h
  | .bool _ :: _, _, h => nomatch h
  | .str _ :: _, _, h => nomatch h
  | .list _ :: _, _, h => nomatch h
  | .tuple _ :: _, _, h => nomatch h
  | .dict _ :: _, _, h => nomatch h
theorem ofInts_map : ∀ (ns : List Int), ofInts (ns.map PyData.int) = some ns
  | [] => rfl
  | n :: ns => by
    show (ofInts (ns.map PyData.int)).map (n :: ·) = some (n :: ns)
    rw [ofInts_map ns]
    rfl
def ofBools : List D → Option (List Bool)
  | [] => some []
  | .bool i :: ds => (ofBools ds).map (i :: ·)
  | _ :: _ => none
theorem ofBools_eq : ∀ {ds : List D} {ns : List Bool}, ofBools ds = some ns → ds = ns.map PyData.bool
  | [], ns, h => by cases h; rfl
  | .bool i :: ds, ns, h => by
    unfold ofBools at h
    cases e : ofBools ds with
    | none => (rw [e] at h; cases h)
    | some ms =>
      rw [e] at h
      cases h
      rw [ofBools_eq e]
      rfl
  | .none :: _, _, h => nomatch h
  | .int _ :: _, _, h => nomatch h
  | .str _ :: _, _, h => nomatch h
  | .list _ :: _, _, h => nomatch h
  | .tuple _ :: _, _, h => nomatch h
  | .dict _ :: _, _, h => nomatch h
/-- a built-in over one list of numbers -/
def gIL (k : List Int → (D → Prop) → Prop) : GC := fun ds P => match ds with
  | [.list xs] => ∃ ns, ofInts xs = some ns ∧ k ns P
  | _ => False
theorem gil_use {k0 : List Int → (D → Prop) → Prop} {F H : Hp} {σ : L2.St} {ρ : Env} {xx : XX} {ds : List D} {vs : List V} {P : D → Prop} (r : Rel c F H σ ρ xx) (bs : Paired (Bo c F H) vs ds) (g : gIL k0 ds P) : ∃ a ns, vs = [V.ref a] ∧ SqL c.K H a (ns.map V.int) ∧ k0 ns P := by
  unfold gIL at g
  split at g
  · obtain ⟨v, rfl, b⟩ := pr1 bs
    obtain ⟨ns, hn, g⟩ := g
    obtain ⟨a, ys, rfl, s1, t1⟩ := bo_lst r.w.fh b
    rw [ofInts_eq hn] at t1
    rw [t1.ints] at s1
    exact ⟨a, ns, rfl, s1, g⟩
  · exact g.elim
def gSum : GC := gIL fun ns P => P (.int ns.sum)
def gMax : GC := fun ds P => match ds with
  | [.int i, .int j] => P (.int (max i j))
  | ds => gIL (fun ns P => ns ≠ [] ∧ ∀ m, m ∈ ns → (∀ y, y ∈ ns → y ≤ m) → P (.int m)) ds P
def gMin : GC := fun ds P => match ds with
  | [.int i, .int j] => P (.int (min i j))
  | ds => gIL (fun ns P => ns ≠ [] ∧ ∀ m, m ∈ ns → (∀ y, y ∈ ns → m ≤ y) → P (.int m)) ds P
theorem sem_max (hK : X.K = c.K) (hc : X.calm = true) : SemC X c (.builtin "max") gMax :=
  ⟨_, CallR.or (call_max2 hc) (cr_max hc), fun F H σ ρ xx ds vs P Q r bs g k => by
    unfold gMax at g
    split at g
    · obtain ⟨v, u, rfl, b1, b2⟩ := pr2 bs
      cases bo_int b1; cases bo_int b2
      rename_i i j
      refine .inl ⟨i, j, rfl, ?_⟩
      have e : (if j > i then j else i) = max i j := by split <;> omega
      rw [e]
      exact k _ _ F H g (Ex.refl F) r (.int _)
    · obtain ⟨a, ns, rfl, s1, hne, g⟩ := gil_use r bs g
      exact .inr ⟨a, ns, rfl, by rw [hK]; exact s1, List.length_pos_iff.mpr hne, fun m h1 h2 => k _ _ F H (g m h1 h2) (Ex.refl F) r (.int _)⟩⟩
theorem sem_min (hK : X.K = c.K) (hc : X.calm = true) : SemC X c (.builtin "min") gMin :=
  ⟨_, CallR.or (call_min2 hc) (cr_min hc), fun F H σ ρ xx ds vs P Q r bs g k => by
    unfold gMin at g
    split at g
    · obtain ⟨v, u, rfl, b1, b2⟩ := pr2 bs
      cases bo_int b1; cases bo_int b2
      rename_i i j
      refine .inl ⟨i, j, rfl, ?_⟩
      have e : (if j < i then j else i) = min i j := by split <;> omega
      rw [e]
      exact k _ _ F H g (Ex.refl F) r (.int _)
    · obtain ⟨a, ns, rfl, s1, hne, g⟩ := gil_use r bs g
      exact .inr ⟨a, ns, rfl, by rw [hK]; exact s1, List.length_pos_iff.mpr hne, fun m h1 h2 => k _ _ F H (g m h1 h2) (Ex.refl F) r (.int _)⟩⟩
def gAll : GC := fun ds P => match ds with
  | [.list xs] => ∃ ns, ofBools xs = some ns ∧ P (.bool (ns.all id))
  | _ => False
theorem sem_all (hK : X.K = c.K) (hc : X.calm = true) : SemC X c (.builtin "all") gAll :=
  ⟨_, cr_all hc, fun F H σ ρ xx ds vs P Q r bs g k => by
    unfold gAll at g
    split at g
    · obtain ⟨v, rfl, b⟩ := pr1 bs
      obtain ⟨ns, hn, g⟩ := g
      obtain ⟨a, ys, rfl, s1, t1⟩ := bo_lst r.w.fh b
      rw [ofBools_eq hn] at t1
      rw [t1.bools] at s1
      exact ⟨a, ns, rfl, by rw [hK]; exact s1, k _ _ F H g (Ex.refl F) r (.bl _)⟩
    · exact g.elim⟩
def gTuple : GC := fun ds P => match ds with
  | [.list xs] => P (.tuple xs)
  | [.tuple xs] => P (.tuple xs)
  | _ => False
theorem sem_tuple (hK : X.K = c.K) : SemC X c (.type "tuple") gTuple := by
  refine ⟨_, call_tuple_of, fun F H σ ρ xx ds vs P Q r bs g k => ?_⟩
  unfold gTuple at g
  split at g
  · obtain ⟨v, rfl, b⟩ := pr1 bs
    obtain ⟨a, ys, rfl, s1, t1⟩ := bo_lst r.w.fh b
    exact ⟨a, ys, rfl, .inl ⟨by rw [hK]; exact s1, fun q hq => k _ _ _ _ g (r.efF _ hq) (r.newF _ hq) (.tup (.inl (.inl upd_same)) (t1.mono (r.efF _ hq)))⟩⟩
  · obtain ⟨v, rfl, b⟩ := pr1 bs
    obtain ⟨a, ys, rfl, f1, s1, t1⟩ := bo_tup r.w.fh b
    exact ⟨a, ys, rfl, .inr ⟨by rw [hK]; exact s1, k _ _ F H g (Ex.refl F) r (.tup f1 t1)⟩⟩
  · exact g.elim
def gList : GC := fun ds P => match ds with
  | [.list xs] => P (.list xs)
  | [.tuple xs] => P (.list xs)
  | _ => False
/-- list(..): a new one -/
theorem dn_list (hK : X.K = c.K) (hg : Gl X "list") (hm : X.mg "list" = none) (ha : PA X [e] (tHL c fh)) (he : starEach [e] X.env = (false, eval e X.env) :: starEach [] X.env := by rfl) (hpl : (backTo pos (starEach [] X.env)).any (·.1) = false := by rfl) :
    PE X (.Call (.Name "list" p) [e] [] pos) (tN c (dCB gList fh)) := by
  refine PE.to (pe_callTy call_list_of hg hm (by decide +kernel) ha (by decide) (by decide) he hpl) ?_
  rintro σ H Q ⟨F, ρ, xx, P, rel, q, k⟩
  refine ⟨F, ρ, xx, _, rel, q, fun hs ρ1 vs F1 H1 q1 e1 r1 h1 => ?_⟩
  obtain ⟨ds, bs, q1⟩ := seeAll_bo r1 h1 q1
  unfold gList at q1
  split at q1
  · obtain ⟨v, rfl, b⟩ := pr1 bs
    obtain ⟨a, ys, rfl, s1, t1⟩ := bo_lst r1.w.fh b
    refine ⟨a, ys, rfl, .inl (by rw [hK]; exact s1), fun l hl => ?_⟩
    obtain ⟨r2, fr⟩ := Fresh.new (o := .lst ys) r1 hl (d := .d <| .list _) ⟨ys, upd_same, t1⟩
    exact k _ ρ1 _ _ _ q1 e1 r2 fr
  · obtain ⟨v, rfl, b⟩ := pr1 bs
    obtain ⟨a, ys, rfl, _, s1, t1⟩ := bo_tup r1.w.fh b
    refine ⟨a, ys, rfl, .inr (by rw [hK]; exact s1), fun l hl => ?_⟩
    obtain ⟨r2, fr⟩ := Fresh.new (o := .lst ys) r1 hl (d := .d <| .list _) ⟨ys, upd_same, t1⟩
    exact k _ ρ1 _ _ _ q1 e1 r2 fr
  · exact q1.elim
def gOrd : GC := fun ds P => match ds with
  | [.str s] => s.length = 1 ∧ P (.int (s.cps.getD 0 0 : Nat))
  | _ => False
theorem sem_ord : SemC X c (.builtin "ord") gOrd := by
  refine ⟨_, call_ord, fun F H σ ρ xx ds vs P Q r bs g k => ?_⟩
  unfold gOrd at g
  split at g
  · obtain ⟨v, rfl, b⟩ := pr1 bs
    cases bo_str b
    exact ⟨_, rfl, g.1, k _ _ F H g.2 (Ex.refl F) r (.int _)⟩
  · exact g.elim
end
end DL
namespace DL
open PySem L2
structure DE where
  nx : Env → Prop
  rt : D → Env → Prop
  bk : Env → Prop
  ct : Env → Prop
abbrev SM := DE → Env → Prop
def tS (c : Cn) (g : SM) : TS := fun Z σ H => ∃ F ρ xx E, Rel c F H σ ρ xx ∧ g E ρ ∧ (∀ ρ' σ' F' H', E.nx ρ' → Ex F F' → Rel c F' H' σ' ρ' xx → Z.nx σ' H') ∧ (∀ d v ρ' σ' F' H', E.rt d ρ' → Rel c F' H' σ' ρ' xx → At c.K F' v d → Z.rt v H') ∧
  (∀ ρ' σ' F' H', E.bk ρ' → Ex F F' → Rel c F' H' σ' ρ' xx → Z.bk σ' H') ∧ (∀ ρ' σ' F' H', E.ct ρ' → Ex F F' → Rel c F' H' σ' ρ' xx → Z.ct σ' H')
theorem PS.to {X : Cx} {st : Stmt} {t t' : TS} (h : PS X st t) (w : ∀ Z σ H, t' Z σ H → t Z σ H) : PS X st t' := ⟨fun pins s σ H Z I q => h.run pins s σ H Z I (w Z σ H q)⟩
theorem PSs.to {X : Cx} {st : List Stmt} {t t' : TS} (h : PSs X st t) (w : ∀ Z σ H, t' Z σ H → t Z σ H) : PSs X st t' := ⟨fun pins s σ H Z I q => h.run pins s σ H Z I (w Z σ H q)⟩
section
variable {X : Cx} {c : Cn} {st : Stmt} {rest : List Stmt} {e : Expr} {pos : Pos}
def sSeq (g h : SM) : SM := fun E ρ => g { E with nx := h E } ρ
def sNo : SM := fun E ρ => E.nx ρ
theorem ds_cons {g h : SM} (h1 : PS X st (tS c g)) (h2 : PSs X rest (tS c h)) : PSs X (st :: rest) (tS c (sSeq g h)) :=
  PSs.to (pss_cons h1 h2) fun Z σ H ⟨F, ρ, xx, E, rel, q, n, r, b, t⟩ => ⟨F, ρ, xx, _, rel, q, fun ρ' σ' F' H' p e rel' => ⟨F', ρ', xx, E, rel', p, fun ρ2 σ2 F2 H2 p2 e2 => n ρ2 σ2 F2 H2 p2 (e.trans e2), r,
    fun ρ2 σ2 F2 H2 p2 e2 => b ρ2 σ2 F2 H2 p2 (e.trans e2), fun ρ2 σ2 F2 H2 p2 e2 => t ρ2 σ2 F2 H2 p2 (e.trans e2)⟩, r, b, t⟩
theorem ds_one {g : SM} (h1 : PS X st (tS c g)) : PSs X [st] (tS c g) := pss_one h1
theorem ds_nil : PSs X [] (tS c sNo) := PSs.to pss_nil fun Z σ H ⟨F, ρ, xx, E, rel, q, n, r, b, t⟩ => n ρ σ F H q (Ex.refl F) rel
def sNever : SM := fun _ _ => False
theorem ds_never : PSs X rest (tS c sNever) := PSs.to pss_never fun Z σ H ⟨F, ρ, xx, E, rel, q, n, r, b, t⟩ => q.elim
def sRet (f : DM) : SM := fun E ρ => f ρ fun d ρ1 => E.rt d ρ1
theorem dp_ret {f : DM} (h : PE X e (tD c f)) : PS X (.Return (some e) pos) (tS c (sRet f)) :=
  PS.to (ps_ret h) fun Z σ H ⟨F, ρ, xx, E, rel, q, n, r, b, t⟩ => ⟨F, ρ, xx, _, rel, q, fun d ρ' v F' H' p e r' a => r d v ρ' σ F' H' p r' a⟩
def sRetN : SM := fun E ρ => E.rt .none ρ
def sIf (t : BM) (g h : SM) : SM := fun E ρ => t ρ fun b ρ1 => if b = true then g E ρ1 else h E ρ1
theorem dp_if {t : BM} {a b : List Stmt} {g h : SM} (hc : PT X e (tT c t)) (ha : PSs X a (tS c g)) (hb : PSs X b (tS c h)) : PS X (.If e a b pos) (tS c (sIf t g h)) :=
  PS.to (ps_if hc ha hb) fun Z σ H ⟨F, ρ, xx, E, rel, q, n, r, b, t⟩ => ⟨F, ρ, xx, _, rel, q, fun d ρ1 F1 H1 q1 e1 r1 => by
    have go : ∀ {g : SM}, g E ρ1 → tS c g Z σ H1 := fun q => ⟨F1, ρ1, xx, E, r1, q, fun ρ2 σ2 F2 H2 p2 e2 => n ρ2 σ2 F2 H2 p2 (e1.trans e2), r,
      fun ρ2 σ2 F2 H2 p2 e2 => b ρ2 σ2 F2 H2 p2 (e1.trans e2), fun ρ2 σ2 F2 H2 p2 e2 => t ρ2 σ2 F2 H2 p2 (e1.trans e2)⟩
    cases d with
    | true => exact go q1
    | false => exact go q1⟩
def sExpr (f : DM) : SM := fun E ρ => f ρ fun _ ρ1 => E.nx ρ1
theorem dp_expr {f : DM} (h : PE X e (tD c f)) (hs : swapsWith e none pos.line X.env = pure false := by rfl) : PS X (.Expr e pos) (tS c (sExpr f)) :=
  PS.to (ps_expr h hs) fun Z σ H ⟨F, ρ, xx, E, rel, q, n, r, b, t⟩ => ⟨F, ρ, xx, _, rel, q, fun d ρ' v F' H' p e r' a => n ρ' σ F' H' p e r'⟩
abbrev TM := D → Env → (Env → Prop) → Prop
def Only (js : List Nat) (σ σ' : L2.St) : Prop := ∀ vs : List Nat, (∀ j ∈ js, j ∈ vs) → wipe σ' vs = wipe σ vs
def tG (c : Cn) (js : List Nat) (t : TM) : TG := fun v σ H Q => ∃ F ρ xx d P, Rel c F H σ ρ xx ∧ At c.K F v d ∧ t d ρ P ∧ ∀ ρ' σ' F' H', P ρ' → Only js σ σ' → Ex F F' → Rel c F' H' σ' ρ' xx → Q σ' H'
abbrev TMs := List D → Env → (Env → Prop) → Prop
def tGs (c : Cn) (js : List Nat) (t : TMs) : TGs := fun vs σ H Q => ∃ F ρ xx ds P, Rel c F H σ ρ xx ∧ AtAll c.K F vs ds ∧ t ds ρ P ∧ ∀ ρ' σ' F' H', P ρ' → Only js σ σ' → Ex F F' → Rel c F' H' σ' ρ' xx → Q σ' H'
theorem PG.to {tg : Expr} {t t' : TG} (h : PG X tg t) (w : ∀ v σ H Q, t' v σ H Q → t v σ H Q) : PG X tg t' := ⟨fun pins s σ H v u Q I r q => h.run pins s σ H v u Q I r (w v σ H Q q)⟩
theorem PGs.to {ts : List Expr} {t t' : TGs} (h : PGs X ts t) (w : ∀ v σ H Q, t' v σ H Q → t v σ H Q) : PGs X ts t' := ⟨fun pins s σ H v u Q I r q => h.run pins s σ H v u Q I r (w v σ H Q q)⟩
theorem only_set (i : Nat) (σ : L2.St) (v : V) : Only [i] σ (σ.set i (some v)) := fun vs h => by
  have hi : i ∈ vs := h i (List.mem_singleton.mpr rfl)
  clear h
  induction vs with
  | nil => cases hi
  | cons w ws ih =>
    show (wipe (σ.set i (some v)) ws).set w none = (wipe σ ws).set w none
    by_cases hw : i ∈ ws
    · rw [ih hw]
    · have e : w = i := by
        rcases List.mem_cons.mp hi with h | h
        · exact h.symm
        · exact absurd h hw
      subst e
      have z : ∀ ws : List Nat, wipe (σ.set w (some v)) ws = (wipe σ ws).set w (some v) ∨ w ∈ ws := fun ws => by
        induction ws with
        | nil => exact .inl rfl
        | cons y ys ih2 =>
          by_cases h1 : w = y
          · exact .inr (by rw [h1]; exact List.mem_cons_self ..)
          · rcases ih2 with h2 | h2
            · left
              show (wipe (σ.set w (some v)) ys).set y none = ((wipe σ ys).set y none).set w (some v)
              rw [h2, List.set_comm _ _ h1]
            · exact .inr (List.mem_cons_of_mem _ h2)
      rcases z ws with h2 | h2
      · rw [h2, List.set_set]
      · exact absurd h2 hw
theorem Only.trans {js ks : List Nat} {σ σ' σ'' : L2.St} (a : Only js σ σ') (b : Only ks σ' σ'') : Only (js ++ ks) σ σ'' := fun vs h =>
  (b vs fun j hj => h j (List.mem_append_right _ hj)).trans (a vs fun j hj => h j (List.mem_append_left _ hj))
def gN (i : Nat) : TM := fun d ρ P => P (ρ.set i (.im d))
theorem dg_name {i : Nat} {x : Str} (hN : X.N.Nodup) (hi : X.N[i]? = some x) (hx : Loc X.env.scope x) (hf : X.fn x = true ∨ X.env.scope.names.lookup x = some .local := by first | exact .inl rfl | exact .inr rfl | assumption) : PG X (.Name x pos) (tG c [i] (gN i)) :=
  PG.to (pg_name hN hi hx hf) fun v σ H Q ⟨F, ρ, xx, d, P, rel, a, q, k⟩ => k _ _ F H q (only_set i σ v) (Ex.refl F) (rel.putI i a)
def gNoT : TMs := fun ds ρ P => ds = [] ∧ P ρ
def gConsT (t : TM) (u : TMs) : TMs := fun ds ρ P => match ds with
  | d :: ds => t d ρ fun ρ1 => u ds ρ1 P
  | [] => False
theorem dgs_nil : PGs X [] (tGs c [] gNoT) := PGs.to pgs_nil fun v σ H Q ⟨F, ρ, xx, ds, P, rel, a, ⟨e, q⟩, k⟩ => by
  subst e
  cases a
  exact ⟨rfl, k _ _ F H q (fun _ _ => rfl) (Ex.refl F) rel⟩
theorem dgs_cons {tg : Expr} {ts : List Expr} {js ks : List Nat} {t : TM} {u : TMs} (h1 : PG X tg (tG c js t)) (h2 : PGs X ts (tGs c ks u))
    (hs : (assignEach (tg :: ts) X.env).map (·.2) = assign tg X.env :: (assignEach ts X.env).map (·.2) := by rfl) : PGs X (tg :: ts) (tGs c (js ++ ks) (gConsT t u)) :=
  PGs.to (pgs_cons h1 h2 hs) fun v σ H Q ⟨F, ρ, xx, ds, P, rel, a, q, k⟩ => by
    cases a with
    | nil => exact False.elim q
    | cons a1 a2 => exact ⟨_, _, rfl, F, ρ, xx, _, _, rel, a1, q, fun ρ1 σ1 F1 H1 q1 o1 e1 r1 => ⟨F1, ρ1, xx, _, P, r1, a2.mono e1, q1, fun ρ2 σ2 F2 H2 q2 o2 e2 r2 => k ρ2 σ2 F2 H2 q2 (o1.trans o2) (e1.trans e2) r2⟩⟩
def gTupT (n : Nat) (t : TMs) : TM := fun d ρ P => match d with
  | .tuple ds => ds.length = n ∧ t ds ρ P
  | _ => False
theorem dg_tup {es : List Expr} {k : Nat} {js : List Nat} {t : TMs} {n : Nat} (hK : X.K = c.K) (hc : X.calm = true) (h : PGs X es (tGs c js t))
    (hn : (assignEach es X.env).length = n := by rfl) (hst : (assignEach es X.env).findIdx? (·.1) = none := by rfl) : PG X (.Tuple es k pos) (tG c js (gTupT n t)) :=
  PG.to (pg_tup hc h hn hst) fun v σ H Q ⟨F, ρ, xx, d, P, rel, a, q, k⟩ => by
    cases a with
    | tup s1 a1 => exact ⟨_, _, rfl, by rw [hK]; exact rel.w.fh.st s1, by rw [a1.length]; exact q.1, F, ρ, xx, _, P, rel, a1, q.2, k⟩
    | _ => exact False.elim q
def sAsg (f : DM) (t : TM) : SM := fun E ρ => f ρ fun d ρ1 => t d ρ1 E.nx
theorem dp_asg {tg : Expr} {f : DM} {js : List Nat} {t : TM} (he : PE X e (tD c f)) (hg : PG X tg (tG c js t)) (hs : swapsWithSole [tg] e pos.line X.env = pure false := by rfl) (hw : swappedStores [tg] e X.env = pure none := by rfl)
    (h1 : (assignEach [tg] X.env).map (·.2) = [assign tg X.env] := by rfl) : PS X (.Assign [tg] e pos) (tS c (sAsg f t)) :=
  PS.to (ps_asg he hg hs hw h1) fun Z σ H ⟨F, ρ, xx, E, rel, q, n, r, b, t⟩ => ⟨F, ρ, xx, _, rel, q, fun d ρ' v F' H' p e r' a => ⟨F', ρ', xx, d, _, r', a, p, fun ρ2 σ2 F2 H2 p2 _ e2 r2 => n ρ2 σ2 F2 H2 p2 (e.trans e2) r2⟩⟩
def sSet (i : Nat) (f : DM) : SM := fun E ρ => f ρ fun d ρ1 => E.nx (ρ1.set i (.im d))
def sSetN (i : Nat) (f : DM) : SM := fun E ρ => f ρ fun d ρ1 => E.nx (ρ1.set i (.ow d))
theorem set_use {i : Nat} {f : DM} {te : TE} (et : te = tD c f) : ∀ Z σ H, tS c (sSet i f) Z σ H → tAsg te (gName i) Z σ H := by
  subst et
  exact fun Z σ H ⟨F, ρ, xx, E, rel, q, n, r, b, t⟩ => ⟨F, ρ, xx, _, rel, q, fun d ρ' v F' H' p e r' a => n _ _ F' H' p e (r'.putI i a)⟩
theorem setN_use {i : Nat} {f : DM} {te : TE} (et : te = tN c f) : ∀ Z σ H, tS c (sSetN i f) Z σ H → tAsg te (gName i) Z σ H := by
  subst et
  exact fun Z σ H ⟨F, ρ, xx, E, rel, q, n, r, b, t⟩ => ⟨F, ρ, xx, _, rel, q, fun d ρ' v F' H' p e r' a => n _ _ F' H' p e (r'.putO i a)⟩
variable {x : Str} {i : Nat} {pos' : Pos}
theorem dp_set {f : DM} (hN : X.N.Nodup) (hi : X.N[i]? = some x) (hx : Loc X.env.scope x) (he : PE X e (tD c f)) (hs : swapsWith e (some (.Name x pos')) pos.line X.env = pure false := by rfl)
    (hf : X.fn x = true ∨ X.env.scope.names.lookup x = some .local := by first | exact .inl rfl | exact .inr rfl | assumption) : PS X (.Assign [.Name x pos'] e pos) (tS c (sSet i f)) := PS.to (ps_set hN hi hx he hs hf) (set_use rfl)
theorem dp_setN {f : DM} (hN : X.N.Nodup) (hi : X.N[i]? = some x) (hx : Loc X.env.scope x) (he : PE X e (tN c f)) (hs : swapsWith e (some (.Name x pos')) pos.line X.env = pure false := by rfl)
    (hf : X.fn x = true ∨ X.env.scope.names.lookup x = some .local := by first | exact .inl rfl | exact .inr rfl | assumption) : PS X (.Assign [.Name x pos'] e pos) (tS c (sSetN i f)) := PS.to (ps_set hN hi hx he hs hf) (setN_use rfl)
/-- a, b = x, y -/
def sPar (i j : Nat) (f : LM) : SM := fun E ρ => f ρ fun ds ρ1 => match ds with
  | [a, b] => E.nx ((ρ1.set i (.im a)).set j (.im b))
  | _ => False
theorem dp_par {j : Nat} {y : Str} {a b : Expr} {f : LM} {px py pt : Pos} {kt k2 : Nat} {pt2 : Pos} (hc : X.calm = true) (hN : X.N.Nodup) (hi : X.N[i]? = some x) (hj : X.N[j]? = some y) (hij : i ≠ j)
    (hx : X.env.scope.names.lookup x = some .local) (hy : X.env.scope.names.lookup y = some .local) (ha : PA X [a, b] (tL c f))
    (hw : (swappedStores [.Tuple [.Name x px, .Name y py] kt pt] (.Tuple [a, b] k2 pt2) X.env = pure (some [x, y])))
    (hs : swapsWithSole [.Tuple [.Name x px, .Name y py] kt pt] (.Tuple [a, b] k2 pt2) pos.line X.env = pure false
      := by rfl) :
    PS X (.Assign [.Tuple [.Name x px, .Name y py] kt pt] (.Tuple [a, b] k2 pt2) pos) (tS c (sPar i j f)) :=
  PS.to (ps_par hc hN hi hj hij hx hy ha hw hs) fun Z σ H ⟨F, ρ, xx, E, rel, q, n, r, bb, t⟩ => ⟨F, ρ, xx, _, rel, q, fun ds ρ' vs F' H' p e r' a => by
    split at p
    · cases a with
      | cons a1 a2 => cases a2 with
        | cons a2 a3 =>
          cases a3
          exact ⟨_, _, rfl, n _ _ F' H' p e ((r'.putI i a1).putI j a2)⟩
    · exact p.elim⟩
/-- x += e -/
def sAug (i : Nat) (g : G2) (f : HM) : SM := fun E ρ => (match ρ[i]? with
  | some (.im _) => True
  | _ => False) ∧ f ρ fun h ρ1 => match ρ1[i]? with
  | some (.im d) => see ρ1 h fun dy => g d dy fun z => E.nx (ρ1.set i (.im z))
  | _ => False
def ipG (r : R2) : TIp := fun x y H Q => r x y H Q
theorem dp_aug {op : Operator} {g : G2} {f : HM} (hN : X.N.Nodup) (hi : X.N[i]? = some x) (hx : Loc X.env.scope x) (he : PE X e (tH c f)) (hs : Sem2 X c (inplaceOp op) g)
    (hf : X.fn x = true ∨ X.env.scope.names.lookup x = some .local := by first | exact .inl rfl | exact .inr rfl | assumption) : PS X (.AugAssign (.Name x pos') op e pos) (tS c (sAug i g f)) := by
  obtain ⟨r, ho, hr⟩ := hs
  refine PS.to (ps_aug (ti := ipG r) hN hi hx he ho hf) ?_
  rintro Z σ H ⟨F, ρ, xx, E, rel, ⟨q0, q⟩, n, rr, b, t⟩
  split at q0
  · rename_i d e0
    obtain ⟨v, g1, g2⟩ := rel.s.im i d e0
    refine ⟨v, g1, F, ρ, xx, _, rel, q, fun h ρ1 u F1 H1 q1 e1 r1 h1 => ?_⟩
    split at q1
    · rename_i d1 e2
      obtain ⟨v', g1', g2'⟩ := r1.s.im i d1 e2
      rw [g1] at g1'
      cases g1'
      obtain ⟨dy, by_, q1⟩ := see_bo r1 h1 q1
      exact hr F1 H1 σ ρ1 xx d1 dy v u _ _ r1 (.inl g2') by_ q1 fun z w F2 H2 pz ez rz az => n _ _ F2 H2 pz (e1.trans ez) (rz.putI i az)
    · exact q1.elim
  · exact q0.elim
abbrev IM := Env → (List D → Env → Prop) → Prop
def ItOk (c : Cn) (J : It) (ds : List D) (F : Hp) : Prop := ∀ (i : Nat) (F' H : Hp) (σ : L2.St) (ρ : Env) (xx : XX), Ex F F' → Rel c F' H σ ρ xx →
  (∀ d, ds[i]? = some d → J.go i H ∧ ∀ x H', J.yld i H x H' → ∃ F2, Ex F' F2 ∧ Rel c F2 H' σ ρ xx ∧ At c.K F2 x d) ∧ (ds.length = i → J.stop i H)
def tI (c : Cn) (f : IM) : TI := fun σ H R => ∃ F ρ xx P, Rel c F H σ ρ xx ∧ f ρ P ∧ ∀ ds ρ' J F' H', P ds ρ' → Ex F F' → Rel c F' H' σ ρ' xx → ItOk c J ds F' → R J H'
theorem PI.to {tg iter : Expr} {t t' : TI} (h : PI X tg iter t) (w : ∀ σ H Q, t' σ H Q → t σ H Q) : PI X tg iter t' := ⟨fun pins s σ H Q I q => h.run pins s σ H Q I (w σ H Q q)⟩
def forL (t : TM) (body : SM) (E : DE) : List D → Env → Prop
  | [], ρ => E.nx ρ
  | d :: ds, ρ => t d ρ fun ρ1 => body ⟨forL t body E ds, E.rt, E.nx, forL t body E ds⟩ ρ1
def sFor (f : IM) (t : TM) (body : SM) : SM := fun E ρ => f ρ fun ds ρ1 => forL t body E ds ρ1
theorem dp_for {tg iter : Expr} {body : List Stmt} {f : IM} {js : List Nat} {t : TM} {g : SM} (hp : PassesOwn (model X.prog X.w) X.A X.env X.xe) (hc : X.calm = true) (hi : PI X tg iter (tI c f)) (hg : PG X tg (tG c js t)) (hb : PSs X body (tS c g))
    (hs : ∀ x, foldedSetIterable iter X.env x = pure x := by intro _; rfl) : PS X (.For tg iter body [] pos) (tS c (sFor f t g)) := by
  refine PS.to (ps_for hp hc hi hg hb hs) ?_
  rintro Z σ H ⟨F, ρ, xx, E, rel, q, n, r, b, ct⟩
  refine ⟨F, ρ, xx, _, rel, q, fun ds ρ1 J F1 H1 q1 e1 r1 ok => ?_⟩
  refine ⟨fun i m σ' H' => ∃ F' ρ', Ex F1 F' ∧ Rel c F' H' σ' ρ' xx ∧ m = ds.length - i ∧ i ≤ ds.length ∧ forL t g E (ds.drop i) ρ', ⟨ds.length, F1, ρ1, Ex.refl F1, r1, by omega, Nat.zero_le _, by rw [List.drop_zero]; exact q1⟩, ?_⟩
  rintro i m σ' H' ⟨F', ρ', e2, r2, rfl, hi, q2⟩
  obtain ⟨o1, o2⟩ := ok i F' H' σ' ρ' xx e2 r2
  by_cases hlt : i < ds.length
  · have hd : ds[i]? = some ds[i] := List.getElem?_eq_getElem hlt
    obtain ⟨go, yl⟩ := o1 _ hd
    rw [List.drop_eq_getElem_cons hlt] at q2
    have q2 : t ds[i] ρ' fun ρ1 => g ⟨forL t g E (ds.drop (i + 1)), E.rt, E.nx, forL t g E (ds.drop (i + 1))⟩ ρ1 := q2
    refine .inr ⟨go, fun σ2 H2 => ∃ F2 ρ2, Ex F1 F2 ∧ Rel c F2 H2 σ2 ρ2 xx ∧ forL t g E (ds.drop (i + 1)) ρ2, fun σ2 H2 ⟨F2, ρ2, a1, a2, a3⟩ => ⟨ds.length - (i + 1), by omega, F2, ρ2, a1, a2, rfl, by omega, a3⟩, fun v H2 y => ?_⟩
    obtain ⟨F2, e3, r3, a3⟩ := yl v H2 y
    refine ⟨F2, ρ', xx, _, _, r3, a3, q2, fun ρ4 σ4 F4 H4 q4 _ e4 r4 => ?_⟩
    exact ⟨F4, ρ4, xx, _, r4, q4, fun ρ5 σ5 F5 H5 q5 e5 r5 => ⟨F5, ρ5, ((e2.trans e3).trans e4).trans e5, r5, q5⟩, r, fun ρ5 σ5 F5 H5 q5 e5 r5 => n ρ5 σ5 F5 H5 q5 ((((e1.trans e2).trans e3).trans e4).trans e5) r5, fun ρ5 σ5 F5 H5 q5 e5 r5 => ⟨F5, ρ5, ((e2.trans e3).trans e4).trans e5, r5, q5⟩⟩
  · have e : i = ds.length := by omega
    subst e
    rw [List.drop_length] at q2
    exact .inl ⟨o2 rfl, n ρ' σ' F' H' q2 (e1.trans e2) r2⟩
theorem itOk_list {a : Addr} {F : Hp} {ds : List D} {ys : List V} {K : PySem.W.Frag} (hK : K = c.K) (s : SqL c.K F a ys) (t : AtAll c.K F ys ds) : ItOk c (Itl K a) ds F := by
  subst hK
  intro i F' H σ ρ xx e r
  have sq := r.w.fh.sl (e.sl s)
  refine ⟨fun d hd => ?_, fun hl => ⟨ys, sq, by rw [t.length]; exact Nat.le_of_eq hl⟩⟩
  obtain ⟨v, hv, av⟩ := t.get hd
  refine ⟨⟨ys, v, sq, hv⟩, fun x H' ⟨eh, y⟩ => ?_⟩
  subst eh
  have := y ys sq
  rw [hv] at this
  cases this
  exact ⟨F', Ex.refl _, r, av.mono e⟩
theorem itOk_tup {a : Addr} {F : Hp} {ds : List D} {ys : List V} {K : PySem.W.Frag} (hK : K = c.K) (s : SqT c.K F a ys) (t : AtAll c.K F ys ds) : ItOk c (Itt K a) ds F := by
  subst hK
  intro i F' H σ ρ xx e r
  have sq := r.w.fh.st (e.st s)
  refine ⟨fun d hd => ?_, fun hl => ⟨ys, sq, by rw [t.length]; exact Nat.le_of_eq hl⟩⟩
  obtain ⟨v, hv, av⟩ := t.get hd
  refine ⟨⟨ys, v, sq, hv⟩, fun x H' ⟨eh, y⟩ => ?_⟩
  subst eh
  have := y ys sq
  rw [hv] at this
  cases this
  exact ⟨F', Ex.refl _, r, av.mono e⟩
/-- an iterator over a list, a tuple, a text: by what the value is -/
def iAny (K : PySem.W.Frag) (tl : TE) : TI := fun σ H R => tl σ H fun x H1 => (∃ a, x = .ref a ∧ (((∃ xs, SqL K H1 a xs) ∧ R (Itl K a) H1) ∨ ((∃ xs, SqT K H1 a xs) ∧ R (Itt K a) H1))) ∨ ∃ z, x = .str z ∧ R (Its z) H1
theorem pi_any {tg l : Expr} {tl : TE} (hl : PE X l tl) : PI X tg l (iAny X.K tl) := by
  (refine ⟨fun pins s σ H R I h => ?_⟩)
  refine thn (hl.run pins s σ H _ I h) fun v s1 ⟨x, H1, I1, r1, q⟩ => ?_
  have fin : ∀ b, b ∈ [s1.heap.objs.size] → FpOk X pins H1 b := fun b hb => by
    obtain rfl := List.mem_singleton.mp hb
    (exact I1.fpOk (Nat.le_refl _) (I1.hok.fresh (Nat.le_refl _)))
  rcases q with ⟨a, ex, q⟩ | ⟨z, ex, q⟩
  · subst ex
    cases r1
    rcases q with ⟨⟨xs, hs⟩, q⟩ | ⟨⟨xs, hs⟩, q⟩
    · obtain ⟨its, rv, pl, hz⟩ := I1.list hs
      exact wpAny_pyIter_list pl.isList ⟨_, [s1.heap.objs.size], _, _, H1, rfl, I1.kept (t' := s1.toks) fun b o q => Heap.get?_push_of_some _ q, turn_list a _,
        ⟨_, Heap.get?_push_size _ rfl, rfl, rfl⟩, fin, q⟩
    · obtain ⟨its, rv, pl, hz⟩ := I1.tuple hs
      exact wpAny_pyIter_tuple (show s1.heap.IsTuple a its.toArray from pl) ⟨_, [s1.heap.objs.size], _, _, H1, rfl, I1.kept (t' := s1.toks) fun b o q => Heap.get?_push_of_some _ q, turn_tuple a _,
        ⟨_, Heap.get?_push_size _ rfl, rfl, rfl⟩, fin, q⟩
  · subst ex
    obtain ⟨t, rfl⟩ := r1
    cases ha : z.cps.all (· < 128)
    · exact wpAny_pyIter_wide ha (pi_one (tk := s1.toks) I1 _ (turn_str _ z t "str_iterator" (.inr rfl)) ⟨_, Heap.get?_push_size _ rfl, rfl, rfl⟩ q)
    · exact wpAny_pyIter_ascii ha (pi_one (tk := s1.toks) I1 _ (turn_str _ z t "str_ascii_iterator" (.inl rfl)) ⟨_, Heap.get?_push_size _ rfl, rfl, rfl⟩ q)
def signs (z : Str) : List D := z.cps.toList.map fun n => .str ⟨#[n]⟩
theorem itOk_str {z : Str} {F : Hp} : ItOk c (Its z) (signs z) F := by
  intro i F' H σ ρ xx e r
  refine ⟨fun d hd => ?_, fun hl => ?_⟩
  · unfold signs at hd
    rw [List.getElem?_map] at hd
    cases hn : z.cps.toList[i]? with
    | none => rw [hn] at hd; cases hd
    | some n =>
      rw [hn] at hd
      cases hd
      have hi : z.cps[i]? = some n := by simpa using hn
      refine ⟨?_, fun x H' ⟨eh, m, y, ev⟩ => ?_⟩
      · have := (Array.getElem?_eq_some_iff.mp hi).1
        exact this
      · subst eh ev
        rw [hi] at y
        cases y
        exact ⟨F', Ex.refl _, r, .str _⟩
  · unfold signs at hl
    rw [List.length_map, Array.length_toList] at hl
    exact Nat.le_of_eq hl
def iSeq (f : DM) : IM := fun ρ P => f ρ fun d ρ1 => match d with
  | .list ds => P ds ρ1
  | .tuple ds => P ds ρ1
  | .str z => P (signs z) ρ1
  | _ => False
theorem di_seq {tg l : Expr} {f : DM} (hK : X.K = c.K) (hl : PE X l (tD c f)) : PI X tg l (tI c (iSeq f)) := by
  refine PI.to (pi_any hl) ?_
  rintro σ H R ⟨F, ρ, xx, P, rel, q, k⟩
  refine ⟨F, ρ, xx, _, rel, q, fun d ρ1 v F1 H1 q1 e1 r1 a1 => ?_⟩
  split at q1
  · cases a1 with
    | lst s1 t1 => exact .inl ⟨_, rfl, .inl ⟨⟨_, by rw [hK]; exact r1.w.fh.sl s1⟩, k _ ρ1 _ F1 H1 q1 e1 r1 (itOk_list hK s1 t1)⟩⟩
  · cases a1 with
    | tup s1 t1 => exact .inl ⟨_, rfl, .inr ⟨⟨_, by rw [hK]; exact r1.w.fh.st s1⟩, k _ ρ1 _ F1 H1 q1 e1 r1 (itOk_tup hK s1 t1)⟩⟩
  · cases a1
    exact .inr ⟨_, rfl, k _ ρ1 _ F1 H1 q1 e1 r1 itOk_str⟩
  · exact q1.elim
/-- range(n), range(a, b) -/
def rgD (lo hi : Int) : List D := (List.range (hi - lo).toNat).map fun i => .int (lo + (i : Nat))
theorem itOk_range {lo : Int} {n : Nat} {F : Hp} : ItOk c (Itr lo n) ((List.range n).map fun i => .int (lo + (i : Nat))) F := by
  intro i F' H σ ρ xx e r
  refine ⟨fun d hd => ?_, fun hl => show n ≤ i by simp at hl; omega⟩
  rw [List.getElem?_map] at hd
  cases hn : (List.range n)[i]? with
  | none => rw [hn] at hd; cases hd
  | some j =>
    rw [hn] at hd
    cases hd
    obtain ⟨hi, ej⟩ := List.getElem?_eq_some_iff.mp hn
    rw [List.getElem_range] at ej
    subst ej
    refine ⟨show i < n by simpa using hi, fun x H' ⟨eh, y⟩ => ?_⟩
    subst eh y
    exact ⟨F', Ex.refl _, r, .int _⟩
def iRange1 (f : LM) : IM := fun ρ P => f ρ fun ds ρ1 => match ds with
  | [.int n] => (-(2 ^ 62) ≤ n ∧ n < 2 ^ 62) ∧ P (rgD 0 n) ρ1
  | _ => False
def iRange2 (f : LM) : IM := fun ρ P => f ρ fun ds ρ1 => match ds with
  | [.int a, .int b] => (-(2 ^ 62) ≤ a ∧ a < 2 ^ 62 ∧ -(2 ^ 62) ≤ b ∧ b < 2 ^ 62) ∧ P (rgD a b) ρ1
  | _ => False
theorem di_range1 {tg a : Expr} {f : LM} {p : Pos} (hg : Gl X "range") (hm : X.mg "range" = none) (ha : PA X [a] (tL c f)) (hs : starEach [a] X.env = [(false, eval a X.env)] := by rfl) : PI X tg (.Call (.Name "range" p) [a] [] pos) (tI c (iRange1 f)) := by
  refine PI.to (pi_range1 hg hm ha hs) ?_
  rintro σ H R ⟨F, ρ, xx, P, rel, q, k⟩
  refine ⟨F, ρ, xx, _, rel, q, fun ds ρ1 vs F1 H1 q1 e1 r1 a1 => ?_⟩
  split at q1
  · rename_i n
    cases a1 with
    | cons a b =>
      cases b
      cases a
      have hr : rgD 0 n = (List.range n.toNat).map fun i => PyData.int (0 + (i : Nat)) := by
        unfold rgD
        rw [Int.sub_zero]
      rw [hr] at q1
      exact ⟨n, rfl, q1.1.1, q1.1.2, k _ ρ1 _ F1 H1 q1.2 e1 r1 itOk_range⟩
  · exact q1.elim
theorem di_range2 {tg a b : Expr} {f : LM} {p : Pos} (hg : Gl X "range") (hm : X.mg "range" = none) (ha : PA X [a, b] (tL c f)) (hs : starEach [a, b] X.env = [(false, eval a X.env), (false, eval b X.env)] := by rfl) (hs2 : starEach [b] X.env = [(false, eval b X.env)] := by rfl) :
    PI X tg (.Call (.Name "range" p) [a, b] [] pos) (tI c (iRange2 f)) := by
  refine PI.to (pi_range2 hg hm ha hs hs2) ?_
  rintro σ H R ⟨F, ρ, xx, P, rel, q, k⟩
  refine ⟨F, ρ, xx, _, rel, q, fun ds ρ1 vs F1 H1 q1 e1 r1 a1 => ?_⟩
  split at q1
  · cases a1 with
    | cons a b => cases b with
      | cons b t =>
        cases t
        cases a
        cases b
        exact ⟨_, _, rfl, q1.1, k _ ρ1 _ F1 H1 q1.2 e1 r1 itOk_range⟩
  · exact q1.elim
/-- while -/
def sWhile (t : BM) (body : SM) : SM := fun E ρ => ∃ W : Nat → Env → Prop, (∃ m, W m ρ) ∧ ∀ m ρ, W m ρ → t ρ fun b ρ1 => if b = true then body ⟨fun ρ' => ∃ m', m' < m ∧ W m' ρ', E.rt, E.nx, fun ρ' => ∃ m', m' < m ∧ W m' ρ'⟩ ρ1 else E.nx ρ1
theorem dp_while {t : BM} {body : List Stmt} {g : SM} (hp : PassesOwn (model X.prog X.w) X.A X.env X.xe) (hc : PT X e (tT c t)) (hb : PSs X body (tS c g)) : PS X (.While e body [] pos) (tS c (sWhile t g)) := by
  refine PS.to (ps_while hp hc hb) ?_
  rintro Z σ H ⟨F, ρ, xx, E, rel, ⟨W, ⟨m0, w0⟩, turn⟩, n, r, b, ct⟩
  refine ⟨fun m σ' H' => ∃ F' ρ', Ex F F' ∧ Rel c F' H' σ' ρ' xx ∧ W m ρ', ⟨m0, F, ρ, Ex.refl F, rel, w0⟩, ?_⟩
  rintro m σ' H' ⟨F', ρ', e1, r1, w1⟩
  refine ⟨F', ρ', xx, _, r1, turn m ρ' w1, fun bb ρ2 F2 H2 q2 e2 r2 => ?_⟩
  cases bb with
  | true =>
    refine ⟨fun σ3 H3 => ∃ F3 ρ3, Ex F F3 ∧ Rel c F3 H3 σ3 ρ3 xx ∧ ∃ m', m' < m ∧ W m' ρ3, fun σ3 H3 ⟨F3, ρ3, a1, a2, m', a3, a4⟩ => ⟨m', a3, F3, ρ3, a1, a2, a4⟩, ?_⟩
    exact ⟨F2, ρ2, xx, _, r2, q2, fun ρ3 σ3 F3 H3 q3 e3 r3 => ⟨F3, ρ3, (e1.trans e2).trans e3, r3, q3⟩, r, fun ρ3 σ3 F3 H3 q3 e3 r3 => n ρ3 σ3 F3 H3 q3 ((e1.trans e2).trans e3) r3, fun ρ3 σ3 F3 H3 q3 e3 r3 => ⟨F3, ρ3, (e1.trans e2).trans e3, r3, q3⟩⟩
  | false => exact n ρ2 σ' F2 H2 q2 (e1.trans e2) r2
end
end DL
namespace DL
open PySem L2
section
open PyProof.Rows
variable {prog : Program} {w : PySem.World} {A : Around} {E : Value → Shared → Prop} {s : Shared}
/-- enumerate(v), where iter(v) begins with the object o -/
theorem enum_one {v : Value} {o : Obj} {Z : Heap → Prop} {Q : Value → Shared → Prop} (B : Begins v o Z) (f : Z s.heap)
    (h : ∀ h2 : Heap, h2.get? s.heap.objs.size = some o → IsEnum h2 (s.heap.objs.size + 1) s.heap.objs.size 0 .none → (∀ b z, s.heap.get? b = some z → h2.get? b = some z) → Q (.ref (s.heap.objs.size + 1)) { s with heap := h2 }) :
    wpAny (model prog w) A (call (.type "enumerate") [v]) Q E s := by
  have new : Meets (Builtin.«enumerate.__new__» ⟨[.type "enumerate", v], []⟩) (fun _ R s1 => Z s1.heap ∧ R (.ok (.ret (.ref (s1.heap.push o).objs.size))) { s1 with heap := (s1.heap.push o).push { cls := .type "enumerate", data := .fields #[.none, .bool false, .ref s1.heap.objs.size, rawInt 0, .none, .none] } }) := by
    refine .of_wp fun prog w A R s1 z => ?_
    have begins : ∀ {A' : Around} {E : Value → Shared → Prop} {Q : Value → Shared → Prop}, Q (.ref s1.heap.objs.size) { s1 with heap := s1.heap.push o } → wpAny (model prog w) A' (pyIter v) Q E s1 := fun q => B.iter prog w _ _ s1 _ z.1 q
    have isa := sub_enumerate
    have fin := z.2
    clear z
    cases s1
    wp_walk using begins
    apply wpAny_stack_any
    intro st
    apply wpAny_pure
    split
    case _ c _ _ _ _ _ =>
      rcases c == Value.type "enumerate" with _ | _ <;> (wp_walk using begins) <;> exact ⟨_, rfl, fin⟩
    case _ =>
      wp_walk using begins
      exact ⟨_, rfl, fin⟩
  have at1 : (s.heap.push o).objs.size = s.heap.objs.size + 1 := Heap.size_push ..
  refine callType_new F.called_enumerate (by decide) (F.typeCall_enumerate_1 v) (F.newCall_enumerate_1 v) (F.args_object_init_2 · v) F.entry_enumerate_new new ?_
  rw [at1]
  have made := Heap.get?_push_size (s.heap.push o) (o := { cls := .type "enumerate", data := .fields #[.none, .bool false, .ref s.heap.objs.size, rawInt 0, .none, .none] }) rfl
  rw [at1] at made
  exact ⟨f, ⟨_, made, rfl⟩, h _ (Heap.get?_push_of_some _ (Heap.get?_push_size _ B.free)) made fun b z q => Heap.get?_push_of_some _ (Heap.get?_push_of_some _ q)⟩
/-- where an enumerate over the tuple a stands: e the enumerate, it the tuple's iterator -/
structure EnT (a e it : Addr) (i : Nat) (h : Heap) : Prop where
  en : ∃ old, IsEnum h e it ((i : Nat) : Int) old
  ti : h.IsTupleIter it a i
  e_it : e ≠ it
  a_it : a ≠ it
  a_e : a ≠ e
theorem EnT.move {a e it : Addr} {i : Nat} {h h' : Heap} (x : EnT a e it i h) (ke : ∀ o, h.get? e = some o → h'.get? e = some o) (ki : ∀ o, h.get? it = some o → h'.get? it = some o) : EnT a e it i h' :=
  ⟨x.en.imp fun _ q => ke _ q, x.ti.at ki, x.e_it, x.a_it, x.a_e⟩
/-- its next item, over the heap alone -/
theorem EnT.step {a e it : Addr} {i : Nat} {its : List Value} {u : Value} {R : Shared → Prop} {elts : List Expr} {kk : Nat} {tpos : Pos} (x : EnT a e it i s.heap) (calm : A.in1.handled = none) (p : s.heap.IsTuple a its.toArray) (hu : its[i]? = some u)
    (h : ∀ (h2 : Heap) (tk : Nat), EnT a e it (i + 1) h2 → h2.get? s.heap.objs.size = some { cls := .type "tuple", data := .seq #[.int i tk, u] } → (∀ b o, b ≠ e → b ≠ it → s.heap.get? b = some o → h2.get? b = some o) → R { s with heap := h2, toks := tk + 1 }) :
    wpAny (model prog w) A (pyNext (.ref e)) (fun r s1 => r = some (.ref s.heap.objs.size) ∧ wpAny (model prog w) A (letOwnedTupleGo (.Tuple elts kk tpos) (.ref e) (.ref s.heap.objs.size)) (fun _ s2 => R s2) E s1) E s := by
  obtain ⟨⟨old, en⟩, ti, n1, n2, n3⟩ := x
  have new : s.heap.objs.size ≠ e := Nat.ne_of_gt (Heap.lt_size en)
  have few : i < its.toArray.size := (List.getElem?_eq_some_iff.mp hu).1
  refine wpAny_pyNext_enum_itemD (Draws.tuple (prog := prog) (w := w) calm it a n2 its.toArray) en ⟨ti, p⟩ few n1 (List.not_mem_cons_of_ne_of_not_mem n1 (List.not_mem_cons_of_ne_of_not_mem (Ne.symm n3) List.not_mem_nil)) ?_
  rintro y h1 tk hy own st1 tup - kept
  have : y = u := Option.some.inj (Eq.trans (by simpa using hy.symm) hu)
  subst this
  refine ⟨rfl, wpAny_letOwnedTupleGo_enum (s := { s with heap := h1, toks := tk + 1 }) own fun h2 en2 sb => h h2 tk ⟨⟨_, by rw [Int.natCast_succ]; exact en2⟩, st1.1.at fun o q => (sb.2 it (Ne.symm n1)).trans q, n1, n2, n3⟩ ((sb.2 _ new).trans tup) ?_⟩
  exact fun b o be bi q => (sb.2 b be).trans (kept b o be bi q)
end
/-- each item of a sequence with its number, in a new pair -/
def numbered (S : Hp → List V → Prop) : It where
  go i H := ∃ xs x, S H xs ∧ xs[i]? = some x
  yld i H v H' := ∃ T x, v = .ref T ∧ H T = none ∧ H' = upd H T (.tup [.int (i : Nat), x]) ∧ ∀ xs, S H xs → xs[i]? = some x
  stop i H := ∃ xs, S H xs ∧ xs.length = i
abbrev IteT (K : PySem.W.Frag) (a : Addr) : It := numbered fun H xs => SqT K H a xs
open PyProof.Rows in
theorem turn_enumT {P : Program} {w : PySem.World} {K : PySem.W.Frag} {elts : List Expr} {kk : Nat} {tpos : Pos} (a e it : Addr) : Turn P w K (.Tuple elts kk tpos) (IteT K a) [e, it] e (EnT a e it) := by
  have two : ∀ {p : Addr → Prop}, p e → p it → ∀ b ∈ [e, it], p b := fun pe pi => List.forall_mem_cons.mpr ⟨pe, List.forall_mem_cons.mpr ⟨pi, fun _ z => nomatch z⟩⟩
  constructor
  · exact List.mem_cons_self
  · rintro i h ⟨⟨old, en⟩, ⟨o, ho, -, hd⟩, -⟩
    exact two ⟨_, en, fun v q => nomatch q⟩ ⟨o, ho, fun v q => by rw [hd] at q; exact nomatch q⟩
  · exact fun i h h' x k => x.move (k e List.mem_cons_self) (k it (List.mem_cons_of_mem _ List.mem_cons_self))
  · rintro X rfl rfl rfl calm i pins s σ H E I away x ⟨xs, y, sq, hy⟩
    obtain ⟨its, rv, p, -⟩ := I.tuple sq
    obtain ⟨u, hu, ru⟩ := rv.get hy
    have le : e < s.heap.objs.size := x.en.elim fun _ q => Heap.lt_size q
    have li : it < s.heap.objs.size := x.ti.elim fun _ q => Heap.lt_size q.1
    refine wpAny_mono (x.step (R := fun s2 => ∃ y' H', Inv X pins σ H' s2 ∧ RelV y' (.ref s.heap.objs.size) ∧ (IteT X.K a).yld i H y' H' ∧ EnT a e it (i + 1) s2.heap ∧ ∀ b ∈ [e, it], H' b = none) (I.ok.hd calm) p hu ?_) (fun r s1 q => ⟨_, q⟩) fun _ _ q => q
    intro h2 tk x2 tup kept
    refine ⟨.ref s.heap.objs.size, upd H s.heap.objs.size (.tup [.int (i : Nat), y]), ?_, rfl, ⟨_, y, rfl, I.hok.fresh (Nat.le_refl _), rfl, fun ys q => by rw [I.tuple_inj q sq]; exact hy⟩, x2, two ?_ ?_⟩
    · refine I.turnedNew (ch := [e, it]) (t' := tk + 1) (fun b ob nb q => kept b ob (fun z => nb (z ▸ List.mem_cons_self)) (fun z => nb (z ▸ List.mem_cons_of_mem _ List.mem_cons_self)) q) away (Nat.le_refl _) ?_
      exact ⟨by show 2 ≤ sizeLine; decide, _, .cons ⟨tk, rfl⟩ (.cons ru .nil), _, tup, rfl, _, rfl⟩
    · exact (upd_ne (Nat.ne_of_lt le)).trans (away e List.mem_cons_self).1
    · exact (upd_ne (Nat.ne_of_lt li)).trans (away it (List.mem_cons_of_mem _ List.mem_cons_self)).1
  · rintro X rfl rfl rfl calm i pins s σ H E I away x ⟨xs, sq, hi⟩
    obtain ⟨its, rv, p, -⟩ := I.tuple sq
    obtain ⟨old, en⟩ := x.en
    have at_end : s.heap.IsTupleIter it a its.toArray.size := by
      have : its.toArray.size = i := by rw [List.size_toArray, ← rv.length, hi]
      rw [this]
      exact x.ti
    obtain ⟨-, f1, f2, f3, f4, f5⟩ := away it (List.mem_cons_of_mem _ List.mem_cons_self)
    have quiet : X.A.in1.handled = none := I.ok.hd calm
    exact wpAny_pyNext_enum_endD (Draws.tuple (prog := X.prog) (w := X.w) quiet it a x.a_it its.toArray) en ⟨at_end, p⟩ fun h2 kept =>
      ⟨rfl, I.turned (t' := s.toks) (fun b o nb q => kept b o nb q) (away it (List.mem_cons_of_mem _ List.mem_cons_self)).1 f1 f3 f4 f5⟩
  · exact fun A i s Q E x q => x.en.elim fun _ en => wpAny_pyIter_enum en q
section
variable {X : Cx} {c : Cn}
/-- enumerate(x), of a list or a tuple -/
def iEnumA (K : PySem.W.Frag) (ta : TA) : TI := fun σ H R => ta σ H fun vs H1 => ∃ a xs, vs = [.ref a] ∧ ((SqL K H1 a xs ∧ R (Ite K a) H1) ∨ (SqT K H1 a xs ∧ R (IteT K a) H1))
open PyProof.Rows in
theorem pi_enumA {e : Expr} {ta : TA} {p pos tpos : Pos} {elts : List Expr} {kk : Nat} (hg : Gl X "enumerate") (hm : X.mg "enumerate" = none) (ha : PA X [e] ta) (hs : starEach [e] X.env = [(false, eval e X.env)] := by rfl) :
    PI X (.Tuple elts kk tpos) (.Call (.Name "enumerate" p) [e] [] pos) (iEnumA X.K ta) := by
  constructor
  intro pins s σ H R I h
  refine Call_ (ld_blt I hg hm boot_enumerate (PyProof.Rows.callWith_type1 (thn (ha.run pos pins s σ H _ I h) ?_) hs rfl))
  rintro us s1 ⟨vs, H1, I1, r1, a, xs, rfl, q⟩
  obtain _ | ⟨r, _ | _⟩ := r1
  cases r
  have new : ∀ b, s1.heap.objs.size ≤ b → FpOk X pins H1 b := fun b le => I1.fpOk le (I1.hok.fresh le)
  have news : ∀ b ∈ [s1.heap.objs.size + 1, s1.heap.objs.size], FpOk X pins H1 b := fun b hb => new b (by
    (simp only [List.mem_cons, List.not_mem_nil, or_false] at hb)
    omega)
  refine q.elim (fun ⟨sq, q⟩ => ?_) fun ⟨sq, q⟩ => ?_
  · obtain ⟨its, -, p1, -⟩ := I1.list sq
    refine enum_one (begins_list a its.toArray) p1.isList fun h2 hi he kept => wpAny_pyIter_enum he ?_
    exact ⟨_, _, _, _, H1, rfl, I1.kept (t' := s1.toks) kept, turn_enum a _ s1.heap.objs.size, ⟨⟨_, he⟩, ⟨_, hi, rfl, rfl⟩, Nat.succ_ne_self _⟩, news, q⟩
  · obtain ⟨its, -, p1, -⟩ := I1.tuple sq
    have lt : a < s1.heap.objs.size := p1.elim fun _ z => Heap.lt_size z.1
    refine enum_one (begins_tuple a its.toArray) p1 fun h2 hi he kept => wpAny_pyIter_enum he ?_
    exact ⟨_, _, _, _, H1, rfl, I1.kept (t' := s1.toks) kept, turn_enumT a _ s1.heap.objs.size, ⟨⟨_, he⟩, ⟨_, hi, rfl, rfl⟩, Nat.succ_ne_self _, Nat.ne_of_lt lt, Nat.ne_of_lt (Nat.lt_succ_of_lt lt)⟩, news, q⟩
def enD (ds : List D) : List D := ds.mapIdx fun i d => .tuple [.int (i : Nat), d]
theorem enD_get {ds : List D} {i : Nat} {d : D} (h : (enD ds)[i]? = some d) : ∃ e, ds[i]? = some e ∧ d = .tuple [.int (i : Nat), e] := by
  unfold enD at h
  rw [List.getElem?_mapIdx] at h
  cases e : ds[i]? with
  | none => (rw [e] at h; cases h)
  | some x => rw [e] at h; cases h; exact ⟨x, rfl, rfl⟩
theorem enD_length (ds : List D) : (enD ds).length = ds.length := by unfold enD; simp
theorem pair_new {F H : Hp} {σ : L2.St} {ρ : Env} {xx : XX} (r : Rel c F H σ ρ xx) {T : Addr} {x y : V} {d e : D} (hT : H T = none) (hx : At c.K F x d) (hy : At c.K F y e) :
    ∃ F2, Ex F F2 ∧ Rel c F2 (upd H T (.tup [x, y])) σ ρ xx ∧ At c.K F2 (.ref T) (.tuple [d, e]) :=
  ⟨_, r.efF _ hT, r.newF _ hT, .tup (.inl (.inl upd_same)) (.cons (hx.mono (r.efF _ hT)) (.cons (hy.mono (r.efF _ hT)) .nil))⟩
theorem itOk_enum {K : PySem.W.Frag} (hK : K = c.K) {a : Addr} {F : Hp} {ds : List D} {ys : List V} (s : SqL c.K F a ys) (t : AtAll c.K F ys ds) : ItOk c (Ite K a) (enD ds) F := by
  subst hK
  intro i F' H σ ρ xx e r
  have sq := r.w.fh.sl (e.sl s)
  refine ⟨fun d hd => ?_, fun hl => ⟨ys, sq, by rw [t.length, ← enD_length]; exact Nat.le_of_eq hl⟩⟩
  obtain ⟨d0, h0, ed⟩ := enD_get hd
  subst ed
  obtain ⟨v, hv, av⟩ := t.get h0
  refine ⟨⟨ys, v, sq, hv⟩, fun x H' ⟨T, y, ex, hT, eh, hy⟩ => ?_⟩
  subst ex eh
  have := hy ys sq
  rw [hv] at this
  cases this
  exact pair_new r hT (.int _) (av.mono e)
theorem itOk_enumT {K : PySem.W.Frag} (hK : K = c.K) {a : Addr} {F : Hp} {ds : List D} {ys : List V} (s : SqT c.K F a ys) (t : AtAll c.K F ys ds) : ItOk c (IteT K a) (enD ds) F := by
  subst hK
  intro i F' H σ ρ xx e r
  have sq := r.w.fh.st (e.st s)
  refine ⟨fun d hd => ?_, fun hl => ⟨ys, sq, by rw [t.length, ← enD_length]; exact hl⟩⟩
  obtain ⟨d0, h0, ed⟩ := enD_get hd
  subst ed
  obtain ⟨v, hv, av⟩ := t.get h0
  refine ⟨⟨ys, v, sq, hv⟩, fun x H' ⟨T, y, ex, hT, eh, hy⟩ => ?_⟩
  subst ex eh
  have := hy ys sq
  rw [hv] at this
  cases this
  exact pair_new r hT (.int _) (av.mono e)
def iEn (f : LM) : IM := fun ρ P => f ρ fun ds ρ1 => match ds with
  | [.list xs] => P (enD xs) ρ1
  | [.tuple xs] => P (enD xs) ρ1
  | _ => False
theorem di_enum {e : Expr} {f : LM} {p pos tpos : Pos} {elts : List Expr} {kk : Nat} (hK : X.K = c.K) (hg : Gl X "enumerate") (hm : X.mg "enumerate" = none) (ha : PA X [e] (tL c f)) (hs : starEach [e] X.env = [(false, eval e X.env)] := by rfl) :
    PI X (.Tuple elts kk tpos) (.Call (.Name "enumerate" p) [e] [] pos) (tI c (iEn f)) := by
  refine PI.to (pi_enumA hg hm ha hs) ?_
  rintro σ H R ⟨F, ρ, xx, P, rel, q, k⟩
  refine ⟨F, ρ, xx, _, rel, q, fun ds ρ1 vs F1 H1 q1 e1 r1 a1 => ?_⟩
  split at q1
  · cases a1 with
    | cons a t =>
      cases t
      cases a with
      | lst s1 t1 => exact ⟨_, _, rfl, .inl ⟨by rw [hK]; exact r1.w.fh.sl s1, k _ ρ1 _ F1 H1 q1 e1 r1 (itOk_enum hK s1 t1)⟩⟩
  · cases a1 with
    | cons a t =>
      cases t
      cases a with
      | tup s1 t1 => exact ⟨_, _, rfl, .inr ⟨by rw [hK]; exact r1.w.fh.st s1, k _ ρ1 _ F1 H1 q1 e1 r1 (itOk_enumT hK s1 t1)⟩⟩
  · exact q1.elim
end
end DL
namespace DL
open PySem L2
section
variable {c : Cn}
def wipeE (ρ : Env) : List Nat → Env
  | [] => ρ
  | v :: vs => (wipeE ρ vs).set v .no
def backE (ρ0 : Env) (ρ : Env) : List Nat → Env
  | [] => ρ
  | v :: vs => backE ρ0 (ρ.set v (ρ0.getD v .no)) vs
def plainS : Sl → Bool
  | .no => true
  | .im _ => true
  | _ => false
def okV (ρ : Env) (vs : List Nat) : Prop := vs.Nodup ∧ ∀ j ∈ vs, plainS (ρ.getD j .no) = true
theorem Slots.forget {F H : Hp} {σ : L2.St} {ρ : Env} {xx : XX} (s : Slots c F H σ ρ xx) (i : Nat) : Slots c F H (σ.set i none) (ρ.set i .no) xx := by
  have sg : ∀ {j : Nat}, i ≠ j → (σ.set i none)[j]? = σ[j]? := fun h => by rw [List.getElem?_set, if_neg h]
  refine ⟨by simpa using s.len, fun j d q => ?_, fun j d q => ?_, fun j k d e b q1 q2 s1 s2 => ?_, fun j n q => ?_, ou_set (by intro m z; cases z) s.ou, fun p hp => ⟨(s.ex p hp).1, fun j d q => ?_⟩, s.xd⟩
  · rcases set_lt q with ⟨_, _, e⟩ | ⟨z, q⟩
    · cases e
    · rw [sg z]
      exact s.im j d q
  · rcases set_lt q with ⟨_, _, e⟩ | ⟨z, q⟩
    · cases e
    · rw [sg z]
      exact s.ow j d q
  · rcases set_lt q1 with ⟨_, _, e⟩ | ⟨z, q1⟩
    · cases e
    · rcases set_lt q2 with ⟨_, _, e⟩ | ⟨z2, q2⟩
      · cases e
      · rw [sg z] at s1
        rw [sg z2] at s2
        exact s.dj j k d _ b q1 q2 s1 s2
  · rcases set_lt q with ⟨_, _, e⟩ | ⟨z, q⟩
    · cases e
    · rw [sg z]
      exact s.or j n q
  · rcases set_lt q with ⟨_, _, e⟩ | ⟨z, q⟩
    · cases e
    · rw [sg z]
      exact (s.ex p hp).2 j d q
theorem Rel.wipe {F H : Hp} {σ : L2.St} {ρ : Env} {xx : XX} (r : Rel c F H σ ρ xx) : ∀ vs : List Nat, Rel c F H (wipe σ vs) (wipeE ρ vs) xx
  | [] => r
  | v :: vs => ⟨r.w, (Rel.wipe r vs).s.forget v⟩
/-- a plain slot comes back -/
theorem Slots.recall {F H : Hp} {σ : L2.St} {ρ : Env} {xx : XX} {i : Nat} {x : Sl} (s : Slots c F H (σ.set i none) ρ xx) (hp : plainS x = true) (hx : ∀ d, x = .im d → ∃ v, σ[i]? = some (some v) ∧ At c.K F v d) : Slots c F H σ (ρ.set i x) xx := by
  have sg : ∀ {j : Nat}, i ≠ j → (σ.set i none)[j]? = σ[j]? := fun h => by rw [List.getElem?_set, if_neg h]
  refine ⟨by simpa using s.len, fun j d q => ?_, fun j d q => ?_, fun j k d e b q1 q2 s1 s2 => ?_, fun j n q => ?_, ou_set (by intro m z; subst z; cases hp) s.ou, fun p hpx => ⟨(s.ex p hpx).1, fun j d q => ?_⟩, s.xd⟩
  · rcases set_lt q with ⟨z, _, e⟩ | ⟨z, q⟩
    · rw [← z]
      exact hx d e
    · rw [← sg z]
      exact s.im j d q
  · rcases set_lt q with ⟨_, _, e⟩ | ⟨z, q⟩
    · subst e
      cases hp
    · rw [← sg z]
      exact s.ow j d q
  · rcases set_lt q1 with ⟨_, _, e⟩ | ⟨z, q1⟩
    · subst e
      cases hp
    · rcases set_lt q2 with ⟨_, _, e⟩ | ⟨z2, q2⟩
      · subst e
        cases hp
      · rw [← sg z] at s1
        rw [← sg z2] at s2
        exact s.dj j k d _ b q1 q2 s1 s2
  · rcases set_lt q with ⟨_, _, e⟩ | ⟨z, q⟩
    · subst e
      cases hp
    · rw [← sg z]
      exact s.or j n q
  · rcases set_lt q with ⟨_, _, e⟩ | ⟨z, q⟩
    · subst e
      cases hp
    · rw [← sg z]
      exact (s.ex p hpx).2 j d q
theorem wipe_get {σ : L2.St} {i : Nat} : ∀ {vs : List Nat}, i ∉ vs → (wipe σ vs)[i]? = σ[i]?
  | [], _ => rfl
  | v :: vs, h => by
    show ((wipe σ vs).set v none)[i]? = σ[i]?
    rw [List.getElem?_set, if_neg (fun z => h (by rw [z]; exact List.mem_cons_self ..)), wipe_get (fun z => h (List.mem_cons_of_mem _ z))]
theorem Rel.back {F H F' H' : Hp} {σ : L2.St} {ρ0 : Env} {xx yy : XX} (r0 : Rel c F H σ ρ0 yy) (e : Ex F F') : ∀ (vs : List Nat) (ρ : Env), okV ρ0 vs → Rel c F' H' (L2.wipe σ vs) ρ xx → Rel c F' H' σ (backE ρ0 ρ vs) xx
  | [], ρ, _, r => r
  | v :: vs, ρ, ok, r => by
    obtain ⟨nd, pl⟩ := ok
    rw [List.nodup_cons] at nd
    have hv := pl v (List.mem_cons_self ..)
    refine Rel.back r0 e vs _ ⟨nd.2, fun j hj => pl j (List.mem_cons_of_mem _ hj)⟩ ⟨r.w, Slots.recall (σ := L2.wipe σ vs) r.s hv fun d ed => ?_⟩
    have g : ρ0[v]? = some (.im d) := by
      rw [List.getD_eq_getElem?_getD] at ed
      cases q : ρ0[v]? with
      | none => rw [q] at ed; cases ed
      | some x => rw [q] at ed; exact congrArg some ed
    obtain ⟨u, h1, h2⟩ := r0.s.im v d g
    exact ⟨u, by rw [wipe_get nd.1]; exact h1, h2.mono e⟩
def lcL (t : TM) (b : BM) (f : DM) (vs : List Nat) (K : List D → Env → Prop) : List D → List D → Env → Prop
  | [], acc, ρ => K acc ρ
  | d :: ds, acc, ρ => t d ρ fun ρ1 => b ρ1 fun k ρ2 => if k = true then f ρ2 fun y ρ3 => lcL t b f vs K ds (acc ++ [y]) (wipeE ρ3 vs) else lcL t b f vs K ds acc (wipeE ρ2 vs)
def dLc (i : IM) (t : TM) (b : BM) (f : DM) (vs : List Nat) : DM := fun ρ P => i ρ fun ds ρ1 => ds.length ≤ 1000000 ∧ okV ρ1 vs ∧ lcL t b f vs (fun acc ρ' => P (.list acc) (backE ρ1 ρ' vs)) ds [] (wipeE ρ1 vs)
theorem lc_use {i : IM} {t : TM} {b : BM} {f : DM} {vs js : List Nat} (hj : ∀ j ∈ js, j ∈ vs) {wi : TI} {g : TG} {tt : TT} {te : TE} (e1 : wi = tI c i) (e2 : g = tG c js t) (e3 : tt = tT c b) (e4 : te = tD c f) :
    ∀ σ H Q, tN c (dLc i t b f vs) σ H Q → tLc wi g tt te vs σ H Q := by
  subst e1 e2 e3 e4
  rintro σ H Q ⟨F, ρ, xx, P, rel, q, k⟩
  refine ⟨F, ρ, xx, _, rel, q, fun ds ρ1 J F1 H1 ⟨hlen, hok, q1⟩ e1 r1 ok A hA => ?_⟩
  obtain ⟨rA, frA⟩ := Fresh.new (o := .lst []) (d := .d (.list [])) r1 hA ⟨[], upd_same, .nil⟩
  refine ⟨fun n m H' => ∃ F' ρ' acc, Ex F1 F' ∧ Rel c F' H' (wipe σ vs) ρ' ((A, .d (.list acc)) :: xx) ∧ m = ds.length - n ∧ n ≤ ds.length ∧ acc.length ≤ n ∧ lcL t b f vs (fun acc ρ' => P (.list acc) (backE ρ1 ρ' vs)) (ds.drop n) acc ρ',
    ⟨ds.length, F1, _, [], Ex.refl F1, (rA.pushX frA).wipe vs, by omega, Nat.zero_le _, Nat.zero_le _, by rw [List.drop_zero]; exact q1⟩, ?_⟩
  rintro n m H' ⟨F', ρ', acc, e2, r2, rfl, hn, ha, q2⟩
  obtain ⟨o1, o2⟩ := ok n F' H' (wipe σ vs) ρ' _ e2 r2
  by_cases hlt : n < ds.length
  · have hd : ds[n]? = some ds[n] := List.getElem?_eq_getElem hlt
    obtain ⟨go, yl⟩ := o1 _ hd
    rw [List.drop_eq_getElem_cons hlt] at q2
    have q2 : t ds[n] ρ' fun ρ2 => b ρ2 fun k ρ3 => if k = true then f ρ3 fun y ρ4 => lcL t b f vs (fun acc ρ' => P (.list acc) (backE ρ1 ρ' vs)) (ds.drop (n + 1)) (acc ++ [y]) (wipeE ρ4 vs) else lcL t b f vs (fun acc ρ' => P (.list acc) (backE ρ1 ρ' vs)) (ds.drop (n + 1)) acc (wipeE ρ3 vs) := q2
    refine .inr ⟨go, fun H2 => ∃ F2 ρ2 acc2, Ex F1 F2 ∧ Rel c F2 H2 (wipe σ vs) ρ2 ((A, .d (.list acc2)) :: xx) ∧ acc2.length ≤ n + 1 ∧ lcL t b f vs (fun acc ρ' => P (.list acc) (backE ρ1 ρ' vs)) (ds.drop (n + 1)) acc2 ρ2,
      fun H2 ⟨F2, ρ2, acc2, a1, a2, a3, a4⟩ => ⟨ds.length - (n + 1), by omega, F2, ρ2, acc2, a1, a2, rfl, by omega, a3, a4⟩, fun v H2 y => ?_⟩
    obtain ⟨F2, e3, r3, a3⟩ := yl v H2 y
    refine ⟨F2, ρ', _, _, _, r3, a3, q2, fun ρ4 σ4 F4 H4 q4 on e4 r4 => ⟨?_, F4, ρ4, _, _, r4, q4, fun bb ρ5 F5 H5 q5 e5 r5 => ?_⟩⟩
    · have h := on vs hj
      rw [h]
      -- wiping twice
      have w2 : ∀ (us : List Nat) (σ : L2.St) (i : Nat), i ∈ us → (wipe σ us).set i none = wipe σ us := fun us => by
        induction us with
        | nil => intro σ i hi; cases hi
        | cons u us ih =>
          intro σ i hi
          show ((wipe σ us).set u none).set i none = (wipe σ us).set u none
          by_cases e : u = i
          · subst e
            rw [List.set_set]
          · rw [List.set_comm _ _ e, ih σ i ((List.mem_cons.mp hi).resolve_left fun z => e z.symm)]
      have w3 : ∀ (us ws : List Nat) (σ : L2.St), (∀ i ∈ us, i ∈ ws) → wipe (wipe σ ws) us = wipe σ ws := fun us => by
        induction us with
        | nil => intro ws σ _; rfl
        | cons u us ih =>
          intro ws σ hs
          show (wipe (wipe σ ws) us).set u none = wipe σ ws
          rw [ih ws σ fun i hi => hs i (List.mem_cons_of_mem _ hi)]
          exact w2 ws σ u (hs u (List.mem_cons_self ..))
      exact w3 vs vs σ fun _ h => h
    · have hw : wipe σ4 vs = wipe σ vs := by
        have h := on vs hj
        rw [h]
        have w2 : ∀ (us : List Nat) (σ : L2.St) (i : Nat), i ∈ us → (wipe σ us).set i none = wipe σ us := fun us => by
          induction us with
          | nil => intro σ i hi; cases hi
          | cons u us ih =>
            intro σ i hi
            show ((wipe σ us).set u none).set i none = (wipe σ us).set u none
            by_cases e : u = i
            · subst e
              rw [List.set_set]
            · rw [List.set_comm _ _ e, ih σ i ((List.mem_cons.mp hi).resolve_left fun z => e z.symm)]
        have w3 : ∀ (us ws : List Nat) (σ : L2.St), (∀ i ∈ us, i ∈ ws) → wipe (wipe σ ws) us = wipe σ ws := fun us => by
          induction us with
          | nil => intro ws σ _; rfl
          | cons u us ih =>
            intro ws σ hs
            show (wipe (wipe σ ws) us).set u none = wipe σ ws
            rw [ih ws σ fun i hi => hs i (List.mem_cons_of_mem _ hi)]
            exact w2 ws σ u (hs u (List.mem_cons_self ..))
        exact w3 vs vs σ fun _ h => h
      cases bb with
      | false =>
        rw [if_neg Bool.false_ne_true] at q5
        show ∃ F' ρ' acc2, _
        refine ⟨F5, wipeE ρ5 vs, acc, ((e2.trans e3).trans e4).trans e5, ?_, by omega, q5⟩
        have := r5.wipe vs
        rw [hw] at this
        exact this
      | true =>
        rw [if_pos rfl] at q5
        show tD c f σ4 H5 _
        refine ⟨F5, ρ5, _, _, r5, q5, fun y ρ6 u F6 H6 q6 e6 r6 a6 => ?_⟩
        obtain ⟨vv, g1, g2⟩ := (r6.s.ex (A, .d (.list acc)) (List.mem_cons_self ..)).1.o
        have r7 := r6.mutX (o := .lst (vv ++ [u])) (d' := .d (.list (acc ++ [y]))) ⟨_, upd_same, g2.append (.cons a6 .nil)⟩
        refine ⟨vv, g1, szl (by rw [g2.length]; omega), F6, wipeE ρ6 vs, acc ++ [y], (((e2.trans e3).trans e4).trans e5).trans e6, ?_, by rw [List.length_append]; simp only [List.length_singleton]; omega, q6⟩
        have := r7.wipe vs
        rw [hw] at this
        exact this
  · have en : n = ds.length := by omega
    subst en
    rw [List.drop_length] at q2
    have q2 : P (.list acc) (backE ρ1 ρ' vs) := q2
    obtain ⟨r5, fr⟩ := (Rel.back r1 e2 vs ρ' hok r2).popX
    exact .inl ⟨o2 rfl, k _ _ A F' H' q2 (e1.trans e2) r5 fr⟩
def bYes : BM := fun ρ P => P true ρ
theorem dts_nil {X : Cx} : PTs X [] (tT c bYes) := ⟨fun pins s σ H Q I ⟨F, ρ, xx, P, rel, q, k⟩ => pts_nil.run pins s σ H Q I (k true ρ F H q (Ex.refl F) rel)⟩
theorem n_of_d {f : DM} : ∀ σ H Q, tD c f σ H Q → tN c f σ H Q := fun σ H Q ⟨F, ρ, xx, P, r, q, k⟩ => ⟨F, ρ, xx, P, r, q, fun d ρ' a F' H' p e r' fr => by
  obtain ⟨F2, e2, at_, r2⟩ := fr.freeze r'
  exact k d ρ' (.ref a) F2 H' p (e.trans e2) r2 at_⟩
variable {X : Cx} {elt tg iter : Expr} {ifs : List Expr} {scope : Scope} {own : List (Str × Nat)} {pos : Pos} {i : IM} {t : TM} {js : List Nat} {b : BM} {f : DM}
theorem dn_lc (hc : X.calm = true) (hN : X.N.Nodup) (hi : PI X tg iter (tI c i)) (ok : BlkOk X.N X.env.scope scope own) (hj : ∀ j ∈ js, j ∈ own.map (·.2))
    (hg : ∀ (s : Shared) (H : Hp) (C : Addr) (cl : List (Str × Addr)) (fp : List Addr), PG (X.blk s H scope (compEnvC scope cl C X.env) fp) tg (tG c js t)) (ht : ∀ (s : Shared) (H : Hp) (C : Addr) (cl : List (Str × Addr)) (fp : List Addr), PTs (X.blk s H scope (compEnvC scope cl C X.env) fp) ifs (tT c b))
    (he : ∀ (s : Shared) (H : Hp) (C : Addr) (cl : List (Str × Addr)) (fp : List Addr), PE (X.blk s H scope (compEnvC scope cl C X.env) fp) elt (tD c f)) (hs : ∀ x, foldedSetIterable iter X.env x = pure x := by intro _; rfl) :
    PE X (.ListComp elt [⟨tg, iter, ifs, 0⟩] scope pos) (tN c (dLc i t b f (own.map (·.2)))) := PE.to (pe_lc hc hN hi ok hg ht he hs) (lc_use hj rfl rfl rfl rfl)
theorem dp_setLc {n : Nat} {y : Str} {py spos : Pos} (hc : X.calm = true) (hN : X.N.Nodup) (hy : X.N[n]? = some y) (hyl : X.env.scope.names.lookup y = some .local)
    (hsw : swapsWith (.ListComp elt [⟨tg, iter, ifs, 0⟩] scope pos) (some (.Name y py)) spos.line X.env = pure true) (hi : PI X tg iter (tI c i)) (ok : BlkOk X.N X.env.scope scope own) (hj : ∀ j ∈ js, j ∈ own.map (·.2))
    (hg : ∀ (s : Shared) (H : Hp) (C : Addr) (cl : List (Str × Addr)) (fp : List Addr), PG (X.blk s H scope (compEnvC scope cl C X.env) fp) tg (tG c js t)) (ht : ∀ (s : Shared) (H : Hp) (C : Addr) (cl : List (Str × Addr)) (fp : List Addr), PTs (X.blk s H scope (compEnvC scope cl C X.env) fp) ifs (tT c b))
    (he : ∀ (s : Shared) (H : Hp) (C : Addr) (cl : List (Str × Addr)) (fp : List Addr), PE (X.blk s H scope (compEnvC scope cl C X.env) fp) elt (tD c f)) (hs : ∀ x, foldedSetIterable iter X.env x = pure x := by intro _; rfl) :
    PS X (.Assign [.Name y py] (.ListComp elt [⟨tg, iter, ifs, 0⟩] scope pos) spos) (tS c (sSet n (dLc i t b f (own.map (·.2))))) :=
  PS.to (ps_setLc hc hN hy hyl hsw hi ok hg ht he hs) fun Z σ H h => by
    have q : tAsg (tD c (dLc i t b f (own.map (·.2)))) (gName n) Z σ H := set_use rfl Z σ H h
    exact lc_use hj rfl rfl rfl rfl σ H _ (n_of_d σ H _ q)
end
end DL
namespace DL
open PySem L2
structure FnG (pr : Program) (wd : PySem.World) (K : PySem.W.Frag) (gl : Str → Option Value) (bas : Heap) (k : Nat) (f : Addr) (fd : FuncData) (ps : List Str) (sp : Sp) : Prop where
  many : ∀ vs H Q E, sp vs H Q E → vs.length = ps.length
  go : ∀ (A : Around) (out : List PySem.Env) (sh : Shared) (H : Hp) (ar : Args) (us : List Value) (vs : List V) (Q : VK) (E : XK), A.guards = some [] → Room k A →
    Env0 pr wd K gl bas A out sh H → BindsTo sh fd ar (ps.zip us) → Vals vs us → sp vs H Q E → codeAny (model pr wd) A (.call (.ref f) ar) (CR CX0 out pr wd H sh Q E) sh
theorem FnG.more {pr : Program} {wd : PySem.World} {K : PySem.W.Frag} {gl : Str → Option Value} {bas : Heap} {j k : Nat} {f : Addr} {fd : FuncData} {ps : List Str} {sp : Sp} (F : FnG pr wd K gl bas j f fd ps sp) (h : j ≤ k) : FnG pr wd K gl bas k f fd ps sp :=
  ⟨F.many, fun A out sh H ar us vs Q E g r => F.go A out sh H ar us vs Q E g (r.mono h)⟩
theorem FnG.of {pr : Program} {wd : PySem.World} {K : PySem.W.Frag} {gl : Str → Option Value} {bas : Heap} {k : Nat} {f : Addr} {x qual : Str} {st : Stmt} {fd : FuncData} {N ps : List Str} {sp : Sp} (F : L2.Fun K x qual st f fd) (S : FnScope N ps (defScope st))
    (len : (∀ vs H Q E, sp vs H Q E → vs.length = ps.length))
    (body : ∀ (cdv : Value) (A : Around) (out : List PySem.Env) (sh : Shared) (H : Hp) (vs : List V) (Q : VK) (E : XK), A.guards = some [] → Room k (A.deeper (PyProof.Rows.envOfC qual (defScope st) sh.heap.objs.size f cdv)) → sp vs H Q E →
      ∃ t, PSs (cxOf CX0 pr wd K gl bas N qual (defScope st) f cdv A out sh H E).nox (defBody st) t ∧ t { nx := fun _ H' => Q .non H', rt := Q } (start N vs) H) : FnG pr wd K gl bas (k + 1) f fd ps sp := by
  obtain ⟨oc, od, kV, doc, pm, an, cdv, ct, osl, efd, lk, hc⟩ := F.ex
  refine ⟨len, fun A out sh H ar us vs Q E hg room env bnd vals says => ?_⟩
  have heapK : K.In sh.heap := PySem.W.Frag.In.keeps env.mod.kin fun b o e => (env.bs b o e).1
  have noLim : sh.heap.NoLimit := Heap.NoLimit.keeps env.mod.nolimit fun b o e => (env.bs b o e).1
  have kinds : ∀ y ∈ ps.zip us, (defScope st).names.lookup y.1 = some .local ∨ ((defScope st).names.lookup y.1 = some .cell ∧ ((cellsFrom (sh.heap.objs.size + 1) (defScope st).names []).lookup y.1).isSome = true) := by
    rintro ⟨n, v⟩ hy
    exact (S.par n (List.of_mem_zip hy).1).imp id fun q => ⟨q, PySem.W.cellsFrom_some _ _ _ (.inl q)⟩
  rw [efd] at lk bnd
  refine codeAny_call_function room.depth (heapK _ _ lk) rfl S.co S.gen rfl (PySem.W.codeRec_of heapK hc) (bnd _ _ _ _ (wpAny_newFunctionEnv_cells S.kind kinds ?_))
  intro env1 he s1 xc
  subst he
  refine ⟨noLim.keeps xc.toInCall.keep, codeAny_func ?_⟩
  obtain ⟨t, ht, hq⟩ := body cdv A out sh H vs Q E hg (room.deeper _) says
  have inv : Inv (cxOf CX0 pr wd K gl bas N qual (defScope st) f cdv A out sh H E) [] (start N vs) H s1 := inv_start S room.hd env (len _ _ _ _ says) vals xc
  refine wpAny_mono (ht.nox.run [] s1 (start N vs) H _ inv hq) ?_ fun _ _ z => z
  intro fl s2 hs
  cases fl with
  | ret u =>
    (obtain ⟨v, σ', H', J, rv, q⟩ := hs)
    exact ⟨v, H', J.os, J.bare, J.base, J.hok, rv, q⟩
  | next =>
    obtain ⟨σ', H', J, q⟩ := hs
    exact ⟨V.non, H', J.os, J.bare, J.base, J.hok, rfl, q⟩
  | brk => exact (hs.choose_spec.choose_spec.2 : False).elim
  | cont => exact (hs.choose_spec.choose_spec.2 : False).elim
section
variable {X : Cx} {k : Nat} {f : Addr} {fd : FuncData} {ps : List Str} {sp : Sp} {x : Str} {p pos : Pos} {e : Expr} {es : List Expr} {t : TA}
theorem pe_callG (F : FnG X.prog X.w X.K X.mg X.base k f fd ps sp) (hg : X.A.guards = some []) (hr : Room k X.A) (gx : Gl X x) (hm : X.mg x = some (.ref f)) (hk : PySem.W.keepIn X.K (.ref f) = true) (hb : Binds X.K fd ps [])
    (ha : PA X (e :: es) t) (hdb : (x == ("__debug__" : Str)) = false := by decide)
    (he : starEach (e :: es) X.env = (false, eval e X.env) :: starEach es X.env := by rfl)
    (hpl : (backTo pos (starEach es X.env)).any (·.1) = false := by rfl) :
    PE X (.Call (.Name x p) (e :: es) [] pos) (tCall sp [] (fun _ _ _ => False) t) := by
  constructor
  intro pins s σ H Q I h
  refine wpAny_Call_Name_kw (ld_glob I gx hm (PySem.W.callWith_K (h₀ := X.base) I.ok.mod.kin hk (thn (ha.run pos pins s σ H _ I h) ?_) he hpl) hdb)
  rintro us s1 ⟨vs, H1, I1, r, q⟩
  refine ⟨I1.kIn, ?_⟩
  rw [List.append_nil] at q
  have hl : us.length = ps.length := by rw [← r.length]; exact F.many _ _ _ _ q
  have bd := hb s1 us I1.kIn (by rw [List.append_nil]; exact hl)
  rw [List.append_nil] at bd
  refine wpAny_call (codeAny_mono (F.go X.A X.stack s1 H1 ⟨us, []⟩ us vs Q _ hg hr I1.env0 bd r q) ?_)
  intro res s' hq
  match res, hq with
  | .error _, z => exact (z : False).elim
  | .ok (.ret u), z => exact I1.after z
end
/-- what a def says of its arguments and of the count of the source: S as m P: from these some d comes back, the count being m' then, with P d m' -/
abbrev SpD := List Ar → Nat → (D → Nat → Prop) → Prop
/-- the source is passed as the first argument, if at all -/
def oraAt (as : List Ar) : Prop := ∀ i, as[i]? = some Ar.ora → i = 0
def spD (K : PySem.W.Frag) (R : Orc) (n : Nat) (S : SpD) : Sp := fun vs H Q _ => ∃ (q : Option Addr) (F : Hp) (as : List Ar) (m : Nat) (P : D → Nat → Prop), World R q F H F H ∧ Paired (ArAt ⟨K, R, q, F, H⟩ F) vs as ∧ as.length = n ∧ oraAt as ∧ (q = none ∨ as[0]? = some .ora) ∧ (∀ p, q = some p → R.cnt p H ≤ m) ∧ S as m P ∧
  ∀ d m' v F' H', P d m' → World R q F H F' H' → (∀ p, q = some p → R.cnt p H' ≤ m') → At K F' v d → Q v H'
theorem paired_len {α β : Type} {R : α → β → Prop} : ∀ {xs : List α} {ys : List β}, Paired R xs ys → xs.length = ys.length
  | _, _, .nil => rfl
  | _, _, .cons _ t => congrArg Nat.succ (paired_len t)
theorem paired_get {α β : Type} {R : α → β → Prop} : ∀ {xs : List α} {ys : List β} {i : Nat} {y : β}, Paired R xs ys → ys[i]? = some y → ∃ x, xs[i]? = some x ∧ R x y
  | _, _, 0, _, .cons h _, e => by cases e; exact ⟨_, rfl, h⟩
  | _, _, i + 1, _, .cons _ t, e => paired_get (i := i) t e
/-- a call that draws nothing -/
def isD : Ar → Bool
  | .d _ => true
  | .ora => false
def dCall (n : Nat) (S : SpD) (f : AM) : DM := fun ρ P => f ρ fun as ρ1 => as.length = n ∧ as.all isD = true ∧ S as 0 fun d _ => P d ρ1
/-- a call that draws, the source standing in slot i -/
def dCallO (i n : Nat) (S : SpD) (f : AM) : DM := fun ρ P => f ρ fun as ρ1 => as.length = n ∧ as.head?.map isD = some false ∧ as.tail.all isD = true ∧ match ρ1[i]? with
  | some (.ora m) => S as m fun d m' => P d (ρ1.set i (.ora m'))
  | _ => False
theorem all_isD {as : List Ar} (h : as.all isD = true) (i : Nat) : as[i]? ≠ some .ora := fun e => by
  have := List.all_eq_true.mp h _ (List.mem_of_getElem? e)
  cases this
section
variable {X : Cx} {c : Cn} {k : Nat} {f : Addr} {fd : FuncData} {ps : List Str} {S : SpD} {x : Str} {p pos : Pos} {e : Expr} {es : List Expr} {fa : AM} {n : Nat}
theorem de_call (hK : X.K = c.K) (F : FnG X.prog X.w X.K X.mg X.base k f fd ps (spD X.K c.R n S)) (hg : X.A.guards = some []) (hr : Room k X.A) (gx : Gl X x) (hm : X.mg x = some (.ref f)) (hk : PySem.W.keepIn X.K (.ref f) = true) (hb : Binds X.K fd ps [])
    (ha : PA X (e :: es) (tAr c fa)) (hdb : (x == ("__debug__" : Str)) = false := by decide) (he : starEach (e :: es) X.env = (false, eval e X.env) :: starEach es X.env := by rfl) (hpl : (backTo pos (starEach es X.env)).any (·.1) = false := by rfl) :
    PE X (.Call (.Name x p) (e :: es) [] pos) (tD c (dCall n S fa)) := by
  refine PE.to (pe_callG F hg hr gx hm hk hb ha hdb he hpl) ?_
  rintro σ H Q ⟨F0, ρ, xx, P, rel, q, k0⟩
  refine ⟨F0, ρ, xx, _, rel, q, ?_⟩
  rintro as ρ1 vs F1 H1 ⟨hl, hd, hs⟩ e1 r1 pr
  rw [List.append_nil]
  have w0 : World c.R none F1 H1 F1 H1 := World.start r1.w.fh (fun _ _ z => z) fun _ z => nomatch z
  have pr' : Paired (ArAt ⟨X.K, c.R, none, F1, H1⟩ F1) vs as := by
    clear hs hl
    induction pr with
    | nil => exact .nil
    | @cons v a vs' as' h1 h2 ih =>
      (simp only [List.all_cons, Bool.and_eq_true] at hd)
      cases a with
      | d y =>
        refine .cons ?_ (ih hd.2)
        show At X.K F1 v y
        rw [hK]
        exact h1
      | ora => cases hd.1
  refine ⟨none, F1, as, 0, _, w0, pr', hl, fun i z => absurd z (all_isD hd i), .inl rfl, (fun _ z => nomatch z), hs, ?_⟩
  intro d m' v F2 H2 pd wd _ at_
  rw [hK] at at_
  exact k0 d ρ1 v F2 H2 pd (e1.trans wd.ff) (r1.stepN wd) at_
theorem de_callO {i : Nat} (hK : X.K = c.K) (F : FnG X.prog X.w X.K X.mg X.base k f fd ps (spD X.K c.R n S)) (hg : X.A.guards = some []) (hr : Room k X.A) (gx : Gl X x) (hm : X.mg x = some (.ref f)) (hk : PySem.W.keepIn X.K (.ref f) = true) (hb : Binds X.K fd ps [])
    (ha : PA X (e :: es) (tAr c fa)) (hdb : (x == ("__debug__" : Str)) = false := by decide) (he : starEach (e :: es) X.env = (false, eval e X.env) :: starEach es X.env := by rfl) (hpl : (backTo pos (starEach es X.env)).any (·.1) = false := by rfl) :
    PE X (.Call (.Name x p) (e :: es) [] pos) (tD c (dCallO i n S fa)) := by
  refine PE.to (pe_callG F hg hr gx hm hk hb ha hdb he hpl) ?_
  rintro σ H Q ⟨F0, ρ, xx, P, rel, q, k0⟩
  refine ⟨F0, ρ, xx, _, rel, q, ?_⟩
  rintro as ρ1 vs F1 H1 ⟨hl, hh, hd, hs⟩ e1 r1 pr
  rw [List.append_nil]
  split at hs
  · rename_i m em
    obtain ⟨u, h1, h2, h3⟩ := r1.s.or i m em
    have h0 : as[0]? = some Ar.ora := by
      cases as with
      | nil => cases hh
      | cons a t =>
        cases a with
        | d y => cases hh
        | ora => rfl
    refine ⟨c.p, F1, as, m, _, r1.w.here, ?_, hl, fun j z => ?_, .inr h0, fun y z => ?_, hs, ?_⟩
    · rw [hK]
      exact pr
    · cases j with
      | zero => rfl
      | succ j =>
        cases as with
        | nil => cases z
        | cons a t => exact absurd z (all_isD hd j)
    · rw [h1] at z
      cases z
      exact h3
    · intro d m' v F2 H2 pd wd hc at_
      rw [hK] at at_
      exact k0 d _ v F2 H2 pd (e1.trans wd.ff) (r1.drew wd em hc) at_
  · exact hs.elim
end
def arSl (m : Nat) : Ar → Sl
  | .d x => .im x
  | .ora => .ora m
def startE (N : Nat) (as : List Ar) (m : Nat) : Env := as.map (arSl m) ++ List.replicate (N - as.length) .no
theorem rel_start {K : PySem.W.Frag} {R : Orc} {q : Option Addr} {F H : Hp} {vs : List V} {as : List Ar} {N : List Str} {m : Nat} (w : World R q F H F H) (h : Paired (ArAt ⟨K, R, q, F, H⟩ F) vs as) (ho : oraAt as) (hm : ∀ p, q = some p → R.cnt p H ≤ m) : Rel ⟨K, R, q, F, H⟩ F H (start N vs) (startE N.length as m) [] := by
  have hl := paired_len h
  have get : ∀ (i : Nat) (s : Sl), (startE N.length as m)[i]? = some s → s = .no ∨ ∃ a v, as[i]? = some a ∧ vs[i]? = some v ∧ s = arSl m a ∧ (start N vs)[i]? = some (some v) := by
    intro i s e
    unfold startE at e
    unfold L2.start
    by_cases hi : i < as.length
    · rw [List.getElem?_append_left (by simpa using hi), List.getElem?_map] at e
      rw [List.getElem?_append_left (by simpa [hl] using hi), List.getElem?_map]
      have e1 : as[i]? = some as[i] := List.getElem?_eq_getElem hi
      have e2 : vs[i]? = some (vs[i]'(by rw [hl]; exact hi)) := List.getElem?_eq_getElem _
      rw [e1] at e
      cases e
      exact .inr ⟨_, _, e1, e2, rfl, by rw [e2]; rfl⟩
    · rw [List.getElem?_append_right (by simpa using hi), List.getElem?_replicate] at e
      split at e
      · cases e
        exact .inl rfl
      · cases e
  have atOf : ∀ {i : Nat} {a : Ar} {v : V}, as[i]? = some a → vs[i]? = some v → ArAt ⟨K, R, q, F, H⟩ F v a := by
    intro i a v h1 h2
    obtain ⟨v', g1, g2⟩ := paired_get h h1
    rw [h2] at g1
    cases g1
    exact g2
  refine ⟨w, ?_, ?_, ?_, ?_, ?_, ?_, (fun p hp => nomatch hp), List.nodup_nil⟩
  · unfold startE L2.start
    simp [hl]
  · intro i d e
    rcases get i _ e with z | ⟨a, v, g1, g2, g3, g4⟩
    · cases z
    · cases a with
      | d x => cases g3; exact ⟨v, g4, atOf g1 g2⟩
      | ora => cases g3
  · intro i d e
    rcases get i _ e with z | ⟨a, v, g1, g2, g3, g4⟩
    · cases z
    · cases a <;> cases g3
  · intro i j d e b z
    rcases get i _ z with z | ⟨a, v, g1, g2, g3, g4⟩
    · cases z
    · cases a <;> cases g3
  · intro i n e
    rcases get i _ e with z | ⟨a, v, g1, g2, g3, g4⟩
    · cases z
    · cases a with
      | d x => cases g3
      | ora =>
        obtain ⟨q', e1, e2⟩ := atOf g1 g2
        cases g3
        cases e2
        exact ⟨q', e1, g4, hm q' e1⟩
  · have one : ∀ {i n : Nat}, (startE N.length as m)[i]? = some (.ora n) → i = 0 := by
      intro i n e
      rcases get i _ e with z | ⟨a, v, g1, g2, g3, g4⟩
      · cases z
      · cases a with
        | d x => cases g3
        | ora => exact ho i g1
    intro i j a b e1 e2
    exact (one e1).trans (one e2).symm
/-- what a body says, as a promise -/
def raw (g : SM) (N : Nat) : SpD := fun as m P =>
  g ⟨fun (ρ : DL.Env) => match ρ[0]? with
    | some (Sl.ora m') => P .none m'
    | _ => as.head?.map isD ≠ some false ∧ P .none 0,
  fun (d : D) (ρ : DL.Env) => match ρ[0]? with
    | some (Sl.ora m') => P d m'
    | _ => as.head?.map isD ≠ some false ∧ P d 0, fun _ => False, fun _ => False⟩ (startE N as m)
/-- a def by its body in data -/
theorem FnG.data {pr : Program} {wd : PySem.World} {K : PySem.W.Frag} {gl : Str → Option Value} {bas : Heap} {k n : Nat} {f : Addr} {x qual : Str} {st : Stmt} {fd : FuncData} {N ps : List Str} {R : Orc} {g : SM} (F : L2.Fun K x qual st f fd) (Sc : FnScope N ps (defScope st)) (hn : n = ps.length)
    (body : ∀ (cdv : Value) (A : Around) (out : List PySem.Env) (sh : Shared) (H : Hp) (E : XK) (q : Option Addr) (F : Hp), A.guards = some [] → Room k (A.deeper (PyProof.Rows.envOfC qual (defScope st) sh.heap.objs.size f cdv)) →
      PSs (cxOf CX0 pr wd K gl bas N qual (defScope st) f cdv A out sh H E).nox (defBody st) (tS ⟨K, R, q, F, H⟩ g)) : FnG pr wd K gl bas (k + 1) f fd ps (spD K R n (raw g N.length)) := by
  refine FnG.of F Sc (fun vs H Q E ⟨q, F0, as, m, P, w, pa, hl, _⟩ => by rw [paired_len pa, hl, hn]) fun cdv A out sh H vs Q E hg hr ⟨q, F0, as, m, P, w, pa, hl, ho, hq, hm, says, k0⟩ => ?_
  have fin : ∀ (d : D) (v : V) (ρ' : DL.Env) (σ' : L2.St) (F' H' : Hp), (match ρ'[0]? with
      | some (Sl.ora m') => P d m'
      | _ => as.head?.map isD ≠ some false ∧ P d 0) → Rel ⟨K, R, q, F0, H⟩ F' H' σ' ρ' [] → At K F' v d → Q v H' := by
    intro d v ρ' σ' F' H' p r a
    split at p
    · rename_i m' e
      obtain ⟨y, h1, _, h3⟩ := r.s.or 0 m' e
      exact k0 d m' v F' H' p r.w (fun z hz => by
        have hz' : q = some z := hz
        have h1' : q = some y := h1
        rw [hz'] at h1'
        cases h1'
        exact h3) a
    · obtain ⟨p1, p2⟩ := p
      have qn : q = none := hq.resolve_right fun z => p1 (by
        cases as with
        | nil => cases z
        | cons b t => cases z; rfl)
      exact k0 d 0 v F' H' p2 r.w (fun z hz => by rw [qn] at hz; cases hz) a
  refine ⟨_, body cdv A out sh H E q F0 hg hr, F0, _, [], _, rel_start w pa ho hm, says, ?_, ?_, ?_, ?_⟩
  · exact fun ρ' σ' F' H' p e r => fin .none .non ρ' σ' F' H' p r .non
  · exact fun d v ρ' σ' F' H' p r a => fin d v ρ' σ' F' H' p r a
  · exact fun ρ' σ' F' H' p => p.elim
  · exact fun ρ' σ' F' H' p => p.elim
theorem pss_some {X : Cx} {st : List Stmt} {ι : Type} {t : ι → TS} (h : ∀ i, PSs X st (t i)) : PSs X st (fun Z σ H => ∃ i, t i Z σ H) := ⟨fun pins s σ H Z I ⟨i, q⟩ => (h i).run pins s σ H Z I q⟩
end DL
namespace DL
open PySem L2
/-- a def under its name -/
def Cd (pr : Program) (wd : PySem.World) (K : PySem.W.Frag) (gl : Str → Option Value) (bas : Heap) (R : Orc) (k : Nat) (x : Str) (n : Nat) (S : SpD) : Prop :=
  ∃ (f : Addr) (fd : FuncData) (ps : List Str), FnG pr wd K gl bas k f fd ps (spD K R n S) ∧ gl x = some (.ref f) ∧ PySem.W.keepIn K (.ref f) = true ∧ Binds K fd ps []
theorem Cd.more {pr : Program} {wd : PySem.World} {K : PySem.W.Frag} {gl : Str → Option Value} {bas : Heap} {R : Orc} {j k : Nat} {x : Str} {n : Nat} {S : SpD} (C : Cd pr wd K gl bas R j x n S) (h : j ≤ k) : Cd pr wd K gl bas R k x n S := by
  obtain ⟨f, fd, ps, F, a, b, d⟩ := C
  exact ⟨f, fd, ps, F.more h, a, b, d⟩
theorem de_cd {X : Cx} {c : Cn} {k n : Nat} {S : SpD} {x : Str} {p pos : Pos} {e : Expr} {es : List Expr} {fa : AM} (C : Cd X.prog X.w X.K X.mg X.base c.R k x n S) (hK : X.K = c.K) (hg : X.A.guards = some []) (hr : Room k X.A) (gx : Gl X x)
    (ha : PA X (e :: es) (tAr c fa)) (hdb : (x == ("__debug__" : Str)) = false := by decide) (he : starEach (e :: es) X.env = (false, eval e X.env) :: starEach es X.env := by rfl) (hpl : (backTo pos (starEach es X.env)).any (·.1) = false := by rfl) :
    PE X (.Call (.Name x p) (e :: es) [] pos) (tD c (dCall n S fa)) := by
  obtain ⟨f, fd, ps, F, a, b, d⟩ := C
  exact de_call hK F hg hr gx a b d ha hdb he hpl
theorem hu64 {A : Around} {k : Nat} (hr : Room k A) : A.units + 64 < cLine := by have := hr.un; omega
theorem hu65 {A : Around} {k : Nat} (hr : Room k A) : A.units + 65 < cLine := by have := hr.un; omega
theorem de_cdO {X : Cx} {c : Cn} {k n i : Nat} {S : SpD} {x : Str} {p pos : Pos} {e : Expr} {es : List Expr} {fa : AM} (C : Cd X.prog X.w X.K X.mg X.base c.R k x n S) (hK : X.K = c.K) (hg : X.A.guards = some []) (hr : Room k X.A) (gx : Gl X x)
    (ha : PA X (e :: es) (tAr c fa)) (hdb : (x == ("__debug__" : Str)) = false := by decide) (he : starEach (e :: es) X.env = (false, eval e X.env) :: starEach es X.env := by rfl) (hpl : (backTo pos (starEach es X.env)).any (·.1) = false := by rfl) :
    PE X (.Call (.Name x p) (e :: es) [] pos) (tD c (dCallO i n S fa)) := by
  obtain ⟨f, fd, ps, F, a, b, d⟩ := C
  exact de_callO hK F hg hr gx a b d ha hdb he hpl
end DL
namespace DL
open PySem L2
section
variable {X : Cx} {c : Cn} {e a b : Expr} {pos : Pos}
def tyN : D → String
  | .none => "NoneType"
  | .bool _ => "bool"
  | .int _ => "int"
  | .str _ => "str"
  | .list _ => "list"
  | .tuple _ => "tuple"
  | .dict _ => "dict"
theorem tyx_of {F H : Hp} {v : V} {d : D} (e : Ex F H) (b : Bo c F H v d) : TyX c.K H v (.type (tyN d)) := by
  have a := b.at e
  have sq : ∀ {p : Addr} {o : HO} {T : String}, Rd H p o → (H p = some o → TyX c.K H (.ref p) (.type T)) → (∀ q, H p = some (.frz q o) → TyX c.K H (.ref p) (.type T)) → TyX c.K H (.ref p) (.type T) :=
    fun h k1 k2 => h.elim k1 fun ⟨q, z⟩ => k2 q z
  clear b
  cases a with
  | non => exact .base .non
  | bl b => exact .base (.bl b)
  | int i => exact .base (.int i)
  | str x => exact .base (.str x)
  | lst s t =>
    rcases s with h | ⟨o, its, n, h1, h2, _⟩
    · exact sq h (fun z => .base (.lst z)) fun q z => .base (.frz z)
    · exact .kList h1 h2
  | tup s t =>
    rcases s with h | ⟨o, its, n, h1, h2, _⟩
    · exact sq h (fun z => .base (.tup z)) fun q z => .fTuple z
    · exact .kTuple h1 h2
  | dk r n l t => exact sq r (fun z => .base (.dK z)) fun q z => .fDict z
  | dt r l t => exact .base (.dT r)
def dIsi (T : String) (f : HM) : DM := fun ρ P => f ρ fun h ρ1 => see ρ1 h fun d => ∃ k, kitB (tyN d) T = some k ∧ P (.bool k) ρ1
theorem de_isi {T : String} {y : Str} {p p2 : Pos} {f : HM} (hK : X.K = c.K) (hg : Gl X "isinstance") (hm : X.mg "isinstance" = none) (hy : Gl X y) (hmy : X.mg y = none) (hv : bootBuiltins y = some (.type T)) (ha : PE X e (tH c f))
    (hb : bootBuiltins "isinstance" = some (.builtin "isinstance") := by decide +kernel) (hn : y ≠ "__name__" := by decide) (hd : (y == ("__debug__" : Str)) = false := by decide)
    (s1 : starEach [e, .Name y p2] X.env = (false, eval e X.env) :: starEach [.Name y p2] X.env := by rfl) (s2 : starEach [.Name y p2] X.env = (false, eval (.Name y p2) X.env) :: starEach [] X.env := by rfl) (hpl : (backTo pos (starEach [.Name y p2] X.env)).any (·.1) = false := by rfl) :
    PE X (.Call (.Name "isinstance" p) [e, .Name y p2] [] pos) (tD c (dIsi T f)) := by
  refine PE.to (pe_callB call_isi hg hm hb (pa_cons ha (pa_cons (pe_bltn (v := .ty T) hy hmy hv rfl hn hd) pa_nil s2) s1) (by decide) (by decide) s1 hpl) ?_
  rintro σ H Q ⟨F, ρ, xx, P, rel, q, k⟩
  refine ⟨F, ρ, xx, _, rel, q, fun h ρ1 v F1 H1 q1 e1 r1 h1 => ?_⟩
  obtain ⟨d, bo, b, hk, q2⟩ := see_bo r1 h1 q1
  have ty := tyx_of r1.w.fh bo
  rw [← hK] at ty
  exact ⟨v, .ty T, _, _, b, rfl, .ty T, ty, kit_ty hk, k _ ρ1 _ F1 H1 q2 e1 r1 (.bl b)⟩
def gIn : G2 := fun x y P => match y with
  | .list ds => okD x ∧ okD y ∧ P (.bool (ds.any fun z => PyData.eqv z x))
  | _ => False
theorem sem_in (hK : X.K = c.K) (hu : X.A.units + 65 < cLine) : Sem2 X c (compareOp .In) gIn := by
  refine ⟨_, op_inD hu, fun F H σ ρ xx x y vx vy P Q r bx by_ g k => ?_⟩
  unfold gIn at g
  split at g
  · rename_i ds
    obtain ⟨ox, oy, q⟩ := g
    have a1 := (bx.at r.w.fh).dp ox.nod
    have a2 := (by_.at r.w.fh).dp oy.nod
    rw [← hK] at a1 a2
    exact ⟨x, ds, a1, a2, ox, oy, k _ _ F H q (Ex.refl F) r (.bl _)⟩
  · exact g.elim
def dNeg (f : DM) : DM := fun ρ P => f ρ fun d ρ1 => match d with
  | .int i => P (.int (-i)) ρ1
  | _ => False
theorem de_neg {f : DM} (ha : PE X a (tD c f)) : PE X (.UnaryOp .USub a pos) (tD c (dNeg f)) := PE.to (pe_un un_neg ha) fun σ H Q ⟨F, ρ, xx, P, rel, q, k⟩ => ⟨F, ρ, xx, _, rel, q, fun d ρ1 v F1 H1 q1 e1 r1 a1 => by
  split at q1
  · cases a1
    exact ⟨_, rfl, k _ ρ1 _ F1 H1 q1 e1 r1 (.int _)⟩
  · exact q1.elim⟩
def gIadd : G2 := fun x y P => match x, y with
  | .int i, .int j => P (.int (i + j))
  | _, _ => False
def gIsub : G2 := fun x y P => match x, y with
  | .int i, .int j => P (.int (i - j))
  | _, _ => False
theorem sem_iadd : Sem2 X c (inplaceOp .Add) gIadd := by
  refine ⟨_, iop_add, fun F H σ ρ xx x y vx vy P Q r bx by_ g k => ?_⟩
  unfold gIadd at g
  split at g
  · cases bo_int bx
    cases bo_int by_
    exact ⟨_, _, rfl, rfl, k _ _ F H g (Ex.refl F) r (.int _)⟩
  · exact g.elim
theorem sem_isub : Sem2 X c (inplaceOp .Sub) gIsub := by
  refine ⟨_, iop_sub, fun F H σ ρ xx x y vx vy P Q r bx by_ g k => ?_⟩
  unfold gIsub at g
  split at g
  · cases bo_int bx
    cases bo_int by_
    exact ⟨_, _, rfl, rfl, k _ _ F H g (Ex.refl F) r (.int _)⟩
  · exact g.elim
theorem ref_of_bo {F H : Hp} {v : V} {d : D} (b : Bo c F H v d) : (∃ a, v = .ref a) ∨ (d = .none ∧ v = .non) ∨ (∃ i, d = .int i ∧ v = .int i) ∨ (∃ i, d = .bool i ∧ v = .bl i) ∨ (∃ i, d = .str i ∧ v = .str i) := by
  rcases b with b | ⟨a, rfl, _⟩
  · cases b with
    | non => exact .inr (.inl ⟨rfl, rfl⟩)
    | bl b => exact .inr (.inr (.inr (.inl ⟨_, rfl, rfl⟩)))
    | int i => exact .inr (.inr (.inl ⟨_, rfl, rfl⟩))
    | str x => exact .inr (.inr (.inr (.inr ⟨_, rfl, rfl⟩)))
    | lst s t => exact .inl ⟨_, rfl⟩
    | tup s t => exact .inl ⟨_, rfl⟩
    | dk r n l t => exact .inl ⟨_, rfl⟩
    | dt r l t => exact .inl ⟨_, rfl⟩
  · exact .inl ⟨a, rfl⟩
def rRp (K : PySem.W.Frag) : List V → Hp → VK → Prop := fun vs H Q => ∃ a d, vs = [.ref a] ∧ Dp K H (.ref a) d ∧ nod d = true ∧ d.showable = true ∧ d.depth ≤ 60 ∧ d.shown.length ≤ 1000000 ∧ Q (.str d.shown) H
end
mutual
theorem nod_dict : ∀ d : D, nod d = true → d.hasDict = false
  | .none, _ => by simp [PyData.hasDict]
  | .bool _, _ => by simp [PyData.hasDict]
  | .int _, _ => by simp [PyData.hasDict]
  | .str _, _ => by simp [PyData.hasDict]
  | .list xs, h => by
    simp only [PyData.hasDict]
    exact nod_dictAll xs (by simpa [nod] using h)
  | .tuple xs, h => by
    simp only [PyData.hasDict]
    exact nod_dictAll xs (by simpa [nod] using h)
  | .dict _, h => by simp [nod] at h
theorem nod_dictAll : ∀ ds : List D, nodAll ds = true → PyData.hasDictAll ds = false
  | [], _ => by simp [PyData.hasDictAll]
  | x :: xs, h => by
    simp only [nodAll, Bool.and_eq_true] at h
    simp only [PyData.hasDictAll, Bool.or_eq_false_iff]
    exact ⟨nod_dict x h.1, nod_dictAll xs h.2⟩
end
section
variable {X : Cx} {c : Cn} {e a b : Expr} {pos : Pos}
theorem call_rp (hg : X.A.guards = some []) (hu : X.A.units + 64 < cLine) : CallR X (.builtin "repr") (rRp X.K) := by
  (intro pins s σ H xs us Q I r h)
  obtain ⟨a, d, rfl, hd, h1, h2, h3, h4, q⟩ := h
  obtain ⟨u, rfl, rv⟩ := vals1 r
  cases rv
  obtain ⟨as, rd⟩ := Dp.reads I d _ _ hd rfl
  refine repr_of_reads' rd h2 (PyData.noDict_hsm (nod_dict _ h1)) hg (by omega) (fun _ _ e => e) (fun h' u tk hk => ⟨.str d.shown, H, I.kept hk, ⟨u, rfl⟩, q⟩) (sz h4)
end
end DL
namespace DL
open PySem L2
section
variable {X : Cx} {c : Cn} {e a b : Expr} {pos : Pos}
def ownL (ρ : Env) (i : Nat) (k : List D → Prop) : Prop := match ρ[i]? with
  | some (.ow (.list ds)) => k ds
  | _ => False
theorem ownL_get {F H : Hp} {σ : L2.St} {ρ : Env} {xx : XX} (r : Rel c F H σ ρ xx) {i : Nat} {k : List D → Prop} (h : ownL ρ i k) : ∃ ds p vs, ρ[i]? = some (.ow (.list ds)) ∧ σ[i]? = some (some (.ref p)) ∧ H p = some (.lst vs) ∧ AtAll c.K F vs ds ∧ k ds := by
  unfold ownL at h
  split at h
  · rename_i ds e
    obtain ⟨p, g1, g2⟩ := r.s.ow i _ e
    obtain ⟨vs, h1, h2⟩ := g2.o
    exact ⟨ds, p, vs, e, g1, h1, h2, h⟩
  · exact h.elim
def sApp (i : Nat) (f : DM) : SM := fun E ρ => ownL ρ i (fun _ => True) ∧ f ρ fun d ρ1 => ownL ρ1 i fun ds => ds.length < 1000000 ∧ E.nx (ρ1.set i (.ow (.list (ds ++ [d]))))
theorem app_use {i : Nat} {f : DM} {te : TE} (et : te = tD c f) (hK : X.K = c.K) : ∀ Z σ H, tS c (sApp i f) Z σ H → tDrop (tBM X.K "list" rAppend (tVar i) (tCons te tNil)) Z σ H := by
  subst et
  rintro Z σ H ⟨F, ρ, xx, E, rel, ⟨q0, q⟩, n, rr, b, t⟩
  obtain ⟨ds0, p0, vs0, g1, g2, g3, g4, _⟩ := ownL_get rel q0
  refine ⟨.ref p0, g2, .inl ⟨rfl, vs0, SqL.of g3⟩, F, ρ, xx, _, rel, q, fun d ρ1 v F1 H1 q1 e1 r1 a1 => ?_⟩
  obtain ⟨ds, p, vs, h1, h2, h3, h4, hl, hn⟩ := ownL_get r1 q1
  have ep : p0 = p := by
    rw [g2] at h2
    cases h2
    rfl
  subst ep
  refine ⟨p0, vs, v, rfl, rfl, h3, szl (by rw [h4.length]; omega), ?_⟩
  exact n _ σ F1 _ hn e1 (r1.mut h1 h2 ⟨_, upd_same, h4.append (.cons a1 .nil)⟩)
theorem dp_app {x : Str} {i : Nat} {px apos cpos : Pos} {f : DM} (hK : X.K = c.K) (ho : PE X (.Name x px) (tVar i)) (ha : PE X e (tD c f))
    (hbase : attributeBase (.Name x px) "append" X.env (eval (.Name x px) X.env) = eval (.Name x px) X.env := by rfl)
    (hfew : ((backTo cpos (starEach [e] X.env)).all (fun x => !x.1)
        && (backToKw cpos (keywordEach [] X.env)).all (fun x => x.1.isSome)
      && decide (([e] : List Expr).length + ([] : List Keyword).length
          + (if ([] : List Keyword).isEmpty then 0 else 1) < 30)) = true := by rfl)
    (hline : (apos.endLine == cpos.line) = true := by rfl) (hs : starEach [e] X.env = (false, eval e X.env) :: starEach [] X.env := by rfl) (hplain : (backTo cpos (starEach [] X.env)).any (·.1) = false := by rfl)
    (hsw : swapsWith (.Call (.Attribute (.Name x px) "append" apos) [e] [] cpos) none pos.line X.env = pure false := by rfl) : PS X (.Expr (.Call (.Attribute (.Name x px) "append" apos) [e] [] cpos) pos) (tS c (sApp i f)) :=
  PS.to (ps_expr (pe_bm PySem.F.plainAttrs_list PySem.F.slot_list_append PySem.F.type_list_append mt_append ho (pa_cons ha pa_nil hs) hbase hfew hline hs hplain) hsw) (app_use rfl hK)
def sPut (i : Nat) (fi fe : DM) : SM := fun E ρ => fe ρ fun d ρ1 => ownL ρ1 i (fun _ => True) ∧ fi ρ1 fun k ρ2 => ownL ρ2 i fun ds => match k with
  | .int z => ∃ j, ixN ds.length z = some j ∧ E.nx (ρ2.set i (.ow (.list (ds.set j d))))
  | _ => False
theorem put_use {i : Nat} {fi fe : DM} {te ti : TE} (et : te = tD c fe) (ei : ti = tD c fi) : ∀ Z σ H, tS c (sPut i fi fe) Z σ H → tAsg te (L2.gSub (tVar i) ti rSetL) Z σ H := by
  subst et ei
  rintro Z σ H ⟨F, ρ, xx, E, rel, q, n, rr, b, t⟩
  refine ⟨F, ρ, xx, _, rel, q, fun d ρ1 v F1 H1 ⟨q0, q1⟩ e1 r1 a1 => ?_⟩
  obtain ⟨ds0, p0, vs0, g1, g2, g3, g4, _⟩ := ownL_get r1 q0
  refine ⟨.ref p0, g2, F1, ρ1, xx, _, r1, q1, fun k ρ2 u F2 H2 q2 e2 r2 a2 => ?_⟩
  obtain ⟨ds, p, vs, h1, h2, h3, h4, hk⟩ := ownL_get r2 q2
  have ep : p0 = p := by
    rw [g2] at h2
    cases h2
    rfl
  subst ep
  split at hk
  · rename_i z
    cases a2
    obtain ⟨j, hj, hn⟩ := hk
    refine ⟨p0, vs, z, j, rfl, rfl, h3, by rw [h4.length]; exact hj, ?_⟩
    exact n _ σ F2 _ hn (e1.trans e2) (r2.mut h1 h2 ⟨_, upd_same, h4.set (a1.mono e2) j⟩)
  · exact hk.elim
end
end DL
namespace DL
open PySem L2
section
variable {X : Cx} {c : Cn} {e a b : Expr} {pos : Pos}
theorem dp_put {x : Str} {i : Nat} {ix : Expr} {px tpos : Pos} {fi fe : DM} (ho : PE X (.Name x px) (tVar i)) (hi : PE X ix (tD c fi)) (he : PE X e (tD c fe))
    (hsub : ∀ v, assign (.Subscript (.Name x px) ix tpos) X.env v = (do
      let ov ← holding [v] (eval (.Name x px) X.env)
      let iv ← holding [v, ov] (eval ix X.env)
      standAt tpos
      (holding [v, ov, iv] (setItem ov iv v))
      release [v, ov, iv] []) := by intro _; rfl)
    (hs : swapsWithSole [.Subscript (.Name x px) ix tpos] e pos.line X.env = pure false := by rfl) (hw : swappedStores [.Subscript (.Name x px) ix tpos] e X.env = pure none := by rfl)
    (h1 : (assignEach [.Subscript (.Name x px) ix tpos] X.env).map (·.2) = [assign (.Subscript (.Name x px) ix tpos) X.env] := by rfl) : PS X (.Assign [.Subscript (.Name x px) ix tpos] e pos) (tS c (sPut i fi fe)) :=
  PS.to (ps_asg he (pg_sub ho hi set_list hsub) hs hw h1) (put_use rfl rfl)
def ofStrs : List D → Option (List Str)
  | [] => some []
  | .str x :: r => (ofStrs r).map (x :: ·)
  | _ => none
theorem ofStrs_eq : ∀ {ds : List D} {ns : List Str}, ofStrs ds = some ns → ds = ns.map PyData.str
  | [], ns, h => by cases h; rfl
  | .str x :: r, ns, h => by
    unfold ofStrs at h
    cases e : ofStrs r with
    | none => (rw [e] at h; cases h)
    | some m =>
      rw [e] at h
      cases h
      rw [ofStrs_eq e]
      rfl
  | .none :: _, _, h => by cases h
  | .bool _ :: _, _, h => by cases h
  | .int _ :: _, _, h => by cases h
  | .list _ :: _, _, h => by cases h
  | .tuple _ :: _, _, h => by cases h
  | .dict _ :: _, _, h => by cases h
theorem ofStrs_map : ∀ (ns : List Str), ofStrs (ns.map PyData.str) = some ns
  | [] => rfl
  | n :: r => by
    show (ofStrs (r.map PyData.str)).map (n :: ·) = _
    rw [ofStrs_map r]
    rfl
def dJoin (f g : DM) : DM := fun ρ P => f ρ fun d ρ1 => (∃ z, d = .str z) ∧ g ρ1 fun l ρ2 => ∃ z ds ys, d = .str z ∧ (l = .list ds ∨ l = .tuple ds) ∧ ofStrs ds = some ys ∧ (ys.map (·.length)).sum + ys.length * z.length ≤ 16777216 ∧ P (.str (Txt.join z ys)) ρ2
theorem de_join {o : Expr} {apos : Pos} {f g : DM} (hK : X.K = c.K) (ho : PE X o (tD c f)) (he : PE X e (tD c g)) (hs : starEach [e] X.env = [(false, eval e X.env)] := by rfl) (hbase : attributeBase o "join" X.env (eval o X.env) = eval o X.env := by rfl) (hline : (apos.endLine == pos.line) = true := by rfl) :
    PE X (.Call (.Attribute o "join" apos) [e] [] pos) (tD c (dJoin f g)) := by
  refine PE.to (pe_join ho he hs hbase hline) ?_
  rintro σ H Q ⟨F, ρ, xx, P, rel, q, k⟩
  refine ⟨F, ρ, xx, _, rel, q, fun d ρ1 v F1 H1 ⟨⟨z, hz⟩, q1⟩ e1 r1 a1 => ?_⟩
  subst hz
  cases a1
  refine ⟨⟨z, rfl⟩, F1, ρ1, xx, _, r1, q1, fun l ρ2 u F2 H2 ⟨z', ds, ys, ez, hl, hy, hlen, q2⟩ e2 r2 a2 => ?_⟩
  cases ez
  have hd := ofStrs_eq hy
  subst hd
  rcases hl with hl | hl
  · subst hl
    cases a2 with
    | lst s t =>
      rw [hK]
      have := t.strs
      subst this
      exact ⟨z, _, ys, rfl, rfl, .inl (r2.w.fh.sl s), hlen, k _ ρ2 _ F2 H2 q2 (e1.trans e2) r2 (.str _)⟩
  · subst hl
    cases a2 with
    | tup s t =>
      rw [hK]
      have := t.strs
      subst this
      exact ⟨z, _, ys, rfl, rfl, .inr (r2.w.fh.st s), hlen, k _ ρ2 _ F2 H2 q2 (e1.trans e2) r2 (.str _)⟩
end
end DL
namespace DL
open PySem L2
section
variable {X : Cx} {c : Cn} {e a b e3 : Expr} {pos : Pos}
theorem dts_one {b : BM} (h : PT X e (tT c b)) : PTs X [e] (tT c b) := pts_one h
end
end DL
namespace DL
open PySem L2
section
variable {X : Cx} {c : Cn}
/-- two texts -/
def gEqS : G2 := fun x y P => match x, y with
  | .str a, .str b => P (.bool (decide (a = b)))
  | _, _ => False
def gNeS : G2 := fun x y P => match x, y with
  | .str a, .str b => P (.bool (!decide (a = b)))
  | _, _ => False
theorem dec_strs {a b : Str} : decide (V.str a = V.str b) = decide (a = b) := by
  by_cases h : a = b
  · subst h
    simp
  · simp [h]
theorem sem_eqS : Sem2 X c (compareOp .Eq) gEqS := by
  refine ⟨_, op_eq, fun F H σ ρ xx x y vx vy P Q r bx by_ g k => ?_⟩
  unfold gEqS at g
  split at g
  · cases bo_str bx
    cases bo_str by_
    refine ⟨rfl, ?_⟩
    rw [dec_strs]
    exact k _ _ F H g (Ex.refl F) r (.bl _)
  · exact g.elim
theorem sem_neS : Sem2 X c (compareOp .NotEq) gNeS := by
  refine ⟨_, op_ne, fun F H σ ρ xx x y vx vy P Q r bx by_ g k => ?_⟩
  unfold gNeS at g
  split at g
  · cases bo_str bx
    cases bo_str by_
    refine ⟨rfl, ?_⟩
    rw [dec_strs]
    exact k _ _ F H g (Ex.refl F) r (.bl _)
  · exact g.elim
end
end DL
namespace DL
open PySem L2 PySem.Spec PyProof.Rows
end DL
namespace DL
open PySem L2 PySem.Spec PyProof.Rows
/-- what stands behind a clause's tests -/
abbrev LvU := L2.St → Hp → (Hp → Prop) → Prop
/-- slots that know what the block's own slots knew -/
structure Knows (σ σ' : L2.St) (vs : List Nat) : Prop where
  l : (L2.wipe σ vs).length = σ'.length
  k : ∀ (j : Nat) v, (L2.wipe σ vs)[j]? = some (some v) → σ'[j]? = some (some v)
theorem Knows.of_eq {σ σ' : L2.St} {vs : List Nat} (e : L2.wipe σ' vs = L2.wipe σ vs) : Knows σ σ' vs := ⟨by rw [← e, wipe_length], fun j v q => (L2.wipe_some (show (L2.wipe σ' vs)[j]? = _ from e ▸ q)).1⟩
section
variable {Y : Cx} {pins : List (Addr × Obj)} {tg : Expr} {fs : List Expr} {g : TG} {tt : TT} {vs own : List Nat} {σ : L2.St} {it : Addr} {fp : List Addr} {tn : Nat → Heap → Prop} {J : It} {W : Nat → Nat → Hp → Prop} {Fin : Hp → Prop} {U : LvU} {act : (Shared → Prop) → Shared → Prop}
/-- how things stand ahead of a turn -/
def Ahead (Y : Cx) (pins : List (Addr × Obj)) (σw : L2.St) (fp : List Addr) (tn : Nat → Heap → Prop) (W : Nat → Nat → Hp → Prop) (m : Nat) (s : Shared) : Prop := ∃ i G, Inv Y pins σw G s ∧ tn i s.heap ∧ (∀ b ∈ fp, G b = none) ∧ W i m G
/-- what the iterator stands on was held through a turn, and goes free -/
theorem Ahead.next {σ' : L2.St} {G : Hp} {s7 s : Shared} {i m : Nat} (T : Turn Y.prog Y.w Y.K tg J fp it tn) (I : Inv Y (pins ++ pinsAt fp s7.heap) σ' G s) (kn : Knows σ σ' vs) (st : tn i s7.heap) (w : W i m G) : Ahead Y pins (L2.wipe σ vs) fp tn W m s := by
  have held : ∀ b ∈ fp, ∀ o, s7.heap.get? b = some o → _ := fun b mb o e => I.pin (b, o) (List.mem_append_right _ (List.mem_append_right _ (mem_pinsAt mb e)))
  exact ⟨i, G, I.unpinned.weak kn.l kn.k, T.keep i _ _ st fun b mb o e => (held b mb o e).1, fun b mb => (T.obj i _ st b mb).elim fun o q => (held b mb o q.1).2.1, w⟩
end
/-- a block stands open over a new container: what is known within, and what the end gives back -/
structure Opened (X : Cx) (pins : List (Addr × Obj)) (σ : L2.St) (own : List Nat) (Y : Cx) (fp : List Addr) (tn : Nat → Heap → Prop) (C : Addr) (G : Hp) (s : Shared) : Prop where
  inv : Inv Y [] (L2.wipe σ own) G s
  st : tn 0 s.heap
  no : ∀ b ∈ fp, G b = none
  still : ∀ (σ' : L2.St) (G' : Hp) (s' : Shared), Inv Y [] σ' G' s' → (∀ b ∈ fp, G' b = none) → ∀ b ∈ fp, FpOk Y [] G' b
  back : ∀ (σ' : L2.St) (G' : Hp) (s' : Shared), Inv Y [] σ' G' s' → Inv X pins σ G' s' ∧ (∃ m, s'.heap.Ns C m) ∧ FpOk X pins G' C
abbrev heapIn (h : Heap) (scope : Scope) : Heap := pushCells (h.push { cls := .type "dict", data := .dict #[] }) scope.names
abbrev envIn (X : Cx) (h : Heap) (scope : Scope) : PySem.Env := compEnvC scope (cellsFrom (h.objs.size + 1) scope.names (cloFrom X.env.cells scope.names [])) h.objs.size X.env
theorem Opened.of {X : Cx} {pins : List (Addr × Obj)} {σ : L2.St} {H : Hp} {s s3 : Shared} {tg : Expr} {J : It} {fp : List Addr} {it : Addr} {tn : Nat → Heap → Prop} {scope : Scope} {own : List (Str × Nat)} {o : HO} {ob : Obj} (hN : X.N.Nodup) (ok : BlkOk X.N X.env.scope scope own)
    (T : Turn X.prog X.w X.K tg J fp it tn) (st : tn 0 s.heap) (free : ∀ b ∈ fp, FpOk X pins H b) (e3 : s3.heap = s.heap.push ob) (I : Inv X pins σ (upd H s.heap.objs.size o) s3) :
    Opened X pins σ (own.map (·.2)) (X.blk s3 (upd H s.heap.objs.size o) scope (envIn X s3.heap scope) fp) fp tn s3.heap.objs.size (upd H s.heap.objs.size o) { s3 with heap := heapIn s3.heap scope } := by
  have lt : ∀ b ∈ fp, b < s.heap.objs.size := fun b mb => (T.obj 0 _ st b mb).elim fun _ q => Heap.lt_size q.1
  have free3 : ∀ b ∈ fp, FpOk X pins (upd H s.heap.objs.size o) b := fun b mb => ⟨(upd_ne (Nat.ne_of_lt (lt b mb))).trans (free b mb).1, (free b mb).2⟩
  have pushed : ∀ b z, s.heap.get? b = some z → s3.heap.get? b = some z := fun b z q => by rw [e3]; exact Heap.get?_push_of_some _ q
  exact {
    inv := block_start I ok hN fun b mb => ⟨free3 b mb, by rw [e3, Heap.size_push]; exact Nat.lt_succ_of_lt (lt b mb)⟩
    st := T.keep 0 _ _ st fun b _ z q => pushCells_keeps _ _ _ _ (Heap.get?_push_of_some _ (pushed b z q))
    no := fun b mb => (free3 b mb).1
    still := fun σ' G' s' J' n b mb =>
      have away := J'.ok.exf b mb
      ⟨n b mb, away.1, J'.ok.exfs b mb, .inl mb, away.2, fun p hp => (List.not_mem_nil hp).elim⟩
    back := fun σ' G' s' J' => by
      refine ⟨I.call' J'.os J'.base J'.hok J'.bare fun b mb => ?_, J'.loc.elim fun m q => ⟨m, q.1⟩, I.fpOk (Nat.le_refl _) J'.free⟩
      obtain ⟨-, f1, f2, f3, f4, f5⟩ := free3 b mb
      exact ⟨f3, f1, f4, f5⟩ }
end DL
namespace DL
open PySem L2 PySem.Spec PyProof.Rows
end DL
namespace DL
open PySem L2 PySem.Spec PyProof.Rows
end DL
namespace DL
open PySem L2 PySem.Spec PyProof.Rows
end DL
namespace DL
open PySem L2 PySem.Spec PyProof.Rows
end DL
namespace DL
open PySem L2
theorem hd_d {x : D} {as : List Ar} : ((Ar.d x :: as).head?).map isD ≠ some false := by simp [isD]
theorem k_int : kitB "int" "int" = some true := by decide +kernel
theorem k_ib : kitB "int" "bool" = some false := by decide +kernel
theorem k_tt : kitB "tuple" "tuple" = some true := by decide +kernel
theorem k_ss : kitB "str" "str" = some true := by decide +kernel
/-- a comprehension whose items are told by a function -/
theorem lcL_map {t : TM} {f : DM} {vs : List Nat} {K : List D → DL.Env → Prop} {ρ : DL.Env} (g : D → D) : ∀ (ds acc : List D), (∀ d ∈ ds, ∀ Q : D → DL.Env → Prop, (∀ ρ3, wipeE ρ3 vs = ρ → Q (g d) ρ3) → t d ρ fun ρ1 => f ρ1 Q) → K (acc ++ ds.map g) ρ → lcL t bYes f vs K ds acc ρ
  | [], acc, _, hk => by
    show K acc ρ
    simpa using hk
  | d :: ds, acc, h, hk => by
    refine h d (List.mem_cons_self ..) _ fun ρ3 e => ?_
    show lcL t bYes f vs K ds (acc ++ [g d]) (wipeE ρ3 vs)
    rw [e]
    exact lcL_map g ds (acc ++ [g d]) (fun d' hd => h d' (List.mem_cons_of_mem _ hd)) (by simpa using hk)
theorem signs_eq (z : Str) : signs z = z.cps.toList.map fun n => PyData.str ⟨#[n]⟩ := rfl
theorem ofBools_true : ∀ n : Nat, ofBools (List.replicate n (.bool true)) = some (List.replicate n true)
  | 0 => rfl
  | n + 1 => by
    have h := ofBools_true n
    rw [List.replicate_succ, List.replicate_succ]
    show (ofBools (List.replicate n (.bool true))).map (true :: ·) = _
    rw [h]
    rfl
end DL
namespace DL
open PySem L2
end DL
namespace DL
open PySem L2
def kC : Key := .inr "cells"
def kL : Key := .inr "left"
def kS : Key := .inr "at"
structure SrcAt (H : Hp) (q c l : Addr) (cs ls : List Int) (k : Nat) : Prop where
  dq : H q = some (.dK [(kC, .ref c), (kL, .ref l), (kS, .int k)])
  dc : H c = some (.lst (cs.map V.int))
  dl : H l = some (.lst (ls.map V.int))
  ne : c ≠ l
  nc : cs.length ≤ 100
  nl : ls.length ≤ 100
def spotOf : Option HO → Nat
  | some (.dK [_, _, (_, .int k)]) => k.toNat
  | _ => 0
theorem SrcAt.foot {H : Hp} {q c l : Addr} {cs ls : List Int} {k : Nat} (s : SrcAt H q c l cs ls k) {a : Addr} (h : Foot (some q) H a) : a = q ∨ a = c ∨ a = l := by
  rcases h with h | ⟨kvs, y, h1, h2⟩
  · exact .inl h
  · rw [s.dq] at h1
    cases h1
    simp only [List.mem_cons, Prod.mk.injEq, List.not_mem_nil, or_false] at h2
    rcases h2 with ⟨_, h⟩ | ⟨_, h⟩ | ⟨_, h⟩
    · cases h; exact .inr (.inl rfl)
    · cases h; exact .inr (.inr rfl)
    · cases h
theorem SrcAt.fq {H : Hp} {q : Addr} : Foot (some q) H q := .inl rfl
theorem SrcAt.fc {H : Hp} {q c l : Addr} {cs ls : List Int} {k : Nat} (s : SrcAt H q c l cs ls k) : Foot (some q) H c := .inr ⟨_, kC, s.dq, List.mem_cons_self ..⟩
theorem SrcAt.fl {H : Hp} {q c l : Addr} {cs ls : List Int} {k : Nat} (s : SrcAt H q c l cs ls k) : Foot (some q) H l := .inr ⟨_, kL, s.dq, List.mem_cons_of_mem _ (List.mem_cons_self ..)⟩
def srcOrc : Orc where
  I q H := ∃ c l cs ls k, SrcAt H q c l cs ls k
  cnt q H := spotOf (H q)
  al q H a h f := by
    obtain ⟨c, l, cs, ls, k, s⟩ := h
    rcases s.foot f with rfl | rfl | rfl
    · rw [s.dq]; exact Option.some_ne_none _
    · rw [s.dc]; exact Option.some_ne_none _
    · rw [s.dl]; exact Option.some_ne_none _
  st q H H' h e := by
    obtain ⟨c, l, cs, ls, k, s⟩ := h
    exact ⟨c, l, cs, ls, k, ⟨(e q SrcAt.fq).trans s.dq, (e c s.fc).trans s.dc, (e l s.fl).trans s.dl, s.ne, s.nc, s.nl⟩⟩
  sc q H H' h e := by rw [e q SrcAt.fq]
/-- H' is H but for the source, which may have new parts -/
structure Tou (q : Addr) (H H' : Hp) : Prop where
  kp : ∀ a, H a ≠ none → ¬ Foot (some q) H a → H' a = H a
  dom : ∀ a, H a ≠ none → H' a ≠ none
  ft : ∀ a, Foot (some q) H' a → Foot (some q) H a ∨ H a = none
theorem Tou.refl {q : Addr} {H : Hp} : Tou q H H := ⟨fun _ _ _ => rfl, fun _ h => h, fun _ h => .inl h⟩
theorem Tou.trans {q : Addr} {H H' H'' : Hp} (a : Tou q H H') (b : Tou q H' H'') : Tou q H H'' := by
  refine ⟨fun x h f => ?_, fun x h => b.dom x (a.dom x h), fun x h => ?_⟩
  · rw [b.kp x (a.dom x h) fun z => (a.ft x z).elim f h, a.kp x h f]
  · rcases b.ft x h with h | h
    · exact a.ft x h
    · refine .inr ?_
      cases z : H x with
      | none => rfl
      | some o => exact absurd h (a.dom x (by rw [z]; exact Option.some_ne_none o))
theorem Tou.world {q : Addr} {F H H' : Hp} (t : Tou q H H') (w : World srcOrc (some q) F H F H) (i : srcOrc.I q H') : World srcOrc (some q) F H F H' := by
  have al : ∀ a, F a ≠ none → H a ≠ none := fun a h z => by
    cases e : F a with
    | none => exact h e
    | some o =>
      have := w.fh a o e
      rw [z] at this
      cases this
  refine ⟨Ex.refl F, fun a o e => ?_, fun a o e f => ⟨?_, fun z => ?_⟩, t.dom, fun _ _ e => e, fun a h z => ?_, fun y e => ?_⟩
  · have h0 : F a ≠ none := by rw [e]; exact Option.some_ne_none o
    rw [t.kp a (al a h0) (w.ft a h0)]
    exact w.fh a o e
  · rw [t.kp a (by rw [e]; exact Option.some_ne_none o) f]
    exact e
  · rcases t.ft a z with z | z
    · exact f z
    · rw [e] at z
      cases z
  · rcases t.ft a z with z | z
    · exact w.ft a h z
    · exact al a h z
  · cases e
    exact i
/-- a new object -/
theorem Tou.new {q p : Addr} {o : HO} {H : Hp} (hp : H p = none) (hq : H q ≠ none) : Tou q H (upd H p o) := by
  have nq : q ≠ p := fun z => hq (by rw [z]; exact hp)
  refine ⟨fun a h _ => upd_ne fun z => h (by rw [z]; exact hp), fun a h => ?_, fun a h => .inl ?_⟩
  · by_cases z : a = p
    · exact absurd (by rw [z]; exact hp) h
    · rw [upd_ne z]
      exact h
  · exact (Foot.eqv (p := some q) (fun y e => by cases e; exact upd_ne nq) a).mp h
theorem SrcAt.new {H : Hp} {q c l p : Addr} {cs ls : List Int} {k : Nat} {o : HO} (s : SrcAt H q c l cs ls k) (hp : H p = none) : SrcAt (upd H p o) q c l cs ls k :=
  ⟨(upd_ne (ne_of_none s.dq hp)).trans s.dq, (upd_ne (ne_of_none s.dc hp)).trans s.dc, (upd_ne (ne_of_none s.dl hp)).trans s.dl, s.ne, s.nc, s.nl⟩
/-- the list of great ones is another -/
theorem SrcAt.setL {H : Hp} {q c l l' : Addr} {cs ls ls' : List Int} {k : Nat} (s : SrcAt H q c l cs ls k) (h : H l' = some (.lst (ls'.map V.int))) (n : c ≠ l') (z : ls'.length ≤ 100) : SrcAt (upd H q (.dK [(kC, .ref c), (kL, .ref l'), (kS, .int k)])) q c l' cs ls' k := by
  have qc : c ≠ q := fun e => by have := s.dc; rw [e, s.dq] at this; cases this
  have ql : l' ≠ q := fun e => by rw [e, s.dq] at h; cases h
  exact ⟨upd_same, (upd_ne qc).trans s.dc, (upd_ne ql).trans h, n, s.nc, z⟩
theorem SrcAt.setS {H : Hp} {q c l : Addr} {cs ls : List Int} {k : Nat} (s : SrcAt H q c l cs ls k) (k' : Nat) : SrcAt (upd H q (.dK [(kC, .ref c), (kL, .ref l), (kS, .int k')])) q c l cs ls k' := by
  have qc : c ≠ q := fun e => by have := s.dc; rw [e, s.dq] at this; cases this
  have ql : l ≠ q := fun e => by have := s.dl; rw [e, s.dq] at this; cases this
  exact ⟨upd_same, (upd_ne qc).trans s.dc, (upd_ne ql).trans s.dl, s.ne, s.nc, s.nl⟩
theorem SrcAt.setV {H : Hp} {q c l : Addr} {cs ls : List Int} {k : Nat} (s : SrcAt H q c l cs ls k) (ls' : List Int) (z : ls'.length ≤ 100) : SrcAt (upd H l (.lst (ls'.map V.int))) q c l cs ls' k := by
  have ql : q ≠ l := fun e => by have := s.dl; rw [← e, s.dq] at this; cases this
  exact ⟨(upd_ne ql).trans s.dq, (upd_ne s.ne).trans s.dc, upd_same, s.ne, s.nc, z⟩
/-- a store into the dict, or into its list -/
theorem Tou.putQ {H : Hp} {q c l l' : Addr} {cs ls : List Int} {k : Nat} {v : V} (s : SrcAt H q c l cs ls k) (hl : l' = l ∨ H l' = none) (nv : ∀ a, v ≠ .ref a) : Tou q H (upd H q (.dK [(kC, .ref c), (kL, .ref l'), (kS, v)])) := by
  refine ⟨fun a h f => upd_ne fun z => f (by rw [z]; exact SrcAt.fq), fun a h => ?_, fun a h => ?_⟩
  · by_cases z : a = q
    · rw [z, upd_same]; exact Option.some_ne_none _
    · rw [upd_ne z]; exact h
  · rcases h with h | ⟨kvs, y, h1, h2⟩
    · exact .inl (.inl h)
    · rw [upd_same] at h1
      cases h1
      simp only [List.mem_cons, Prod.mk.injEq, List.not_mem_nil, or_false] at h2
      rcases h2 with ⟨_, h⟩ | ⟨_, h⟩ | ⟨_, h⟩
      · cases h; exact .inl s.fc
      · cases h
        rcases hl with hl | hl
        · rw [hl]; exact .inl s.fl
        · exact .inr hl
      · exact absurd h.symm (nv a)
theorem Tou.putL {H : Hp} {q c l : Addr} {cs ls : List Int} {k : Nat} {o : HO} (s : SrcAt H q c l cs ls k) : Tou q H (upd H l o) := by
  have ql : q ≠ l := fun e => by have := s.dl; rw [← e, s.dq] at this; cases this
  refine ⟨fun a h f => upd_ne fun z => f (by rw [z]; exact s.fl), fun a h => ?_, fun a h => .inl ?_⟩
  · by_cases z : a = l
    · rw [z, upd_same]; exact Option.some_ne_none _
    · rw [upd_ne z]; exact h
  · exact (Foot.eqv (p := some q) (fun y e => by cases e; exact upd_ne ql) a).mp h
theorem SrcAt.spot {H : Hp} {q c l : Addr} {cs ls : List Int} {k : Nat} (s : SrcAt H q c l cs ls k) : srcOrc.cnt q H = k := by
  show spotOf (H q) = k
  rw [s.dq]
  rfl
theorem okD_ints (ns : List Int) : okD (.list (ns.map PyData.int)) := by
  have h1 : ∀ ms : List Int, PyData.canLayAll0 (ms.map PyData.int) = true := fun ms => by
    induction ms with
    | nil => rfl
    | cons m r ih => exact Bool.and_eq_true_iff.mpr ⟨rfl, ih⟩
  have h2 : ∀ ms : List Int, PyData.depthAll (ms.map PyData.int) ≤ 1 := fun ms => by
    induction ms with
    | nil => simp [PyData.depthAll]
    | cons m r ih => simp only [List.map_cons, PyData.depthAll, PyData.depth]; omega
  show SeqAt.shaped _ = true
  unfold SeqAt.shaped
  rw [Bool.and_eq_true_iff]
  refine ⟨h1 ns, decide_eq_true ?_⟩
  simp only [PyData.depth]
  have := h2 ns
  omega
theorem dp_ints {K : PySem.W.Frag} {H : Hp} {a : Addr} {ns : List Int} (h : H a = some (.lst (ns.map V.int))) : Dp K H (.ref a) (.list (ns.map PyData.int)) :=
  (At.lst (.inl (.inl h)) (AtAll.ofInts ns)).dp (okD_ints ns).nod
end DL
namespace DL
open PySem L2
section
variable {H : Hp} {q c l : Addr} {cs ls : List Int} {k : Nat} {σ : L2.St} {Q : VK}
theorem rdC (s : SrcAt H q c l cs ls k) (h0 : σ[0]? = some (some (.ref q))) (h : Q (.ref c) H) : tDGet (tVar 0) (tC (.str "cells")) σ H Q := ⟨_, h0, q, _, rfl, DGet.k (k := kC) s.dq, h⟩
theorem rdL (s : SrcAt H q c l cs ls k) (h0 : σ[0]? = some (some (.ref q))) (h : Q (.ref l) H) : tDGet (tVar 0) (tC (.str "left")) σ H Q := ⟨_, h0, q, _, rfl, DGet.k (k := kL) s.dq, h⟩
theorem rdS (s : SrcAt H q c l cs ls k) (h0 : σ[0]? = some (some (.ref q))) (h : Q (.int k) H) : tDGet (tVar 0) (tC (.str "at")) σ H Q := ⟨_, h0, q, _, rfl, DGet.k (k := kS) s.dq, h⟩
end
end DL
namespace DL
open PySem L2
def leftLen (q : Addr) (H : Hp) : Nat := match H q with
  | some (.dK [_, (_, .ref l), _]) => (match H l with
    | some (.lst xs) => xs.length
    | _ => 0)
  | _ => 0
theorem SrcAt.len {H : Hp} {q c l : Addr} {cs ls : List Int} {k : Nat} (s : SrcAt H q c l cs ls k) : leftLen q H = ls.length := by
  unfold leftLen
  rw [s.dq]
  simp only
  rw [s.dl]
  simp
abbrev gtL : TE := tDGet (tVar 0) (tC (.str "left"))
abbrev gtC : TE := tDGet (tVar 0) (tC (.str "cells"))
section
variable {K : PySem.W.Frag} {q c l : Addr} {cs ls : List Int} {k : Nat} {H H0 : Hp} {σ : L2.St}
/-- d["left"] != [] -/
theorem ne_left {Q : Bool → Hp → Prop} (s : SrcAt H q c l cs ls k) (h0 : σ[0]? = some (some (.ref q))) (h : ∀ H', SrcAt H' q c l cs ls k → Tou q H H' → Q (decide (ls ≠ [])) H') : tTest (tOp (rNeD K) gtL (tLst tNil)) σ H Q := by
  refine rdL s h0 ⟨Nat.zero_le _, fun p hp => ?_⟩
  have s1 : SrcAt (upd H p (.lst [])) q c l cs ls k := s.new hp
  refine ⟨_, _, dp_ints s1.dl, dp_ints (ns := []) upd_same, okD_ints ls, okD_ints [], _, rfl, ?_⟩
  have e : (!PyData.eqv (.list (ls.map PyData.int)) (.list ([].map PyData.int))) = decide (ls ≠ []) := by
    cases ls <;> rfl
  rw [e]
  exact h _ s1 (Tou.new hp (by rw [s.dq]; exact Option.some_ne_none _))
theorem ne_cells {Q : Bool → Hp → Prop} (s : SrcAt H q c l cs ls k) (h0 : σ[0]? = some (some (.ref q))) (h : ∀ H', SrcAt H' q c l cs ls k → Tou q H H' → Q (decide (cs ≠ [])) H') : tTest (tOp (rNeD K) gtC (tLst tNil)) σ H Q := by
  refine rdC s h0 ⟨Nat.zero_le _, fun p hp => ?_⟩
  have s1 : SrcAt (upd H p (.lst [])) q c l cs ls k := s.new hp
  refine ⟨_, _, dp_ints s1.dc, dp_ints (ns := []) upd_same, okD_ints cs, okD_ints [], _, rfl, ?_⟩
  have e : (!PyData.eqv (.list (cs.map PyData.int)) (.list ([].map PyData.int))) = decide (cs ≠ []) := by
    cases cs <;> rfl
  rw [e]
  exact h _ s1 (Tou.new hp (by rw [s.dq]; exact Option.some_ne_none _))
theorem put_kS {c l : Addr} {k : Nat} {v : V} : putK [(kC, V.ref c), (kL, V.ref l), (kS, V.int k)] kS v = [(kC, V.ref c), (kL, V.ref l), (kS, v)] := rfl
theorem small3 : 3 < sizeLine := by decide +kernel
theorem next_while {U : TS} {D0 : Ends} (s : SrcAt H q c l cs ls k) (h0 : σ[0]? = some (some (.ref q))) (hU : ∀ l ls H', SrcAt H' q c l cs ls k → Tou q H H' → U D0 σ H') :
    tSeq (tWhile (tAnd (tTest (tOp (rNeD K) gtL (tLst tNil))) (tTest (tOp rEq (tOp (rIxL K) gtL (tC (.int 0))) (tC (.int 0))))) (sDPut (tVar 0) (tC (.str "left")) (tSl (rSlL K) gtL (tPart (tC (.int 1))) tNoPart))) U D0 σ H := by
  refine ⟨fun m σ' H' => σ' = σ ∧ ∃ l ls, SrcAt H' q c l cs ls k ∧ Tou q H H' ∧ m = ls.length, ⟨_, rfl, l, ls, s, .refl, rfl⟩, ?_⟩
  rintro m σ' H' ⟨rfl, l1, ls1, s1, t1, rfl⟩
  refine ne_left s1 h0 fun H2 s2 t2 => ?_
  cases ls1 with
  | nil => exact hU _ _ _ s2 (t1.trans t2)
  | cons x r =>
    show tTest (tOp rEq (tOp (rIxL K) gtL (tC (.int 0))) (tC (.int 0))) σ' H2 _
    refine rdL s2 h0 ⟨l1, _, 0, .int x, rfl, rfl, SqL.of s2.dl, by simp [atI, ixN], rfl, _, rfl, ?_⟩
    by_cases hx : x = 0
    · subst hx
      show if decide (V.int 0 = V.int 0) = true then _ else _
      rw [if_pos (decide_eq_true rfl)]
      refine ⟨fun σ3 H3 => σ3 = σ' ∧ ∃ l, SrcAt H3 q c l cs r k ∧ Tou q H H3, fun σ3 H3 ⟨e, l3, s3, t3⟩ => ⟨r.length, Nat.lt_succ_self _, e, l3, r, s3, t3, rfl⟩, ?_⟩
      refine rdL s2 h0 ⟨1, rfl, l1, _, rfl, SqL.of s2.dl, fun p hp => ?_⟩
      have ec : cutV ((0 :: r).map V.int) (some 1) none = r.map V.int := by
        have := s2.nl
        unfold cutV
        have e1 : HT.sIx ((0 :: r).map V.int).length 0 (some 1) = 1 := by
          unfold HT.sIx
          simp
        have e2 : HT.sIx ((0 :: r).map V.int).length ((0 :: r).map V.int).length none = ((0 :: r).map V.int).length := rfl
        rw [e1, e2]
        simp
        (exact List.take_of_length_le (by simp))
      rw [ec]
      have s3 : SrcAt (upd H2 p (.lst (r.map V.int))) q c l1 cs (0 :: r) k := s2.new hp
      have np : c ≠ p := ne_of_none s2.dc hp
      refine ⟨.ref q, h0, q, _, rfl, DPut.k (k := kL) s3.dq small3, rfl, p, s3.setL upd_same np (by have := s2.nl; simp at this; omega), ?_⟩
      have t3 : Tou q H2 (upd H2 p (.lst (r.map V.int))) := Tou.new hp (by rw [s2.dq]; exact Option.some_ne_none _)
      have t4 : Tou q H2 (upd (upd H2 p (.lst (r.map V.int))) q (.dK [(kC, .ref c), (kL, .ref p), (kS, .int k)])) := by
        have pq : p ≠ q := fun z => by rw [z, s2.dq] at hp; cases hp
        have ex : upd (upd H2 p (.lst (r.map V.int))) q (.dK [(kC, .ref c), (kL, .ref p), (kS, .int k)]) = upd (upd H2 q (.dK [(kC, .ref c), (kL, .ref p), (kS, .int k)])) p (.lst (r.map V.int)) := by
          funext a
          by_cases z : a = q
          · rw [z, upd_same, upd_ne pq.symm, upd_same]
          · rw [upd_ne z]
            by_cases y : a = p
            · rw [y, upd_same, upd_same]
            · rw [upd_ne y, upd_ne y, upd_ne z]
        rw [ex]
        exact (Tou.putQ (v := .int k) s2 (.inr hp) (fun _ z => by cases z)).trans (Tou.new (by rw [upd_ne pq]; exact hp) (by rw [upd_same]; exact Option.some_ne_none _))
      exact (t1.trans t2).trans t4
    · show if decide (V.int x = V.int 0) = true then _ else _
      rw [if_neg (by simpa using hx)]
      exact hU _ _ _ s2 (t1.trans t2)
end
end DL
namespace DL
open PySem L2
abbrev rIntT : List V → Hp → VK → Prop := fun xs H Q => (∃ i, xs = [.int i] ∧ Q (.int i) H) ∨ ∃ k, xs = [.bl k] ∧ Q (.int (if k then 1 else 0)) H
abbrev rLenS (K : PySem.W.Frag) : List V → Hp → VK → Prop := fun xs H Q => ∃ p ys, xs = [.ref p] ∧ (SqL K H p ys ∨ SqT K H p ys) ∧ Q (.int ys.length) H
theorem atI_some {cs : List Int} {j : Int} (h : cs ≠ []) : ∃ z, atI (cs.map V.int) (j % (((cs.map V.int).length : Nat) : Int)) = some (V.int z) := by
  have hp : 0 < cs.length := List.length_pos_iff.mpr h
  rw [List.length_map]
  have a := Int.emod_nonneg j (b := (cs.length : Int)) (by omega)
  have b := Int.emod_lt_of_pos j (b := (cs.length : Int)) (by omega)
  generalize j % (cs.length : Int) = i at a b
  have hi : i.toNat < cs.length := by omega
  refine ⟨cs[i.toNat], ?_⟩
  unfold atI ixN
  rw [if_pos a, if_pos (by rw [List.length_map]; exact b)]
  show (cs.map V.int)[i.toNat]? = _
  (rw [List.getElem?_map, List.getElem?_eq_getElem hi])
  rfl
section
variable {K : PySem.W.Frag} {q c l : Addr} {cs ls : List Int} {k : Nat} {H H0 : Hp} {σ : L2.St}
theorem cell_use {j : Int} {Q : VK} (s : SrcAt H q c l cs ls k) (h0 : σ[0]? = some (some (.ref q))) (h2 : σ[2]? = some (some (.int j))) (h : ∀ z H', SrcAt H' q c l cs ls k → Tou q H H' → Q (.int z) H') :
    tIf (tTest (tOp (rNeD K) gtC (tLst tNil))) (tOp (rIxL K) gtC (tOp (rI (fun _ j => 0 < j) fun i j => .int (i % j)) (tCB rIntT (tCons (tVar 2) tNil)) (tCB (rLenS K) (tCons gtC tNil)))) (tC (.int 3)) σ H Q := by
  refine ne_cells s h0 fun H1 s1 t1 => ?_
  by_cases e : cs = []
  · show if decide (cs ≠ []) = true then _ else _
    rw [if_neg (by simpa using e)]
    exact h 3 H1 s1 t1
  · show if decide (cs ≠ []) = true then _ else _
    (rw [if_pos (decide_eq_true e)])
    obtain ⟨z, hz⟩ := atI_some (j := j) e
    refine rdC s1 h0 ⟨_, h2, .inl ⟨_, rfl, ?_⟩⟩
    refine rdC s1 h0 ⟨c, _, rfl, .inl (SqL.of s1.dc), ?_⟩
    (refine ⟨_, _, rfl, rfl, ?_, ?_⟩)
    · show (0 : Int) < ((cs.map V.int).length : Nat)
      rw [List.length_map]
      have := List.length_pos_iff.mpr e
      omega
    · exact ⟨c, _, _, _, rfl, rfl, SqL.of s1.dc, hz, h z H1 s1 t1⟩
end
end DL
namespace DL
open PySem L2
def spBegun (K : PySem.W.Frag) : Sp := fun vs H Q _ => ∃ (a : Addr) (ns : List Int), vs = [.ref a] ∧ SqL K H a (ns.map V.int) ∧ ns.length ≤ 63 ∧
  ∀ q c l cs ls H', (∀ b o, H b = some o → H' b = some o) → H q = none → H c = none → H l = none → SrcAt H' q c l cs ls 0 → Q (.ref q) H'
theorem disp_use {K : PySem.W.Frag} {σ : L2.St} {ρ : Env} {H : Hp} {f1 f2 : DM} {te1 te2 : TE} {ns ms : List Int} {Q : VK} (r : Rel ⟨K, Orc.nil, none, H, H⟩ H H σ ρ []) (e1 : te1 = tN ⟨K, Orc.nil, none, H, H⟩ f1) (e2 : te2 = tN ⟨K, Orc.nil, none, H, H⟩ f2)
    (h1 : f1 ρ fun d ρ1 => d = .list (ns.map PyData.int) ∧ f2 ρ1 fun d2 _ => d2 = .list (ms.map PyData.int)) (hn : ns.length ≤ 100) (hm : ms.length ≤ 100)
    (k : ∀ q c l H', (∀ b o, H b = some o → H' b = some o) → H q = none → H c = none → H l = none → SrcAt H' q c l ns ms 0 → Q (.ref q) H') :
    tDisp [(tC (.str "cells"), te1), (tC (.str "left"), te2), (tC (.str "at"), tC (.int 0))] σ H Q := by
  subst e1 e2
  intro p hp
  obtain ⟨r1, fp⟩ := Fresh.new (o := .dK []) (d := .o (.dK [])) r hp upd_same
  refine ⟨H, ρ, _, _, r1.pushX fp, h1, ?_⟩
  rintro d1 ρ1 a1 F1 H1 ⟨rfl, h2⟩ ex1 r2 f1'
  refine ⟨F1, ρ1, _, _, r2.pushX f1', h2, ?_⟩
  rintro d2 ρ2 a2 F2 H2 rfl ex2 r3 f2'
  have r4 := r3.pushX f2'
  have xp := r4.s.ex (p, .o (.dK [])) (by simp)
  have x1 := r4.s.ex (a1, .d (.list (ns.map PyData.int))) (by simp)
  have x2 := r4.s.ex (a2, .d (.list (ms.map PyData.int))) (by simp)
  have nd := r4.s.xd
  simp only [List.map_cons, List.map_nil, List.nodup_cons, List.mem_cons, List.not_mem_nil, or_false, not_or] at nd
  obtain ⟨v1, g1, t1⟩ := x1.1.o
  obtain ⟨v2, g2, t2⟩ := x2.1.o
  have q1 := t1.ints
  have q2 := t2.ints
  subst q1 q2
  refine ⟨xp.1.o, [(kC, .ref a1), (kL, .ref a2), (kS, .int 0)], rfl, (by show 3 ≤ 15; omega), ?_⟩
  have kp : ∀ b o, H b = some o → H2 b = some o := fun b o e => (r4.w.kp b o e fun z => z).1
  refine k p a1 a2 _ (fun b o e => ?_) hp x1.1.y x2.1.y ⟨?_, ?_, ?_, ?_, hn, hm⟩
  · rw [upd_ne (ne_of_none e hp)]
    exact kp b o e
  · rw [upd_same]
    rfl
  · rw [upd_ne (fun z => nd.2.1 z)]
    exact g1
  · rw [upd_ne (fun z => nd.1.2 z)]
    exact g2
  · exact fun z => nd.1.1 z.symm
/-- what stands in the two lists -/
def great (ns : List Int) : List Int := ns.filter fun x => decide (1000000000000000000 ≤ x)
theorem made_data (ns : List Int) (h : ns.length ≤ 63) : dCB gList (DL.gCons (hS 0) DL.gNil) [.im (.list (ns.map PyData.int)), .no] fun d ρ1 => d = .list (ns.map PyData.int) ∧
    dLc (iSeq (dV 0)) (gN 1) (bD (d2 gGe (hS 1) (hV (d2 gPow (hV (dC (.int 10))) (hV (dC (.int 18))))))) (dV 1) [1] ρ1 fun d2 _ => d2 = .list ((great ns).map PyData.int) := by
  refine ⟨trivial, rfl, ?_⟩
  have ew : (10 : Int) ^ (18 : Int).toNat = 1000000000000000000 := by decide
  have step : ∀ (ms : List Int) (acc : List D) (Kp : List D → Env → Prop), Kp (acc ++ (great ms).map PyData.int) [.im (.list (ns.map PyData.int)), .no] →
      lcL (gN 1) (bD (d2 gGe (hS 1) (hV (d2 gPow (hV (dC (.int 10))) (hV (dC (.int 18))))))) (dV 1) [1] Kp (ms.map PyData.int) acc [.im (.list (ns.map PyData.int)), .no] := by
    intro ms
    induction ms with
    | nil =>
      intro acc Kp h
      show Kp acc _
      simpa [great] using h
    | cons x r ih =>
      intro acc Kp h
      refine ⟨trivial, ⟨by decide, by decide, by decide⟩, ?_⟩
      show if decide ((10 : Int) ^ (18 : Int).toNat ≤ x) = true then _ else _
      rw [ew]
      by_cases hx : 1000000000000000000 ≤ x
      · rw [if_pos (decide_eq_true hx)]
        refine ih (acc ++ [.int x]) Kp ?_
        have : great (x :: r) = x :: great r := by simp [great, hx]
        rw [this] at h
        simpa using h
      · rw [if_neg (by simpa using hx)]
        refine ih acc Kp ?_
        have : great (x :: r) = great r := by simp [great, hx]
        rw [this] at h
        exact h
  refine ⟨by rw [List.length_map]; omega, ⟨by simp, fun j hj => ?_⟩, step ns [] _ ?_⟩
  · simp only [List.mem_singleton] at hj
    subst hj
    rfl
  · simp
theorem great_len (ns : List Int) : (great ns).length ≤ ns.length := List.length_filter_le _ _
end DL
namespace DL
open PySem L2
variable {X : Cx} {c : Cn}
theorem rel_look {p : Str × NameKind → Bool} {x : Str} : ∀ {ns : List (Str × NameKind)}, ns.lookup x = some .cell ∨ ns.lookup x = some .free →
    (ns.map fun (n, k) => if (k == .free && p (n, k)) = true then (n, NameKind.cell) else (n, k)).lookup x = some .cell ∨ (ns.map fun (n, k) => if (k == .free && p (n, k)) = true then (n, NameKind.cell) else (n, k)).lookup x = some .free
  | [], h => by simp at h
  | (n, k) :: r, h => by
    have ih := @rel_look p x r
    show List.lookup x ((if (k == .free && p (n, k)) = true then (n, NameKind.cell) else (n, k)) :: _) = _ ∨ List.lookup x ((if (k == .free && p (n, k)) = true then (n, NameKind.cell) else (n, k)) :: _) = _
    cases hx : x == n with
    | true =>
      (simp only [List.lookup_cons, hx] at h)
      by_cases hc : (k == .free && p (n, k)) = true
      · rw [if_pos hc]
        left
        simp [List.lookup_cons, hx]
      · rw [if_neg hc]
        (simp only [List.lookup_cons, hx])
        exact h
    | false =>
      (simp only [List.lookup_cons, hx] at h)
      by_cases hc : (k == .free && p (n, k)) = true
      · rw [if_pos hc]
        (simp only [List.lookup_cons, hx])
        exact ih h
      · rw [if_neg hc]
        (simp only [List.lookup_cons, hx])
        exact ih h
theorem blkOk_in {N N' : List Str} {E : PySem.Env} {s : Scope} {cl : List (Str × Addr)} {C : Addr} {e : PySem.Env} {scope : Scope} {own : List (Str × Nat)} (hN : N' = N) (he : E = compEnvC s cl C e) (h : blkC N s scope own = true) : BlkOk N' E.scope scope own := by
  subst hN
  subst he
  have b := blkOk_by h
  refine ⟨b.kind, b.uniq, b.ix, fun y hy hf => ?_, b.own⟩
  have := rel_look (p := fun z => e.scope.kind == .function && e.kindOf z.1 == some .cell) (b.free y hy hf)
  simpa [compEnvC, relabel, Bool.and_assoc] using this
end DL
namespace DL
open PySem L2
section
variable {X : Cx} {c : Cn}
theorem strs_vs {K : PySem.W.Frag} {F : Hp} : ∀ {vs : List V} {zs : List Str}, AtAll K F vs (zs.map PyData.str) → vs = zs.map V.str
  | _, [], h => by cases h; rfl
  | _, z :: zs, h => by
    cases h with
    | cons a t =>
      cases a
      rw [strs_vs t]
      rfl
/-- a text in a tuple of texts -/
def gInS : G2 := fun x y P => match x, y with
  | .str a, .tuple ds => ∃ zs, ofStrs ds = some zs ∧ P (.bool (zs.any fun z => z == a))
  | _, _ => False
theorem sem_inS (hK : X.K = c.K) : Sem2 X c (compareOp .In) gInS := by
  refine ⟨_, op_in_seq, fun F H σ ρ xx x y vx vy P Q r bx by_ g k => ?_⟩
  unfold gInS at g
  split at g
  · rename_i a ds
    obtain ⟨zs, ez, q⟩ := g
    cases bo_str bx
    obtain ⟨p, xs, rfl, f2, s2, t2⟩ := bo_tup r.w.fh by_
    rw [ofStrs_eq ez] at t2
    have e := strs_vs t2
    subst e
    refine ⟨p, _, rfl, .inr (by rw [hK]; exact s2), rfl, ?_, ?_⟩
    · rw [List.all_eq_true]
      intro v hv
      obtain ⟨z, _, rfl⟩ := List.mem_map.mp hv
      rfl
    · have ea : inV (.str a) (zs.map V.str) = zs.any fun z => z == a := by
        unfold inV
        rw [List.any_map]
        rfl
      show Q (.bl (if false = true then !inV (.str a) (zs.map V.str) else inV (.str a) (zs.map V.str))) H
      rw [if_neg Bool.false_ne_true, ea]
      exact k _ _ F H q (Ex.refl F) r (.bl _)
  · exact g.elim
/-- in a list, or a text in a tuple of texts -/
def gInU : G2 := fun x y P => match y with
  | .list ds => gIn x (.list ds) P
  | y => gInS x y P
theorem sem_inU (hK : X.K = c.K) (hu : X.A.units + 65 < cLine) : Sem2 X c (compareOp .In) gInU := by
  obtain ⟨r1, o1, h1⟩ := sem_in hK hu (X := X) (c := c)
  obtain ⟨r2, o2, h2⟩ := sem_inS hK (X := X) (c := c)
  refine ⟨_, o1.or o2, fun F H σ ρ xx x y vx vy P Q r bx by_ g k => ?_⟩
  unfold gInU at g
  split at g
  · exact .inl (h1 F H σ ρ xx x _ vx vy P Q r bx by_ g k)
  · exact .inr (h2 F H σ ρ xx x _ vx vy P Q r bx by_ g k)
theorem de_gtop {x : Str} {pos : Pos} {d : D} (hg : Gl X x) (h : ∃ u, X.mg x = some (.ref u) ∧ ∀ F, At c.K F (.ref u) d) (hd : (x == ("__debug__" : Str)) = false := by decide) : PE X (.Name x pos) (tD c (dC d)) := by
  obtain ⟨u, hm, ha⟩ := h
  exact de_gref hg hm ha hd
variable {x : Str} {p pos : Pos} {e : Expr} {es : List Expr} {fh : HLM} {g : GC}
theorem at_top {K : PySem.W.Frag} {u : Addr} {dd : Option Addr} {its : Array Value} {n : Nat} {sl : Array (Option Value)} {zs : List Str} (h : K.lookup u = some ⟨.type "tuple", dd, .seq its n, sl⟩) (hz : its.size ≤ sizeLine) (hv : Vals (zs.map V.str) its.toList) (F : Hp) : At K F (.ref u) (.tuple (zs.map PyData.str)) := by
  refine .tup (.inr ⟨_, _, _, h, rfl, rfl, hz, hv⟩) ?_
  clear hv
  induction zs with
  | nil => exact .nil
  | cons z zs ih => exact .cons (.str z) ih
end
end DL
namespace DL
open PySem L2
section
variable {X : Cx} {c : Cn} {a b : Expr} {pos : Pos}
def sParNI (i j : Nat) (f g : DM) : SM := fun E ρ => f ρ fun d ρ1 => g ρ1 fun d' ρ2 => E.nx ((ρ2.set i (.ow d)).set j (.im d'))
theorem parNI_use {i j : Nat} (hij : i ≠ j) {f g : DM} : ∀ Z σ H, tS c (sParNI i j f g) Z σ H → tPar i j (tCons (tN c f) (tCons (tD c g) tNil)) Z σ H := by
  rintro Z σ H ⟨F, ρ, xx, E, rel, q, n, rr, b, t⟩
  refine ⟨F, ρ, xx, _, rel, q, fun d ρ1 p F1 H1 q1 e1 r1 f1 => ?_⟩
  refine ⟨F1, ρ1, (p, d) :: xx, _, r1.pushX f1, q1, fun d' ρ2 v F2 H2 q2 e2 r2 a2 => ?_⟩
  obtain ⟨r3, f3⟩ := r2.popX
  exact ⟨_, _, rfl, n _ _ F2 H2 q2 (e1.trans e2) ((r3.putO i f3).putI j a2)⟩
theorem dp_parNI {x y : Str} {i j : Nat} {f g : DM} {px py pt : Pos} {kt k2 : Nat} {pt2 : Pos} (hc : X.calm = true) (hN : X.N.Nodup) (hi : X.N[i]? = some x) (hj : X.N[j]? = some y) (hij : i ≠ j)
    (hx : X.env.scope.names.lookup x = some .local) (hy : X.env.scope.names.lookup y = some .local) (ha : PE X a (tN c f)) (hb : PE X b (tD c g))
    (hw : (swappedStores [.Tuple [.Name x px, .Name y py] kt pt] (.Tuple [a, b] k2 pt2) X.env = pure (some [x, y])))
    (hs : swapsWithSole [.Tuple [.Name x px, .Name y py] kt pt] (.Tuple [a, b] k2 pt2) pos.line X.env = pure false := by rfl)
    (s1 : starEach [a, b] X.env = (false, eval a X.env) :: starEach [b] X.env := by rfl) (s2 : starEach [b] X.env = (false, eval b X.env) :: starEach [] X.env := by rfl) :
    PS X (.Assign [.Tuple [.Name x px, .Name y py] kt pt] (.Tuple [a, b] k2 pt2) pos) (tS c (sParNI i j f g)) :=
  PS.to (ps_par hc hN hi hj hij hx hy (pa_cons ha (pa_cons hb pa_nil s2) s1) hw hs) (parNI_use hij)
end
end DL
namespace DL
open PySem L2
section
variable {X : Cx} {c : Cn}
def rSumT (K : PySem.W.Frag) : List V → Hp → VK → Prop := fun vs H Q => ∃ (a : Addr) (ns : List Int), vs = [V.ref a] ∧ SqT K H a (ns.map V.int) ∧ Q (.int ns.sum) H
open PyProof.Rows in
theorem call_sumT (hc : X.calm = true) : CallR X (.builtin "sum") (rSumT X.K) := by
  (intro pins s σ H vs us Q I r h)
  (obtain ⟨a, ns, rfl, hs, q⟩ := h)
  obtain ⟨its, rv, ⟨o, ho, hoc, n, hd⟩, _⟩ := I.tuple hs
  rw [Vals.ref1 r]
  have hi := rv.ints
  have hl : s.heap.IsTuple a its.toArray := ⟨o, ho, hoc, n, hd⟩
  (obtain ⟨xs, e⟩ := hi.allInts.items)
  (have hn : numsOf (intItems xs).toList = ns := by rw [← e]; exact hi.numsOf)
  rw [nums_intItems] at hn
  rw [e] at hl
  refine PySem.W.ktm_sumG (I.ok.hd hc) hl fun h' tk t' hk => ?_
  refine ⟨.int _, H, I.kept hk, ⟨_, rfl⟩, ?_⟩
  (rw [preSum_eq, List.take_of_length_le (by simp), hn])
  exact q
def gSum2 : GC := fun ds P => match ds with
  | [.tuple xs] => ∃ ns, ofInts xs = some ns ∧ P (.int ns.sum)
  | ds => gSum ds P
theorem sem_sum2 (hK : X.K = c.K) (hc : X.calm = true) : SemC X c (.builtin "sum") gSum2 :=
  ⟨_, CallR.or (cr_sum hc) (call_sumT hc), fun F H σ ρ xx ds vs P Q r bs g k => by
    unfold gSum2 at g
    split at g
    · obtain ⟨v, rfl, b⟩ := pr1 bs
      obtain ⟨ns, hn, g⟩ := g
      obtain ⟨a, ys, rfl, _, s1, t1⟩ := bo_tup r.w.fh b
      rw [ofInts_eq hn] at t1
      rw [t1.ints] at s1
      exact .inr ⟨a, ns, rfl, by rw [hK]; exact s1, k _ _ F H g (Ex.refl F) r (.int _)⟩
    · obtain ⟨a, ns, rfl, s1, g⟩ := gil_use r bs g
      exact .inl ⟨a, ns, rfl, by rw [hK]; exact s1, k _ _ F H g (Ex.refl F) r (.int _)⟩⟩
end
end DL
namespace DL
open PySem L2
structure SrcB (H : Hp) (q c l : Addr) (cs ls : List Int) (k : Nat) : Prop extends SrcAt H q c l cs ls k where
  len : ls.length = cs.length
  nz : cs ≠ []
def srcOrcB : Orc where
  I q H := ∃ c l cs ls k, SrcB H q c l cs ls k
  cnt q H := spotOf (H q)
  al q H a h f := by
    obtain ⟨c, l, cs, ls, k, s⟩ := h
    exact srcOrc.al q H a ⟨c, l, cs, ls, k, s.toSrcAt⟩ f
  st q H H' h e := by
    obtain ⟨c, l, cs, ls, k, s⟩ := h
    exact ⟨c, l, cs, ls, k, ⟨⟨(e q SrcAt.fq).trans s.dq, (e c s.fc).trans s.dc, (e l s.fl).trans s.dl, s.ne, s.nc, s.nl⟩, s.len, s.nz⟩⟩
  sc q H H' h e := by rw [e q SrcAt.fq]
theorem SrcB.spot {H : Hp} {q c l : Addr} {cs ls : List Int} {k : Nat} (s : SrcB H q c l cs ls k) : srcOrcB.cnt q H = k := s.toSrcAt.spot
section
variable {X : Cx} {c : Cn} {a b : Expr} {pos : Pos}
theorem call_reprB : CallR X (.builtin "repr") (fun xs H Q => ∃ b, xs = [.bl b] ∧ Q (.str (if b then "True" else "False")) H) := by
  (intro pins s σ H xs us Q I r h)
  obtain ⟨b, rfl, q⟩ := h
  obtain ⟨u, rfl, rv⟩ := vals1 r
  cases (show u = Value.bool b from rv)
  exact P.repr_of_bool ⟨.str _, H, I.tok _, ⟨_, by cases b <;> rfl⟩, q⟩
end
end DL
namespace DL
open PySem L2
section
variable {X : Cx} {c : Cn}
theorem call_reprI : CallR X (.builtin "repr") (fun xs H Q => (∃ i : Int, xs = [.int i] ∧ i.natAbs.log2 < 1920 ∧ Q (.str (toString i)) H) ∨ (xs = [.non] ∧ Q (.str "None") H)) := by
  (intro pins s σ H xs us Q I r h)
  rcases h with ⟨i, rfl, hl, q⟩ | ⟨rfl, q⟩
  · obtain ⟨u, rfl, rv⟩ := vals1 r
    obtain ⟨t, rfl⟩ := (show ∃ t, u = Value.int i t from rv)
    exact P.repr_of_int hl ⟨.str _, H, I.tok _, ⟨_, rfl⟩, q⟩
  · obtain ⟨u, rfl, rv⟩ := vals1 r
    cases (show u = Value.none from rv)
    exact P.repr_of_none ⟨.str _, H, I.tok _, ⟨_, rfl⟩, q⟩
end
end DL
namespace DL
open PySem L2
section
variable {X : Cx} {c : Cn} {e a b : Expr} {pos : Pos}
def sExt (i : Nat) (f : DM) : SM := fun E ρ => ownL ρ i (fun _ => True) ∧ f ρ fun d ρ1 => match d with
  | .list es => ownL ρ1 i fun ds => ds.length + es.length ≤ 1000000 ∧ E.nx (ρ1.set i (.ow (.list (ds ++ es))))
  | _ => False
theorem ext_use {i : Nat} {f : DM} {te : TE} (et : te = tN c f) : ∀ Z σ H, tS c (sExt i f) Z σ H → tDrop (tBM X.K "list" rExtend (tVar i) (tCons te tNil)) Z σ H := by
  subst et
  rintro Z σ H ⟨F, ρ, xx, E, rel, ⟨q0, q⟩, n, rr, b, t⟩
  obtain ⟨ds0, p0, vs0, g1, g2, g3, g4, _⟩ := ownL_get rel q0
  refine ⟨.ref p0, g2, .inl ⟨rfl, vs0, SqL.of g3⟩, F, ρ, xx, _, rel, q, fun d ρ1 v F1 H1 q1 e1 r1 f1 => ?_⟩
  split at q1
  · rename_i es
    obtain ⟨ds, p, vs, h1, h2, h3, h4, hl, hn⟩ := ownL_get r1 q1
    have ep : p0 = p := by
      rw [g2] at h2
      cases h2
      rfl
    subst ep
    obtain ⟨us, k1, k2⟩ := f1.own.o
    refine ⟨p0, v, vs, us, rfl, rfl, h3, k1, sz (by rw [h4.length, k2.length]; exact hl), ?_⟩
    exact n _ σ F1 _ hn e1 (r1.mut h1 h2 ⟨_, upd_same, h4.append k2⟩)
  · exact q1.elim
theorem dp_ext {x : Str} {i : Nat} {px apos cpos : Pos} {f : DM} (ho : PE X (.Name x px) (tVar i)) (ha : PE X e (tN c f))
    (hbase : attributeBase (.Name x px) "extend" X.env (eval (.Name x px) X.env) = eval (.Name x px) X.env := by rfl)
    (hfew : ((backTo cpos (starEach [e] X.env)).all (fun x => !x.1)
        && (backToKw cpos (keywordEach [] X.env)).all (fun x => x.1.isSome)
      && decide (([e] : List Expr).length + ([] : List Keyword).length
          + (if ([] : List Keyword).isEmpty then 0 else 1) < 30)) = true := by rfl)
    (hline : (apos.endLine == cpos.line) = true := by rfl) (hs : starEach [e] X.env = (false, eval e X.env) :: starEach [] X.env := by rfl) (hplain : (backTo cpos (starEach [] X.env)).any (·.1) = false := by rfl)
    (hsw : swapsWith (.Call (.Attribute (.Name x px) "extend" apos) [e] [] cpos) none pos.line X.env = pure false := by rfl) : PS X (.Expr (.Call (.Attribute (.Name x px) "extend" apos) [e] [] cpos) pos) (tS c (sExt i f)) :=
  PS.to (ps_expr (pe_bm PySem.F.plainAttrs_list PySem.F.slot_list_extend PySem.F.type_list_extend mt_extend ho (pa_cons ha pa_nil hs) hbase hfew hline hs hplain) hsw) (ext_use rfl)
def dPop (i : Nat) : DM := fun ρ P => ownL ρ i fun ds => match ds[ds.length - 1]? with
  | some d => P d (ρ.set i (.ow (.list ds.dropLast)))
  | none => False
theorem de_pop {x : Str} {i : Nat} {px apos cpos : Pos} (ho : PE X (.Name x px) (tVar i))
    (hbase : attributeBase (.Name x px) "pop" X.env (eval (.Name x px) X.env) = eval (.Name x px) X.env := by rfl)
    (hline : (apos.endLine == cpos.line) = true := by rfl) : PE X (.Call (.Attribute (.Name x px) "pop" apos) [] [] cpos) (tD c (dPop i)) := by
  refine PE.to (pe_bm0 PySem.F.plainAttrs_list PySem.F.slot_list_pop PySem.F.type_list_pop mt_pop ho hbase hline) ?_
  rintro σ H Q ⟨F, ρ, xx, P, rel, q, k⟩
  obtain ⟨ds, p, vs, g1, g2, g3, g4, q⟩ := ownL_get rel q
  split at q
  · rename_i d e
    obtain ⟨v, h1, h2⟩ := g4.get e
    refine ⟨.ref p, g2, .inl ⟨rfl, vs, SqL.of g3⟩, p, vs, v, rfl, rfl, g3, by rw [g4.length]; exact h1, ?_⟩
    exact k d _ v F _ q (Ex.refl F) (rel.mut g1 g2 ⟨_, upd_same, g4.dropLast⟩) h2
  · exact q.elim
theorem AtAll.repN {K : PySem.W.Frag} {H : Hp} {vs : List V} {ds : List D} (h : AtAll K H vs ds) : ∀ n : Nat, AtAll K H (List.replicate n vs).flatten (List.replicate n ds).flatten
  | 0 => .nil
  | n + 1 => by
    (rw [List.replicate_succ, List.replicate_succ, List.flatten_cons, List.flatten_cons])
    exact h.append (AtAll.repN h n)
def dRep (f g : DM) : DM := fun ρ P => f ρ fun l ρ1 => g ρ1 fun k ρ2 => match l, k with
  | .list ds, .int z => -(2 ^ 63) ≤ z ∧ z < 2 ^ 63 ∧ ds.length * z.toNat ≤ 1000000 ∧ P (.list (List.replicate z.toNat ds).flatten) ρ2
  | _, _ => False
theorem dn_rep {f g : DM} (ha : PE X a (tN c f)) (hb : PE X b (tD c g)) : PE X (.BinOp a .Mult b pos) (tN c (dRep f g)) := by
  refine PE.to (pe_op op_rep ha hb) ?_
  rintro σ H Q ⟨F, ρ, xx, P, rel, q, k⟩
  refine ⟨F, ρ, xx, _, rel, q, fun l ρ1 p F1 H1 q1 e1 r1 f1 => ?_⟩
  refine ⟨F1, ρ1, (p, XO.d l) :: xx, _, r1.pushX f1, q1, fun k' ρ2 u F2 H2 q2 e2 r2 a2 => ?_⟩
  split at q2
  · cases a2
    obtain ⟨r3, f3⟩ := r2.popX
    obtain ⟨vs, h1, h2⟩ := f3.own.o
    refine ⟨p, _, vs, rfl, rfl, h1, q2.1, q2.2.1, sz (by rw [h2.length]; exact q2.2.2.1), fun p' hp => ?_⟩
    obtain ⟨r4, f4⟩ := Fresh.new (o := .lst (List.replicate _ vs).flatten) (d := .d (.list _)) r3 hp ⟨_, upd_same, h2.repN _⟩
    exact k _ ρ2 p' F2 _ q2.2.2.2 (e1.trans e2) r4 f4
  · exact q2.elim
def okR : D → Prop
  | .none => True
  | .bool _ => True
  | .int i => i.natAbs.log2 < 1920
  | .list xs => nod (.list xs) = true ∧ (PyData.list xs).showable = true ∧ (PyData.list xs).depth ≤ 60 ∧ (PyData.list xs).shown.length ≤ 1000000
  | .tuple xs => nod (.tuple xs) = true ∧ (PyData.tuple xs).showable = true ∧ (PyData.tuple xs).depth ≤ 60 ∧ (PyData.tuple xs).shown.length ≤ 1000000
  | _ => False
def shA : D → Str
  | .none => "None"
  | .bool b => (if b then "True" else "False")
  | .int i => toString i
  | d => d.shown
def gReprA : GC := fun ds P => match ds with
  | [d] => okR d ∧ P (.str (shA d))
  | _ => False
def rRa (K : PySem.W.Frag) : List V → Hp → VK → Prop := fun vs H Q => rRp K vs H Q ∨ ((∃ i : Int, vs = [.int i] ∧ i.natAbs.log2 < 1920 ∧ Q (.str (toString i)) H) ∨ (vs = [.non] ∧ Q (.str "None") H)) ∨ ∃ b, vs = [.bl b] ∧ Q (.str (if b then "True" else "False")) H
theorem call_ra (hg : X.A.guards = some []) (hu : X.A.units + 64 < cLine) : CallR X (.builtin "repr") (rRa X.K) := by
  (intro pins s σ H xs us Q I r h)
  rcases h with h | h | h
  · exact call_rp hg hu pins s σ H xs us Q I r h
  · exact call_reprI pins s σ H xs us Q I r h
  · exact call_reprB pins s σ H xs us Q I r h
theorem sem_reprA (hK : X.K = c.K) (hg : X.A.guards = some []) (hu : X.A.units + 64 < cLine) : SemC X c (.builtin "repr") gReprA := by
  refine ⟨_, call_ra hg hu, fun F H σ ρ xx ds vs P Q r bs g k => ?_⟩
  have key : ∀ d, ds = [d] → (∀ v, Bo c F H v d → ∃ a, v = .ref a) → (nod d = true ∧ d.showable = true ∧ d.depth ≤ 60 ∧ d.shown.length ≤ 1000000) → P (.str d.shown) → rRp X.K vs H Q := fun d hds hv gd gp => by
    subst hds
    obtain ⟨v, rfl, b⟩ := pr1 bs
    obtain ⟨a, rfl⟩ := hv v b
    obtain ⟨g1, g2, g3, g4⟩ := gd
    have a1 := (b.at r.w.fh).dp g1
    rw [← hK] at a1
    exact ⟨a, d, rfl, a1, g1, g2, g3, g4, k _ _ F H gp (Ex.refl F) r (.str _)⟩
  unfold gReprA at g
  split at g
  · rename_i d
    obtain ⟨g, gp⟩ := g
    cases d with
    | none =>
      obtain ⟨v, rfl, b⟩ := pr1 bs
      have e : v = .non := of_decide_eq_true (isN_dec b)
      subst e
      exact .inr (.inl (.inr ⟨rfl, k _ _ F H gp (Ex.refl F) r (.str _)⟩))
    | bool b =>
      obtain ⟨v, rfl, b⟩ := pr1 bs
      cases bo_bl b
      exact .inr (.inr ⟨_, rfl, k _ _ F H gp (Ex.refl F) r (.str _)⟩)
    | int i =>
      obtain ⟨v, rfl, b⟩ := pr1 bs
      cases bo_int b
      exact .inr (.inl (.inl ⟨_, rfl, g, k _ _ F H gp (Ex.refl F) r (.str _)⟩))
    | list xs =>
      refine .inl (key _ rfl (fun v b => ?_) g gp)
      rcases ref_of_bo b with z | ⟨z, _⟩ | ⟨_, z, _⟩ | ⟨_, z, _⟩ | ⟨_, z, _⟩
      · exact z
      all_goals cases z
    | tuple xs =>
      refine .inl (key _ rfl (fun v b => ?_) g gp)
      rcases ref_of_bo b with z | ⟨z, _⟩ | ⟨_, z, _⟩ | ⟨_, z, _⟩ | ⟨_, z, _⟩
      · exact z
      all_goals cases z
    | str x => exact g.elim
    | dict kd => exact g.elim
  · exact g.elim
end
end DL
namespace DL
open PySem L2 PySem.Spec PyProof.Rows
theorem lawG {pr : Program} {wd : PySem.World} {K : PySem.W.Frag} {gl gb : PySem.Str → Option Value} {k : Nat} {fa a : Addr} {fd : FuncData} {x : PySem.Str} {sp : Sp} {s : Shared} {vs : List Value} {ns : List Int}
    (inK : K.In s.heap) (nsG : s.heap.Ns mainGlobals gl) (nsB : s.heap.Ns builtinsNs gb) (bb : ∀ y : PySem.Str, y ≠ "__name__" → gb y = bootBuiltins y) (lim : s.heap.NoLimit) (gen : s.gens = #[])
    (ha : s.heap.get? a = some { cls := .type "list", data := .seq vs.toArray }) (hi : IntsAre vs ns) (hl : ns.length ≤ sizeLine) (room : Room k callerA)
    (F : ∀ bas : Heap, K.In bas → bas.Ns mainGlobals gl → FnG pr wd K gl bas k fa fd [x] sp) (bind : ∀ (s : Shared) (u : Value), BindsTo s fd ⟨[u], []⟩ [(x, u)])
    (says : ∀ H : Hp, SqL K H a (ns.map V.int) → sp [.ref a] H (fun v _ => v = .bl true) fun _ _ _ => False) :
    codeAny (model pr wd) callerA (.call (.ref fa) ⟨[.ref a], []⟩) (fun r s' => r = .ok (.ret (.bool true)) ∧ OldK s.heap s'.heap ∧ s'.os = s.os ∧ AllBare s'.gens) s := by
  have vals := L2.vals_ints hi
  -- the heap H that the def sees: nothing, or the script alone, which stays as it is
  have run : ∀ (H : Hp), (∀ b o, H b = some o → b = a ∧ ∃ ob xs, o = .frz ob (.lst xs)) → SqL K H a (ns.map V.int) → HOk pr wd H s.heap → (H a ≠ none → K.lookup a = none) →
      codeAny (model pr wd) callerA (.call (.ref fa) ⟨[.ref a], []⟩) (fun r s' => r = .ok (.ret (.bool true)) ∧ OldK s.heap s'.heap ∧ s'.os = s.os ∧ AllBare s'.gens) s := by
    intro H only sq hok notK
    have plain : ∀ {b : Addr} {o : Obj}, s.heap.get? b = some o → (∀ es n, o.data = .dict es n → H b = none) := by
      intro b o e es n ed
      cases z : H b with
      | none => rfl
      | some u =>
        obtain ⟨rfl, _⟩ := only b u z
        rw [ha] at e
        cases e
        exact absurd (ed : Data.seq vs.toArray _ = Data.dict es n) (fun y => by cases y)
    have nsOf : ∀ {b : Addr} {m : PySem.Str → Option Value}, s.heap.Ns b m → (hidT s.heap H).Ns b m := by
      rintro b m ⟨o, es, n, e, ed, r⟩
      exact ⟨o, es, n, hidT_get e (plain e es n ed), ed, r⟩
    have inB : K.In (hidT s.heap H) := by
      intro b o e
      refine hidT_get (inK b o e) ?_
      cases z : H b with
      | none => rfl
      | some u =>
        obtain ⟨rfl, _⟩ := only b u z
        rw [notK (by rw [z]; exact Option.some_ne_none u)] at e
        cases e
    obtain ⟨mc, l1, l2⟩ := lim
    have md : Mod K gl (hidT s.heap H) := ⟨inB, nsOf nsG, ⟨gb, nsOf nsB, bb⟩, ⟨mc, nsOf l1, l2⟩⟩
    have env : Env0 pr wd K gl (hidT s.heap H) callerA [] s H := ⟨rfl, md, fun b o e => of_hidT e, Nat.le_of_eq (hidT_size _ _), trivial, fun b hb => (nomatch hb), hok, .of_eq gen⟩
    refine codeAny_mono ((F _ inB (nsOf nsG)).go callerA [] s H ⟨[.ref a], []⟩ [.ref a] [.ref a] _ _ rfl room env (bind s (.ref a)) (.cons rfl .nil) (says H sq)) ?_
    intro r s' z
    match r, z with
    | .error e, z => exact (z : False).elim
    | .ok (.ret u), ⟨v, H', os, bare, un, hok', rv, q⟩ =>
      have q : v = .bl true := q
      subst q
      cases (show u = Value.bool true from rv)
      refine ⟨rfl, OldK.of_keep ?_, os, bare⟩
      intro b o e
      cases z : H b with
      | none => exact un.keep b o e z (fun y => nomatch y) (by simp)
      | some u =>
        obtain ⟨_, ob, xs, rfl⟩ := only b u z
        obtain ⟨p1, _⟩ := hok b _ z
        obtain ⟨p2, _⟩ := hok' b _ (un.frzs b ob _ z)
        rw [e] at p1
        cases p1
        exact p2
  have len := hi.length
  cases z : K.lookup a with
  | some o =>
    have e := inK a o z
    rw [ha] at e
    cases e
    refine run (fun _ => none) (fun _ _ e => nomatch e) (.inr ⟨_, vs.toArray, _, z, rfl, rfl, rfl, ?_, by simpa using vals⟩) (fun _ _ e => nomatch e) fun e => absurd rfl e
    rw [List.size_toArray, len]
    exact hl
  | none =>
    have at1 : ∀ o, (fun b => if b = a then some (HO.frz { cls := .type "list", data := .seq vs.toArray } (.lst (ns.map V.int))) else none) a = some o → o = HO.frz { cls := .type "list", data := .seq vs.toArray } (.lst (ns.map V.int)) := by
      intro o e
      have e : (if a = a then some (HO.frz { cls := .type "list", data := .seq vs.toArray } (.lst (ns.map V.int))) else none) = some o := e
      rw [if_pos rfl] at e
      exact (Option.some.inj e).symm
    refine run (fun b => if b = a then some (HO.frz { cls := .type "list", data := .seq vs.toArray } (.lst (ns.map V.int))) else none) (fun b o e => ?_) (.inl (.inr ⟨{ cls := .type "list", data := .seq vs.toArray }, if_pos rfl⟩)) (fun b o e => ?_) fun _ => z
    · by_cases h : b = a
      · subst h
        exact ⟨rfl, _, _, at1 o e⟩
      · have e : (if b = a then some (HO.frz { cls := .type "list", data := .seq vs.toArray } (.lst (ns.map V.int))) else none) = some o := e
        rw [if_neg h] at e
        cases e
    · by_cases h : b = a
      · subst h
        rw [at1 o e]
        exact ⟨ha, by rw [List.length_map]; exact hl, vs, _, vals, ha⟩
      · have e : (if b = a then some (HO.frz { cls := .type "list", data := .seq vs.toArray } (.lst (ns.map V.int))) else none) = some o := e
        rw [if_neg h] at e
        cases e
theorem walkG {l : PySem.W.OpenLaw} {n k : Nat} {q : Program} {loose : List PySem.Str} {XP : (PySem.Str → Option Value) → Heap → Prop} {YP : PySem.World → Heap → Prop} {d : DefRec} {K : Params → PySem.W.Frag} {sp : PySem.World → Sp} {x : PySem.Str}
    (hn : l.most = some n) (hn2 : n ≤ sizeLine) (hdf : d.params.defaults = []) (room : Room k callerA) (hY : ∀ (wd : PySem.World) (h : Heap), YP wd h → (K wd.params).In h)
    (F : ∀ (wd : PySem.World) (gl : PySem.Str → Option Value) (fa : Addr) (h : Heap), (K wd.params).In h → h.Ns mainGlobals gl → gl d.name = some (.ref fa) →
      ∃ fd : FuncData, (∀ (s : Shared) (u : Value), BindsTo s fd ⟨[u], []⟩ [(x, u)]) ∧ ∀ bas : Heap, (K wd.params).In bas → bas.Ns mainGlobals gl → FnG l.prog wd (K wd.params) gl bas k fa fd [x] (sp wd))
    (says : ∀ (wd : PySem.World) (H : Hp) (a : Addr) (ns : List Int), ns.length ≤ n → SqL (K wd.params) H a (ns.map V.int) → sp wd [.ref a] H (fun v _ => v = .bl true) fun _ _ _ => False) :
    PySem.W.WalkO q loose XP YP l.row.toRowW d [] (fun f vs => PySem.call f vs)
      := by
  refine Att.attach_callB hn hdf ?_
  intro wd s0 s1 gl gb fa o pm cd doc a vs ns G Y ho hd hcd hgl hobj hints hlen _ hg
  obtain ⟨fd, hb, hF⟩ := F wd gl fa _ (hY wd _ Y) G.T.g hgl
  exact lawG (hY wd _ Y) G.T.g G.T.b G.T.builtins G.T.nolimit hg hobj hints (Nat.le_trans hlen hn2) room hF hb fun H sq => says wd H a ns hlen sq
end DL
namespace DL
open PySem L2
structure FnX (pr : Program) (wd : PySem.World) (K : PySem.W.Frag) (gl : Str → Option Value) (bas : Heap) (k : Nat) (f : Addr) (fd : FuncData) (ps : List Str) (sp : Sp) : Prop where
  many : ∀ vs H Q E, sp vs H Q E → vs.length = ps.length
  go : ∀ (A : Around) (out : List PySem.Env) (sh : Shared) (H : Hp) (ar : Args) (us : List Value) (vs : List V) (Q : VK) (E : XK), A.guards = some [] → Room k A →
    Env0 pr wd K gl bas A out sh H → BindsTo sh fd ar (ps.zip us) → Vals vs us → sp vs H Q E → codeAny (model pr wd) A (.call (.ref f) ar) (CR (L2.CX pr wd) out pr wd H sh Q E) sh
theorem FnX.more {pr : Program} {wd : PySem.World} {K : PySem.W.Frag} {gl : Str → Option Value} {bas : Heap} {j k : Nat} {f : Addr} {fd : FuncData} {ps : List Str} {sp : Sp} (F : FnX pr wd K gl bas j f fd ps sp) (h : j ≤ k) : FnX pr wd K gl bas k f fd ps sp :=
  ⟨F.many, fun A out sh H ar us vs Q E g r => F.go A out sh H ar us vs Q E g (r.mono h)⟩
theorem FnX.of {pr : Program} {wd : PySem.World} {K : PySem.W.Frag} {gl : Str → Option Value} {bas : Heap} {k : Nat} {f : Addr} {x qual : Str} {st : Stmt} {fd : FuncData} {N ps : List Str} {sp : Sp} (F : L2.Fun K x qual st f fd) (S : FnScope N ps (defScope st))
    (len : (∀ vs H Q E, sp vs H Q E → vs.length = ps.length))
    (body : ∀ (cdv : Value) (A : Around) (out : List PySem.Env) (sh : Shared) (H : Hp) (vs : List V) (Q : VK) (E : XK), A.guards = some [] → Room k (A.deeper (PyProof.Rows.envOfC qual (defScope st) sh.heap.objs.size f cdv)) → sp vs H Q E →
      ∃ t, PSs (cxOf (L2.CX pr wd) pr wd K gl bas N qual (defScope st) f cdv A out sh H E) (defBody st) t ∧ t { nx := fun _ H' => Q .non H', rt := Q } (start N vs) H) : FnX pr wd K gl bas (k + 1) f fd ps sp := by
  obtain ⟨oc, od, kV, doc, pm, an, cdv, ct, osl, efd, lk, hc⟩ := F.ex
  refine ⟨len, fun A out sh H ar us vs Q E hg room env bnd vals says => ?_⟩
  have heapK : K.In sh.heap := PySem.W.Frag.In.keeps env.mod.kin fun b o e => (env.bs b o e).1
  have noLim : sh.heap.NoLimit := Heap.NoLimit.keeps env.mod.nolimit fun b o e => (env.bs b o e).1
  have kinds : ∀ y ∈ ps.zip us, (defScope st).names.lookup y.1 = some .local ∨ ((defScope st).names.lookup y.1 = some .cell ∧ ((cellsFrom (sh.heap.objs.size + 1) (defScope st).names []).lookup y.1).isSome = true) := by
    rintro ⟨n, v⟩ hy
    exact (S.par n (List.of_mem_zip hy).1).imp id fun q => ⟨q, PySem.W.cellsFrom_some _ _ _ (.inl q)⟩
  rw [efd] at lk bnd
  refine codeAny_call_function room.depth (heapK _ _ lk) rfl S.co S.gen rfl (PySem.W.codeRec_of heapK hc) (bnd _ _ _ _ (wpAny_newFunctionEnv_cells S.kind kinds ?_))
  intro env1 he s1 xc
  subst he
  refine ⟨noLim.keeps xc.toInCall.keep, codeAny_func ?_⟩
  obtain ⟨t, ht, hq⟩ := body cdv A out sh H vs Q E hg (room.deeper _) says
  have inv : Inv (cxOf (L2.CX pr wd) pr wd K gl bas N qual (defScope st) f cdv A out sh H E) [] (start N vs) H s1 := inv_start S room.hd env (len _ _ _ _ says) vals xc
  refine wpAny_mono (ht.run [] s1 (start N vs) H _ inv hq) ?_ fun _ _ z => z
  intro fl s2 hs
  cases fl with
  | ret u =>
    (obtain ⟨v, σ', H', J, rv, q⟩ := hs)
    exact ⟨v, H', J.os, J.bare, J.base, J.hok, rv, q⟩
  | next =>
    obtain ⟨σ', H', J, q⟩ := hs
    exact ⟨V.non, H', J.os, J.bare, J.base, J.hok, rfl, q⟩
  | brk => exact (hs.choose_spec.choose_spec.2 : False).elim
  | cont => exact (hs.choose_spec.choose_spec.2 : False).elim
section
variable {X : Cx} {k : Nat} {f : Addr} {fd : FuncData} {ps : List Str} {sp : Sp} {E : L2.St → XK} {x : Str} {p pos : Pos} {e : Expr} {es : List Expr} {t : TA}
theorem pe_callX (F : FnX X.prog X.w X.K X.mg X.base k f fd ps sp) (hg : X.A.guards = some []) (hr : Room k X.A) (gx : Gl X x) (hm : X.mg x = some (.ref f)) (hk : PySem.W.keepIn X.K (.ref f) = true) (hb : Binds X.K fd ps []) (hx : ∀ σ, PassesAt (L2.CX X.prog X.w) X σ (E σ))
    (ha : PA X (e :: es) t) (hdb : (x == ("__debug__" : Str)) = false := by decide)
    (he : starEach (e :: es) X.env = (false, eval e X.env) :: starEach es X.env
      := by rfl)
    (hpl : (backTo pos (starEach es X.env)).any (·.1) = false
      := by rfl) :
    PE X (.Call (.Name x p) (e :: es) [] pos)
      (tCallS sp E t) := by
  constructor
  intro pins s σ H Q I h
  refine wpAny_Call_Name_kw (ld_glob I gx hm (PySem.W.callWith_K (h₀ := X.base) I.ok.mod.kin hk (thn (ha.run pos pins s σ H _ I h) ?_) he hpl) hdb)
  rintro us s1 ⟨vs, H1, I1, r, q⟩
  refine ⟨I1.kIn, ?_⟩
  have hl : us.length = ps.length := by rw [← r.length]; exact F.many _ _ _ _ q
  have bd := hb s1 us I1.kIn (by rw [List.append_nil]; exact hl)
  rw [List.append_nil] at bd
  refine wpAny_call (codeAny_mono (F.go X.A X.stack s1 H1 ⟨us, []⟩ us vs Q _ hg hr I1.env0 bd r q) ?_)
  intro res s' hq
  match res, hq with
  | .error er, z => exact hx σ pins H1 s1 er s' I1 z
  | .ok (.ret u), z => exact I1.after z
end
structure Exn where
  c : Str
  v : Option (Str × D)
def ExAt (gl : Str → Option Value) (K : PySem.W.Frag) (F H : Hp) (x : Exn) (cls : Value) (d : Option Addr) : Prop :=
  ∃ C, gl x.c = some (.ref C) ∧ cls = .ref C ∧ match x.v with
    | none => d = none
    | some (f, y) => ∃ a v, d = some a ∧ H a = some (.xd [(f, v)]) ∧ At K F v y
abbrev SpX := List Ar → Nat → (D → Nat → Prop) → (Exn → Nat → Prop) → Prop
def spX (K : PySem.W.Frag) (gl : Str → Option Value) (R : Orc) (n : Nat) (S : SpX) : Sp := fun vs H Q E => ∃ (q : Option Addr) (F : Hp) (as : List Ar) (m : Nat) (P : D → Nat → Prop) (PX : Exn → Nat → Prop),
  World R q F H F H ∧ Paired (ArAt ⟨K, R, q, F, H⟩ F) vs as ∧ as.length = n ∧ oraAt as ∧ (q = none ∨ as[0]? = some .ora) ∧ (∀ p, q = some p → R.cnt p H ≤ m) ∧ S as m P PX ∧
  (∀ d m' v F' H', P d m' → World R q F H F' H' → (∀ p, q = some p → R.cnt p H' ≤ m') → At K F' v d → Q v H') ∧
  ∀ x m' cls dd F' H', PX x m' → World R q F H F' H' → (∀ p, q = some p → R.cnt p H' ≤ m') → ExAt gl K F' H' x cls dd → E cls dd H'
/-- the wish of a frame about exceptions -/
def wx (gl : Str → Option Value) (c : Cn) (px : Exn → Env → Prop) : WX := fun cls dd σ H => ∃ F ρ xx x, Rel c F H σ ρ xx ∧ px x ρ ∧ ExAt gl c.K F H x cls dd
def dCallX (n : Nat) (S : SpX) (px : Exn → Env → Prop) (f : AM) : DM := fun ρ P => f ρ fun as ρ1 => as.length = n ∧ as.all isD = true ∧ S as 0 (fun d _ => P d ρ1) (fun x _ => px x ρ1)
def CdX (pr : Program) (wd : PySem.World) (K : PySem.W.Frag) (gl : Str → Option Value) (bas : Heap) (R : Orc) (k : Nat) (x : Str) (n : Nat) (S : SpX) : Prop :=
  ∃ (f : Addr) (fd : FuncData) (ps : List Str), FnX pr wd K gl bas k f fd ps (spX K gl R n S) ∧ gl x = some (.ref f) ∧ PySem.W.keepIn K (.ref f) = true ∧ Binds K fd ps []
theorem CdX.more {pr : Program} {wd : PySem.World} {K : PySem.W.Frag} {gl : Str → Option Value} {bas : Heap} {R : Orc} {j k : Nat} {x : Str} {n : Nat} {S : SpX} (C : CdX pr wd K gl bas R j x n S) (h : j ≤ k) : CdX pr wd K gl bas R k x n S := by
  obtain ⟨f, fd, ps, F, a, b, d⟩ := C
  exact ⟨f, fd, ps, F.more h, a, b, d⟩
theorem de_cdX {X : Cx} {c : Cn} {k n : Nat} {S : SpX} {px : Exn → Env → Prop} {x : Str} {p pos : Pos} {e : Expr} {es : List Expr} {fa : AM} (tk : Takes X (wx X.mg c px)) (C : CdX X.prog X.w X.K X.mg X.base c.R k x n S) (hK : X.K = c.K) (hg : X.A.guards = some []) (hr : Room k X.A) (gx : Gl X x)
    (ha : PA X (e :: es) (tAr c fa)) (hdb : (x == ("__debug__" : Str)) = false := by decide) (he : starEach (e :: es) X.env = (false, eval e X.env) :: starEach es X.env := by rfl) (hpl : (backTo pos (starEach es X.env)).any (·.1) = false := by rfl) :
    PE X (.Call (.Name x p) (e :: es) [] pos) (tD c (dCallX n S px fa)) := by
  obtain ⟨f, fd, ps, F, hm, hk, hb⟩ := C
  refine PE.to (pe_callX F hg hr gx hm hk hb (fun σ => passAt tk σ) ha hdb he hpl) ?_
  rintro σ H Q ⟨F0, ρ, xx, P, rel, q, k0⟩
  refine ⟨F0, ρ, xx, _, rel, q, ?_⟩
  rintro as ρ1 vs F1 H1 ⟨hl, hd, hs⟩ e1 r1 pr
  have w0 : World c.R none F1 H1 F1 H1 := World.start r1.w.fh (fun _ _ z => z) fun _ z => nomatch z
  have pr' : Paired (ArAt ⟨X.K, c.R, none, F1, H1⟩ F1) vs as := by
    clear hs hl
    induction pr with
    | nil => exact .nil
    | @cons v a vs' as' h1 h2 ih =>
      (simp only [List.all_cons, Bool.and_eq_true] at hd)
      cases a with
      | d y =>
        refine .cons ?_ (ih hd.2)
        show At X.K F1 v y
        rw [hK]
        exact h1
      | ora => cases hd.1
  refine ⟨none, F1, as, 0, _, _, w0, pr', hl, fun i z => absurd z (all_isD hd i), .inl rfl, (fun _ z => nomatch z), hs, ?_, ?_⟩
  · intro d m' v F2 H2 pd wd _ at_
    rw [hK] at at_
    exact k0 d ρ1 v F2 H2 pd (e1.trans wd.ff) (r1.stepN wd) at_
  · intro x m' cls dd F2 H2 pd wd _ at_
    rw [hK] at at_
    exact ⟨F2, ρ1, xx, x, r1.stepN wd, pd, at_⟩
/-- what a body says, with its exceptions -/
def rawX (g : (Exn → Env → Prop) → SM) (N : Nat) : SpX := fun as m P PX =>
  g (fun x ρ => match ρ[0]? with
    | some (Sl.ora m') => PX x m'
    | _ => as.head?.map isD ≠ some false ∧ PX x 0)
  ⟨fun (ρ : DL.Env) => match ρ[0]? with
    | some (Sl.ora m') => P .none m'
    | _ => as.head?.map isD ≠ some false ∧ P .none 0,
  fun (d : D) (ρ : DL.Env) => match ρ[0]? with
    | some (Sl.ora m') => P d m'
    | _ => as.head?.map isD ≠ some false ∧ P d 0, fun _ => False, fun _ => False⟩ (startE N as m)
theorem FnX.data {pr : Program} {wd : PySem.World} {K : PySem.W.Frag} {gl : Str → Option Value} {bas : Heap} {k n : Nat} {f : Addr} {x qual : Str} {st : Stmt} {fd : FuncData} {N ps : List Str} {R : Orc} {g : (Exn → Env → Prop) → SM} (F : L2.Fun K x qual st f fd) (Sc : FnScope N ps (defScope st)) (hn : n = ps.length)
    (body : ∀ (cdv : Value) (A : Around) (out : List PySem.Env) (sh : Shared) (H : Hp) (E : XK) (q : Option Addr) (F : Hp) (px : Exn → Env → Prop), A.guards = some [] → Room k (A.deeper (PyProof.Rows.envOfC qual (defScope st) sh.heap.objs.size f cdv)) →
      Takes (cxOf (L2.CX pr wd) pr wd K gl bas N qual (defScope st) f cdv A out sh H E) (wx gl ⟨K, R, q, F, H⟩ px) →
      PSs (cxOf (L2.CX pr wd) pr wd K gl bas N qual (defScope st) f cdv A out sh H E) (defBody st) (tS ⟨K, R, q, F, H⟩ (g px))) : FnX pr wd K gl bas (k + 1) f fd ps (spX K gl R n (rawX g N.length)) := by
  refine FnX.of F Sc (fun vs H Q E ⟨q, F0, as, m, P, PX, w, pa, hl, _⟩ => by rw [paired_len pa, hl, hn]) fun cdv A out sh H vs Q E hg hr ⟨q, F0, as, m, P, PX, w, pa, hl, ho, hq, hm, says, k0, kx⟩ => ?_
  have cnt : ∀ {ρ' : DL.Env} {σ' : L2.St} {F' H' : Hp} {xx : XX} {PP : Nat → Prop}, (match ρ'[0]? with
      | some (Sl.ora m') => PP m'
      | _ => as.head?.map isD ≠ some false ∧ PP 0) → Rel ⟨K, R, q, F0, H⟩ F' H' σ' ρ' xx → ∃ m', PP m' ∧ ∀ z, q = some z → R.cnt z H' ≤ m' := by
    intro ρ' σ' F' H' xx PP p r
    split at p
    · rename_i m' e
      obtain ⟨y, h1, _, h3⟩ := r.s.or 0 m' e
      refine ⟨m', p, fun z hz => ?_⟩
      have h1' : q = some y := h1
      rw [hz] at h1'
      cases h1'
      exact h3
    · obtain ⟨p1, p2⟩ := p
      have qn : q = none := hq.resolve_right fun z => p1 (by
        cases as with
        | nil => cases z
        | cons b t => cases z; rfl)
      exact ⟨0, p2, fun z hz => by rw [qn] at hz; cases hz⟩
  have fin : ∀ (d : D) (v : V) (ρ' : DL.Env) (σ' : L2.St) (F' H' : Hp), (match ρ'[0]? with
      | some (Sl.ora m') => P d m'
      | _ => as.head?.map isD ≠ some false ∧ P d 0) → Rel ⟨K, R, q, F0, H⟩ F' H' σ' ρ' [] → At K F' v d → Q v H' := by
    intro d v ρ' σ' F' H' p r a
    obtain ⟨m', h1, h2⟩ := cnt (PP := P d) p r
    exact k0 d m' v F' H' h1 r.w h2 a
  refine ⟨_, body cdv A out sh H E q F0 (fun x ρ => match ρ[0]? with
    | some (Sl.ora m') => PX x m'
    | _ => as.head?.map isD ≠ some false ∧ PX x 0) hg hr ?_, F0, _, [], _, rel_start w pa ho hm, says, ?_, ?_, ?_, ?_⟩
  · refine (takes_of (E := E) rfl rfl rfl rfl).imp fun cls dd σ H' ⟨F', ρ', xx, x, r, p, a⟩ => ?_
    obtain ⟨m', h1, h2⟩ := cnt (PP := PX x) p r
    exact kx x m' cls dd F' H' h1 r.w h2 a
  · exact fun ρ' σ' F' H' p e r => fin .none .non ρ' σ' F' H' p r .non
  · exact fun d v ρ' σ' F' H' p r a => fin d v ρ' σ' F' H' p r a
  · exact fun ρ' σ' F' H' p => p.elim
  · exact fun ρ' σ' F' H' p => p.elim
def spInit (K : PySem.W.Frag) (C : Addr) (fld : Option Str) : Sp := fun vs H Q _ => ∃ a v, vs = [.ref a, v] ∧ H a = some (exo a C none) ∧ OexC K C ∧ match fld with
  | none => Q .non H
  | some f => ∀ dx, H dx = none → dx ≠ a → Q .non (upd (upd H dx (exd dx [(f, v)])) a (exo a C (some dx)))
def ClsAt (pr : Program) (wd : PySem.World) (K : PySem.W.Frag) (gl : Str → Option Value) (bas : Heap) (name : Str) (fld : Option Str) : Prop :=
  ∃ (C fI : Addr) (fd : FuncData) (ps : List Str), gl name = some (.ref C) ∧ OexC K C ∧ PySem.W.findIn K (.ref C) "__init__" = some (some (.ref fI)) ∧ PySem.W.typeIn K (.ref fI) = some (.type "function") ∧ FnOk pr wd K gl bas CX0 1 fI fd ps (spInit K C fld) ∧ Binds K fd ps [] ∧ PySem.W.exmOne K (.ref C) (.ref C) = some true
def sRaise (name : Str) (fld : Option Str) (fe : DM) (px : Exn → Env → Prop) : SM := fun _ ρ => fe ρ fun y ρ1 => px ⟨name, fld.map fun f => (f, y)⟩ ρ1
section
variable {X : Cx} {c : Cn} {k : Nat} {name : Str} {p pos pos' : Pos} {e : Expr} {fe : DM} {px : Exn → Env → Prop}
theorem dp_raise1 {f : Str} (Ck : ClsAt X.prog X.w X.K X.mg X.base name (some f)) (tk : Takes X (wx X.mg c px)) (hK : X.K = c.K) (hc : X.calm = true) (hr : Room 2 X.A) (gx : Gl X name) (ha : PE X e (tD c fe))
    (hdb : (name == ("__debug__" : Str)) = false := by decide) (he : starEach [e] X.env = (false, eval e X.env) :: starEach [] X.env := by rfl) (hpl : (backTo pos' (starEach [] X.env)).any (·.1) = false := by rfl) :
    PS X (.Raise (some (.Call (.Name name p) [e] [] pos')) none pos) (tS c (sRaise name (some f) fe px)) := by
  obtain ⟨C, fI, fd, ps, hm, T, iC, tI, F1, hb, _⟩ := Ck
  refine PS.to (ps_raise hc tk (pmk_oex T iC tI F1 hr hb .nil pass0 gx hm (pa_cons ha pa_nil he) hdb he hpl)) ?_
  rintro Z σ H ⟨F, ρ, xx, E, rel, q, n, r, b, t⟩
  refine ⟨F, ρ, xx, _, rel, q, fun y ρ1 v F1 H1 q1 e1 r1 a1 => ?_⟩
  refine ⟨by show 1 ≤ 1000; omega, fun a ha => ⟨a, v, rfl, upd_same, T, fun dx hd ne => ⟨rfl, dx, [(f, v)], upd_same, ?_, ?_, ?_⟩⟩⟩
  · rw [upd_ne ne, upd_same]
  · rw [upd_ne ne] at hd
    exact hd
  · have hd1 : H1 dx = none := by
      rw [upd_ne ne] at hd
      exact hd
    have eh : upd (del (upd (upd (upd H1 a (exo a C none)) dx (exd dx [(f, v)])) a (exo a C (some dx))) a) dx (.xd [(f, v)]) = upd H1 dx (.xd [(f, v)]) := by
      funext b
      by_cases hb : b = dx
      · rw [hb, upd_same, upd_same]
      · rw [upd_ne hb, upd_ne hb]
        by_cases hb2 : b = a
        · rw [hb2, del_same, ha]
        · rw [del_ne hb2, upd_ne hb2, upd_ne hb, upd_ne hb2]
    rw [eh]
    exact ⟨F1, ρ1, xx, _, r1.stepN (r1.w.newO (.xd [(f, v)]) hd1), q1, C, hm, rfl, dx, v, rfl, upd_same, a1⟩
end
theorem Rel.bare {c : Cn} {F H : Hp} {σ : L2.St} {ρ : List Sl} {xx : XX} (r : Rel c F H σ ρ xx) : Rel c F H σ ρ [] :=
  ⟨r.w, ⟨r.s.len, r.s.im, r.s.ow, r.s.dj, r.s.or, r.s.ou, (fun _ hp => nomatch hp), List.nodup_nil⟩⟩
def tS0 (c : Cn) (g : SM) : TS := fun Z σ H => ∃ F ρ E, Rel c F H σ ρ [] ∧ g E ρ ∧ (∀ ρ' σ' F' H', E.nx ρ' → Rel c F' H' σ' ρ' [] → Z.nx σ' H') ∧ (∀ d v ρ' σ' F' H', E.rt d ρ' → Rel c F' H' σ' ρ' [] → At c.K F' v d → Z.rt v H') ∧
  (∀ ρ' σ' F' H', E.bk ρ' → Rel c F' H' σ' ρ' [] → Z.bk σ' H') ∧ (∀ ρ' σ' F' H', E.ct ρ' → Rel c F' H' σ' ρ' [] → Z.ct σ' H')
theorem tS0.to {c : Cn} {g : SM} {Z : Ends} {σ : L2.St} {H : Hp} : tS0 c g Z σ H → tS c g Z σ H := fun ⟨F, ρ, E, rel, q, n, r, b, t⟩ =>
  ⟨F, ρ, [], E, rel, q, fun ρ' σ' F' H' p _ rr => n ρ' σ' F' H' p rr, r, fun ρ' σ' F' H' p _ rr => b ρ' σ' F' H' p rr, fun ρ' σ' F' H' p _ rr => t ρ' σ' F' H' p rr⟩
section
variable {X : Cx} {c : Cn} {st : Stmt} {rest : List Stmt} {g h : SM}
theorem s0_of (h1 : PS X st (tS c g)) : PS X st (tS0 c g) := PS.to h1 fun _ _ _ q => q.to
theorem s0_one (h1 : PS X st (tS0 c g)) : PSs X [st] (tS0 c g) := pss_one h1
theorem s0_cons (h1 : PS X st (tS0 c g)) (h2 : PSs X rest (tS0 c h)) : PSs X (st :: rest) (tS0 c (sSeq g h)) :=
  PSs.to (pss_cons h1 h2) fun Z σ H ⟨F, ρ, E, rel, q, n, r, b, t⟩ => ⟨F, ρ, _, rel, q, fun ρ' σ' F' H' p rel' => ⟨F', ρ', E, rel', p, n, r, b, t⟩, r, b, t⟩
end
theorem FnG.data0 {pr : Program} {wd : PySem.World} {K : PySem.W.Frag} {gl : Str → Option Value} {bas : Heap} {k n : Nat} {f : Addr} {x qual : Str} {st : Stmt} {fd : FuncData} {N ps : List Str} {R : Orc} {g : SM} (F : L2.Fun K x qual st f fd) (Sc : FnScope N ps (defScope st)) (hn : n = ps.length)
    (body : ∀ (cdv : Value) (A : Around) (out : List PySem.Env) (sh : Shared) (H : Hp) (E : XK) (q : Option Addr) (F : Hp), A.guards = some [] → Room k (A.deeper (PyProof.Rows.envOfC qual (defScope st) sh.heap.objs.size f cdv)) →
      PSs (cxOf CX0 pr wd K gl bas N qual (defScope st) f cdv A out sh H E).nox (defBody st) (tS0 ⟨K, R, q, F, H⟩ g)) : FnG pr wd K gl bas (k + 1) f fd ps (spD K R n (raw g N.length)) := by
  refine FnG.of F Sc (fun vs H Q E ⟨q, F0, as, m, P, w, pa, hl, _⟩ => by rw [paired_len pa, hl, hn]) fun cdv A out sh H vs Q E hg hr ⟨q, F0, as, m, P, w, pa, hl, ho, hq, hm, says, k0⟩ => ?_
  have fin : ∀ (d : D) (v : V) (ρ' : DL.Env) (σ' : L2.St) (F' H' : Hp), (match ρ'[0]? with
      | some (Sl.ora m') => P d m'
      | _ => as.head?.map isD ≠ some false ∧ P d 0) → Rel ⟨K, R, q, F0, H⟩ F' H' σ' ρ' [] → At K F' v d → Q v H' := by
    intro d v ρ' σ' F' H' p r a
    split at p
    · rename_i m' e
      obtain ⟨y, h1, _, h3⟩ := r.s.or 0 m' e
      exact k0 d m' v F' H' p r.w (fun z hz => by
        have hz' : q = some z := hz
        have h1' : q = some y := h1
        rw [hz'] at h1'
        cases h1'
        exact h3) a
    · obtain ⟨p1, p2⟩ := p
      have qn : q = none := hq.resolve_right fun z => p1 (by
        cases as with
        | nil => cases z
        | cons b t => cases z; rfl)
      exact k0 d 0 v F' H' p2 r.w (fun z hz => by rw [qn] at hz; cases hz) a
  refine ⟨_, body cdv A out sh H E q F0 hg hr, F0, _, _, rel_start w pa ho hm, says, ?_, ?_, ?_, ?_⟩
  · exact fun ρ' σ' F' H' p r => fin .none .non ρ' σ' F' H' p r .non
  · exact fun d v ρ' σ' F' H' p r a => fin d v ρ' σ' F' H' p r a
  · exact fun ρ' σ' F' H' p => p.elim
  · exact fun ρ' σ' F' H' p => p.elim
end DL
namespace DL
theorem exm_own {K : PySem.W.Frag} {S : PySem.Addr} (h1 : PySem.W.subIn K (.ref S) (.type "BaseException") = some true) (h2 : PySem.W.isClsIn K S = true) (h3 : PySem.W.typeIn K (.ref S) = some (.type "type")) (h4 : PySem.W.subIn K (.ref S) (.ref S) = some true) : PySem.W.exmOne K (.ref S) (.ref S) = some true := by
  have h2 : (PySem.W.clsIn K S).isSome = true := h2
  unfold PySem.W.exmOne PySem.W.kitCls
  simp [h1, h2, h3, h4]
end DL
namespace DL
open PySem L2
end DL
namespace DL
open PySem PyProof.Rows L2 RZ
/-- how far both are gone -/
structure MixGone (z t u p q a b : Addr) (n : Nat) (h : Heap) : Prop where
  zip : IsZip h z t u .none
  its : IsPair h t (.ref p) (.ref q)
  two : ∃ x y, IsPair h u x y
  fst : h.IsTupleIter p a n
  snd : h.IsListIter q b n
theorem five {z t u p q c : Addr} {P : Addr → Prop} (hc : c ∈ [z, t, u, p, q]) (h1 : P z) (h2 : P t) (h3 : P u) (h4 : P p) (h5 : P q) : P c := by
  simp only [List.mem_cons, List.not_mem_nil, or_false] at hc
  rcases hc with rfl | rfl | rfl | rfl | rfl <;> assumption
theorem MixGone.there {z t u p q a b : Addr} {n : Nat} {h : Heap} (m : MixGone z t u p q a b n h) {c : Addr} (hc : c ∈ [z, t, u, p, q]) :
    ∃ o, h.get? c = some o ∧ ∀ v, o.data ≠ .cell v := by
  obtain ⟨k1, k2, ⟨x, y, k3⟩, ⟨o4, e4, _, f4⟩, ⟨o5, e5, _, f5⟩⟩ := m
  refine five (P := fun c => ∃ o, h.get? c = some o ∧ ∀ v, o.data ≠ .cell v) hc ⟨_, k1, ?_⟩ ⟨_, k2, ?_⟩ ⟨_, k3, ?_⟩ ⟨o4, e4, ?_⟩ ⟨o5, e5, ?_⟩
  · exact fun v e => nomatch e
  · exact fun v e => nomatch e
  · exact fun v e => nomatch e
  · exact fun v e => by
      rw [f4] at e
      cases e
  · exact fun v e => by
      rw [f5] at e
      cases e
theorem MixGone.keep {z t u p q a b : Addr} {n : Nat} {h h' : Heap} (m : MixGone z t u p q a b n h) (k : ∀ c, c ∈ [z, t, u, p, q] → ∀ o, h.get? c = some o → h'.get? c = some o) : MixGone z t u p q a b n h' := by
  obtain ⟨k1, k2, ⟨x, y, k3⟩, k4, k5⟩ := m
  have kz := k z (by simp)
  have kt := k t (by simp)
  have ku := k u (by simp)
  have kp := k p (by simp)
  have kq := k q (by simp)
  exact ⟨kz _ k1, kt _ k2, ⟨x, y, ku _ k3⟩, k4.at kp, k5.at kq⟩
end DL
namespace DL
open PySem L2
/-- the class C: the field f of its exceptions can be read -/
def FldOf (K : PySem.W.Frag) (gl : Str → Option Value) (cn f : Str) : Prop := ∃ C, gl cn = some (.ref C) ∧ XfC K C ∧ PySem.W.findIn K (.ref C) f = some none
/-- where the suite stands: slot i holds the exception at a, whose field f is y -/
def Caught (c : Cn) (a C : Addr) (i : Nat) (cls : Value) (d : Option Addr) (f : Str) (y : D) (F H : Hp) (σ : L2.St) : Prop :=
  σ[i]? = some (some (.ref a)) ∧ cls = .ref C ∧ ∃ dd v, d = some dd ∧ H dd = some (.xd [(f, v)]) ∧ At c.K F v y
def tFd (c : Cn) (a C : Addr) (i : Nat) (cls : Value) (d : Option Addr) (f : Str) (sh : D → D) : TE := fun σ H Q => ∃ F ρ xx y, Rel c F H σ ρ xx ∧ Caught c a C i cls d f y F H σ ∧
  ∀ v F' H', Ex F F' → Rel c F' H' σ ρ xx → At c.K F' v (sh y) → Q v H'
section
variable {X : Cx} {c : Cn} {a C : Addr} {i : Nat} {oe : Obj} {cls : Value} {d : Option Addr} {pn : List (Addr × Obj)} {n f : Str} {p pos pos2 : Pos}
theorem fd_bare (hK : X.K = c.K) (T : XfC X.K C) (hno : PySem.W.findIn X.K (.ref C) f = some none) (hz : Zc cls d oe) (hf : ∃ vs, oe.data = .fields vs) (hv : PE (X.suite a ((a, oe) :: pn)) (.Name n p) (tVar i))
    (hb : attributeBase (.Name n p) f X.env (eval (.Name n p) X.env) = eval (.Name n p) X.env := by rfl) :
    PE (X.suite a ((a, oe) :: pn)) (.Attribute (.Name n p) f pos) (tFd c a C i cls d f fun y => y) := by
  refine PE.to (pe_xf T hno hz hf hv hb) ?_
  rintro σ H Q ⟨F, ρ, xx, y, rel, ⟨h1, h2, dd, v, h3, h4, h5⟩, k⟩
  exact ⟨_, h1, rfl, h2, dd, _, v, h3, h4, by simp, k v F H (Ex.refl F) rel h5⟩
theorem fd_one {e : Expr} (h : PE (X.suite a ((a, oe) :: pn)) e (tFd c a C i cls d f fun y => y))
    (hs : starEach [e] X.env = (false, eval e X.env) :: starEach [] X.env := by rfl) : PE (X.suite a ((a, oe) :: pn)) (.List [e] pos) (tFd c a C i cls d f fun y => .list [y]) := by
  refine PE.to (pe_lst (pa_cons h pa_nil hs)) ?_
  rintro σ H Q ⟨F, ρ, xx, y, rel, ca, k⟩
  refine ⟨F, ρ, xx, y, rel, ca, fun v F1 H1 e1 r1 a1 => ⟨sz (by show 1 ≤ 1000000; decide), fun q hq => ?_⟩⟩
  obtain ⟨r2, fr⟩ := Fresh.new (o := .lst [v]) (d := .d <| .list [y]) r1 hq ⟨[v], upd_same, .cons a1 .nil⟩
  obtain ⟨F3, e3, at_, r3⟩ := fr.freeze r2
  exact k _ F3 _ (e1.trans e3) r3 at_
end
/-- try: body / except cn as (slot i): (slot j) = sh of its field f -/
def sTryF (cn f : Str) (i j : Nat) (sh : D → D) (gb : (Exn → Env → Prop) → SM) : SM := fun E ρ =>
  gb (fun x ρ' => x.c = cn ∧ i < ρ'.length ∧ ∃ y, x.v = some (f, y) ∧ E.nx (((ρ'.set i .no).set j (.im (sh y))).set i .no)) E ρ
section
variable {X : Cx} {c : Cn}
theorem dp_tryF {cn f n m : Str} {i j : Nat} {sh : D → D} {body : List Stmt} {ev : Expr} {np pm ps pos pos' : Pos} {gb : (Exn → Env → Prop) → SM} (hs : X.stack = X.env :: X.outer) (hf : X.env.frame = some X.env.locals)
    (hN : X.N.Nodup) (hi : X.N[i]? = some n) (hln : X.env.kindOf n = some .local) (hj : X.N[j]? = some m) (hx : Loc X.env.scope m) (Ck : ClsAt X.prog X.w X.K X.mg X.base cn (some f)) (Fk : FldOf X.K X.mg cn f) (gx : Gl X cn)
    (hb : ∀ (px : Exn → Env → Prop) (pn : List (Addr × Obj)) (xe : Value → Shared → Prop), Takes (X.tr pn xe) (wx X.mg c px) → PassesOwn (model X.prog X.w) X.A X.env xe → PSs (X.tr pn xe) body (tS c (gb px)))
    (hv : ∀ (a C : Addr) (oe : Obj) (cls : Value) (d : Option Addr) (pn : List (Addr × Obj)), XfC X.K C → PySem.W.findIn X.K (.ref C) f = some none → Zc cls d oe → (∃ vs, oe.data = .fields vs) → PE (X.suite a ((a, oe) :: pn)) ev (tFd c a C i cls d f sh))
    (hsw : swapsWith ev (some (.Name m pm)) ps.line X.env = pure false := by rfl) (hfn : X.fn m = true ∨ X.env.scope.names.lookup m = some .local := by first | exact .inl rfl | exact .inr rfl)
    (hdb : (cn == ("__debug__" : Str)) = false := by decide) :
    PS X (.Try body [.ExceptHandler (some (.Name cn np)) (some n) [.Assign [.Name m pm] ev ps] pos'] [] [] pos) (tS0 c (sTryF cn f i j sh gb)) := by
  obtain ⟨C, fI, fd, pps, hm, T, iC, tI, F1, hbi, hex⟩ := Ck
  obtain ⟨C', hm', xf, hno⟩ := Fk
  rw [hm] at hm'
  cases hm'
  refine PS.to (ps_try_as (c := .ref C) (i := i) (Wout := fun _ _ _ _ => False) (tb := fun W Z σ H => ∃ px, (∀ cls d σ' H', wx X.mg c px cls d σ' H' → W cls d σ' H') ∧ tS c (gb px) Z σ H)
    (ts := fun a cls d => tAsg (tFd c a C i cls d f sh) (gName j)) hs hf hN hi hln ⟨gx, hdb, .inl hm⟩ takes0 (fun W pn xe tk po => ?_) fun a oe cls d pn hz hfl => ?_) ?_
  · exact ⟨fun pins s σ H Z I ⟨px, hw, q⟩ => (hb px pn xe (tk.imp hw) po).run pins s σ H Z I q⟩
  · exact pss_one (ps_set (X := X.suite a ((a, oe) :: pn)) hN hj hx (hv a C oe cls d pn xf hno hz hfl) hsw hfn)
  · rintro Z σ H ⟨F, ρ, E, rel, q, nn, r, b, t⟩
    refine ⟨fun x ρ' => x.c = cn ∧ i < ρ'.length ∧ ∃ y, x.v = some (f, y) ∧ E.nx (((ρ'.set i .no).set j (.im (sh y))).set i .no), ?_, (show tS0 c (gb _) Z σ H from ⟨F, ρ, E, rel, q, nn, r, b, t⟩).to⟩
    rintro cls d σ' H' ⟨F', ρ', xx', x, rel', ⟨hx, hil, y, hxv, p⟩, C', hm', rfl, hfd⟩
    rw [hx, hm] at hm'
    cases hm'
    rw [hxv] at hfd
    obtain ⟨dd, v, h3, h4, h5⟩ := hfd
    refine ⟨true, hex, fun _ a _ => ?_, fun z => nomatch z⟩
    have rel0 : Rel c F' H' (σ'.set i (some (.ref a))) (ρ'.set i .no) [] := ⟨rel'.w, rel'.bare.s.put i (fun _ e => by cases e) (fun _ e => by cases e) (by intro m z; cases z)⟩
    refine ⟨F', _, [], y, rel0, ⟨get_set_eq (by rw [← rel'.s.len]; exact hil), rfl, dd, v, h3, h4, h5⟩, fun v' F2 H2 e2 r2 a2 => ?_⟩
    have r3 := r2.putI j a2
    exact nn _ _ F2 H2 p ⟨r3.w, r3.s.forget i⟩
end
def gStrI : GC := fun ds P => match ds with
  | [.int i] => i.natAbs.log2 < 1920 ∧ P (.str (toString i))
  | _ => False
section
variable {X : Cx} {c : Cn}
theorem call_strI : CallR X (.type "str") (fun xs H Q => ∃ i : Int, xs = [.int i] ∧ i.natAbs.log2 < 1920 ∧ Q (.str (toString i)) H) := by
  (intro pins s σ H xs us Q I r h)
  obtain ⟨i, rfl, hz, q⟩ := h
  (obtain ⟨u, rfl, t, rfl⟩ := vals1 r)
  (exact PySem.P.str_of_int hz ⟨.str _, H, I.tok _, ⟨_, rfl⟩, q⟩)
theorem sem_strI : SemC X c (.type "str") gStrI :=
  ⟨_, call_strI, fun F H σ ρ xx ds vs P Q r bs g k => by
    unfold gStrI at g
    split at g
    · obtain ⟨v, rfl, b⟩ := pr1 bs
      cases bo_int b
      exact ⟨_, rfl, g.1, k _ _ F H g.2 (Ex.refl F) r (.str _)⟩
    · exact g.elim⟩
end
end DL
namespace DL
open PySem PyProof.Rows L2
theorem back_adj (n : Nat) : Builtin.Slice.sliceAdjust none none (-1) (n : Int) = ((n : Int) - 1, -1) := by
  simp [Builtin.Slice.sliceAdjust]
theorem back_n (n : Nat) : Builtin.Slice.slicePlaces ((n : Int) - 1) (-1) (-1) = n := by
  rw [Builtin.Slice.slicePlaces, if_neg (by decide)]
  by_cases z : (n : Int) - 1 > -1
  · rw [if_pos z]
    simp
  · rw [if_neg z]
    omega
theorem back_pick (its : Array Value) : ((List.range its.size).filterMap fun (k : Nat) => its[(((its.size : Int) - 1) + (k : Int) * (-1)).toNat]?) = its.toList.reverse := by
  have step : ∀ k ∈ List.range its.size, its[(((its.size : Int) - 1) + (k : Int) * (-1)).toNat]? = its.toList.reverse[k]? := fun k hk => by
    have hk := List.mem_range.mp hk
    have e : (((its.size : Int) - 1) + (k : Int) * (-1)).toNat = its.size - 1 - k := by omega
    rw [e, List.getElem?_reverse (by simpa using hk), Array.getElem?_toList, Array.length_toList]
  (refine List.ext_getElem? fun j => ?_)
  have some_ : ∀ k, k ∈ List.range its.size → ∃ v, its[(((its.size : Int) - 1) + (k : Int) * (-1)).toNat]? = some v := fun k hk => by
    rw [step k hk]
    have hk := List.mem_range.mp hk
    exact ⟨_, List.getElem?_eq_getElem (by simpa using hk)⟩
  have gen : ∀ (l : List Nat) (f : Nat → Option Value), (∀ k ∈ l, ∃ v, f k = some v) → (l.filterMap f)[j]? = l[j]?.bind f := by
    intro l f
    induction l generalizing j with | nil => intro _; rfl | cons a t ih =>
      intro h
      obtain ⟨v, hv⟩ := h a List.mem_cons_self
      rw [List.filterMap_cons, hv]
      cases j with
      | zero => simpa using hv.symm
      | succ j => simpa using ih j fun k hk => h k (List.mem_cons_of_mem _ hk)
  rw [gen _ _ some_]
  by_cases hj : j < its.size
  · rw [List.getElem?_range hj]
    exact step j (List.mem_range.mpr hj)
  · rw [List.getElem?_eq_none (by simpa using hj), List.getElem?_eq_none (by simpa using hj)]
    rfl
section
variable {prog : Program} {w : PySem.World} {A : Around} {E : Value → Shared → Prop} {s : Shared}
theorem applied_back {sl : Addr} {n : Nat} {u : Value} {Q : Int × Int × Nat → Shared → Prop} (hs : s.heap.IsSliceOf sl .none .none u) (pu : IsPart u (some (-1))) (k : Q ((n : Int) - 1, -1, n) s) :
    wpAny (model prog w) A (Builtin.Slice.sliceApplied (.ref sl) (pure (n : Int))) Q E s
      := by
  obtain ⟨ob, eo, _, ed⟩ := hs
  obtain ⟨t, rfl⟩ : ∃ t, u = .int (-1) t := by
    cases pu
    exact ⟨_, rfl⟩
  unfold Builtin.Slice.sliceApplied
  refine wpAny_bind ?_
  unfold Builtin.Slice.sliceFields
  refine wpAny_bind (wpAny_field eo ed (x := .none) rfl ?_)
  refine wpAny_bind (wpAny_field eo ed (x := .none) rfl ?_)
  refine wpAny_bind (wpAny_field eo ed (x := .int (-1) t) rfl (wpAny_pure ?_))
  refine wpAny_bind (slicePart_int ?_)
  show wpAny _ _ (if ((-1 : Int) == 0) = true then _ else _) _ _ s
  rw [if_neg (by decide)]
  refine wpAny_bind (slicePart_none (wpAny_bind (slicePart_none (wpAny_bind (wpAny_pure ?_)))))
  show wpAny _ _ (match Builtin.Slice.sliceAdjust none none (-1) (n : Int) with
    | (lo, hi) => pure (lo, (-1 : Int), Builtin.Slice.slicePlaces lo hi (-1))) _ _ s
  rw [back_adj]
  show wpAny _ _ (pure ((n : Int) - 1, (-1 : Int), Builtin.Slice.slicePlaces ((n : Int) - 1) (-1) (-1))) _ _ s
  rw [back_n]
  exact wpAny_pure k
theorem tuple_back {t sl : Addr} {its : Array Value} {u : Value} {Q : Value → Shared → Prop} (ht : IsTup s.heap t its) (hs : s.heap.IsSliceOf sl .none .none u) (pu : IsPart u (some (-1))) (hz : its.size ≤ sizeLine)
    (k : Q (.ref s.heap.objs.size) { s with heap := s.heap.push { cls := .type "tuple", data := .seq its.toList.reverse.toArray } }) : wpAny (model prog w) A (getItem (.ref t) (.ref sl)) Q E s := by
  have fits : sizeOk (.seq its.toList.reverse.toArray) := by
    show its.toList.reverse.toArray.size ≤ sizeLine
    simpa using hz
  have isSl : s.TypeIs (.ref sl) "slice" := by
    obtain ⟨ob, eo, ec, _⟩ := id hs
    exact ⟨ob, eo, ec⟩
  unfold getItem
  (try with_reducible (refine wpAny_holding ?_))
  (try (refine wpAny_bind (wpAny_pure ?_)))
  (refine wpAny_bind (wpAny_sequenceKey ht.typeIs (by decide) ?_))
  refine wpAny_bind (wpAny_callSpecial?_slot (name := Str.ofString "__getitem__") ht.typeIs slot_tuple_getitem ?_)
  refine wpAny_call_entry slot_tuple_getitem ht.typeIs entry_tuple_getitem ?_ (args_tuple_getitem _ _)
  (show wpAny _ _ (Builtin.Tuple.tupleItemsOf (.ref t) >>= _) _ _ s)
  refine wpAny_bind (tupleItemsOf_ ht (wpAny_bind (wpAny_typeOf isSl ?_)))
  rw [if_pos (by decide)]
  refine wpAny_bind (applied_back hs pu ?_)
  have odd : (((its.size : Int) - 1 == 0 && (-1 : Int) == 1) && its.size == its.size) = false := by
    have : ((-1 : Int) == 1) = false := rfl
    rw [this]
    simp
  show wpAny _ _ (if (((its.size : Int) - 1 == 0 && (-1 : Int) == 1) && its.size == its.size) = true then _ else _) _ _ s
  rw [odd, if_neg Bool.false_ne_true, back_pick]
  first
    | (exact wpAny_bind (m := Builtin.Tuple.tupleExact _) (wpAny_newObj_type (wpAny_pure ⟨_, rfl, wpAny_pure k⟩) fits))
    | (exact wpAny_bind (m := Builtin.Tuple.tupleExact _) (wpAny_newObj_type (wpAny_bind (wpAny_pure (wpAny_pure ⟨_, rfl, wpAny_pure k⟩))) fits))
    | (exact wpAny_bind (wpAny_bind (m := Builtin.Tuple.tupleExact _) (wpAny_newObj_type (wpAny_pure (wpAny_pure ⟨_, rfl, wpAny_pure k⟩)) fits)))
    | (exact wpAny_bind (wpAny_bind (m := Builtin.Tuple.tupleExact _) (wpAny_newObj_type (wpAny_pure ⟨_, rfl, wpAny_pure k⟩) fits)))
end
def tRevT (K : PySem.W.Frag) (te : TE) : TE := fun σ H Q => te σ H fun x H1 => ∃ a xs, x = .ref a ∧ SqT K H1 a xs ∧ ∀ p, H1 p = none → Q (.ref p) (upd H1 p (.tup xs.reverse))
theorem pe_revT {X : Cx} {e : Expr} {te : TE} {k : Nat} {p1 p2 p3 pos : Pos} (he : PE X e te) : PE X (.Subscript e (.Slice none none (some (.UnaryOp .USub (.Constant (.int 1) k p1) p2)) p3) pos) (tRevT X.K te) := by
  refine ⟨fun pins s σ H Q I h => Subscript_ (thn (he.run pins s σ H _ I h) ?_)⟩
  rintro v s1 ⟨x, H1, I1, r1, a, xs, rfl, hx, q⟩
  cases r1
  have part : PO X (some (.UnaryOp .USub (.Constant (.int 1) k p1) p2)) (tPart (tUn (rU fun i => .int (-i)) (tC (.int 1)))) := po_some (pe_un un_neg pe_int)
  refine wpAny_Slice (thn (po_none.run pins s1 σ H1 (fun o H2 => o = none ∧ H2 = H1) I1 ⟨rfl, rfl⟩) ?_)
  rintro vl s2 ⟨_, _, I2, pl, rfl, rfl⟩
  refine thn (po_none.run pins s2 σ _ (fun o H3 => o = none ∧ H3 = _) I2 ⟨rfl, rfl⟩) ?_
  rintro vu s3 ⟨_, _, I3, pu, rfl, rfl⟩
  refine thn (part.run pins s3 σ _ (fun o H4 => o = some (-1) ∧ H4 = _) I3 ⟨1, rfl, -1, rfl, rfl, rfl⟩) ?_
  rintro vs s4 ⟨_, _, I4, ps, rfl, rfl⟩
  cases pl
  cases pu
  have I5 := I4.kept (t' := s4.toks) (h' := s4.heap.push { cls := .type "slice", data := .fields #[.none, .none, vs] }) fun b ob => Heap.get?_push_of_some _
  obtain ⟨its, r, ht, hz⟩ := I5.tuple hx
  have len := r.length
  show wpAny (model X.prog X.w) X.A (subscriptTail e (.Slice none none (some (.UnaryOp .USub (.Constant (.int 1) k p1) p2)) p3) (.ref a) (.ref s4.heap.objs.size)) (EP X pins σ Q) X.xe
    { s4 with heap := s4.heap.push { cls := .type "slice", data := .fields #[.none, .none, vs] } }
  refine tail_any (ops := [.ref a, .ref s4.heap.objs.size]) ht.typeIs slot_tuple_getitem.lookup ?_ (by with_unfolding_all rfl)
  refine tuple_back ht (Heap.IsSliceOf.new ..) ps (by rw [List.size_toArray]; omega) ?_
  refine ⟨.ref _, _, I5.laid (t' := s4.toks) (o := .tup xs.reverse) (fun b ob => Heap.get?_push_of_some _) (Nat.le_refl _) ?_, rfl, q _ (I5.hok.fresh (Nat.le_refl _))⟩
  exact ⟨by rw [List.length_reverse]; exact hz, _, r.reverse, IsTup.new _ _⟩
def dRevT (fa : HM) : DM := fun ρ P => fa ρ fun h ρ1 => see ρ1 h fun d => match d with
  | .tuple xs => P (.tuple xs.reverse) ρ1
  | _ => False
theorem de_revT {X : Cx} {c : Cn} {e : Expr} {pos : Pos} {k0 : Nat} {p1 p2 p3 : Pos} {fa : HM} (hK : X.K = c.K) (he : PE X e (tH c fa)) : PE X (.Subscript e (.Slice none none (some (.UnaryOp .USub (.Constant (.int 1) k0 p1) p2)) p3) pos) (tD c (dRevT fa)) := by
  refine PE.to (pe_revT he) ?_
  rintro σ H Q ⟨F, ρ, xx, P, rel, q, k⟩
  refine ⟨F, ρ, xx, _, rel, q, fun h ρ1 v F1 H1 q1 e1 r1 h1 => ?_⟩
  obtain ⟨d, bd, q1⟩ := see_bo r1 h1 q1
  split at q1
  · obtain ⟨a, ys, rfl, f1, s1, t1⟩ := bo_tup r1.w.fh bd
    refine ⟨a, ys, rfl, by rw [hK]; exact s1, fun p hp => ?_⟩
    exact k _ ρ1 _ _ _ q1 (e1.trans (r1.efF _ hp)) (r1.newF _ hp) (.tup (.inl (.inl upd_same)) (t1.reverse.mono (r1.efF _ hp)))
  · exact q1.elim
end DL
namespace DL
open PySem PyProof.Rows L2
section
variable {X : Cx} {c : Cn} {x : Str} {e : Expr} {pos : Pos}
theorem de_gstr {s : Str} (hg : Gl X x) (hm : ∃ t, X.mg x = some (.str s t)) (hd : (x == ("__debug__" : Str)) = false := by decide) : PE X (.Name x pos) (tD c (dC (.str s))) := by
  obtain ⟨t, hm⟩ := hm
  exact de_c (pe_glob (v := .str s) hg hm ⟨t, rfl⟩ hd) fun _ => .str s
def mulT (x : Str) (n : Int) : Str := ⟨(List.replicate n.toNat x.cps.toList).flatten.toArray⟩
theorem foldl_app (l : List (Array Nat)) : ∀ a : Array Nat, l.foldl (· ++ ·) a = ⟨a.toList ++ (l.map Array.toList).flatten⟩ := by
  induction l with
  | nil =>
    intro a
    simp
  | cons y l ih =>
    intro a
    rw [List.foldl_cons, ih]
    simp
theorem mul_eq (x : Str) (n : Int) : Txt.mul x n = mulT x n := by
  unfold Txt.mul mulT
  by_cases h1 : n < 1
  · rw [if_pos h1]
    have : n.toNat = 0 := by omega
    rw [this]
    rfl
  · rw [if_neg h1]
    by_cases h2 : (n == 1 || x.length == 0) = true
    · rw [if_pos h2]
      obtain ⟨⟨l⟩⟩ := x
      rcases Bool.or_eq_true_iff.mp h2 with z | z
      · have : n.toNat = 1 := by have : n = 1 := eq_of_beq z; omega
        rw [this]
        simp
      · have : l.length = 0 := eq_of_beq z
        have : l = [] := List.eq_nil_of_length_eq_zero this
        subst this
        simp
    · rw [if_neg h2, foldl_app]
      simp
def gMulS : G2 := fun x y P => match x, y with
  | .str z, .int n => (-1000000 ≤ n ∧ n ≤ 1000000) ∧ z.length * n.toNat ≤ 1000000 ∧ P (.str (mulT z n))
  | _, _ => False
theorem op_mulS : OpR X (binaryOp .Mult) (fun x y H Q => ∃ z n, x = .str z ∧ y = .int n ∧ (-1000000 ≤ n ∧ n ≤ 1000000) ∧ z.length * n.toNat ≤ 1000000 ∧ Q (.str (mulT z n)) H) := by
  (intro pins s σ H x y v u Q I rx ry h)
  obtain ⟨z, n, rfl, rfl, ⟨n0, n1⟩, hl, q⟩ := h
  obtain ⟨t, rfl⟩ := rx
  obtain ⟨t2, rfl⟩ := ry
  refine SB.mul ⟨?_, fun a b hc => ?_, fun a b => ?_⟩ fun t' k => ?_
  · rw [decide_eq_false (by omega), decide_eq_false (by omega)]
    rfl
  · have hle : (z.length : Int) ≤ 1000000 := by
      have : z.length * 1 ≤ z.length * n.toNat := Nat.mul_le_mul (Nat.le_refl _) (by omega)
      omega
    have : (1000000 : Int) ≤ (2 ^ 63 - 1) / n := Int.le_ediv_of_mul_le (by omega) (by omega)
    omega
  · unfold Builtin.Str.tooLong
    rw [sizeLine_eq]
    (exact decide_eq_false (by omega))
  · rw [mul_eq]
    exact ⟨.str _, H, I.tok k, ⟨_, rfl⟩, q⟩
theorem sem_mulS : Sem2 X c (binaryOp .Mult) gMulS := by
  refine ⟨_, op_mulS, fun F H σ ρ xx x y vx vy P Q r bx by_ g k => ?_⟩
  unfold gMulS at g
  split at g
  · cases bo_str bx
    cases bo_int by_
    exact ⟨_, _, rfl, rfl, g.1, g.2.1, k _ _ F H g.2.2 (Ex.refl F) r (.str _)⟩
  · exact g.elim
end
theorem tup_once (l : Addr) (its : Array Value) (n : Nat) (dd : Option Addr) (sl : Array (Option Value)) (u : Tok) :
    Meets (Builtin.«tuple.__mul__» ⟨[.ref l, .int 1 u], []⟩) (fun _ R s => s.heap.get? l = some { cls := .type "tuple", dict := dd, data := .seq its n, slots := sl } ∧ R (.ok (.ret (.ref l))) s) :=
  .of_wp fun prog w A R s h =>
    by
    (obtain ⟨hp, g, d, tk, os⟩ := s)
    obtain ⟨hl, h⟩ := h
    have f1 := AutoSeq1.idx_int
    have c1 : (its.isEmpty || (1 : Int) == 1) = true := by
      have : ((1 : Int) == 1) = true := rfl
      rw [this, Bool.or_true]
    (wp_walk using wpAny_loadPart' hl)
    repeat (first
      | (refine wpAny_ite_false (decide_eq_false (by decide)) ?_
         wp_walk using wpAny_loadPart' hl)
      | (refine wpAny_ite_true (decide_eq_true c1) ?_
         wp_walk using wpAny_loadPart' hl))
    exact ⟨_, rfl, h⟩
section
variable {X : Cx} {c : Cn} {e : Expr} {pos : Pos}
def rOnce (K : PySem.W.Frag) : R2 := fun x y H Q => ∃ l xs, x = .ref l ∧ y = .int 1 ∧ SqT K H l xs ∧ Q (.ref l) H
theorem op_once : OpR X (binaryOp .Mult) (rOnce X.K) := by
  (intro pins s σ H x y v u Q I rx ry h)
  obtain ⟨l, xs, rfl, rfl, hT, q⟩ := h
  cases rx
  obtain ⟨t, rfl⟩ := ry
  (obtain ⟨its, r, ⟨⟨cls, dd, data, sl⟩, ho, hc, n, hd⟩, hs⟩ := I.tuple hT)
  simp only at hc hd
  subst hc hd
  have isT : s.TypeIs (.ref l) "tuple" := ⟨_, ho, rfl⟩
  have isI := typeIs_int s 1 t
  refine wpAny_binaryOp_repeat_ref (T := "tuple") (U := "int") (by decide) isT (fun s' => typeIs_int s' 1 t) noFill_tuple_mul F.fills_int_mul F.slot_int_rmul repeat_tuple F.slot_int_index.lookup ?_
  refine call_meets F.slot_int_rmul isI F.entry_int_rmul (F.args_int_rmul_2 _ _) (int_rmul_tuple 1 t l its.toArray n dd sl) ⟨ho, rfl, isT, ?_⟩
  exact call_meets F.slot_tuple_mul isT F.entry_tuple_mul (F.args_tuple_mul_2 _ _) (tup_once l its.toArray n dd sl t) ⟨ho, .ref l, H, I, rfl, q⟩
def gMulT : G2 := fun x y P => match x, y with
  | .tuple xs, .int n => (1 ≤ n ∧ n ≤ 1000) ∧ xs ≠ [] ∧ xs.length ≤ 1000 ∧ P (.tuple (List.replicate n.toNat xs).flatten)
  | _, _ => False
theorem sem_mulT (hK : X.K = c.K) : Sem2 X c (binaryOp .Mult) gMulT := by
  refine ⟨_, op_once.or op_repT, fun F H σ ρ xx x y vx vy P Q r bx by_ g k => ?_⟩
  unfold gMulT at g
  split at g
  · rename_i ds n
    obtain ⟨⟨n0, n1⟩, hne, hl, q⟩ := g
    cases bo_int by_
    obtain ⟨a, xs, rfl, f1, s1, t1⟩ := bo_tup r.w.fh bx
    by_cases z : n = 1
    · subst z
      refine .inl ⟨a, xs, rfl, rfl, by rw [hK]; exact s1, k _ _ F H q (Ex.refl F) r ?_⟩
      have : (List.replicate (1 : Int).toNat ds).flatten = ds := by simp
      rw [this]
      exact .tup f1 t1
    · refine .inr ⟨a, n, xs, rfl, rfl, by rw [hK]; exact s1, fun e => hne (t1.nil_iff.mp e), by omega, n1, by rw [t1.length]; exact hl, fun p hp => ?_⟩
      have e2 := r.efF (.tup (List.replicate n.toNat xs).flatten) hp
      exact k _ _ _ _ q e2 (r.newF _ hp) (.tup (.inl (.inl upd_same)) ((t1.repN n.toNat).mono e2))
  · exact g.elim
theorem signs_vals : ∀ (cs : List Nat) (us : List Value), us.length = cs.length → (∀ (j : Nat) (v : Value), us[j]? = some v → ∃ (c : Nat) (u : Tok), cs[j]? = some c ∧ v = Value.str ⟨#[c]⟩ u) → Vals (cs.map fun c => V.str ⟨#[c]⟩) us
  | [], us, hl, _ => by
    have : us = [] := List.eq_nil_of_length_eq_zero hl
    subst this
    exact .nil
  | c :: cs, [], hl, _ => by cases hl
  | c :: cs, u :: us, hl, h => by
    obtain ⟨c', t, e, rfl⟩ := h 0 u rfl
    cases e
    refine .cons ⟨t, rfl⟩ (signs_vals cs us (Nat.succ.inj hl) fun j v hv => ?_)
    obtain ⟨z, y, e1, e2⟩ := h (j + 1) v hv
    exact ⟨z, y, e1, e2⟩
theorem call_tupS (hc : X.calm = true) : CallR X (.type "tuple") (fun xs H Q => ∃ z : Str, xs = [.str z] ∧ z.length ≤ 1000000 ∧ ∀ p, H p = none → Q (.ref p) (upd H p (.tup (z.cps.toList.map fun c => V.str ⟨#[c]⟩)))) := by
  (intro pins s σ H xs us Q I r h)
  obtain ⟨z, rfl, hl, q⟩ := h
  (obtain ⟨u, rfl, t, rfl⟩ := vals1 r)
  have hz : z.cps.size ≤ sizeLine := sz hl
  refine call_tuple_str (I.ok.hd hc) z t (fun h' tk acc hk hacc => ?_) hz
  have len : acc.toList.length = z.cps.toList.length := by simpa using hacc.1
  have vs : Vals (z.cps.toList.map fun c => V.str ⟨#[c]⟩) acc.toList := signs_vals _ _ len fun j v hv => by
    obtain ⟨c, y, e1, e2⟩ := hacc.2 j v (by simpa using hv)
    exact ⟨c, y, by simpa using e1, e2⟩
  (have I1 : Inv X pins σ H { s with heap := h', toks := tk } := I.kept hk)
  refine ⟨.ref h'.objs.size, _, I1.laid (t' := tk) (o := .tup (z.cps.toList.map fun c => V.str ⟨#[c]⟩)) (fun b ob => Heap.get?_push_of_some _) (Nat.le_refl _) ?_, rfl, q _ (I1.hok.fresh (Nat.le_refl _))⟩
  exact ⟨by rw [List.length_map, Array.length_toList]; exact hz, _, vs, IsTup.new _ _⟩
def gTupS : GC := fun ds P => match ds with
  | [.str z] => z.length ≤ 1000000 ∧ P (.tuple (signs z))
  | _ => False
theorem at_signs {K : PySem.W.Frag} {F : Hp} : ∀ cs : List Nat, AtAll K F (cs.map fun c => V.str ⟨#[c]⟩) (cs.map fun c => PyData.str ⟨#[c]⟩)
  | [] => .nil
  | c :: cs => .cons (.str _) (at_signs cs)
theorem sem_tupS (hc : X.calm = true) : SemC X c (.type "tuple") gTupS :=
  ⟨_, call_tupS hc, fun F H σ ρ xx ds vs P Q r bs g k => by
    unfold gTupS at g
    split at g
    · rename_i z
      obtain ⟨v, rfl, b⟩ := pr1 bs
      cases bo_str b
      refine ⟨_, rfl, g.1, fun p hp => ?_⟩
      have e2 := r.efF (.tup (z.cps.toList.map fun c => V.str ⟨#[c]⟩)) hp
      exact k _ _ _ _ g.2 e2 (r.newF _ hp) (.tup (.inl (.inl upd_same)) (at_signs _))
    · exact g.elim⟩
def dStrip (g : Str → Str → Str) (f h : DM) : DM := fun ρ P => f ρ fun d ρ1 => (∃ z, d = .str z) ∧ h ρ1 fun y ρ2 => ∃ z w, d = .str z ∧ y = .str w ∧ z.length ≤ 1000000 ∧ P (.str (g z w)) ρ2
theorem strip_use {g : Str → Str → Str} {f h : DM} : ∀ σ H Q, tD c (dStrip g f h) σ H Q → tM1 (fun x xs H Q => ∃ a b, x = .str a ∧ xs = [.str b] ∧ a.length ≤ sizeLine ∧ Q (.str (g a b)) H) (tD c f) (tD c h) σ H Q := by
  rintro σ H Q ⟨F, ρ, xx, P, rel, q, k⟩
  refine ⟨F, ρ, xx, _, rel, q, fun d ρ1 v F1 H1 ⟨⟨z, hz⟩, q1⟩ e1 r1 a1 => ?_⟩
  subst hz
  cases a1
  refine ⟨⟨z, rfl⟩, F1, ρ1, xx, _, r1, q1, fun y ρ2 u F2 H2 ⟨z', w, ez, ew, hl, q2⟩ e2 r2 a2 => ?_⟩
  cases ez
  subst ew
  cases a2
  exact ⟨_, _, rfl, rfl, sz hl, k _ ρ2 _ F2 H2 q2 (e1.trans e2) r2 (.str _)⟩
theorem de_strip {o : Expr} {apos : Pos} {f h : DM} (ho : PE X o (tD c f)) (he : PE X e (tD c h)) (hs : starEach [e] X.env = [(false, eval e X.env)] := by rfl) (hbase : attributeBase o "strip" X.env (eval o X.env) = eval o X.env := by rfl) (hline : (apos.endLine == pos.line) = true := by rfl) :
    PE X (.Call (.Attribute o "strip" apos) [e] [] pos) (tD c (dStrip Txt.stripChars f h)) :=
  PE.to (pe_m1 F.slot_str_strip F.type_str_strip mt_stripChars ho he hs hbase hline) strip_use
end
end DL
namespace DL
open PySem PyProof.Rows L2
theorem FnG.ofD {pr : Program} {wd : PySem.World} {K : PySem.W.Frag} {gl : Str → Option Value} {bas : Heap} {k : Nat} {f : Addr} {x qual : Str} {st : Stmt} {fd : FuncData} {N ps : List Str} {sp : Sp} {dvs : List V} (Fd : FunD K x qual (defArgs st) (defBody st) (defScope st) dvs [] f fd) (Sn : FnScope N ps (defScope st))
    (many : ∀ vs H Q E, sp vs H Q E → vs.length = ps.length)
    (says : ∀ (cdv : Value) (A : Around) (out : List PySem.Env) (sh : Shared) (H : Hp) (vs : List V) (Q : VK) (E : XK), A.guards = some [] → Room k (A.deeper (envOfC qual (defScope st) sh.heap.objs.size f cdv)) → sp vs H Q E →
      ∃ t, PSs (cxOf CX0 pr wd K gl bas N qual (defScope st) f cdv A out sh H E).nox (defBody st) t ∧ t { nx := fun _ H' => Q .non H', rt := Q } (start N vs) H) : FnG pr wd K gl bas (k + 1) f fd ps sp := by
  obtain ⟨oc, od, dV, kV, doc, pm, an, cdv, ct, osl, efd, lk, hc, _, _⟩ := Fd.ex
  refine ⟨many, fun A out sh H ar us vs Q E hg room env0 bnd rv asks => ?_⟩
  have inK : K.In sh.heap := PySem.W.Frag.In.keeps env0.mod.kin fun b o e => (env0.bs b o e).1
  have free : sh.heap.NoLimit := Heap.NoLimit.keeps env0.mod.nolimit fun b o e => (env0.bs b o e).1
  have kinds : ∀ y ∈ ps.zip us, (defScope st).names.lookup y.1 = some .local ∨ ((defScope st).names.lookup y.1 = some .cell ∧ ((cellsFrom (sh.heap.objs.size + 1) (defScope st).names []).lookup y.1).isSome = true) := by
    rintro ⟨n, v⟩ hy
    rcases Sn.par n (List.of_mem_zip hy).1 with z | z
    · exact .inl z
    · exact .inr ⟨z, PySem.W.cellsFrom_some _ _ _ (.inl z)⟩
  rw [efd] at lk bnd
  refine codeAny_call_function room.depth (inK _ _ lk) rfl Sn.co Sn.gen rfl (PySem.W.codeRec_of inK hc) (bnd _ _ _ _ (wpAny_newFunctionEnv_cells Sn.kind kinds ?_))
  intro env1 he s1 made
  subst he
  refine ⟨free.keeps made.toInCall.keep, codeAny_func ?_⟩
  obtain ⟨t, runs, ht⟩ := says cdv A out sh H vs Q E hg (room.deeper _) asks
  have I0 : Inv (cxOf CX0 pr wd K gl bas N qual (defScope st) f cdv A out sh H E) [] (start N vs) H s1 := inv_start Sn room.hd env0 (many _ _ _ _ asks) rv made
  refine wpAny_mono (runs.nox.run [] s1 (start N vs) H _ I0 ht) (fun fl s2 told => ?_) fun _ _ z => z
  match fl, told with
  | .ret u, ⟨v, σ', H', J, r, q⟩ => exact ⟨v, H', J.os, J.bare, J.base, J.hok, r, q⟩
  | .next, ⟨σ', H', J, q⟩ => exact ⟨V.non, H', J.os, J.bare, J.base, J.hok, rfl, q⟩
  | .brk, z => exact (z.choose_spec.choose_spec.2 : False).elim
  | .cont, z => exact (z.choose_spec.choose_spec.2 : False).elim
theorem FnG.dataD {pr : Program} {wd : PySem.World} {K : PySem.W.Frag} {gl : Str → Option Value} {bas : Heap} {k n : Nat} {f : Addr} {x qual : Str} {st : Stmt} {fd : FuncData} {N ps : List Str} {R : Orc} {g : SM} {dvs : List V} (F : FunD K x qual (defArgs st) (defBody st) (defScope st) dvs [] f fd) (Sc : FnScope N ps (defScope st)) (hn : n = ps.length)
    (body : ∀ (cdv : Value) (A : Around) (out : List PySem.Env) (sh : Shared) (H : Hp) (E : XK) (q : Option Addr) (F : Hp), A.guards = some [] → Room k (A.deeper (PyProof.Rows.envOfC qual (defScope st) sh.heap.objs.size f cdv)) →
      PSs (cxOf CX0 pr wd K gl bas N qual (defScope st) f cdv A out sh H E).nox (defBody st) (tS ⟨K, R, q, F, H⟩ g)) : FnG pr wd K gl bas (k + 1) f fd ps (spD K R n (raw g N.length)) := by
  refine FnG.ofD F Sc (fun vs H Q E ⟨q, F0, as, m, P, w, pa, hl, _⟩ => by rw [paired_len pa, hl, hn]) fun cdv A out sh H vs Q E hg hr ⟨q, F0, as, m, P, w, pa, hl, ho, hq, hm, says, k0⟩ => ?_
  have fin : ∀ (d : D) (v : V) (ρ' : DL.Env) (σ' : L2.St) (F' H' : Hp), (match ρ'[0]? with
      | some (Sl.ora m') => P d m'
      | _ => as.head?.map isD ≠ some false ∧ P d 0) → Rel ⟨K, R, q, F0, H⟩ F' H' σ' ρ' [] → At K F' v d → Q v H' := by
    intro d v ρ' σ' F' H' p r a
    split at p
    · rename_i m' e
      obtain ⟨y, h1, _, h3⟩ := r.s.or 0 m' e
      exact k0 d m' v F' H' p r.w (fun z hz => by
        have hz' : q = some z := hz
        have h1' : q = some y := h1
        rw [hz'] at h1'
        cases h1'
        exact h3) a
    · obtain ⟨p1, p2⟩ := p
      have qn : q = none := hq.resolve_right fun z => p1 (by
        cases as with
        | nil => cases z
        | cons b t => cases z; rfl)
      exact k0 d 0 v F' H' p2 r.w (fun z hz => by rw [qn] at hz; cases hz) a
  refine ⟨_, body cdv A out sh H E q F0 hg hr, F0, _, [], _, rel_start w pa ho hm, says, ?_, ?_, ?_, ?_⟩
  · exact fun ρ' σ' F' H' p e r => fin .none .non ρ' σ' F' H' p r .non
  · exact fun d v ρ' σ' F' H' p r a => fin d v ρ' σ' F' H' p r a
  · exact fun ρ' σ' F' H' p => p.elim
  · exact fun ρ' σ' F' H' p => p.elim
section
variable {X : Cx} {k : Nat} {f : Addr} {fd : FuncData} {ps : List Str} {sp : Sp} {x : Str} {p pos : Pos} {e : Expr} {es : List Expr} {t : TA}
theorem pe_callGd {ds : List Value} {dvs : List V} (F : FnG X.prog X.w X.K X.mg X.base k f fd ps sp) (hg : X.A.guards = some []) (hr : Room k X.A) (gx : Gl X x) (hm : X.mg x = some (.ref f)) (hk : PySem.W.keepIn X.K (.ref f) = true) (hb : Binds X.K fd ps ds) (rd : Vals dvs ds)
    (ha : PA X (e :: es) t) (hdb : (x == ("__debug__" : Str)) = false := by decide) (he : starEach (e :: es) X.env = (false, eval e X.env) :: starEach es X.env := by rfl)
    (hpl : (backTo pos (starEach es X.env)).any (·.1) = false := by rfl) : PE X (.Call (.Name x p) (e :: es) [] pos) (tCall sp dvs (fun _ _ _ => False) t) := by
  (refine ⟨fun pins s σ H Q I h => ?_⟩)
  refine wpAny_Call_Name_kw (ld_glob I gx hm (PySem.W.callWith_K (h₀ := X.base) I.ok.mod.kin hk (thn (ha.run pos pins s σ H _ I h) ?_) he hpl) hdb)
  rintro us s1 ⟨vs, H1, I1, r, asks⟩
  have rr := r.append rd
  have len : (us ++ ds).length = ps.length := by
    rw [← rr.length]
    exact F.many _ _ _ _ asks
  refine ⟨I1.kIn, wpAny_call (codeAny_mono (F.go X.A X.stack s1 H1 ⟨us, []⟩ (us ++ ds) (vs ++ dvs) Q _ hg hr I1.env0 (hb s1 us I1.kIn len) rr asks) fun res s' told => ?_)⟩
  match res, told with
  | .error _, z => exact (z : False).elim
  | .ok (.ret u), z => exact I1.after z
end
def CdD (pr : Program) (wd : PySem.World) (K : PySem.W.Frag) (gl : Str → Option Value) (bas : Heap) (R : Orc) (k : Nat) (x : Str) (n : Nat) (dds : List D) (S : SpD) : Prop :=
  ∃ (f : Addr) (fd : FuncData) (ps : List Str) (ds : List Value) (dvs : List V), FnG pr wd K gl bas k f fd ps (spD K R (n + dds.length) S) ∧ gl x = some (.ref f) ∧ PySem.W.keepIn K (.ref f) = true ∧ Binds K fd ps ds ∧ Vals dvs ds ∧ ∀ F, AtAll K F dvs dds
theorem CdD.more {pr : Program} {wd : PySem.World} {K : PySem.W.Frag} {gl : Str → Option Value} {bas : Heap} {R : Orc} {j k : Nat} {x : Str} {n : Nat} {dds : List D} {S : SpD} (C : CdD pr wd K gl bas R j x n dds S) (h : j ≤ k) : CdD pr wd K gl bas R k x n dds S := by
  obtain ⟨f, fd, ps, ds, dvs, F, a, b, d, e, u⟩ := C
  exact ⟨f, fd, ps, ds, dvs, F.more h, a, b, d, e, u⟩
def dCallD (n : Nat) (dds : List D) (S : SpD) (f : AM) : DM := fun ρ P => f ρ fun as ρ1 => as.length = n ∧ as.all isD = true ∧ S (as ++ dds.map Ar.d) 0 fun d _ => P d ρ1
theorem paired_app {R : V → Ar → Prop} {vs ws : List V} {as bs : List Ar} (h : Paired R vs as) (h' : Paired R ws bs) : Paired R (vs ++ ws) (as ++ bs) := by
  induction h with
  | nil => exact h'
  | cons a _ ih => exact .cons a ih
theorem paired_def {K : PySem.W.Frag} {c : Cn} {F : Hp} (hK : c.K = K) : ∀ {vs : List V} {ds : List D}, AtAll K F vs ds → Paired (ArAt c F) vs (ds.map Ar.d)
  | _, _, .nil => .nil
  | _, _, .cons a t => .cons (by show At c.K F _ _; rw [hK]; exact a) (paired_def hK t)
theorem de_cdD {X : Cx} {c : Cn} {k n : Nat} {dds : List D} {S : SpD} {x : Str} {p pos : Pos} {e : Expr} {es : List Expr} {fa : AM} (C : CdD X.prog X.w X.K X.mg X.base c.R k x n dds S) (hK : X.K = c.K) (hg : X.A.guards = some []) (hr : Room k X.A) (gx : Gl X x)
    (ha : PA X (e :: es) (tAr c fa)) (hdb : (x == ("__debug__" : Str)) = false := by decide) (he : starEach (e :: es) X.env = (false, eval e X.env) :: starEach es X.env := by rfl)
    (hpl : (backTo pos (starEach es X.env)).any (·.1) = false := by rfl) : PE X (.Call (.Name x p) (e :: es) [] pos) (tD c (dCallD n dds S fa)) := by
  obtain ⟨f, fd, ps, ds, dvs, F, hm, hk, hb, rd, at_⟩ := C
  refine PE.to (pe_callGd F hg hr gx hm hk hb rd ha hdb he hpl) ?_
  rintro σ H Q ⟨F0, ρ, xx, P, rel, q, k0⟩
  refine ⟨F0, ρ, xx, _, rel, q, ?_⟩
  rintro as ρ1 vs F1 H1 ⟨hl, hd, hs⟩ e1 r1 pr
  have w0 : World c.R none F1 H1 F1 H1 := World.start r1.w.fh (fun _ _ z => z) fun _ z => nomatch z
  have pr1 : Paired (ArAt ⟨X.K, c.R, none, F1, H1⟩ F1) vs as := by
    clear hs hl
    induction pr with
    | nil => exact .nil
    | @cons v a vs' as' h1 h2 ih =>
      rw [List.all_cons, Bool.and_eq_true] at hd
      cases a with
      | d y =>
        refine .cons ?_ (ih hd.2)
        show At X.K F1 v y
        rw [hK]
        exact h1
      | ora => cases hd.1
  have pr2 := paired_app pr1 (paired_def (c := ⟨X.K, c.R, none, F1, H1⟩) rfl (at_ F1))
  have all2 : (as ++ dds.map Ar.d).all isD = true := by
    rw [List.all_append, hd, Bool.true_and, List.all_map]
    (exact List.all_eq_true.mpr fun _ _ => rfl)
  refine ⟨none, F1, as ++ dds.map Ar.d, 0, _, w0, pr2, by rw [List.length_append, List.length_map, hl], fun i z => absurd z (all_isD all2 i), .inl rfl, (fun _ z => nomatch z), hs, ?_⟩
  intro d m' v F2 H2 pd wd _ a2
  rw [hK] at a2
  exact k0 d ρ1 v F2 H2 pd (e1.trans wd.ff) (r1.stepN wd) a2
end DL
namespace DL
open PySem L2
/-- one field: a text or a number, as a text -/
def dFmt (f : DM) : DM := fun ρ P => f ρ fun d ρ1 => match d with
  | .str y => y.length ≤ 1000000 ∧ P (.str y) ρ1
  | .int i => i.natAbs.log2 < 1920 ∧ P (.str (toString i)) ρ1
  | _ => False
def dJs : List DM → Str → DM
  | [], acc => fun ρ P => P (.str acc) ρ
  | f :: fs, acc => fun ρ P => f ρ fun d ρ1 => match d with
    | .str y => (acc ++ y).length ≤ 1000000 ∧ dJs fs (acc ++ y) ρ1 P
    | _ => False
section
variable {X : Cx} {c : Cn}
theorem de_fmt {e : Expr} {f : DM} {pos : Pos} (he : PE X e (tD c f)) : PE X (.FormattedValue e (-1) none pos) (tD c (dFmt f)) := by
  refine PE.to (pe_fmt he) ?_
  rintro σ H Q ⟨F, ρ, xx, P, rel, q, k⟩
  refine ⟨F, ρ, xx, _, rel, q, fun d ρ1 v F1 H1 q1 e1 r1 a1 => ?_⟩
  cases d with
  | str y =>
    cases a1
    exact .inl ⟨y, rfl, sz q1.1, k _ _ _ F1 H1 q1.2 e1 r1 (.str y)⟩
  | int i =>
    cases a1
    exact .inr ⟨i, rfl, q1.1, k _ _ _ F1 H1 q1.2 e1 r1 (.str _)⟩
  | _ => exact q1.elim
theorem js_use : ∀ (fs : List DM) (acc : Str) (σ : L2.St) (H : Hp) (Q : VK), tD c (dJs fs acc) σ H Q → tJs (fs.map (tD c)) acc σ H fun out H1 => Q (.str out) H1
  | [], acc, σ, H, Q, ⟨F, ρ, xx, P, rel, q, k⟩ => k _ ρ _ F H q (Ex.refl F) rel (.str acc)
  | f :: fs, acc, σ, H, Q, ⟨F, ρ, xx, P, rel, q, k⟩ => by
    refine ⟨F, ρ, xx, _, rel, q, fun d ρ1 v F1 H1 q1 e1 r1 a1 => ?_⟩
    cases d with
    | str y =>
      cases a1
      exact ⟨y, rfl, sz q1.1, js_use fs _ σ H1 Q ⟨F1, ρ1, xx, P, r1, q1.2, fun d ρ2 v F2 H2 p e2 r2 a2 => k d ρ2 v F2 H2 p (e1.trans e2) r2 a2⟩⟩
    | _ => exact q1.elim
theorem de_fs {v1 v2 : Expr} {rest : List Expr} {fs : List DM} {pos : Pos} (h : PJ X (v1 :: v2 :: rest) (fs.map (tD c))) : PE X (.JoinedStr (v1 :: v2 :: rest) pos) (tD c (dJs fs "")) := by
  refine PE.to (pe_joined h) ?_
  intro σ H Q q
  exact js_use fs _ σ H Q q
theorem pj_nil : PJ X [] (([] : List DM).map (tD c)) := .nil
theorem pj_cons {e : Expr} {f : DM} {es : List Expr} {fs : List DM} (h : PE X e (tD c f)) (r : PJ X es (fs.map (tD c))) : PJ X (e :: es) ((f :: fs).map (tD c)) := .cons h r
/-- int of a number, a truth, a text of figures -/
def gIntU : GC := fun ds P => match ds with
  | [.int i] => P (.int i)
  | [.bool b] => P (.int (if b then 1 else 0))
  | [.str a] => ∃ n, PySem.intText? a = some n ∧ a.length ≤ 640 ∧ P (.int n)
  | _ => False
theorem sem_intU : SemC X c (.type "int") gIntU := by
  refine ⟨_, call_int1.or call_int_str, fun F H σ ρ xx ds vs P Q r bs g k => ?_⟩
  unfold gIntU at g
  split at g
  · obtain ⟨v, rfl, b⟩ := pr1 bs
    cases bo_int b
    exact .inl (.inl ⟨_, rfl, k _ _ F H g (Ex.refl F) r (.int _)⟩)
  · obtain ⟨v, rfl, b⟩ := pr1 bs
    cases bo_bl b
    exact .inl (.inr ⟨_, rfl, k _ _ F H g (Ex.refl F) r (.int _)⟩)
  · obtain ⟨v, rfl, b⟩ := pr1 bs
    cases bo_str b
    obtain ⟨n, g1, g2, g⟩ := g
    exact .inr ⟨_, n, rfl, g1, g2, k _ _ F H g (Ex.refl F) r (.int _)⟩
  · exact g.elim
end
end DL
namespace DL
open PySem L2
section
variable {c : Cn} {F H : Hp} {σ : L2.St} {ρ : DL.Env} {xx yy : XX}
theorem Rel.freezeO {a : Addr} {o : HO} (r0 : Rel c F H σ ρ ((a, .o o) :: xx)) : Ex F (upd F a o) ∧ Rel c (upd F a o) H σ ρ xx := by
  obtain ⟨r, h⟩ := r0.popX
  have ho : H a = some o := h.own.o
  have ef : Ex F (upd F a o) := Ex.new h.own.f
  refine ⟨ef, ⟨⟨r.w.ff.trans ef, fun b u q => ?_, r.w.kp, r.w.dom, fun b g f => ?_, fun b g => ?_, r.w.or⟩, ⟨r.s.len, fun j x q => ?_, fun j x q => ?_, r.s.dj, r.s.or, r.s.ou, fun p hp => ?_, r.s.xd⟩⟩⟩
  · by_cases z : b = a
    · subst z
      rw [upd_same] at q
      cases q
      exact ho
    · rw [upd_ne z] at q
      exact r.w.fh b u q
  · by_cases z : b = a
    · subst z
      exact absurd h.own.y g
    · rw [upd_ne z]
      exact r.w.fn b g f
  · by_cases z : b = a
    · subst z
      exact h.own.n
    · rw [upd_ne z] at g
      exact r.w.ft b g
  · obtain ⟨v, g1, g2⟩ := r.s.im j x q
    exact ⟨v, g1, g2.mono ef⟩
  · obtain ⟨b, g1, g2⟩ := r.s.ow j x q
    have hb : b ≠ a := fun zz => by
      subst zz
      exact h.ne j x q g1
    exact ⟨b, g1, ⟨g2.o.mono ef rfl, by rw [upd_ne hb]; exact g2.f, g2.y, g2.n⟩⟩
  · obtain ⟨g2, gn⟩ := r.s.ex p hp
    exact ⟨⟨g2.o.mono ef rfl, by rw [upd_ne (h.nx p hp)]; exact g2.f, g2.y, g2.n⟩, gn⟩
theorem Fresh.toO {a : Addr} {ds : List D} (h : Fresh c F H σ ρ xx a (.d (.list ds))) : ∃ vs, AtAll c.K F vs ds ∧ Fresh c F H σ ρ xx a (.o (.lst vs)) := by
  obtain ⟨vs, h1, h2⟩ := h.own.o
  exact ⟨vs, h2, ⟨h1, h.own.f, h.own.y, h.own.n⟩, h.ne, h.nx⟩
/-- a list of lists at A, its rows at as -/
structure Nest (K : PySem.W.Frag) (F : Hp) (A : Addr) (as : List Addr) (rows : List (List D)) : Prop where
  o : F A = some (.lst (as.map V.ref))
  n : as.length = rows.length
  r : ∀ (k : Nat) (a : Addr) (r : List D), as[k]? = some a → rows[k]? = some r → ∃ vs, F a = some (.lst vs) ∧ AtAll K F vs r
theorem Nest.mono {K : PySem.W.Frag} {F F' : Hp} {A : Addr} {as : List Addr} {rows : List (List D)} (h : Nest K F A as rows) (e : Ex F F') : Nest K F' A as rows :=
  ⟨e _ _ h.o, h.n, fun k a r h1 h2 => let ⟨vs, q1, q2⟩ := h.r k a r h1 h2; ⟨vs, e _ _ q1, q2.mono e⟩⟩
theorem rows_at {K : PySem.W.Frag} {F : Hp} : ∀ (as : List Addr) (rows : List (List D)), as.length = rows.length → (∀ (k : Nat) (a : Addr) (r : List D), as[k]? = some a → rows[k]? = some r → ∃ vs, F a = some (.lst vs) ∧ AtAll K F vs r) → AtAll K F (as.map V.ref) (rows.map PyData.list)
  | [], [], _, _ => .nil
  | [], _ :: _, h, _ => (by simp at h)
  | _ :: _, [], h, _ => (by simp at h)
  | a :: as, r :: rows, h, k => by
    obtain ⟨vs, q1, q2⟩ := k 0 a r rfl rfl
    exact .cons (.lst (.inl (.inl q1)) q2) (rows_at as rows (by simpa using h) fun j a r h1 h2 => k (j + 1) a r h1 h2)
theorem Nest.at {K : PySem.W.Frag} {F : Hp} {A : Addr} {as : List Addr} {rows : List (List D)} (h : Nest K F A as rows) : At K F (.ref A) (.list (rows.map PyData.list)) := .lst (.inl (.inl h.o)) (rows_at as rows h.n h.r)
/-- its objects were not there: not in G, not at the beginning -/
structure Newly (G H0 : Hp) (A : Addr) (as : List Addr) : Prop where
  g : ∀ a ∈ A :: as, G a = none
  h : ∀ a ∈ A :: as, H0 a = none
  nd : (A :: as).Nodup
theorem wipe_set2 : ∀ (us : List Nat) (σ : L2.St) (i : Nat), i ∈ us → (wipe σ us).set i none = wipe σ us
  | [], _, _, h => nomatch h
  | u :: us, σ, i, h => by
    show ((wipe σ us).set u none).set i none = (wipe σ us).set u none
    by_cases e : u = i
    · subst e
      rw [List.set_set]
    · rw [List.set_comm _ _ e, wipe_set2 us σ i ((List.mem_cons.mp h).resolve_left fun z => e z.symm)]
theorem wipe_wipe9 : ∀ (us ws : List Nat) (σ : L2.St), (∀ i ∈ us, i ∈ ws) → wipe (wipe σ ws) us = wipe σ ws
  | [], _, _, _ => rfl
  | u :: us, ws, σ, h => by
    show (wipe (wipe σ ws) us).set u none = wipe σ ws
    rw [wipe_wipe9 us ws σ fun i hi => h i (List.mem_cons_of_mem _ hi)]
    exact wipe_set2 ws σ u (h u (List.mem_cons_self ..))
/-- [a new list for each] -/
theorem lcN_use {i : IM} {t : TM} {f : DM} {vs js : List Nat} {Q : VK} (hj : ∀ j ∈ js, j ∈ vs) (rel : Rel c F H σ ρ xx) {ds : List D} {rows : List (List D)} (hl : ds.length = rows.length) (hm : ds.length ≤ 100000)
    (hi : i ρ fun ds' ρ' => ds' = ds ∧ ρ' = ρ) (ok : okV ρ vs) (hb : backE ρ (wipeE ρ vs) vs = ρ)
    (hel : ∀ (n : Nat) (d : D) (r : List D), ds[n]? = some d → rows[n]? = some r → t d (wipeE ρ vs) fun ρ1 => f ρ1 fun y ρ2 => y = .list r ∧ wipeE ρ2 vs = wipeE ρ vs)
    (k : ∀ (A : Addr) (as : List Addr) (F' H' : Hp), Ex F F' → Nest c.K F' A as rows → Newly F c.H0 A as → Rel c F' H' σ ρ xx → Q (.ref A) H') :
    tLc (tI c i) (tG c js t) (tT c bYes) (tN c f) vs σ H Q := by
  refine ⟨F, ρ, xx, _, rel, hi, fun ds' ρ1 J F1 H1 q1 e1 r1 iok A hA => ?_⟩
  obtain ⟨rfl, rfl⟩ := q1
  obtain ⟨rA, frA⟩ := Fresh.new (o := .lst []) (d := .o (.lst [])) r1 hA upd_same
  refine ⟨fun n m H' => ∃ (F' : Hp) (as : List Addr), Ex F1 F' ∧ n ≤ ds'.length ∧ as.length = n ∧ m = ds'.length - n ∧
      (∀ (k : Nat) (a : Addr) (r : List D), as[k]? = some a → rows[k]? = some r → ∃ vs, F' a = some (.lst vs) ∧ AtAll c.K F' vs r) ∧
      (∀ a ∈ as, F1 a = none ∧ c.H0 a = none ∧ F' a ≠ none) ∧ as.Nodup ∧ Rel c F' H' (wipe σ vs) (wipeE ρ1 vs) ((A, .o (.lst (as.map V.ref))) :: xx),
    ⟨ds'.length, F1, [], Ex.refl F1, Nat.zero_le _, rfl, by omega, (fun k a r z => by simp at z), (fun a z => by cases z), List.nodup_nil, (rA.pushX frA).wipe vs⟩, ?_⟩
  rintro n m H' ⟨F', as, e2, hn, la, rfl, hr, hf, nd, r2⟩
  obtain ⟨o1, o2⟩ := iok n F' H' (wipe σ vs) _ _ e2 r2
  by_cases hlt : n < ds'.length
  · have hd : ds'[n]? = some ds'[n] := List.getElem?_eq_getElem hlt
    have hlt2 : n < rows.length := by omega
    have hrw : rows[n]? = some rows[n] := List.getElem?_eq_getElem hlt2
    obtain ⟨go, yl⟩ := o1 _ hd
    have q2 := hel n _ _ hd hrw
    refine .inr ⟨go, fun H2 => ∃ (F' : Hp) (as : List Addr), Ex F1 F' ∧ as.length = n + 1 ∧
      (∀ (k : Nat) (a : Addr) (r : List D), as[k]? = some a → rows[k]? = some r → ∃ vs, F' a = some (.lst vs) ∧ AtAll c.K F' vs r) ∧
      (∀ a ∈ as, F1 a = none ∧ c.H0 a = none ∧ F' a ≠ none) ∧ as.Nodup ∧ Rel c F' H2 (wipe σ vs) (wipeE ρ1 vs) ((A, .o (.lst (as.map V.ref))) :: xx),
      fun H2 ⟨F2, as2, a1, a2, a3, a4, a5, a6⟩ => ⟨ds'.length - (n + 1), by omega, F2, as2, a1, by omega, a2, rfl, a3, a4, a5, a6⟩, fun v H2 y => ?_⟩
    obtain ⟨F2, e3, r3, a3⟩ := yl v H2 y
    refine ⟨F2, _, _, _, _, r3, a3, q2, fun ρ4 σ4 F4 H4 q4 on e4 r4 => ?_⟩
    have hw : wipe σ4 vs = wipe σ vs := by
      rw [on vs hj]
      exact wipe_wipe9 vs vs σ fun _ h => h
    refine ⟨by first | (rw [hw, wipe_wipe9 vs vs σ fun _ h => h]; done) | (rw [hw]; done) | exact hw, F4, ρ4, _, fun b ρ' => b = true ∧ ρ' = ρ4, r4, ⟨rfl, rfl⟩, fun bb ρ5 F5 H5 q5 e5 r5 => ?_⟩
    obtain ⟨rfl, rfl⟩ := q5
    rw [if_pos rfl]
    refine ⟨F5, ρ5, _, _, r5, q4, fun y ρ6 u F6 H6 q6 e6 r6 f6 => ?_⟩
    obtain ⟨rfl, ew⟩ := q6
    obtain ⟨us, ua, fo⟩ := f6.toO
    have ho : H6 A = some (.lst (as.map V.ref)) := (r6.s.ex (A, .o (.lst (as.map V.ref))) (List.mem_cons_self ..)).1.o
    obtain ⟨e7, r7⟩ := (r6.pushX fo).freezeO
    have eF : Ex F' (upd F6 u (.lst us)) := (((e3.trans e4).trans e5).trans e6).trans e7
    have r8 := r7.mutX (o := .lst (as.map V.ref ++ [V.ref u])) (d' := .o (.lst (as.map V.ref ++ [V.ref u]))) (show upd H6 A _ A = _ from upd_same)
    have r9 := r8.wipe vs
    rw [hw, ew] at r9
    have fu : F1 u = none := by
      cases e : F1 u with
      | none => rfl
      | some o =>
        have z := fo.own.f
        rw [e6 _ _ (e5 _ _ (e4 _ _ (e3 _ _ (e2 _ _ e))))] at z
        cases z
    have nu : u ∉ as := fun z => by
      obtain ⟨_, _, h3⟩ := hf u z
      cases e : F' u with
      | none => exact h3 e
      | some o =>
        have z := fo.own.f
        rw [e6 _ _ (e5 _ _ (e4 _ _ (e3 _ _ e)))] at z
        cases z
    refine ⟨as.map V.ref, ho, szl (by rw [List.length_map]; omega), upd F6 u (.lst us), as ++ [u], e2.trans eF, by rw [List.length_append, la]; rfl, fun k a r h1 h2 => ?_, fun a ha => ?_, ?_, ?_⟩
    · by_cases hk : k < as.length
      · rw [List.getElem?_append_left hk] at h1
        obtain ⟨ws, g1, g2⟩ := hr k a r h1 h2
        exact ⟨ws, eF _ _ g1, g2.mono eF⟩
      · have hk2 : k = n := by
          have := (List.getElem?_eq_some_iff.mp h1).1
          rw [List.length_append] at this
          simp at this
          omega
        subst hk2
        rw [List.getElem?_append_right (by omega), la, Nat.sub_self] at h1
        cases h1
        rw [hrw] at h2
        cases h2
        exact ⟨us, upd_same, ua.mono e7⟩
    · rcases List.mem_append.mp ha with z | z
      · obtain ⟨h1, h2, h3⟩ := hf a z
        refine ⟨h1, h2, fun q => ?_⟩
        cases e : F' a with
        | none => exact h3 e
        | some o =>
          rw [eF _ _ e] at q
          cases q
      · (rw [List.mem_singleton.mp z])
        exact ⟨fu, fo.own.y, by rw [upd_same]; exact Option.some_ne_none _⟩
    · refine List.nodup_append.mpr ⟨nd, by simp, fun a h1 b h2 z => ?_⟩
      rw [List.mem_singleton.mp h2] at z
      exact nu (z ▸ h1)
    · rw [List.map_append]
      exact r9
  · have en : n = ds'.length := by omega
    subst en
    obtain ⟨r5, fr⟩ := (Rel.back r1 e2 vs _ ok r2).popX
    rw [hb] at r5 fr
    obtain ⟨e6, r6⟩ := (r5.pushX fr).freezeO
    refine .inl ⟨o2 rfl, k A as _ H' (e1.trans (e2.trans e6)) ⟨upd_same, by omega, fun k a r h1 h2 => ?_⟩ ⟨fun a ha => ?_, fun a ha => ?_, ?_⟩ r6⟩
    · obtain ⟨ws, g1, g2⟩ := hr k a r h1 h2
      exact ⟨ws, e6 _ _ g1, g2.mono e6⟩
    · rcases List.mem_cons.mp ha with rfl | z
      · cases e : F a with
        | none => rfl
        | some o =>
          have q := fr.own.f
          rw [e2 _ _ (e1 _ _ e)] at q
          cases q
      · obtain ⟨h1, _, _⟩ := hf a z
        cases e : F a with
        | none => rfl
        | some o =>
          rw [e1 _ _ e] at h1
          cases h1
    · rcases List.mem_cons.mp ha with rfl | z
      · exact fr.own.y
      · exact (hf a z).2.1
    · rw [List.nodup_cons]
      refine ⟨fun z => ?_, nd⟩
      exact (hf A z).2.2 fr.own.f
end
end DL
namespace DL
open PySem L2
def spc : D := .str (" " : Str)
def isWr (s : Str) : Bool := s == ("put" : Str) || s == ("rub" : Str) || s == ("tail" : Str)
def wrote (s : Str) (rest : List D) (j : Nat) (cs : List D) : List D :=
  if (s == ("put" : Str)) = true then cs.set j (rest.headD .none)
  else if (s == ("rub" : Str)) = true then (if 0 < j then cs.set (j - 1) spc else cs)
  else cs.take j ++ List.replicate (cs.length - j) spc
def spW (K : PySem.W.Frag) : Sp := fun vs H Q _ => ∃ (F : Hp) (v0 vu vc : V) (i j r w : Int) (s : Str) (rest : List D), vs = [v0, vu, .int i, .int j, vc] ∧ Ex F H ∧ At K F v0 (.tuple [.int r, .int w]) ∧ At K F vc (.tuple (.str s :: rest)) ∧ okD (.str s) ∧
  ((isWr s = false ∧ ∀ H' : Hp, (∀ b o, H b = some o → H' b = some o) → Q .non H') ∨
   (isWr s = true ∧ ∃ (U a : Addr) (as : List Addr) (us : List V) (ds : List D), vu = .ref U ∧ H U = some (.lst (as.map V.ref)) ∧ atI as i = some a ∧ a ≠ U ∧ H a = some (.lst us) ∧ F a = none ∧ AtAll K F us ds ∧ (ds.length : Int) = w ∧ 0 ≤ j ∧ j < w ∧ w ≤ 1000 ∧ (s = "put" → ∃ d, rest = [d]) ∧
     ∀ (F' H' : Hp) (us' : List V), Ex F F' → Ex F' H' → (∀ b o, b ≠ a → H b = some o → H' b = some o) → F' a = none → H' a = some (.lst us') → AtAll K F' us' (wrote s rest j.toNat ds) → Q .non H'))
theorem eqvS (a b : Str) : PyData.eqv (.str a) (.str b) = (a == b) := by simp [PyData.eqv]
theorem okWd (s : Str) (h : PyData.strOk s = true := by decide +kernel) : okD (.str s) := by
  show SeqAt.shaped _ = true
  unfold SeqAt.shaped
  show (PyData.strOk s && _) = true
  rw [h]
  rfl
section
variable {K : PySem.W.Frag} {R : Orc} {F H : Hp} {v0 vc : V} {i j r w : Int} {s : Str} {rest : List D}
def wE (r w i j : Int) (s : Str) (rest : List D) : DL.Env := [.im (.tuple [.int r, .int w]), .no, .im (.int i), .im (.int j), .im (.tuple (.str s :: rest)), .no]
/-- the row at a, and all else -/
structure WI (K : PySem.W.Frag) (R : Orc) (F G Hw : Hp) (a U : Addr) (as : List Addr) (e : DL.Env) (σ : L2.St) (ds : List D) (H' : Hp) : Prop where
  x : ∃ F' us', Ex G F' ∧ Rel ⟨K, R, none, F, Hw⟩ F' H' σ e [(a, .o (.lst us'))] ∧ AtAll K F' us' ds
  u : H' U = some (.lst (as.map V.ref))
theorem WI.row {G Hw H' : Hp} {a U : Addr} {as : List Addr} {e : DL.Env} {σ : L2.St} {ds : List D} (h : WI K R F G Hw a U as e σ ds H') : ∃ us', H' a = some (.lst us') ∧ us'.length = ds.length := by
  obtain ⟨F', us', _, r, at_⟩ := h.x
  exact ⟨us', (r.s.ex (a, .o (.lst us')) (List.mem_cons_self ..)).1.o, at_.length⟩
theorem WI.put {G Hw H' : Hp} {a U : Addr} {as : List Addr} {e : DL.Env} {σ : L2.St} {ds : List D} {F2 : Hp} {us' : List V} {v : V} {d : D} {k : Nat} (hU : a ≠ U) (ef : Ex G F2) (r : Rel ⟨K, R, none, F, Hw⟩ F2 H' σ e [(a, .o (.lst us'))]) (ha : AtAll K F2 us' ds) (hu : H' U = some (.lst (as.map V.ref))) (hv : At K F2 v d) :
    WI K R F G Hw a U as e σ (ds.set k d) (upd H' a (.lst (us'.set k v))) :=
  ⟨⟨F2, us'.set k v, ef, r.mutX (show upd H' a _ a = _ from upd_same), ha.set hv k⟩, by rw [upd_ne (Ne.symm hU)]; exact hu⟩
def wT1 : BM := bD (d2 gEq (hV (d2 gIx (hS 4) (hV (dC (.int 0))))) (hV (dC (.str ("put" : Str)))))
def wT2 : BM := bAnd (bD (d2 gEq (hV (d2 gIx (hS 4) (hV (dC (.int 0))))) (hV (dC (.str ("rub" : Str)))))) (bD (d2 gGt (hS 3) (hV (dC (.int 0)))))
def wT3 : BM := bD (d2 gEq (hV (d2 gIx (hS 4) (hV (dC (.int 0))))) (hV (dC (.str ("tail" : Str)))))
def wSt (K : PySem.W.Frag) (ix : TE) : TG := L2.gSub (tOp (rIxL K) (tVar 1) (tVar 2)) ix rSetL
def wIt : IM := iRange2 (lCons (dV 3) (lCons (d2 gIx (hS 0) (hV (dC (.int 1)))) (lNil)))
def wrT (c : Cn) : TS := tSeq (tIfS (tT c wT1) (tAsg (tD c (d2 gIx (hS 4) (hV (dC (.int 1))))) (wSt c.K (tVar 3))) tNext)
  (tSeq (tIfS (tT c wT2) (tAsg (tD c (dC (.str (" " : Str)))) (wSt c.K (tOp (rI0 fun i j => .int (i - j)) (tVar 3) (tC (.int 1))))) tNext)
  (tIfS (tT c wT3) (tFor (tI c wIt) (gName 5) (tAsg (tD c (dC (.str (" " : Str)))) (wSt c.K (tVar 5)))) tNext))
theorem at0 : atI (PyData.str s :: rest) 0 = some (.str s) := by simp [atI, ixN]
theorem t_word {c : Cn} {σ : L2.St} {xx : XX} {k : Str} {Q : Bool → Hp → Prop} (rel : Rel c F H σ (wE r w i j s rest) xx) (os : okD (.str s)) (ok : okD (.str k)) (h : ∀ F2 H2, Ex F F2 → Rel c F2 H2 σ (wE r w i j s rest) xx → Q (s == k) H2) :
    tT c (bD (d2 gEq (hV (d2 gIx (hS 4) (hV (dC (.int 0))))) (hV (dC (.str k))))) σ H Q := by
  refine ⟨F, _, xx, fun b ρ' => b = (s == k) ∧ ρ' = wE r w i j s rest, rel, ⟨trivial, _, at0, os, ok, ?_⟩, ?_⟩
  · rw [eqvS]
    exact ⟨rfl, rfl⟩
  · rintro b ρ' F2 H2 ⟨rfl, rfl⟩ e r
    exact h F2 H2 e r
theorem t_rub {c : Cn} {σ : L2.St} {xx : XX} {Q : Bool → Hp → Prop} (rel : Rel c F H σ (wE r w i j s rest) xx) (os : okD (.str s)) (h : ∀ F2 H2, Ex F F2 → Rel c F2 H2 σ (wE r w i j s rest) xx → Q ((s == ("rub" : Str)) && decide (0 < j)) H2) :
    tT c wT2 σ H Q := by
  refine ⟨F, _, xx, fun b ρ' => b = ((s == ("rub" : Str)) && decide (0 < j)) ∧ ρ' = wE r w i j s rest, rel, ⟨trivial, _, at0, os, okWd _, ?_⟩, ?_⟩
  · rw [eqvS]
    by_cases z : (s == ("rub" : Str)) = true
    · rw [z]
      exact ⟨trivial, rfl, rfl⟩
    · have z : (s == ("rub" : Str)) = false := by simpa using z
      rw [z]
      exact ⟨rfl, rfl⟩
  · rintro b ρ' F2 H2 ⟨rfl, rfl⟩ e r
    exact h F2 H2 e r
def wSig (v0 vu vc : V) (i j : Int) (x : Option V) : L2.St := [some v0, some vu, some (.int i), some (.int j), some vc, x]
theorem wr_no {c : Cn} {vu : V} {x : Option V} {xx : XX} {Z : Ends} (rel : Rel c F H (wSig v0 vu vc i j x) (wE r w i j s rest) xx) (os : okD (.str s)) (hw : isWr s = false) (h : ∀ F2 H2, Ex F F2 → Rel c F2 H2 (wSig v0 vu vc i j x) (wE r w i j s rest) xx → Z.nx (wSig v0 vu vc i j x) H2) : wrT c Z (wSig v0 vu vc i j x) H := by
  unfold isWr at hw
  simp only [Bool.or_eq_false_iff] at hw
  obtain ⟨⟨h1, h2⟩, h3⟩ := hw
  refine t_word rel os (okWd _) fun F1 H1 e1 r1 => ?_
  rw [h1, if_neg Bool.false_ne_true]
  refine t_rub r1 os fun F2 H2 e2 r2 => ?_
  rw [h2, Bool.false_and, if_neg Bool.false_ne_true]
  refine t_word r2 os (okWd _) fun F3 H3 e3 r3 => ?_
  rw [h3, if_neg Bool.false_ne_true]
  exact h F3 H3 ((e1.trans e2).trans e3) r3
end
section
variable {K : PySem.W.Frag} {R : Orc} {F H : Hp} {v0 vc : V} {i j r w : Int} {s : Str} {rest : List D} {Hw : Hp} {a U : Addr} {as : List Addr} {x : Option V} {ds : List D} {Z : Ends}
/-- one store into the row -/
theorem st_ok {G : Hp} {te ix : TE} {k : Nat} {ki : Int} {d : D} (hU : a ≠ U) (ha : atI as i = some a) (hK : ixN ds.length ki = some k)
    (hx : ∀ (H1 : Hp) (Q : VK), Q (.int ki) H1 → ix (wSig v0 (.ref U) vc i j x) H1 Q)
    (he : ∀ (F1 H1 : Hp) (us : List V) (Q : VK), Ex G F1 → Rel ⟨K, R, none, F, Hw⟩ F1 H1 (wSig v0 (.ref U) vc i j x) (wE r w i j s rest) [(a, .o (.lst us))] → (∀ v F2 H2, Ex F1 F2 → Rel ⟨K, R, none, F, Hw⟩ F2 H2 (wSig v0 (.ref U) vc i j x) (wE r w i j s rest) [(a, .o (.lst us))] → At K F2 v d → Q v H2) → te (wSig v0 (.ref U) vc i j x) H1 Q)
    (hw : Hw U = some (.lst (as.map V.ref))) (h0 : WI K R F G Hw a U as (wE r w i j s rest) (wSig v0 (.ref U) vc i j x) ds H)
    (h : ∀ H', WI K R F G Hw a U as (wE r w i j s rest) (wSig v0 (.ref U) vc i j x) (ds.set k d) H' → Z.nx (wSig v0 (.ref U) vc i j x) H') : tAsg te (wSt K ix) Z (wSig v0 (.ref U) vc i j x) H := by
  obtain ⟨F1, us, e1, r1, a1⟩ := h0.x
  refine he F1 H us _ e1 r1 fun v F2 H2 e2 r2 a2 => ?_
  have hu2 : H2 U = some (.lst (as.map V.ref)) := (r2.w.kp U _ hw fun z => z).1
  have hr2 : H2 a = some (.lst us) := (r2.s.ex (a, .o (.lst us)) (List.mem_cons_self ..)).1.o
  have hl : us.length = ds.length := a1.length
  refine ⟨.ref U, rfl, .int i, rfl, U, as.map V.ref, i, .ref a, rfl, rfl, .inl (.inl hu2), ?_, hx _ _ ?_⟩
  · unfold atI at ha ⊢
    rw [List.length_map]
    cases e : ixN as.length i with
    | none =>
      rw [e] at ha
      cases ha
    | some n =>
      rw [e] at ha
      show (as.map V.ref)[n]? = _
      rw [List.getElem?_map, show as[n]? = some a from ha]
      rfl
  · refine ⟨a, us, ki, k, rfl, rfl, hr2, by rw [hl]; exact hK, ?_⟩
    exact h _ (WI.put hU (e1.trans e2) r2 (a1.mono e2) hu2 a2)
theorem WI.step {G : Hp} {F2 H2 : Hp} {us : List V} {e : DL.Env} {σ : L2.St} (hw : Hw U = some (.lst (as.map V.ref))) (ef : Ex G F2) (r2 : Rel ⟨K, R, none, F, Hw⟩ F2 H2 σ e [(a, .o (.lst us))]) (ha : AtAll K F2 us ds) : WI K R F G Hw a U as e σ ds H2 :=
  ⟨⟨F2, us, ef, r2, ha⟩, (r2.w.kp U _ hw fun z => z).1⟩
theorem d_spc {c : Cn} {xx : XX} {σ : L2.St} {e : DL.Env} {Q : VK} (rel : Rel c F H σ e xx) (k : ∀ v F2 H2, Ex F F2 → Rel c F2 H2 σ e xx → At c.K F2 v spc → Q v H2) : tD c (dC (.str (" " : Str))) σ H Q :=
  ⟨F, e, xx, fun d ρ' => d = spc ∧ ρ' = e, rel, ⟨rfl, rfl⟩, by
    rintro d ρ' v F2 H2 ⟨rfl, rfl⟩ e2 r2 a2
    exact k v F2 H2 e2 r2 a2⟩
/-- a word that writes -/
theorem wr_yes (hU : a ≠ U) (ha : atI as i = some a) (hw : Hw U = some (.lst (as.map V.ref))) (os : okD (.str s)) (hwr : isWr s = true) (hj0 : 0 ≤ j) (hj1 : j < w) (hl : (ds.length : Int) = w) (hw1 : w ≤ 1000) (hp : s = "put" → ∃ d, rest = [d])
    (h0 : WI K R F F Hw a U as (wE r w i j s rest) (wSig v0 (.ref U) vc i j x) ds H)
    (h : ∀ H' x, WI K R F F Hw a U as (wE r w i j s rest) (wSig v0 (.ref U) vc i j x) (wrote s rest j.toNat ds) H' → Z.nx (wSig v0 (.ref U) vc i j x) H') : wrT ⟨K, R, none, F, Hw⟩ Z (wSig v0 (.ref U) vc i j x) H := by
  obtain ⟨F1, us, e1, r1, a1⟩ := h0.x
  refine t_word r1 os (okWd _) fun F2 H2 e2 r2 => ?_
  have w2 := WI.step hw (e1.trans e2) r2 (a1.mono e2)
  have kx : ixN ds.length j = some j.toNat := by
    unfold ixN
    rw [if_pos hj0, if_pos (by omega)]
  by_cases z1 : (s == ("put" : Str)) = true
  · have es : s = "put" := eq_of_beq z1
    obtain ⟨d, rfl⟩ := hp es
    rw [z1, if_pos rfl]
    refine st_ok (k := j.toNat) (ki := j) (d := d) hU ha kx (fun H1 Q q => ⟨_, rfl, q⟩) ?_ hw w2 fun H3 w3 => ?_
    · intro F1 H1 us Q e1 r1 k
      refine ⟨F1, _, _, fun y ρ' => y = d ∧ ρ' = wE r w i j s [d], r1, ⟨trivial, d, by simp [atI, ixN], rfl, rfl⟩, ?_⟩
      rintro y ρ' v F2 H2 ⟨rfl, rfl⟩ e2 r2 a2
      exact k v F2 H2 e2 r2 a2
    · have n2 : (s == ("rub" : Str)) = false := by rw [es]; decide +kernel
      have n3 : (s == ("tail" : Str)) = false := by rw [es]; decide +kernel
      have ew : wrote s [d] j.toNat ds = ds.set j.toNat d := by
        unfold wrote
        rw [if_pos z1]
        rfl
      obtain ⟨F3, us3, e3, r3, a3⟩ := w3.x
      refine t_rub r3 os fun F4 H4 e4 r4 => ?_
      rw [n2, Bool.false_and, if_neg Bool.false_ne_true]
      refine t_word r4 os (okWd _) fun F5 H5 e5 r5 => ?_
      rw [n3, if_neg Bool.false_ne_true]
      refine h H5 x ?_
      rw [ew]
      exact WI.step hw ((e3.trans e4).trans e5) r5 (a3.mono (e4.trans e5))
  · have z1 : (s == ("put" : Str)) = false := by simpa using z1
    rw [z1, if_neg Bool.false_ne_true]
    refine t_rub r2 os fun F3 H3 e3 r3 => ?_
    have w3 := WI.step hw ((e1.trans e2).trans e3) r3 (a1.mono (e2.trans e3))
    by_cases z2 : (s == ("rub" : Str)) = true
    · have es : s = "rub" := eq_of_beq z2
      have n3 : (s == ("tail" : Str)) = false := by rw [es]; decide +kernel
      have tl : ∀ H4 ds', WI K R F F Hw a U as (wE r w i j s rest) (wSig v0 (.ref U) vc i j x) ds' H4 → ds' = wrote s rest j.toNat ds → tIfS (tT ⟨K, R, none, F, Hw⟩ wT3) (tFor (tI ⟨K, R, none, F, Hw⟩ wIt) (gName 5) (tAsg (tD ⟨K, R, none, F, Hw⟩ (dC (.str (" " : Str)))) (wSt K (tVar 5)))) tNext Z (wSig v0 (.ref U) vc i j x) H4 := by
        intro H4 ds' w4 ed
        subst ed
        obtain ⟨F4, us4, e4, r4, a4⟩ := w4.x
        refine t_word r4 os (okWd _) fun F5 H5 e5 r5 => ?_
        rw [n3, if_neg Bool.false_ne_true]
        exact h H5 x (WI.step hw (e4.trans e5) r5 (a4.mono e5))
      rw [z2, Bool.true_and]
      by_cases hj : 0 < j
      · rw [decide_eq_true hj, if_pos rfl]
        have kx2 : ixN ds.length (j - 1) = some (j.toNat - 1) := by
          unfold ixN
          (rw [if_pos (by omega), if_pos (by omega)])
          congr 1
          omega
        refine st_ok (k := j.toNat - 1) (ki := j - 1) (d := spc) hU ha kx2 (fun H1 Q q => ⟨_, rfl, j, 1, rfl, rfl, q⟩) ?_ hw w3 fun H4 w4 => ?_
        · intro F1 H1 us Q e1 r1 k
          exact d_spc r1 k
        · refine tl H4 _ w4 ?_
          unfold wrote
          rw [z1, if_neg Bool.false_ne_true, if_pos z2, if_pos (by omega)]
      · rw [decide_eq_false hj, if_neg Bool.false_ne_true]
        refine tl H3 _ w3 ?_
        unfold wrote
        rw [z1, if_neg Bool.false_ne_true, if_pos z2, if_neg (by omega)]
    · have z2 : (s == ("rub" : Str)) = false := by simpa using z2
      have z3 : (s == ("tail" : Str)) = true := by
        unfold isWr at hwr
        rw [z1, z2] at hwr
        simpa using hwr
      rw [z2, Bool.false_and, if_neg Bool.false_ne_true]
      refine t_word r3 os (okWd _) fun F4 H4 e4 r4 => ?_
      rw [z3, if_pos rfl]
      have ew : wrote s rest j.toNat ds = ds.take j.toNat ++ List.replicate (ds.length - j.toNat) spc := by
        unfold wrote
        rw [z1, z2, if_neg Bool.false_ne_true, if_neg Bool.false_ne_true]
      refine ⟨F4, _, _, fun ds' ρ' => ds' = rgD j w ∧ ρ' = wE r w i j s rest, r4, ⟨trivial, _, rfl, ⟨by omega, by omega, by omega, by omega⟩, rfl, rfl⟩, ?_⟩
      rintro ds' ρ' J F5 H5 ⟨rfl, rfl⟩ e5 r5 iok
      have a5 : AtAll K F5 us ds := a1.mono (((e2.trans e3).trans e4).trans e5)
      have eF : Ex F F5 := (((e1.trans e2).trans e3).trans e4).trans e5
      refine ⟨fun n m σ' H' => ∃ x, σ' = wSig v0 (.ref U) vc i j x ∧ n ≤ (w - j).toNat ∧ m = (w - j).toNat - n ∧ WI K R F F5 Hw a U as (wE r w i j s rest) σ' (ds.take j.toNat ++ List.replicate n spc ++ ds.drop (j.toNat + n)) H',
        ⟨(w - j).toNat, x, rfl, Nat.zero_le _, by omega, ?_⟩, ?_⟩
      · rw [List.replicate_zero, List.append_nil, Nat.add_zero, List.take_append_drop]
        exact WI.step hw (Ex.refl F5) r5 a5
      · rintro n m σ' H6 ⟨x', rfl, hn, rfl, w6⟩
        obtain ⟨F6, us6, e6, r6, a6⟩ := w6.x
        obtain ⟨o1, o2⟩ := iok n F6 H6 _ _ _ e6 r6
        have rl : (rgD j w).length = (w - j).toNat := by simp [rgD]
        by_cases hlt : n < (w - j).toNat
        · have hd : (rgD j w)[n]? = some (.int (j + (n : Nat))) := by
            unfold rgD
            rw [List.getElem?_map, List.getElem?_range hlt]
            rfl
          obtain ⟨go, yl⟩ := o1 _ hd
          refine .inr ⟨go, fun σ' H' => ∃ x, σ' = wSig v0 (.ref U) vc i j x ∧ WI K R F F5 Hw a U as (wE r w i j s rest) σ' (ds.take j.toNat ++ List.replicate (n + 1) spc ++ ds.drop (j.toNat + (n + 1))) H',
            fun σ' H' ⟨x', q1, q2⟩ => ⟨(w - j).toNat - (n + 1), by omega, x', q1, by omega, rfl, q2⟩, fun y H7 hy => ?_⟩
          obtain ⟨F7, e7, r7, a7⟩ := yl y H7 hy
          cases a7
          have r8 : Rel ⟨K, R, none, F, Hw⟩ F7 H7 (wSig v0 (.ref U) vc i j (some (.int (j + (n : Nat))))) (wE r w i j s rest) [(a, .o (.lst us6))] :=
            ⟨r7.w, r7.s.put 5 (x := .no) (fun _ e => by cases e) (fun _ e => by cases e) (by intro m z; cases z)⟩
          have w8 := WI.step hw (e6.trans e7) r8 (a6.mono e7)
          have len : (ds.take j.toNat ++ List.replicate n spc ++ ds.drop (j.toNat + n)).length = ds.length := by
            rw [List.length_append, List.length_append, List.length_take, List.length_replicate, List.length_drop]
            omega
          have kx3 : ixN (ds.take j.toNat ++ List.replicate n spc ++ ds.drop (j.toNat + n)).length (j + (n : Nat)) = some (j.toNat + n) := by
            rw [len]
            unfold ixN
            (rw [if_pos (by omega), if_pos (by omega)])
            congr 1
            omega
          refine st_ok (Z := { Z with nx := _, ct := _, bk := _ }) (k := j.toNat + n) (ki := j + (n : Nat)) (d := spc) hU ha kx3 (fun H1 Q q => ⟨_, rfl, q⟩) (fun F1 H1 us Q e1 r1 k => d_spc r1 k) hw w8 fun H9 w9 => ?_
          refine ⟨_, rfl, ?_⟩
          have es : (ds.take j.toNat ++ List.replicate n spc ++ ds.drop (j.toNat + n)).set (j.toNat + n) spc = ds.take j.toNat ++ List.replicate (n + 1) spc ++ ds.drop (j.toNat + (n + 1)) := by
            have hk : j.toNat + n < ds.length := by omega
            have l1 : (ds.take j.toNat ++ List.replicate n spc).length = j.toNat + n := by
              rw [List.length_append, List.length_take, List.length_replicate]
              omega
            rw [List.drop_eq_getElem_cons hk, List.set_append_right _ _ (by omega), l1, Nat.sub_self, List.set_cons_zero, List.replicate_succ', ← List.append_assoc]
            simp [Nat.add_assoc]
          rw [es] at w9
          exact w9
        · have en : n = (w - j).toNat := by omega
          refine .inl ⟨o2 (by rw [rl]; exact en.symm), h H6 x' ?_⟩
          have ed : ds.take j.toNat ++ List.replicate n spc ++ ds.drop (j.toNat + n) = wrote s rest j.toNat ds := by
            rw [ew, List.drop_of_length_le (by omega), List.append_nil]
            congr 2
            omega
          rw [ed] at w6
          exact ⟨⟨F6, us6, eF.trans e6, r6, by rw [ed] at a6; exact a6⟩, w6.u⟩
end
section
variable {K : PySem.W.Frag} {F H : Hp} {v0 vu vc : V} {i j r w : Int} {s : Str} {rest : List D}
theorem wr_rel {Hw : Hp} {x : Option V} {xx : XX} (ex : Ex F H) (hkp : ∀ b o, Hw b = some o → H b = some o) (a0 : At K F v0 (.tuple [.int r, .int w])) (ac : At K F vc (.tuple (.str s :: rest)))
    (hx : ∀ p ∈ xx, OwnX K F H p.1 p.2 ∧ F p.1 = none ∧ Hw p.1 = none) (nd : (xx.map (·.1)).Nodup) : Rel ⟨K, Orc.nil, none, F, Hw⟩ F H (wSig v0 vu vc i j x) (wE r w i j s rest) xx := by
  refine ⟨⟨Ex.refl F, ex, fun b o h _ => ⟨hkp b o h, fun z => z⟩, fun b h z => ?_, fun b _ h => h, fun b _ z => z, fun q e => nomatch e⟩, ⟨rfl, fun k d e => ?_, fun k d e => ?_, fun k l d e b e1 => ?_, fun k n e => ?_, fun k l m n e => ?_, fun p hp => ⟨⟨(hx p hp).1, (hx p hp).2.1, (hx p hp).2.2, fun z => z⟩, fun k e q => ?_⟩, nd⟩⟩
  · cases e : Hw b with
    | none => exact h e
    | some o =>
      rw [hkp b o e] at z
      cases z
  · match k, e with
    | 0, e =>
      cases e
      exact ⟨v0, rfl, a0⟩
    | 2, e =>
      cases e
      exact ⟨_, rfl, .int i⟩
    | 3, e =>
      cases e
      exact ⟨_, rfl, .int j⟩
    | 4, e =>
      cases e
      exact ⟨vc, rfl, ac⟩
    | 1, e => cases e
    | 5, e => cases e
    | _ + 6, e => cases e
  · match k, e with
    | 0, e => cases e
    | 1, e => cases e
    | 2, e => cases e
    | 3, e => cases e
    | 4, e => cases e
    | 5, e => cases e
    | _ + 6, e => cases e
  · match k, e1 with
    | 0, e => cases e
    | 1, e => cases e
    | 2, e => cases e
    | 3, e => cases e
    | 4, e => cases e
    | 5, e => cases e
    | _ + 6, e => cases e
  · match k, e with
    | 0, e => cases e
    | 1, e => cases e
    | 2, e => cases e
    | 3, e => cases e
    | 4, e => cases e
    | 5, e => cases e
    | _ + 6, e => cases e
  · match k, e with
    | 0, e => cases e
    | 1, e => cases e
    | 2, e => cases e
    | 3, e => cases e
    | 4, e => cases e
    | 5, e => cases e
    | _ + 6, e => cases e
  · match k, q with
    | 0, e => cases e
    | 1, e => cases e
    | 2, e => cases e
    | 3, e => cases e
    | 4, e => cases e
    | 5, e => cases e
    | _ + 6, e => cases e
theorem wr_all {N : List Str} {vs : List V} {Q : VK} {E : XK} (hN : N.length = 6) (h : spW K vs H Q E) : ∃ c : Cn, c.K = K ∧ wrT c { nx := fun _ H' => Q .non H', rt := Q } (start N vs) H := by
  obtain ⟨F, v0, vu, vc, i, j, r, w, s, rest, rfl, ex, a0, ac, os, h⟩ := h
  have es : start N [v0, vu, .int i, .int j, vc] = wSig v0 vu vc i j none := by
    unfold L2.start
    rw [hN]
    rfl
  rw [es]
  rcases h with ⟨hw, k⟩ | ⟨hw, U, a, as, us, ds, rfl, hU, ha, ne, hr, fa, at_, hl, j0, j1, w1, hp, k⟩
  · refine ⟨⟨K, Orc.nil, none, F, H⟩, rfl, ?_⟩
    refine wr_no (wr_rel (xx := []) ex (fun _ _ h => h) a0 ac (fun p hp => nomatch hp) List.nodup_nil) os hw fun F2 H2 e2 r2 => ?_
    exact k H2 fun b o h => (r2.w.kp b o h fun z => z).1
  · refine ⟨⟨K, Orc.nil, none, F, fun b => if b = a then none else H b⟩, rfl, ?_⟩
    have kp : ∀ b o, (if b = a then none else H b) = some o → H b = some o := fun b o h => by
      by_cases z : b = a
      · rw [if_pos z] at h
        cases h
      · rw [if_neg z] at h
        exact h
    have hwU : (if U = a then none else H U) = some (.lst (as.map V.ref)) := by rw [if_neg (Ne.symm ne)]; exact hU
    refine wr_yes (Hw := fun b => if b = a then none else H b) ne ha hwU os hw j0 j1 hl w1 hp (WI.step hwU (Ex.refl F) (wr_rel (xx := [(a, .o (.lst us))]) ex kp a0 ac (fun p hp => ?_) (by simp)) at_) fun H' x w' => ?_
    · (rw [List.mem_singleton.mp hp])
      exact ⟨hr, fa, if_pos rfl⟩
    · obtain ⟨F', us', e', r', at'⟩ := w'.x
      have own := (r'.s.ex (a, .o (.lst us')) (List.mem_cons_self ..)).1
      refine k F' H' us' e' r'.w.fh (fun b o hb h => ?_) own.f own.o at'
      refine (r'.w.kp b o ?_ fun z => z).1
      show (if b = a then none else H b) = some o
      rw [if_neg hb]
      exact h
end
end DL
namespace DL
open PySem L2
def lsE (scr st code : D) (md : Str) (i j : Int) (X Y : D) (a b : Sl) : DL.Env := [.im scr, .im st, .im code, .im (.str md), .im (.int i), .im (.int j), .im X, .im Y, a, b]
def lsT (k : Str) : BM := bD (d2 gEq (hV (d2 gIx (hS 2) (hV (dC (.int 0))))) (hV (dC (.str k))))
def lsArgs (c : Cn) : TA := tCons (tVar 0) (tCons (L2.tIf (tT c (bD (d2 gEq (hS 3) (hV (dC (.str ("hide" : Str))))))) (tVar 7) (tVar 6)) (tCons (tVar 4) (tCons (tVar 5) (tCons (tVar 2) tNil))))
/-- the call of the def that writes, where it does not -/
def sNoW : SM := fun E ρ => (∃ (r w : Int) (st : D) (s : Str) (rest : List D) (md : Str) (i j : Int) (X Y : D) (a b : Sl), ρ = lsE (.tuple [.int r, .int w]) st (.tuple (.str s :: rest)) md i j X Y a b ∧ okD (.str md) ∧ okD (.str s) ∧ isWr s = false) ∧ E.nx ρ
section
variable {c : Cn} {t : BM} {g h : SM} {u : TS} {Z : Ends} {σ : L2.St} {H : Hp}
theorem seqI (hu : ∀ Z σ H, tS c h Z σ H → u Z σ H) (q : tS c (sSeq (sIf t g sNo) h) Z σ H) : tSeq (tIfS (tT c t) (tS c g) tNext) u Z σ H := by
  obtain ⟨F, ρ, xx, E, rel, q, n, r, b, ct⟩ := q
  refine ⟨F, ρ, xx, _, rel, q, fun d ρ1 F1 H1 q1 e1 r1 => ?_⟩
  cases d with
  | true =>
    rw [if_pos rfl] at q1 ⊢
    refine ⟨F1, ρ1, xx, _, r1, q1, fun ρ2 σ2 F2 H2 p2 e2 r2 => ?_, r, fun ρ2 σ2 F2 H2 p2 e2 => b ρ2 σ2 F2 H2 p2 (e1.trans e2), fun ρ2 σ2 F2 H2 p2 e2 => ct ρ2 σ2 F2 H2 p2 (e1.trans e2)⟩
    exact hu _ _ _ ⟨F2, ρ2, xx, E, r2, p2, fun ρ3 σ3 F3 H3 p3 e3 => n ρ3 σ3 F3 H3 p3 (e1.trans (e2.trans e3)), r, fun ρ3 σ3 F3 H3 p3 e3 => b ρ3 σ3 F3 H3 p3 (e1.trans (e2.trans e3)), fun ρ3 σ3 F3 H3 p3 e3 => ct ρ3 σ3 F3 H3 p3 (e1.trans (e2.trans e3))⟩
  | false =>
    rw [if_neg Bool.false_ne_true] at q1 ⊢
    exact hu _ _ _ ⟨F1, ρ1, xx, E, r1, q1, fun ρ3 σ3 F3 H3 p3 e3 => n ρ3 σ3 F3 H3 p3 (e1.trans e3), r, fun ρ3 σ3 F3 H3 p3 e3 => b ρ3 σ3 F3 H3 p3 (e1.trans e3), fun ρ3 σ3 F3 H3 p3 e3 => ct ρ3 σ3 F3 H3 p3 (e1.trans e3)⟩
theorem hide_t {F : Hp} {ρ : DL.Env} {xx : XX} {md : Str} {Q : Bool → Hp → Prop} (rel : Rel c F H σ ρ xx) (h3 : ρ[3]? = some (.im (.str md))) (om : okD (.str md)) (k : ∀ F2 H2, Ex F F2 → Rel c F2 H2 σ ρ xx → Q (md == ("hide" : Str)) H2) :
    tT c (bD (d2 gEq (hS 3) (hV (dC (.str ("hide" : Str)))))) σ H Q := by
  refine ⟨F, ρ, xx, fun b ρ' => b = (md == ("hide" : Str)) ∧ ρ' = ρ, rel, ?_, ?_⟩
  · simp only [bD, d2, hS, hV, dC, see, h3, gEq, true_and]
    refine ⟨om, okWd _, ?_⟩
    rw [eqvS]
    first
      | exact ⟨rfl, trivial⟩
      | exact ⟨rfl, rfl⟩
  · rintro b ρ' F2 H2 ⟨rfl, rfl⟩ e r
    exact k F2 H2 e r
theorem world_on {R : Orc} {p : Option Addr} {F0 H0 F H' : Hp} (w : World R p F0 H0 F H) (kp : ∀ b o, H b = some o → H' b = some o) : World R none F H F H' :=
  ⟨Ex.refl F, fun b o h => kp b o (w.fh b o h), fun b o h _ => ⟨kp b o h, fun z => z⟩, (fun b h z => by
    cases e : H b with
    | none => exact h e
    | some o =>
      rw [kp b o e] at z
      cases z), (fun b _ h => h), (fun b _ z => z), (fun q e => nomatch e)⟩
theorem seqC {E0 : XK} (q : tS c (sSeq sNoW h) Z σ H) : tSeq (tDrop (tCall (spW c.K) [] E0 (lsArgs c))) (tS c h) Z σ H := by
  obtain ⟨F, ρ, xx, E, rel, ⟨⟨r, w, st, s, rest, md, i, j, X, Y, a, b, rfl, om, os, hw⟩, q⟩, n, rt, bk, ct⟩ := q
  obtain ⟨v0, h0, a0⟩ := rel.s.im 0 _ rfl
  obtain ⟨vc, hc, ac⟩ := rel.s.im 2 _ rfl
  obtain ⟨v4, h4, a4⟩ := rel.s.im 4 _ rfl
  obtain ⟨v5, h5, a5⟩ := rel.s.im 5 _ rfl
  obtain ⟨v6, h6, a6⟩ := rel.s.im 6 _ rfl
  obtain ⟨v7, h7, a7⟩ := rel.s.im 7 _ rfl
  cases a4
  cases a5
  refine ⟨v0, h0, ?_⟩
  refine hide_t rel rfl om fun F1 H1 e1 r1 => ?_
  have go : ∀ vu, spW c.K ([v0, vu, .int i, .int j, vc] ++ []) H1 (fun _ H' => tS c h Z σ H') E0 := fun vu => by
    refine ⟨F1, v0, vu, vc, i, j, r, w, s, rest, rfl, r1.w.fh, a0.mono e1, ac.mono e1, os, .inl ⟨hw, fun H' kp => ?_⟩⟩
    have r2 := r1.stepN (world_on r1.w kp)
    exact ⟨F1, _, xx, E, r2, q, fun ρ3 σ3 F3 H3 p3 e3 => n ρ3 σ3 F3 H3 p3 (e1.trans e3), rt, fun ρ3 σ3 F3 H3 p3 e3 => bk ρ3 σ3 F3 H3 p3 (e1.trans e3), fun ρ3 σ3 F3 H3 p3 e3 => ct ρ3 σ3 F3 H3 p3 (e1.trans e3)⟩
  by_cases z : (md == ("hide" : Str)) = true
  · rw [if_pos z]
    exact ⟨v7, h7, _, h4, _, h5, vc, hc, go v7⟩
  · rw [if_neg z]
    exact ⟨v6, h6, _, h4, _, h5, vc, hc, go v6⟩
end
def rowsD (A : List (List Str)) : D := .list ((A.map fun l => l.map PyData.str).map PyData.list)
theorem strs_atAll {K : PySem.W.Frag} {F F' : Hp} : ∀ {us : List V} {l : List Str}, AtAll K F us (l.map PyData.str) → AtAll K F' us (l.map PyData.str)
  | _, [], .nil => .nil
  | _, _ :: _, .cons a t => by
    cases a
    exact .cons (.str _) (strs_atAll t)
/-- the rows with the one written -/
def wroteR (s : Str) (rest : List D) (i j : Nat) (A : List (List Str)) : List (List D) := (A.map fun l => l.map PyData.str).set i (wrote s rest j ((A.getD i []).map PyData.str))
section
variable {c : Cn} {Z : Ends} {σ : L2.St} {H F : Hp} {scr st : D} {s md : Str} {rest : List D} {i j r w : Int} {X Y : D} {a b : Sl}
theorem t_no {k : Str} {Q : Bool → Hp → Prop} (rel : Rel c F H σ (lsE scr st (.tuple (.str s :: rest)) md i j X Y a b) []) (os : okD (.str s)) (ok : okD (.str k)) (h : ∀ F2 H2, Ex F F2 → Rel c F2 H2 σ (lsE scr st (.tuple (.str s :: rest)) md i j X Y a b) [] → Q (s == k) H2) : tT c (lsT k) σ H Q := by
  refine ⟨F, _, [], fun b' ρ' => b' = (s == k) ∧ ρ' = lsE scr st (.tuple (.str s :: rest)) md i j X Y a b, rel, ⟨trivial, _, at0, os, ok, ?_⟩, ?_⟩
  · rw [eqvS]
    exact ⟨rfl, rfl⟩
  · rintro b ρ' F2 H2 ⟨rfl, rfl⟩ e r
    exact h F2 H2 e r
theorem t_no4 {t2 : BM} {Q : Bool → Hp → Prop} (rel : Rel c F H σ (lsE scr st (.tuple (.str s :: rest)) md i j X Y a b) []) (os : okD (.str s)) (hn : (s == ("line" : Str)) = false) (h : ∀ F2 H2, Ex F F2 → Rel c F2 H2 σ (lsE scr st (.tuple (.str s :: rest)) md i j X Y a b) [] → Q false H2) : tT c (bAnd (lsT "line") t2) σ H Q := by
  refine ⟨F, _, [], fun b' ρ' => b' = false ∧ ρ' = lsE scr st (.tuple (.str s :: rest)) md i j X Y a b, rel, ⟨trivial, _, at0, os, okWd _, ?_⟩, ?_⟩
  · rw [eqvS, hn]
    exact ⟨rfl, rfl⟩
  · rintro b ρ' F2 H2 ⟨rfl, rfl⟩ e r
    exact h F2 H2 e r
end
/-- what is written to: the row of the one at U, the other list stays -/
theorem nest_wr {K : PySem.W.Frag} {F F' : Hp} {U x : Addr} {as : List Addr} {rows : List (List D)} {i : Nat} {us : List V} {row : List D} (n : Nest K F U as rows) (nd : (U :: as).Nodup) (hx : as[i]? = some x) (h1 : F' x = some (.lst us)) (h2 : ∀ b o, b ≠ x → F b = some o → F' b = some o) (ha : AtAll K F' us row)
    (hs : ∀ r ∈ rows, ∀ us, AtAll K F us r → AtAll K F' us r) : Nest K F' U as (rows.set i row) := by
  rw [List.nodup_cons] at nd
  have hi : i < as.length := (List.getElem?_eq_some_iff.mp hx).1
  have xm : x ∈ as := List.mem_of_getElem? hx
  refine ⟨h2 U _ (fun z => nd.1 (z ▸ xm)) n.o, by rw [List.length_set]; exact n.n, fun k y r e1 e2 => ?_⟩
  by_cases hk : i = k
  · subst hk
    rw [hx] at e1
    cases e1
    rw [List.getElem?_set, if_pos rfl, if_pos (by rw [← n.n]; exact hi)] at e2
    cases e2
    exact ⟨us, h1, ha⟩
  · rw [List.getElem?_set, if_neg hk] at e2
    obtain ⟨vs, q1, q2⟩ := n.r k y r e1 e2
    have ne : y ≠ x := fun z => by
      subst z
      have hk2 : k < as.length := (List.getElem?_eq_some_iff.mp e1).1
      have := (List.getElem?_inj hi nd.2).mp (hx.trans e1.symm)
      exact hk this
    exact ⟨vs, h2 y _ ne q1, hs r (List.mem_of_getElem? e2) vs q2⟩
theorem nest_keep {K : PySem.W.Frag} {F F' : Hp} {U x : Addr} {as : List Addr} {rows : List (List D)} (n : Nest K F U as rows) (hx : x ∉ U :: as) (h2 : ∀ b o, b ≠ x → F b = some o → F' b = some o) (hs : ∀ r ∈ rows, ∀ us, AtAll K F us r → AtAll K F' us r) : Nest K F' U as rows := by
  have hn : ∀ y ∈ U :: as, y ≠ x := fun y hy z => hx (z ▸ hy)
  refine ⟨h2 U _ (hn U (List.mem_cons_self ..)) n.o, n.n, fun k y r e1 e2 => ?_⟩
  obtain ⟨vs, q1, q2⟩ := n.r k y r e1 e2
  exact ⟨vs, h2 y _ (hn y (List.mem_cons_of_mem _ (List.mem_of_getElem? e1))) q1, hs r (List.mem_of_getElem? e2) vs q2⟩
theorem strs_hs {K : PySem.W.Frag} {F F' : Hp} (A : List (List Str)) : ∀ r ∈ (A.map fun l => l.map PyData.str), ∀ us, AtAll K F us r → AtAll K F' us r := by
  intro r hr us h
  obtain ⟨l, _, rfl⟩ := List.mem_map.mp hr
  exact strs_atAll h
theorem wrote_strs {s : Str} {rest : List D} {j : Nat} (hp : s = "put" → ∃ x : Str, rest = [.str x]) (l : List Str) : ∃ l' : List Str, wrote s rest j (l.map PyData.str) = l'.map PyData.str := by
  unfold wrote
  by_cases z1 : (s == ("put" : Str)) = true
  · obtain ⟨x, rfl⟩ := hp (eq_of_beq z1)
    rw [if_pos z1]
    exact ⟨l.set j x, by rw [List.map_set]; rfl⟩
  · rw [if_neg z1]
    by_cases z2 : (s == ("rub" : Str)) = true
    · rw [if_pos z2]
      by_cases hj : 0 < j
      · rw [if_pos hj]
        exact ⟨l.set (j - 1) " ", by rw [List.map_set]; rfl⟩
      · rw [if_neg hj]
        exact ⟨l, rfl⟩
    · rw [if_neg z2]
      refine ⟨l.take j ++ List.replicate (l.length - j) (" " : Str), ?_⟩
      rw [List.map_append, List.map_take, List.length_map, List.map_replicate]
      rfl
def lsTail (c : Cn) (b1 b2 b3 b4 : SM) (t4 : BM) (E0 : XK) (ret : SM) : TS :=
  tSeq (tIfS (tT c (lsT "swap")) (tS c b1) tNext) (tSeq (tIfS (tT c (lsT "wipe")) (tS c b2) tNext) (tSeq (tIfS (tT c (lsT "clear")) (tS c b3) tNext) (tSeq (tIfS (tT c (bAnd (lsT "line") t4)) (tS c b4) tNext) (tSeq (tDrop (tCall (spW c.K) [] E0 (lsArgs c))) (tS c ret)))))
section
variable {c : Cn} {b1 b2 b3 b4 ret : SM} {t4 : BM} {E0 : XK} {Z : Ends} {σ : L2.St} {H : Hp}
theorem ls_no (q : tS c (sSeq (sIf (lsT "swap") b1 sNo) (sSeq (sIf (lsT "wipe") b2 sNo) (sSeq (sIf (lsT "clear") b3 sNo) (sSeq (sIf (bAnd (lsT "line") t4) b4 sNo) (sSeq sNoW ret))))) Z σ H) : lsTail c b1 b2 b3 b4 t4 E0 ret Z σ H :=
  seqI (fun _ _ _ q => seqI (fun _ _ _ q => seqI (fun _ _ _ q => seqI (fun _ _ _ q => seqC q) q) q) q) q
theorem wr_ne {s : Str} (h : isWr s = true) : (s == ("swap" : Str)) = false ∧ (s == ("wipe" : Str)) = false ∧ (s == ("clear" : Str)) = false ∧ (s == ("line" : Str)) = false := by
  unfold isWr at h
  simp only [Bool.or_eq_true, beq_iff_eq] at h
  rcases h with (rfl | rfl) | rfl <;> decide +kernel
def lsOut (md s : Str) (rest : List D) (i j : Int) (A B : List (List Str)) : D × D :=
  if (md == ("hide" : Str)) = true then (rowsD A, .list ((wroteR s rest i.toNat j.toNat B).map PyData.list)) else (.list ((wroteR s rest i.toNat j.toNat A).map PyData.list), rowsD B)
theorem rel_ls {F : Hp} {scr st code : D} {md : Str} {i j : Int} {X Y : D} {v0 v1 v2 v3 v4 v5 v6 v7 : V} (w : World c.R c.p c.F0 c.H0 F H) (hl : σ.length = 10) (h0 : σ[0]? = some (some v0)) (a0 : At c.K F v0 scr) (h1 : σ[1]? = some (some v1)) (a1 : At c.K F v1 st) (h2 : σ[2]? = some (some v2)) (a2 : At c.K F v2 code)
    (h3 : σ[3]? = some (some v3)) (a3 : At c.K F v3 (.str md)) (h4 : σ[4]? = some (some v4)) (a4 : At c.K F v4 (.int i)) (h5 : σ[5]? = some (some v5)) (a5 : At c.K F v5 (.int j)) (h6 : σ[6]? = some (some v6)) (a6 : At c.K F v6 X) (h7 : σ[7]? = some (some v7)) (a7 : At c.K F v7 Y) : Rel c F H σ (lsE scr st code md i j X Y .no .no) [] := by
  refine ⟨w, ⟨hl.symm, fun k d e => ?_, fun k d e => ?_, fun k l d e b e1 => ?_, fun k n e => ?_, fun k l m n e => ?_, fun p hp => (nomatch hp), List.nodup_nil⟩⟩
  · match k, e with
    | 0, e => cases e; exact ⟨v0, h0, a0⟩
    | 1, e => cases e; exact ⟨v1, h1, a1⟩
    | 2, e => cases e; exact ⟨v2, h2, a2⟩
    | 3, e => cases e; exact ⟨v3, h3, a3⟩
    | 4, e => cases e; exact ⟨v4, h4, a4⟩
    | 5, e => cases e; exact ⟨v5, h5, a5⟩
    | 6, e => cases e; exact ⟨v6, h6, a6⟩
    | 7, e => cases e; exact ⟨v7, h7, a7⟩
    | 8, e => cases e
    | 9, e => cases e
    | _ + 10, e => cases e
  · match k, e with
    | 0, e => cases e
    | 1, e => cases e
    | 2, e => cases e
    | 3, e => cases e
    | 4, e => cases e
    | 5, e => cases e
    | 6, e => cases e
    | 7, e => cases e
    | 8, e => cases e
    | 9, e => cases e
    | _ + 10, e => cases e
  · match k, e1 with
    | 0, e => cases e
    | 1, e => cases e
    | 2, e => cases e
    | 3, e => cases e
    | 4, e => cases e
    | 5, e => cases e
    | 6, e => cases e
    | 7, e => cases e
    | 8, e => cases e
    | 9, e => cases e
    | _ + 10, e => cases e
  · match k, e with
    | 0, e => cases e
    | 1, e => cases e
    | 2, e => cases e
    | 3, e => cases e
    | 4, e => cases e
    | 5, e => cases e
    | 6, e => cases e
    | 7, e => cases e
    | 8, e => cases e
    | 9, e => cases e
    | _ + 10, e => cases e
  · match k, e with
    | 0, e => cases e
    | 1, e => cases e
    | 2, e => cases e
    | 3, e => cases e
    | 4, e => cases e
    | 5, e => cases e
    | 6, e => cases e
    | 7, e => cases e
    | 8, e => cases e
    | 9, e => cases e
    | _ + 10, e => cases e
theorem ls_yes {G F : Hp} {st : D} {s md : Str} {rest : List D} {i j r w : Int} {A B : List (List Str)} {UA UB : Addr} {as bs : List Addr} {v0 v1 vc : V} {rt : D → DL.Env → Prop} (hp : c.p = none) (eG0 : Ex c.F0 G) (eG : Ex G F)
    (h0 : σ[0]? = some (some v0)) (a0 : At c.K G v0 (.tuple [.int r, .int w])) (h1 : σ[1]? = some (some v1)) (a1 : At c.K G v1 st) (hc : σ[2]? = some (some vc)) (ac : At c.K G vc (.tuple (.str s :: rest)))
    (rel : Rel c F H σ (lsE (.tuple [.int r, .int w]) st (.tuple (.str s :: rest)) md i j (rowsD A) (rowsD B) .no .no) []) (h6 : σ[6]? = some (some (.ref UA))) (h7 : σ[7]? = some (some (.ref UB)))
    (nA : Nest c.K F UA as (A.map fun l => l.map PyData.str)) (nB : Nest c.K F UB bs (B.map fun l => l.map PyData.str)) (yA : Newly G c.H0 UA as) (yB : Newly G c.H0 UB bs) (dj : ∀ x ∈ UA :: as, x ∉ UB :: bs)
    (om : okD (.str md)) (os : okD (.str s)) (hw : isWr s = true) (i0 : 0 ≤ i) (iA : i.toNat < A.length) (iB : i.toNat < B.length) (lA : ∀ l ∈ A, (l.length : Int) = w) (lB : ∀ l ∈ B, (l.length : Int) = w) (j0 : 0 ≤ j) (j1 : j < w) (w1 : w ≤ 1000)
    (hput : s = "put" → ∃ x : Str, rest = [.str x]) (q : ret ⟨fun _ => False, rt, fun _ => False, fun _ => False⟩ (lsE (.tuple [.int r, .int w]) st (.tuple (.str s :: rest)) md i j (lsOut md s rest i j A B).1 (lsOut md s rest i j A B).2 .no .no))
    (kr : ∀ d v ρ' σ' F' H', rt d ρ' → Rel c F' H' σ' ρ' [] → At c.K F' v d → Z.rt v H') : lsTail c b1 b2 b3 b4 t4 E0 ret Z σ H := by
  obtain ⟨z1, z2, z3, z4⟩ := wr_ne hw
  refine t_no rel os (okWd _) fun F1 H1 e1 r1 => ?_
  rw [z1, if_neg Bool.false_ne_true]
  refine t_no r1 os (okWd _) fun F2 H2 e2 r2 => ?_
  rw [z2, if_neg Bool.false_ne_true]
  refine t_no r2 os (okWd _) fun F3 H3 e3 r3 => ?_
  rw [z3, if_neg Bool.false_ne_true]
  refine t_no4 r3 os z4 fun F4 H4 e4 r4 => ?_
  (rw [if_neg Bool.false_ne_true])
  obtain ⟨v4, h4, a4⟩ := rel.s.im 4 _ rfl
  obtain ⟨v5, h5, a5⟩ := rel.s.im 5 _ rfl
  obtain ⟨v3, h3, a3⟩ := rel.s.im 3 _ rfl
  cases a4
  cases a5
  refine ⟨v0, h0, ?_⟩
  refine hide_t r4 rfl om fun F5 H5 e5 r5 => ?_
  have eF : Ex F F5 := (((e1.trans e2).trans e3).trans e4).trans e5
  have mA := nA.mono eF
  have mB := nB.mono eF
  -- one of the two, told of alike
  have go : ∀ (U : Addr) (us : List Addr) (L : List (List Str)), Nest c.K F5 U us (L.map fun l => l.map PyData.str) → Newly G c.H0 U us → i.toNat < L.length → (∀ l ∈ L, (l.length : Int) = w) →
      (∀ (x : Addr) (vs : List V) (row : List D) (H' : Hp), us[i.toNat]? = some x → x ∈ us → AtAll c.K (upd F5 x (.lst vs)) vs row → row = wrote s rest j.toNat ((L.getD i.toNat []).map PyData.str) → (∀ b o, b ≠ x → F5 b = some o → upd F5 x (.lst vs) b = some o) → Ex (upd F5 x (.lst vs)) H' → (∀ b o, c.H0 b = some o → H' b = some o) → Ex G (upd F5 x (.lst vs)) →
        ∃ X Y, Rel c (upd F5 x (.lst vs)) H' σ (lsE (.tuple [.int r, .int w]) st (.tuple (.str s :: rest)) md i j X Y .no .no) [] ∧ X = (lsOut md s rest i j A B).1 ∧ Y = (lsOut md s rest i j A B).2) →
      spW c.K ([v0, .ref U, .int i, .int j, vc] ++ []) H5 (fun _ H' => tS c ret Z σ H') E0 := by
    intro U us L n y il ll k
    have ln : us.length = L.length := by rw [n.n, List.length_map]
    obtain ⟨x, hx⟩ : ∃ x, us[i.toNat]? = some x := ⟨_, List.getElem?_eq_getElem (by omega)⟩
    have xm : x ∈ us := List.mem_of_getElem? hx
    have hrow : (L.map fun l => l.map PyData.str)[i.toNat]? = some ((L.getD i.toNat []).map PyData.str) := by
      rw [List.getElem?_map, List.getD_eq_getElem?_getD, List.getElem?_eq_getElem il]
      rfl
    obtain ⟨vs, q1, q2⟩ := n.r i.toNat x _ hx hrow
    have lmem : L.getD i.toNat [] ∈ L := by
      rw [List.getD_eq_getElem?_getD, List.getElem?_eq_getElem il]
      exact List.getElem_mem il
    have hxU : x ≠ U := fun z => by
      have := y.nd
      rw [List.nodup_cons] at this
      exact this.1 (z ▸ xm)
    have gx : G x = none := y.g x (List.mem_cons_of_mem _ xm)
    have hH0 : c.H0 x = none := y.h x (List.mem_cons_of_mem _ xm)
    refine ⟨G, v0, .ref U, vc, i, j, r, w, s, rest, rfl, fun b o h => r5.w.fh b o (eF b o (eG b o h)), a0, ac, os, .inr ⟨hw, U, x, us, vs, (L.getD i.toNat []).map PyData.str, rfl, r5.w.fh _ _ n.o, ?_, hxU, r5.w.fh _ _ q1, gx, strs_atAll q2, by rw [List.length_map]; exact ll _ lmem, j0, j1, w1, fun e => ?_, ?_⟩⟩
    · unfold atI ixN
      rw [if_pos i0, if_pos (by omega)]
      exact hx
    · obtain ⟨z, rfl⟩ := hput e
      exact ⟨_, rfl⟩
    · intro F' H' us' e' ex' kp fx hx' at'
      have ef : ∀ b o, b ≠ x → F5 b = some o → upd F5 x (.lst us') b = some o := fun b o hb h => by rw [upd_ne hb]; exact h
      have at3 : AtAll c.K (upd F5 x (.lst us')) us' (wrote s rest j.toNat ((L.getD i.toNat []).map PyData.str)) := by
        obtain ⟨l', el⟩ := wrote_strs (j := j.toNat) hput (L.getD i.toNat [])
        rw [el] at at' ⊢
        exact strs_atAll at'
      obtain ⟨X, Y, rel', rfl, rfl⟩ := k x us' _ H' hx xm at3 rfl ef
        (fun b o h => by
          by_cases z : b = x
          · subst z
            rw [upd_same] at h
            cases h
            exact hx'
          · rw [upd_ne z] at h
            exact kp b o z (r5.w.fh b o h))
        (fun b o h => kp b o (fun z => by subst z; rw [hH0] at h; cases h) (r5.w.kp b o h (by rw [hp]; exact fun z => z)).1)
        (fun b o h => by rw [upd_ne (fun z => by subst z; rw [gx] at h; cases h)]; exact eF b o (eG b o h))
      exact ⟨_, _, [], ⟨fun _ => False, rt, fun _ => False, fun _ => False⟩, rel', q, fun _ _ _ _ z => z.elim, kr, fun _ _ _ _ z => z.elim, fun _ _ _ _ z => z.elim⟩
  have wld : ∀ (x : Addr) (vs : List V) (H' : Hp), c.H0 x = none → Ex (upd F5 x (.lst vs)) H' → (∀ b o, c.H0 b = some o → H' b = some o) → Ex G (upd F5 x (.lst vs)) → World c.R c.p c.F0 c.H0 (upd F5 x (.lst vs)) H' := fun x vs H' hx ex kp eg =>
    ⟨eG0.trans eg, ex, fun b o h _ => ⟨kp b o h, by rw [hp]; exact fun z => z⟩, (fun b h z => by
      cases e : c.H0 b with
      | none => exact h e
      | some o =>
        rw [kp b o e] at z
        cases z), (fun b h f => by
      rw [upd_ne (fun z => by subst z; exact h hx)]
      exact r5.w.fn b h f), (fun b _ => by rw [hp]; exact fun z => z), (fun q e => by rw [hp] at e; cases e)⟩
  have hl : σ.length = 10 := rel.s.len.symm
  have atr : ∀ {r : List D} {L : List (List Str)}, r = wrote s rest j.toNat ((L.getD i.toNat []).map PyData.str) → (L.map fun l => l.map PyData.str).set i.toNat r = wroteR s rest i.toNat j.toNat L := fun e => by rw [e]; rfl
  by_cases z : (md == ("hide" : Str)) = true
  · rw [if_pos z]
    refine ⟨.ref UB, h7, .int i, h4, .int j, h5, vc, hc, go UB bs B mB yB iB lB fun x vs row H' hx xm at_ er ef ex kp eg => ?_⟩
    have hx0 := yB.h x (List.mem_cons_of_mem _ xm)
    have kA := nest_keep (x := x) mA (fun q => dj x q (List.mem_cons_of_mem _ xm)) ef (strs_hs A)
    have kB := nest_wr mB yB.nd hx upd_same ef at_ (strs_hs B)
    rw [atr er] at kB
    refine ⟨_, _, rel_ls (wld x vs H' hx0 ex kp eg) hl h0 (a0.mono eg) h1 (a1.mono eg) hc (ac.mono eg) h3 (by cases a3; exact .str _) h4 (.int i) h5 (.int j) h6 kA.at h7 kB.at, ?_, ?_⟩
    · unfold lsOut
      rw [if_pos z]
      rfl
    · unfold lsOut
      rw [if_pos z]
  · rw [if_neg z]
    refine ⟨.ref UA, h6, .int i, h4, .int j, h5, vc, hc, go UA as A mA yA iA lA fun x vs row H' hx xm at_ er ef ex kp eg => ?_⟩
    have hx0 := yA.h x (List.mem_cons_of_mem _ xm)
    have kB := nest_keep (x := x) mB (fun q => dj x (List.mem_cons_of_mem _ xm) q) ef (strs_hs B)
    have kA := nest_wr mA yA.nd hx upd_same ef at_ (strs_hs A)
    rw [atr er] at kA
    refine ⟨_, _, rel_ls (wld x vs H' hx0 ex kp eg) hl h0 (a0.mono eg) h1 (a1.mono eg) hc (ac.mono eg) h3 (by cases a3; exact .str _) h4 (.int i) h5 (.int j) h6 kA.at h7 kB.at, ?_, ?_⟩
    · unfold lsOut
      rw [if_neg z]
    · unfold lsOut
      rw [if_neg z]
      rfl
end
def retE (P : D → Nat → Prop) : DE := ⟨fun _ => False, fun d _ => P d 0, fun _ => False, fun _ => False⟩
/-- the promise of the def that steps -/
def sStep (b1 b2 b3 b4 : SM) (t4 : BM) (ret : SM) : SpD := fun as _ P => ∃ (r w i j : Int) (md s : Str) (rest : List D) (A B : List (List Str)), as = [.d (.tuple [.int r, .int w]), .d (.tuple [.str md, .int i, .int j, rowsD A, rowsD B]), .d (.tuple (.str s :: rest))] ∧ okD (.str md) ∧ okD (.str s) ∧ A.length ≤ 1000 ∧ B.length ≤ 1000 ∧
  ((isWr s = false ∧ sSeq (sIf (lsT "swap") b1 sNo) (sSeq (sIf (lsT "wipe") b2 sNo) (sSeq (sIf (lsT "clear") b3 sNo) (sSeq (sIf (bAnd (lsT "line") t4) b4 sNo) (sSeq sNoW ret)))) (retE P) (lsE (.tuple [.int r, .int w]) (.tuple [.str md, .int i, .int j, rowsD A, rowsD B]) (.tuple (.str s :: rest)) md i j (rowsD A) (rowsD B) .no .no)) ∨
   (isWr s = true ∧ (0 ≤ i ∧ i.toNat < A.length ∧ i.toNat < B.length) ∧ (∀ l ∈ A, (l.length : Int) = w) ∧ (∀ l ∈ B, (l.length : Int) = w) ∧ (0 ≤ j ∧ j < w ∧ w ≤ 1000) ∧ (s = "put" → ∃ x : Str, rest = [.str x]) ∧
     ret (retE P) (lsE (.tuple [.int r, .int w]) (.tuple [.str md, .int i, .int j, rowsD A, rowsD B]) (.tuple (.str s :: rest)) md i j (lsOut md s rest i j A B).1 (lsOut md s rest i j A B).2 .no .no)))
def lsS1 : SM := sAsg (dSl (hS 1) (oNo) (oI (dC (.int 3)))) (gTupT 3 (gConsT (gN 3) (gConsT (gN 4) (gConsT (gN 5) (gNoT)))))
def lcT (c : Cn) (k : Int) : TE := tLc (tI c (iSeq (d2 gIx (hS 1) (hV (dC (.int k)))))) (tG c [8] (gN 8)) (tT c bYes) (tN c (dCB gList (DL.gCons (hS 8) (DL.gNil)))) [8]
def lsAll (c : Cn) (b1 b2 b3 b4 : SM) (t4 : BM) (E0 : XK) (ret : SM) : TS := tSeq (tS c lsS1) (tSeq (tPar 6 7 (tCons (lcT c 3) (tCons (lcT c 4) tNil))) (lsTail c b1 b2 b3 b4 t4 E0 ret))
section
variable {K : PySem.W.Frag} {R : Orc} {b1 b2 b3 b4 ret : SM} {t4 : BM} {E0 : XK} {H : Hp}
theorem lc_one {c : Cn} {F : Hp} {σ : L2.St} {ρ : DL.Env} {Q : VK} {k : Int} {L : List (List Str)} (rel : Rel c F H σ ρ []) (hn : L.length ≤ 1000) (hi : d2 gIx (hS 1) (hV (dC (.int k))) ρ fun d ρ' => d = rowsD L ∧ ρ' = ρ) (h8 : ρ[8]? = some .no) (hl : ρ.length = 10) (hb : backE ρ (wipeE ρ [8]) [8] = ρ)
    (go : ∀ (A : Addr) (as : List Addr) (F' H' : Hp), Ex F F' → Nest c.K F' A as (L.map fun l => l.map PyData.str) → Newly F c.H0 A as → Rel c F' H' σ ρ [] → Q (.ref A) H') : lcT c k σ H Q := by
  refine lcN_use (ds := (L.map fun l => l.map PyData.str).map PyData.list) (rows := L.map fun l => l.map PyData.str) (fun j hj => hj) rel (by rw [List.length_map]) (by rw [List.length_map, List.length_map]; omega) ?_ ⟨by simp, fun j hj => ?_⟩ hb (fun n d r e1 e2 => ?_) go
  · have m : ∀ (f : DM) (P P' : D → DL.Env → Prop), f = d2 gIx (hS 1) (hV (dC (.int k))) → (∀ d ρ', P d ρ' → P' d ρ') → f ρ P → f ρ P' := by
      rintro f P P' rfl h q
      unfold d2 hS hV dC at q ⊢
      refine ⟨q.1, ?_⟩
      obtain ⟨_, q⟩ := q
      revert q
      show see ρ (.slot 1) _ → see ρ (.slot 1) _
      unfold see
      split
      · rename_i z
        cases z
      · split
        · intro q
          revert q
          show gIx _ _ _ → gIx _ _ _
          unfold gIx
          split
          · rintro ⟨d, q1, q2⟩
            exact ⟨d, q1, h _ _ q2⟩
          · rintro ⟨d, q1, q2⟩
            exact ⟨d, q1, h _ _ q2⟩
          · rintro ⟨q0, d, q1, q2⟩
            exact ⟨q0, d, q1, h _ _ q2⟩
          · exact fun q => q
        · intro q
          revert q
          show gIx _ _ _ → gIx _ _ _
          unfold gIx
          split
          · rintro ⟨d, q1, q2⟩
            exact ⟨d, q1, h _ _ q2⟩
          · rintro ⟨d, q1, q2⟩
            exact ⟨d, q1, h _ _ q2⟩
          · rintro ⟨q0, d, q1, q2⟩
            exact ⟨q0, d, q1, h _ _ q2⟩
          · exact fun q => q
        · exact fun q => q
    refine m _ _ _ rfl ?_ hi
    rintro d ρ' ⟨rfl, rfl⟩
    exact ⟨rfl, rfl⟩
  · have : j = 8 := by simpa using hj
    subst this
    rw [List.getD_eq_getElem?_getD, h8]
    rfl
  · rw [List.getElem?_map, e2] at e1
    cases e1
    have h88 : (wipeE ρ [8]).length = 10 := by
      show (List.set ρ 8 .no).length = 10
      rw [List.length_set, hl]
    have e3 : ((wipeE ρ [8]).set 8 (.im (.list r)))[8]? = some (.im (.list r)) := by
      rw [List.getElem?_set, if_pos rfl, if_pos (by omega)]
    show dCB gList (DL.gCons (hS 8) DL.gNil) ((wipeE ρ [8]).set 8 (.im (.list r))) _
    unfold dCB DL.gCons DL.gNil hS
    refine ⟨by rw [e3]; trivial, ?_⟩
    show seeAll ((wipeE ρ [8]).set 8 (.im (.list r))) [.slot 8] _
    simp only [seeAll, see, e3]
    refine ⟨rfl, ?_⟩
    show (((wipeE ρ [8]).set 8 (.im (.list r))).set 8 .no) = (ρ.set 8 .no)
    rw [List.set_set]
    show (ρ.set 8 .no).set 8 .no = _
    rw [List.set_set]
theorem ls_all {N : List Str} {vs : List V} {Q : VK} {E : XK} (hN : N.length = 10) (h : spD K R 3 (sStep b1 b2 b3 b4 t4 ret) vs H Q E) : ∃ c : Cn, c.K = K ∧ c.R = R ∧ lsAll c b1 b2 b3 b4 t4 E0 ret { nx := fun _ H' => Q .non H', rt := Q } (L2.start N vs) H := by
  obtain ⟨q, F0, as, m, P, wd, pa, hl, ho, hq, hm, says, k0⟩ := h
  obtain ⟨r, w, i, j, md, s, rest, A, B, rfl, om, os, lA, lB, says⟩ := says
  have hq0 : q = none := by
    rcases hq with hq | hq
    · exact hq
    · simp at hq
  subst hq0
  have rel0 := rel_start (N := N) wd pa ho hm
  have es : ∀ a b d : D, startE N.length [.d a, .d b, .d d] m = [.im a, .im b, .im d, .no, .no, .no, .no, .no, .no, .no] := fun a b d => by
    unfold startE
    rw [hN]
    rfl
  rw [es] at rel0
  refine ⟨⟨K, R, none, F0, H⟩, rfl, rfl, ?_⟩
  refine ⟨F0, _, [], ⟨fun ρ' => ρ' = [.im (.tuple [.int r, .int w]), .im (.tuple [.str md, .int i, .int j, rowsD A, rowsD B]), .im (.tuple (.str s :: rest)), .im (.str md), .im (.int i), .im (.int j), .no, .no, .no, .no], fun _ _ => False, fun _ => False, fun _ => False⟩, rel0, ⟨trivial, rfl, rfl, rfl⟩, fun ρ1 σ1 F1 H1 p1 e1 r1 => ?_, fun _ _ _ _ _ _ z => z.elim, fun _ _ _ _ z => z.elim, fun _ _ _ _ z => z.elim⟩
  have p1 : ρ1 = _ := p1
  subst p1
  show lcT ⟨K, R, none, F0, H⟩ 3 σ1 H1 (fun v Ha => lcT ⟨K, R, none, F0, H⟩ 4 σ1 Ha fun w Hb => ∃ v' w', [v, w] = [v', w'] ∧ lsTail ⟨K, R, none, F0, H⟩ b1 b2 b3 b4 t4 E0 ret { nx := fun _ H' => Q .non H', rt := Q } ((σ1.set 6 (some v')).set 7 (some w')) Hb)
  refine lc_one (k := 3) (L := A) r1 lA ⟨trivial, _, rfl, rfl, rfl⟩ rfl rfl rfl fun UA as F2 H2 e2 nA yA r2 => ?_
  refine lc_one (k := 4) (L := B) r2 lB ⟨trivial, _, rfl, rfl, rfl⟩ rfl rfl rfl fun UB bs F3 H3 e3 nB yB r3 => ?_
  refine ⟨_, _, rfl, ?_⟩
  have rel : Rel ⟨K, R, none, F0, H⟩ F3 H3 ((σ1.set 6 (some (.ref UA))).set 7 (some (.ref UB))) (lsE (.tuple [.int r, .int w]) (.tuple [.str md, .int i, .int j, rowsD A, rowsD B]) (.tuple (.str s :: rest)) md i j (rowsD A) (rowsD B) .no .no) [] := (r3.putI 6 (nA.mono e3).at).putI 7 nB.at
  have kr : ∀ (d : D) (v : V) (ρ' : DL.Env) (σ' : L2.St) (F' H' : Hp), P d 0 → Rel ⟨K, R, none, F0, H⟩ F' H' σ' ρ' [] → At K F' v d → Q v H' := fun d v ρ' σ' F' H' p r a => k0 d 0 v F' H' p r.w (fun p hp => by cases hp) a
  rcases says with ⟨hw, g⟩ | ⟨hw, ⟨i0, iA, iB⟩, rA, rB, ⟨j0, j1, w1⟩, hput, g⟩
  · exact ls_no ⟨F3, _, [], retE P, rel, g, fun _ _ _ _ z => z.elim, fun d v ρ' σ' F' H' p r a => kr d v ρ' σ' F' H' p r a, fun _ _ _ _ z => z.elim, fun _ _ _ _ z => z.elim⟩
  · have sl : σ1.length = 10 := r1.s.len.symm
    obtain ⟨v0, h0, a0⟩ := r1.s.im 0 _ rfl
    obtain ⟨v1, h1, a1⟩ := r1.s.im 1 _ rfl
    obtain ⟨vc, hc, ac⟩ := r1.s.im 2 _ rfl
    have g0 : ∀ (k : Nat) (v : V), k < 6 → σ1[k]? = some (some v) → ((σ1.set 6 (some (.ref UA))).set 7 (some (.ref UB)))[k]? = some (some v) := fun k v hk h => by
      rw [List.getElem?_set, if_neg (by omega), List.getElem?_set, if_neg (by omega)]
      exact h
    have inF : ∀ x ∈ UA :: as, F2 x ≠ none := fun x hx => by
      (rcases List.mem_cons.mp hx with rfl | hx)
      · rw [nA.o]
        exact Option.some_ne_none _
      · obtain ⟨k, hk, rfl⟩ := List.mem_iff_getElem.mp hx
        have hk2 : k < (A.map fun l => l.map PyData.str).length := by rw [← nA.n]; exact hk
        obtain ⟨us, q1, _⟩ := nA.r k _ _ (List.getElem?_eq_getElem hk) (List.getElem?_eq_getElem hk2)
        rw [q1]
        exact Option.some_ne_none _
    have yB1 : Newly F1 H UB bs := ⟨(fun x hx => by
      cases e : F1 x with
      | none => rfl
      | some o =>
        have := yB.g x hx
        rw [e2 _ _ e] at this
        cases this), yB.h, yB.nd⟩
    refine ls_yes (G := F1) (A := A) (B := B) rfl e1 (e2.trans e3) (g0 0 _ (by omega) h0) a0 (g0 1 _ (by omega) h1) a1 (g0 2 _ (by omega) hc) ac rel ?_ ?_ (nA.mono e3) nB yA yB1 (fun x hx hy => inF x hx (yB.g x hy)) om os hw i0 iA iB rA rB j0 j1 w1 hput g kr
    · rw [List.getElem?_set, if_neg (by omega), List.getElem?_set, if_pos rfl, if_pos (by omega)]
    · rw [List.getElem?_set, if_pos rfl, if_pos (by rw [List.length_set]; omega)]
end
end DL
namespace DL
open PySem L2
end DL
namespace DL
open PySem L2
section
variable {X : Cx} {c : Cn} {e a b : Expr} {pos : Pos}
def gCutS (to : TE) (tl th : TO) : TG := fun v σ H Q => to σ H fun o H1 => tl σ H1 fun l H2 => th σ H2 fun u H3 =>
  ∃ (p q : Addr) (xs ys : List V) (i j : Int), o = .ref p ∧ v = .ref q ∧ l = some i ∧ u = some j ∧ p ≠ q ∧ H3 p = some (.lst xs) ∧ H3 q = some (.lst ys) ∧ 0 ≤ i ∧ i ≤ j ∧ j ≤ xs.length ∧
    xs.length + ys.length ≤ sizeLine ∧ Q σ (upd H3 p (.lst (xs.take i.toNat ++ ys ++ xs.drop j.toNat)))
theorem pg_cutS {o : Expr} {lo hi : Option Expr} {p2 : Pos} {to : TE} {tl th : TO} (ho : PE X o to) (hl : PO X lo tl) (hu : PO X hi th)
    (ha : ∀ v, assign (.Subscript o (.Slice lo hi none p2) pos) X.env v = (do
      let cut ← holding [v] (eval o X.env)
      let sl ← holding [v, cut] (eval (.Slice lo hi none p2) X.env)
      standAt pos
      holding [v, cut, sl] (setItem cut sl v)
      release [sl, v, cut] []) := by intro _; rfl) : PG X (.Subscript o (.Slice lo hi none p2) pos) (gCutS to tl th) := by
  (refine ⟨fun pins s σ H v u Q I r h => ?_⟩)
  rw [ha]
  (refine wpAny_bind (wpAny_holding (thn (ho.run pins s σ H _ I h) fun ov s1 ⟨x, H1, I1, r1, q1⟩ => ?_)))
  refine wpAny_bind (wpAny_holding (wpAny_Slice (thn (hl.run pins s1 σ H1 _ I1 q1) fun vl s2 ⟨l, H2, I2, pl, q2⟩ => thn (hu.run pins s2 σ H2 _ I2 q2) fun vu s3 ⟨w, H3, I3, pu, q3⟩ => ?_)))
  rw [evalPart_none]
  refine wpAny_pure ?_
  (have I4 : Inv X pins σ H3 { s3 with heap := s3.heap.push { cls := .type "slice", data := .fields #[vl, vu, .none] } } := I3.kept (t' := s3.toks) fun b ob q => Heap.get?_push_of_some _ q)
  obtain ⟨p, q, xs, ys, i, j, rfl, rfl, rfl, rfl, hne, hp, hq, h0, hij, hj, hz, hQ⟩ := q3
  cases r
  cases r1
  cases pl
  cases pu
  (refine wpAny_bind (wpAny_standAt (wpAny_bind (wpAny_holding ?_))))
  refine set_slice I4 hp hq hne (Heap.IsSliceOf.new ..) ⟨_, rfl⟩ ⟨_, rfl⟩ h0 hij hj hz fun s' I' => ?_
  exact wpAny_release ⟨σ, _, I', hQ⟩
def sCutS (i : Nat) (fe : DM) (fl fu : OM) : SM := fun E ρ => fe ρ fun d ρ1 => ownL ρ1 i (fun _ => True) ∧ fl ρ1 fun k ρ2 => fu ρ2 fun m ρ3 => ownL ρ3 i fun ds =>
  ∃ ys z w, d = .list ys ∧ k = some z ∧ m = some w ∧ 0 ≤ z ∧ z ≤ w ∧ w ≤ (ds.length : Int) ∧ ds.length + ys.length < 1000000 ∧ E.nx (ρ3.set i (.ow (.list (ds.take z.toNat ++ ys ++ ds.drop w.toNat))))
theorem cutS_use {i : Nat} {fe : DM} {fl fu : OM} : ∀ Z σ H, tS c (sCutS i fe fl fu) Z σ H → tAsg (tN c fe) (gCutS (tVar i) (tOI c fl) (tOI c fu)) Z σ H := by
  rintro Z σ H ⟨F, ρ, xx, E, rel, q, n, rr, b, t⟩
  refine ⟨F, ρ, xx, _, rel, q, fun d ρ1 y F1 H1 ⟨q0, q1⟩ e1 r1 f1 => ?_⟩
  obtain ⟨ds0, p0, vs0, g1, g2, g3, g4, _⟩ := ownL_get r1 q0
  refine ⟨.ref p0, g2, F1, ρ1, (y, XO.d d) :: xx, _, r1.pushX f1, q1, fun k ρ2 F2 H2 q2 e2 r2 => ⟨F2, ρ2, _, _, r2, q2, fun m ρ3 F3 H3 q3 e3 r3 => ?_⟩⟩
  obtain ⟨ds, p, vs, h1, h2, h3, h4, ys, z, w, rfl, rfl, rfl, h0, hzw, hw, hl, hn⟩ := ownL_get r3 q3
  have ep : p0 = p := by
    rw [g2] at h2
    cases h2
    rfl
  subst ep
  obtain ⟨k1, k2⟩ := r3.s.ex (y, XO.d (.list ys)) (List.mem_cons_self ..)
  obtain ⟨us, g5, g6⟩ := k1.o
  have hne : p0 ≠ y := fun zz => k2 i _ h1 (by rw [h2, zz])
  refine ⟨p0, y, vs, us, z, w, rfl, rfl, rfl, rfl, hne, h3, g5, h0, hzw, by rw [h4.length]; exact hw, (by have hh : ds.length + ys.length < sizeLine := szl (Nat.le_of_lt hl); rw [h4.length, g6.length]; exact Nat.le_of_lt hh), ?_⟩
  have r4 := r3.mut (d' := .list (ds.take z.toNat ++ ys ++ ds.drop w.toNat)) h1 h2 ⟨_, upd_same, ((h4.take _).append g6).append (h4.drop _)⟩
  exact n _ σ F3 _ hn (e1.trans (e2.trans e3)) r4.popX.1
theorem dp_cutS {x : Str} {i : Nat} {lo hi : Option Expr} {px p2 tpos : Pos} {fl fu : OM} {fe : DM} (ho : PE X (.Name x px) (tVar i)) (hl : PO X lo (tOI c fl)) (hu : PO X hi (tOI c fu)) (he : PE X e (tN c fe))
    (hsub : ∀ v, assign (.Subscript (.Name x px) (.Slice lo hi none p2) tpos) X.env v = (do
      let cut ← holding [v] (eval (.Name x px) X.env)
      let sl ← holding [v, cut] (eval (.Slice lo hi none p2) X.env)
      standAt tpos
      holding [v, cut, sl] (setItem cut sl v)
      release [sl, v, cut] []) := by intro _; rfl)
    (hs : swapsWithSole [.Subscript (.Name x px) (.Slice lo hi none p2) tpos] e pos.line X.env = pure false := by rfl) (hw : swappedStores [.Subscript (.Name x px) (.Slice lo hi none p2) tpos] e X.env = pure none := by rfl)
    (h1 : (assignEach [.Subscript (.Name x px) (.Slice lo hi none p2) tpos] X.env).map (·.2) = [assign (.Subscript (.Name x px) (.Slice lo hi none p2) tpos) X.env] := by rfl) :
    PS X (.Assign [.Subscript (.Name x px) (.Slice lo hi none p2) tpos] e pos) (tS c (sCutS i fe fl fu)) :=
  PS.to (ps_asg he (pg_cutS ho hl hu hsub) hs hw h1) cutS_use
end
end DL
namespace DL
open PySem L2 PyProof.Rows
/-- p, of the class cls, has been caught where the slots are σ and the heap is H -/
structure Catch (X : Cx) (pins : List (Addr × Obj)) (p : Addr) (cls : Value) (d : Option Addr) (σ : L2.St) (H : Hp) (s : Shared) : Prop where
  ok : X.Ok
  new : H p = none
  air : ∃ (B : Heap) (sI : Shared), Inv X pins σ H sI ∧ (∀ b o, sI.heap.get? b = some o → b ∉ frs X.stack → B.get? b = some o) ∧ sI.heap.UpToSlots s.heap ∧ s.os = sI.os ∧ AllBare s.gens ∧ HandSPX.FlyingZ B X.stack p (Zc cls d) s.heap
theorem frs_local {X : Cx} (hs : X.stack = X.env :: X.outer) (hf : X.env.frame = some X.env.locals) : frs X.stack = X.env.locals :: X.fs := by
  rw [hs]
  exact List.filterMap_cons_some hf
section
variable {X : Cx} {pins : List (Addr × Obj)} {p : Addr} {cls : Value} {d : Option Addr} {σ : L2.St} {H : Hp} {s : Shared} {D : Ends}
namespace Catch
theorem inv (c : Catch X pins p cls d σ H s) : Inv X pins σ H s := c.air.elim fun _ q => q.elim fun _ ⟨I, nb, up, os, ag, fl⟩ => I.landed nb fl.1 up os ag
/-- it is no frame of the stack, and it is new to the heap ahead -/
theorem out (c : Catch X pins p cls d σ H s) : p ∉ frs X.stack := fun m => by
  obtain ⟨B, sI, I, nb, up, os, ag, fl⟩ := c.air
  obtain ⟨ob, vs, e, _, hd⟩ := fl.there
  obtain ⟨o', o2, e2, q⟩ := fl.2.2.1.mem m
  cases Option.some.inj (e.symm.trans e2)
  exact q vs hd
theorem fresh (c : Catch X pins p cls d σ H s) : X.ex = [] → X.s_0.heap.get? p = none ∧ ∀ q ∈ X.pn ++ pins, q.1 ≠ p := by
  intro hx
  have out := c.out
  obtain ⟨B, sI, I, nb, up, os, ag, fl⟩ := c.air
  have unseen : ∀ o, sI.heap.get? p ≠ some o := fun o e => by
    have z := (nb p o e out).symm.trans fl.2.1
    cases z
  constructor
  · refine Option.eq_none_iff_forall_not_mem.mpr fun o e => ?_
    obtain ⟨o2, q⟩ := I.base.there p o e (by rw [hx]; exact List.not_mem_nil)
    exact unseen o2 q
  · exact fun q m z => unseen q.2 (z ▸ (I.pin q m).1)
/-- the context in which a suite runs -/
theorem held (c : Catch X pins p cls d σ H s) (hs : X.stack = X.env :: X.outer) (hf : X.env.frame = some X.env.locals) : p ≠ X.env.locals ∧ p ∉ X.fs ∧ ∃ ob, s.heap.get? p = some ob ∧ Zc cls d ob ∧ (∃ vs, ob.data = .fields vs) ∧ Inv (X.suite p ((p, ob) :: (X.pn ++ pins))) [] σ H s := by
  have out := c.out
  rw [frs_local hs hf] at out
  obtain ⟨n1, n2⟩ := List.ne_and_not_mem_of_not_mem_cons out
  obtain ⟨B, sI, I, nb, up, os, ag, fl⟩ := id c.air
  obtain ⟨ob, vs, e, z, hd⟩ := fl.there
  exact ⟨n1, n2, ob, e, z, ⟨vs, hd⟩, c.inv.suite e hd c.new n1 n2⟩
/-- a clause's class is read -/
theorem reads {x : Str} {v : Value} {np : Pos} {Q E : Value → Shared → Prop} (c : Catch X pins p cls d σ H s) (hs : X.stack = X.env :: X.outer) (hf : X.env.frame = some X.env.locals) (hc : Names X x v) (q : Q v s) : wpAny (model X.prog X.w) (X.A.mark (some (.ref p))) (eval (.Name x np) X.env) Q E s := by
  obtain ⟨_, _, ob, _, _, _, S⟩ := c.held hs hf
  rcases hc with ⟨g, nd, m | ⟨m, b, nn⟩⟩
  · exact ld_glob (X := X.suite p ((p, ob) :: (X.pn ++ pins))) S g m q nd
  · exact ld_blt (X := X.suite p ((p, ob) :: (X.pn ++ pins))) S g m b q nn nd
end Catch
end
end DL
namespace DL
open PySem L2 PyProof.Rows
end DL
namespace DL
open PySem L2 PyProof.Rows
end DL
namespace DL
open PySem L2
def CdXD (pr : Program) (wd : PySem.World) (K : PySem.W.Frag) (gl : Str → Option Value) (bas : Heap) (R : Orc) (k : Nat) (x : Str) (n : Nat) (dds : List D) (S : SpX) : Prop :=
  ∃ (f : Addr) (fd : FuncData) (ps : List Str) (ds : List Value) (dvs : List V), FnX pr wd K gl bas k f fd ps (spX K gl R (n + dds.length) S) ∧ gl x = some (.ref f) ∧ PySem.W.keepIn K (.ref f) = true ∧ Binds K fd ps ds ∧ Vals dvs ds ∧ ∀ F, AtAll K F dvs dds
theorem CdXD.more {pr : Program} {wd : PySem.World} {K : PySem.W.Frag} {gl : Str → Option Value} {bas : Heap} {R : Orc} {j k : Nat} {x : Str} {n : Nat} {dds : List D} {S : SpX} (C : CdXD pr wd K gl bas R j x n dds S) (h : j ≤ k) : CdXD pr wd K gl bas R k x n dds S := by
  obtain ⟨f, fd, ps, ds, dvs, F, a, b, d, e, u⟩ := C
  exact ⟨f, fd, ps, ds, dvs, F.more h, a, b, d, e, u⟩
section
variable {X : Cx} {c : Cn} {a b : Expr} {pos : Pos}
def dCat (fa fb : HM) : DM := fun ρ P => fa ρ fun x ρ1 => fb ρ1 fun y ρ2 => see ρ2 x fun dx => see ρ2 y fun dy => match dx, dy with
  | .list xs, .list ys => xs.length + ys.length ≤ 1000000 ∧ P (.list (xs ++ ys)) ρ2
  | _, _ => False
theorem dn_cat {fa fb : HM} (hK : X.K = c.K) (ha : PE X a (tH c fa)) (hb : PE X b (tH c fb)) : PE X (.BinOp a .Add b pos) (tN c (dCat fa fb)) := by
  refine PE.to (pe_op op_catLL ha hb) ?_
  rintro σ H Q ⟨F, ρ, xx, P, rel, q, k⟩
  refine ⟨F, ρ, xx, _, rel, q, fun x ρ1 v F1 H1 q1 e1 r1 h1 => ⟨F1, ρ1, xx, _, r1, q1, fun y ρ2 u F2 H2 q2 e2 r2 h2 => ?_⟩⟩
  obtain ⟨dx, bx, q3⟩ := see_bo r2 (h1.mono e2) q2
  obtain ⟨dy, by_, q4⟩ := see_bo r2 h2 q3
  have ex := r2.w.fh
  split at q4
  · obtain ⟨p, xs, rfl, s1, t1⟩ := bo_lst ex bx
    obtain ⟨p2, ys, rfl, s2, t2⟩ := bo_lst ex by_
    refine ⟨p, p2, xs, ys, rfl, rfl, by rw [hK]; exact s1, by rw [hK]; exact s2, sz (by rw [t1.length, t2.length]; exact q4.1), fun p' hp => ?_⟩
    obtain ⟨r4, f4⟩ := Fresh.new (o := .lst (xs ++ ys)) (d := .d (.list _)) r2 hp ⟨_, upd_same, t1.append t2⟩
    exact k _ ρ2 p' F2 _ q4.2 (e1.trans e2) r4 f4
  · exact q4.elim
end
end DL
namespace DL
open PySem L2
section
variable {X : Cx} {c : Cn}
theorem call_reprS : CallR X (.builtin "repr") (fun xs H Q => ∃ x : Str, xs = [.str x] ∧ (reprText x).length ≤ 1000000 ∧ Q (.str (reprText x)) H) := by
  (intro pins s σ H xs us Q I r h)
  obtain ⟨x, rfl, hl, q⟩ := h
  obtain ⟨u, rfl, rv⟩ := vals1 r
  obtain ⟨t, rfl⟩ := (show ∃ t, u = Value.str x t from rv)
  exact P.repr_of_str ⟨.str _, H, I.tok _, ⟨_, rfl⟩, q⟩ (sz hl)
def okU : D → Prop
  | .str x => (reprText x).length ≤ 1000000
  | d => okR d
def shU : D → Str
  | .str x => reprText x
  | d => shA d
def gReprU : GC := fun ds P => match ds with
  | [d] => okU d ∧ P (.str (shU d))
  | _ => False
theorem sem_reprU (hK : X.K = c.K) (hg : X.A.guards = some []) (hu : X.A.units + 64 < cLine) : SemC X c (.builtin "repr") gReprU := by
  obtain ⟨r0, c0, h0⟩ := sem_reprA (c := c) hK hg hu
  refine ⟨_, fun pins s σ H xs us Q I r h => (h : r0 xs H Q ∨ ∃ x : Str, xs = [.str x] ∧ (reprText x).length ≤ 1000000 ∧ Q (.str (reprText x)) H).elim (c0 pins s σ H xs us Q I r) (call_reprS pins s σ H xs us Q I r), fun F H σ ρ xx ds vs P Q r bs g k => ?_⟩
  unfold gReprU at g
  split at g
  · rename_i d
    obtain ⟨g1, g2⟩ := g
    cases d with
    | str x =>
      obtain ⟨v, rfl, b⟩ := pr1 bs
      cases bo_str b
      exact .inr ⟨x, rfl, g1, k _ _ F H g2 (Ex.refl F) r (.str _)⟩
    | _ => exact .inl (h0 F H σ ρ xx _ vs P Q r bs ⟨g1, g2⟩ k)
  · exact g.elim
def gNotInS : G2 := fun x y P => match x, y with
  | .str a, .tuple ds => ∃ zs, ofStrs ds = some zs ∧ P (.bool (!zs.any fun z => z == a))
  | _, _ => False
theorem sem_notInS (hK : X.K = c.K) : Sem2 X c (compareOp .NotIn) gNotInS := by
  refine ⟨_, op_notIn_seq, fun F H σ ρ xx x y vx vy P Q r bx by_ g k => ?_⟩
  unfold gNotInS at g
  split at g
  · rename_i a ds
    obtain ⟨zs, ez, q⟩ := g
    cases bo_str bx
    obtain ⟨p, xs, rfl, f2, s2, t2⟩ := bo_tup r.w.fh by_
    rw [ofStrs_eq ez] at t2
    have e := strs_vs t2
    subst e
    refine ⟨p, _, rfl, .inr (by rw [hK]; exact s2), rfl, ?_, ?_⟩
    · rw [List.all_eq_true]
      intro v hv
      obtain ⟨z, _, rfl⟩ := List.mem_map.mp hv
      rfl
    · have ea : inV (.str a) (zs.map V.str) = zs.any fun z => z == a := by
        unfold inV
        rw [List.any_map]
        rfl
      show Q (.bl (if true = true then !inV (.str a) (zs.map V.str) else inV (.str a) (zs.map V.str))) H
      rw [if_pos rfl, ea]
      exact k _ _ F H q (Ex.refl F) r (.bl _)
  · exact g.elim
end
end DL
namespace DL
open PySem L2 PySem.Spec PyProof.Rows
mutual
def nkD : D → Option NestedKey
  | .none => some .none
  | .int i => some (.num i)
  | .str x => some (.text x)
  | .tuple ds => (nkAll ds).map .tup
  | _ => none
def nkAll : List D → Option (List NestedKey)
  | [] => some []
  | d :: ds => match nkD d, nkAll ds with
    | some k, some ks => some (k :: ks)
    | _, _ => none
end
theorem nkAll_cons {d : D} {ds : List D} {ks : List NestedKey} (h : nkAll (d :: ds) = some ks) : ∃ k ks', nkD d = some k ∧ nkAll ds = some ks' ∧ ks = k :: ks' := by
  unfold nkAll at h
  split at h
  · rename_i k ks' h1 h2
    cases h
    exact ⟨k, ks', h1, h2, rfl⟩
  · cases h
mutual
theorem nk_inj : ∀ (d e : D) (k : NestedKey), nkD d = some k → nkD e = some k → d = e
  | .none, e, k, h1, h2 => by
    cases (show some NestedKey.none = some k from h1)
    cases e with
    | none => rfl
    | bool b => cases (show (none : Option NestedKey) = some _ from h2)
    | int i => cases (show some (NestedKey.num i) = some .none from h2)
    | str x => cases (show some (NestedKey.text x) = some .none from h2)
    | list xs => cases (show (none : Option NestedKey) = some _ from h2)
    | dict xs => cases (show (none : Option NestedKey) = some _ from h2)
    | tuple xs =>
      obtain ⟨ks, _, z⟩ := Option.map_eq_some_iff.mp (show (nkAll xs).map NestedKey.tup = some _ from h2)
      cases z
  | .bool b, e, k, h1, h2 => by cases (show (none : Option NestedKey) = some _ from h1)
  | .list xs, e, k, h1, h2 => by cases (show (none : Option NestedKey) = some _ from h1)
  | .dict xs, e, k, h1, h2 => by cases (show (none : Option NestedKey) = some _ from h1)
  | .int i, e, k, h1, h2 => by
    cases (show some (NestedKey.num i) = some k from h1)
    cases e with
    | none => cases (show some NestedKey.none = some (.num i) from h2)
    | bool b => cases (show (none : Option NestedKey) = some _ from h2)
    | int j => cases (show some (NestedKey.num j) = some (.num i) from h2); rfl
    | str x => cases (show some (NestedKey.text x) = some (.num i) from h2)
    | list xs => cases (show (none : Option NestedKey) = some _ from h2)
    | dict xs => cases (show (none : Option NestedKey) = some _ from h2)
    | tuple xs =>
      obtain ⟨ks, _, z⟩ := Option.map_eq_some_iff.mp (show (nkAll xs).map NestedKey.tup = some _ from h2)
      cases z
  | .str x, e, k, h1, h2 => by
    cases (show some (NestedKey.text x) = some k from h1)
    cases e with
    | none => cases (show some NestedKey.none = some (.text x) from h2)
    | bool b => cases (show (none : Option NestedKey) = some _ from h2)
    | int j => cases (show some (NestedKey.num j) = some (.text x) from h2)
    | str y => cases (show some (NestedKey.text y) = some (.text x) from h2); rfl
    | list xs => cases (show (none : Option NestedKey) = some _ from h2)
    | dict xs => cases (show (none : Option NestedKey) = some _ from h2)
    | tuple xs =>
      obtain ⟨ks, _, z⟩ := Option.map_eq_some_iff.mp (show (nkAll xs).map NestedKey.tup = some _ from h2)
      cases z
  | .tuple xs, e, k, h1, h2 => by
    obtain ⟨ks, h1', rfl⟩ := Option.map_eq_some_iff.mp (show (nkAll xs).map NestedKey.tup = some _ from h1)
    cases e with
    | none => cases (show some NestedKey.none = some (.tup ks) from h2)
    | bool b => cases (show (none : Option NestedKey) = some _ from h2)
    | int j => cases (show some (NestedKey.num j) = some (.tup ks) from h2)
    | str y => cases (show some (NestedKey.text y) = some (.tup ks) from h2)
    | list xs => cases (show (none : Option NestedKey) = some _ from h2)
    | dict xs => cases (show (none : Option NestedKey) = some _ from h2)
    | tuple ys =>
      obtain ⟨ks', h2', z⟩ := Option.map_eq_some_iff.mp (show (nkAll ys).map NestedKey.tup = some _ from h2)
      cases z
      rw [nkAll_inj xs ys ks h1' h2']
theorem nkAll_inj : ∀ (ds es : List D) (ks : List NestedKey), nkAll ds = some ks → nkAll es = some ks → ds = es
  | [], [], _, _, _ => rfl
  | [], e :: es, ks, h1, h2 => by
    obtain ⟨_, _, _, _, rfl⟩ := nkAll_cons h2
    cases (show some ([] : List NestedKey) = some _ from h1)
  | d :: ds, [], ks, h1, h2 => by
    obtain ⟨_, _, _, _, rfl⟩ := nkAll_cons h1
    cases (show some ([] : List NestedKey) = some _ from h2)
  | d :: ds, e :: es, ks, h1, h2 => by
    obtain ⟨k, ks', a1, a2, rfl⟩ := nkAll_cons h1
    obtain ⟨k', ks'', b1, b2, z⟩ := nkAll_cons h2
    cases z
    rw [nk_inj d e k a1 b1, nkAll_inj ds es ks' a2 b2]
end
section
variable {X : Cx} {pins : List (Addr × Obj)} {σ : L2.St} {H F : Hp} {s : Shared}
mutual
theorem nk_is (I : Inv X pins σ H s) (e : Ex F H) : ∀ (d : D) (v : V) (u : Value) (k : NestedKey), At X.K F v d → nkD d = some k → RelV v u → NestedIs s.heap k u
  | .none, v, u, k, a, h, r => by
    cases (show some NestedKey.none = some k from h)
    cases a
    cases (show u = Value.none from r)
    exact .none
  | .bool b, v, u, k, a, h, r => by cases (show (none : Option NestedKey) = some _ from h)
  | .list xs, v, u, k, a, h, r => by cases (show (none : Option NestedKey) = some _ from h)
  | .dict xs, v, u, k, a, h, r => by cases (show (none : Option NestedKey) = some _ from h)
  | .int i, v, u, k, a, h, r => by
    cases (show some (NestedKey.num i) = some k from h)
    cases a
    (obtain ⟨t, rfl⟩ := (show ∃ t, u = Value.int i t from r))
    exact .int i t
  | .str x, v, u, k, a, h, r => by
    cases (show some (NestedKey.text x) = some k from h)
    cases a
    (obtain ⟨t, rfl⟩ := (show ∃ t, u = Value.str x t from r))
    exact .text x t
  | .tuple ds, v, u, k, a, h, r => by
    obtain ⟨ks, h', rfl⟩ := Option.map_eq_some_iff.mp (show (nkAll ds).map NestedKey.tup = some _ from h)
    cases a with
    | tup sq al =>
      rename_i p xs
      cases (show u = Value.ref p from r)
      obtain ⟨its, rv, ⟨o, ho, hc, n, hd⟩, _⟩ := I.tuple (e.st sq)
      exact .tup ho hc hd (nkAll_is I e ds xs its ks al h' rv)
theorem nkAll_is (I : Inv X pins σ H s) (e : Ex F H) : ∀ (ds : List D) (vs : List V) (us : List Value) (ks : List NestedKey), AtAll X.K F vs ds → nkAll ds = some ks → Vals vs us → NestedAll s.heap ks us
  | [], vs, us, ks, a, h, r => by
    cases (show some ([] : List NestedKey) = some _ from h)
    cases a
    cases r
    exact .nil
  | d :: ds, vs, us, ks, a, h, r => by
    obtain ⟨k, ks', h1, h2, rfl⟩ := nkAll_cons h
    cases a with
    | cons ad al =>
      cases r with
      | cons r1 r2 => exact .cons (nk_is I e d _ _ k ad h1 r1) (nkAll_is I e ds _ _ ks' al h2 r2)
end
end
abbrev NE (β : Type) := NestedKey × Addr × β
def ndE (w : PySem.World) (x : NE Value) : DictEntry := ⟨x.1.hash w, .ref x.2.1, x.2.2⟩
def PV : NE V → NE Value → Prop := fun p q => p.1 = q.1 ∧ p.2.1 = q.2.1 ∧ RelV p.2.2 q.2.2
def NDV (w : PySem.World) (a : Addr) (xs : List (NE V)) (h : Heap) : Prop := xs.length ≤ sizeLine ∧ (a == sysModules) = false ∧ ∃ vs, Paired PV xs vs ∧ ∃ o es ep, h.get? a = some o ∧ o.ExactDict ∧ o.data = .dict es ep ∧ es.toList = vs.map (ndE w) ∧ (vs.map (·.1)).Nodup
def NDO (w : PySem.World) (a : Addr) (xs : List (NE V)) : HO := .ext (NDV w a xs)
/-- a datum whose object is a key -/
def KeyAt (K : PySem.W.Frag) (F : Hp) (b : Addr) (k : NestedKey) (d : D) : Prop := At K F (.ref b) d ∧ nkD d = some k ∧ k.depth ≤ 8
def KeysAt (K : PySem.W.Frag) (F : Hp) (xs : List (NE V)) : Prop := ∀ p ∈ xs, ∃ d, KeyAt K F p.2.1 p.1 d
theorem paired_mem {α β : Type} {R : α → β → Prop} : ∀ {xs : List α} {ys : List β} {y : β}, Paired R xs ys → y ∈ ys → ∃ x ∈ xs, R x y
  | _, _, _, .nil, h => nomatch h
  | x :: xs, z :: ys, y, .cons r t, h => by
    (rcases List.mem_cons.mp h with rfl | h)
    · exact ⟨x, List.mem_cons_self .., r⟩
    · obtain ⟨x', m, q⟩ := paired_mem t h
      exact ⟨x', List.mem_cons_of_mem _ m, q⟩
theorem nd_dict {X : Cx} {pins : List (Addr × Obj)} {σ : L2.St} {H F : Hp} {s : Shared} {a : Addr} {xs : List (NE V)} (I : Inv X pins σ H s) (e : Ex F H) (h : H a = some (NDO X.w a xs)) (hk : KeysAt X.K F xs) :
    xs.length ≤ sizeLine ∧ (a == sysModules) = false ∧ ∃ vs, Paired PV xs vs ∧ s.heap.DictOfH (nestedKind X.prog X.w) a vs := by
  obtain ⟨⟨z, hd, vs, pp, o, es, ep, ho, h1, h2, h3, h4⟩, _⟩ := (show ObjOk X.prog X.w H s.heap a (NDO X.w a xs) from I.hok a _ h)
  refine ⟨z, hd, vs, pp, o, es, ep, ho, h1, h2, h3, fun q hq => ?_, h4⟩
  obtain ⟨p, mp, e1, e2, _⟩ := paired_mem pp hq
  obtain ⟨d, a1, a2, a3⟩ := hk p mp
  rw [← e1, ← e2]
  exact ⟨nk_is I e d _ _ _ a1 a2 rfl, a3⟩
def valN (xs : List (NE V)) (k : NestedKey) : Option V := (xs.find? fun p => decide (p.1 = k)).map (·.2.2)
theorem paired_val {k : NestedKey} : ∀ {xs : List (NE V)} {vs : List (NE Value)}, Paired PV xs vs → RelO (valN xs k) ((atKey vs k).map (·.2))
  | _, _, .nil => True.intro
  | p :: ps, q :: qs, .cons ⟨h1, _, h2⟩ t => by
    by_cases e : p.1 = k
    · (have e' : q.1 = k := h1.symm.trans e)
      (have b : atKey (q :: qs) k = some q.2 := by simp [atKey, List.find?_cons, e'])
      have a : valN (p :: ps) k = some p.2.2 := by simp [valN, List.find?_cons, e]
      rw [a, b]
      exact h2
    · (have e' : ¬ q.1 = k := fun z => e (h1.trans z))
      (have b : atKey (q :: qs) k = atKey qs k := by simp [atKey, List.find?_cons, e'])
      have a : valN (p :: ps) k = valN ps k := by simp [valN, List.find?_cons, e]
      rw [a, b]
      exact paired_val t
theorem valN_some {xs : List (NE V)} {k : NestedKey} {v : V} (h : valN xs k = some v) : ∃ p ∈ xs, p.1 = k ∧ p.2.2 = v := by
  obtain ⟨p, hp, rfl⟩ := Option.map_eq_some_iff.mp h
  exact ⟨p, List.mem_of_find?_eq_some hp, by simpa using List.find?_some hp, rfl⟩
def rNotN (K : PySem.W.Frag) (w : PySem.World) : R2 := fun x y H Q => ∃ a b xs k d F, x = .ref b ∧ y = .ref a ∧ H a = some (NDO w a xs) ∧ Ex F H ∧ KeysAt K F xs ∧ KeyAt K F b k d ∧ Q (.bl (!(valN xs k).isSome)) H
section
variable {X : Cx} {od kx vx : PySem.Expr} {pos pos' : Pos} {td ty tv : TE}
theorem nd_room {A : Around} (hu : A.units + 64 < cLine) {P : Program} {w : PySem.World} : (nestedKind P w).room A.in1 := by
  show A.units + 1 + 8 < cLine
  omega
theorem op_notN (hu : X.A.units + 64 < cLine) : OpR X (compareOp .NotIn) (rNotN X.K X.w) := by
  rintro pins s σ H x y v u Q I rx ry ⟨a, b, xs, k, d, F, rfl, rfl, h, ex, hk, ⟨k1, k2, k3⟩, q⟩
  cases (show v = Value.ref b from rx)
  (cases (show u = Value.ref a from ry))
  obtain ⟨z, hd, vs, pp, dd⟩ := nd_dict I ex h hk
  refine wpAny_notIn_heap (nd_room hu) (k := k) ⟨nk_is I ex d _ _ _ k1 k2 rfl, k3⟩ hd dd ?_
  have qq := (paired_val (k := k) pp).isSome_eq
  rw [Option.isSome_map] at qq
  rw [← qq]
  exact ⟨.bl (!(valN xs k).isSome), H, I.tok _, rfl, q⟩
end
end DL
namespace DL
open PySem L2
section
variable {rs : SpD} {c : Cn} {w : PySem.World} {F H : Hp} {v0 v1 v2 : V} {a : Addr} {sc co : D} {ths : List D} {g : D → D}
/-- what the dict tells -/
def ThOk (K : PySem.W.Frag) (F : Hp) (g : D → D) (xs : List (NE V)) : Prop := ∀ p ∈ xs, ∃ d, KeyAt K F p.2.1 p.1 d ∧ At K F p.2.2 (g d)
theorem ThOk.mono {K : PySem.W.Frag} {F' : Hp} {xs : List (NE V)} (e : Ex F F') (h : ThOk K F g xs) : ThOk K F' g xs := fun p hp => let ⟨d, ⟨a, b, c⟩, z⟩ := h p hp; ⟨d, ⟨a.mono e, b, c⟩, z.mono e⟩
theorem ThOk.val {K : PySem.W.Frag} {xs : List (NE V)} {k : NestedKey} {v : V} {d : D} (h : ThOk K F g xs) (e : valN xs k = some v) (hk : nkD d = some k) : At K F v (g d) := by
  obtain ⟨p, mp, rfl, rfl⟩ := valN_some e
  obtain ⟨d', ⟨_, q, _⟩, z⟩ := h p mp
  rw [nk_inj d d' _ hk q]
  exact z
end
end DL
namespace DL
open PySem L2 PySem.Spec PyProof.Rows
end DL
namespace DL
open PySem L2 PySem.Spec PyProof.Rows
end DL
namespace DL
open PySem L2
end DL
namespace DL
open PySem L2
def rgOk (a b : Int) : Prop := -1000000 ≤ a ∧ a ≤ 1000000 ∧ -1000000 ≤ b ∧ b ≤ 1000000
theorem rgOk.ok {a b : Int} (h : rgOk a b) : RgOk a b := by
  obtain ⟨h1, h2, h3, h4⟩ := h
  exact ⟨by omega, by omega, by omega, by omega, by omega⟩
end DL
namespace DL
open PySem L2
end DL
namespace DL.Am
open PySem L2 DL
end DL.Am
namespace DL.Lz
open PySem Sem
section
variable {prog : Program} {w : PySem.World} {A : Around} {E : Value → Shared → Prop} {s : Shared} {z t u p q : Addr} {fa fb : List Addr} {na nb i : Nat} {Pa Pb : Nat → Value → Prop} {Sa Sb : Nat → Heap → Prop}
/-- where a zip stands: its parts, and no pair out or one that is alive -/
structure Zat (z t u p q L : Addr) (Sa Sb : Nat → Heap → Prop) (i : Nat) (h : Heap) : Prop where
  its : IsPair h t (.ref p) (.ref q)
  a : Sa i h
  b : Sb i h
  z : (IsZip h z t u .none ∧ ∃ x y, IsPair h u x y) ∨ ∃ (T : Addr) (f : Bool) (oT : Obj), IsZipHeld h z t u T f ∧ h.get? T = some oT ∧ T ≠ z ∧ T ≠ p ∧ T ≠ q ∧ T ≠ L
theorem Zat.keep {L : Addr} {h h' : Heap} {prog : Program} {w : PySem.World} {A : Around} (S : ZipSep2 z t u p q fa fb) (Da : Draws prog w A p fa na Pa Sa) (Db : Draws prog w A q fb nb Pb Sb) (st : Zat z t u p q L Sa Sb i h) (k : ∀ b o, b ≠ L → h.get? b = some o → h'.get? b = some o) (nz : L ≠ z) (nt : L ≠ t) (nu : L ≠ u) (na' : L ∉ fa) (nb' : L ∉ fb) : Zat z t u p q L Sa Sb i h' := by
  refine ⟨k _ _ (Ne.symm nt) st.its, Da.frame _ _ _ st.a fun b hb o e => k b o (fun x => na' (x ▸ hb)) e, Db.frame _ _ _ st.b fun b hb o e => k b o (fun x => nb' (x ▸ hb)) e, ?_⟩
  rcases st.z with ⟨hz, x0, y0, hu⟩ | ⟨T, f, oT, hz, hT, t1, t2, t3, t4⟩
  · exact .inl ⟨k _ _ (Ne.symm nz) hz, x0, y0, k _ _ (Ne.symm nu) hu⟩
  · exact .inr ⟨T, f, oT, k _ _ (Ne.symm nz) hz, k _ _ t4 hT, t1, t2, t3, t4⟩
end
end DL.Lz
namespace DL.Lz
open PySem PyProof.Rows L2 RZ
end DL.Lz
namespace DL
open PySem L2 PyProof.Rows
end DL
namespace DL.Lz
open PySem Sem PyProof.Rows L2 RZ
abbrev IsZf (h : Heap) (z t u : Addr) (v : Value) (f : Bool) : Prop := h.get? z = some { cls := .type "zip", dict := none, data := .fields #[v, .bool f, .bool false, .ref t, .ref u], slots := #[] }
section
variable {prog : Program} {w : PySem.World} {A : Around} {E : Value → Shared → Prop} {s : Shared} {z t u p q : Addr} {fa fb : List Addr} {na nb i : Nat} {Pa Pb : Nat → Value → Prop} {Sa Sb : Nat → Heap → Prop} {x0 y0 v : Value} {f : Bool}
/-- fresh, or with a pair out of which nothing is known -/
def Zn (z t u : Addr) (h : Heap) : Prop := ∃ v f, IsZf h z t u v f ∧ (v = .none ∨ ∃ T : Addr, v = rawInt T)
end
/-- how far both are gone -/
structure NmGone (z t u p q a b : Addr) (n : Nat) (h : Heap) : Prop where
  zip : Zn z t u h
  its : IsPair h t (.ref p) (.ref q)
  two : ∃ x y, IsPair h u x y
  fst : h.IsTupleIter p a n
  snd : h.IsTupleIter q b n
section
variable {z t u p q a b : Addr} {n : Nat} {h h' : Heap}
theorem NmGone.there (m : NmGone z t u p q a b n h) {c : Addr} (hc : c ∈ [z, t, u, p, q]) : ∃ o, h.get? c = some o ∧ ∀ v, o.data ≠ .cell v := by
  obtain ⟨⟨v1, f1, k1, _⟩, k2, ⟨x, y, k3⟩, ⟨o4, e4, _, f4⟩, ⟨o5, e5, _, f5⟩⟩ := m
  refine five (P := fun c => ∃ o, h.get? c = some o ∧ ∀ v, o.data ≠ .cell v) hc ⟨_, k1, nofun⟩ ⟨_, k2, nofun⟩ ⟨_, k3, nofun⟩ ⟨o4, e4, fun v e => ?_⟩ ⟨o5, e5, fun v e => ?_⟩
  · rw [f4] at e
    cases e
  · rw [f5] at e
    cases e
end
end DL.Lz
namespace DL
open PySem L2 PyProof.Rows
def Zk (H : Hp) (v : V) : Prop := ∃ (a : Addr) (o : Obj) (u : HO), v = .ref a ∧ H a = some (.frz o u) ∧ o.cls = .type "tuple" ∧ o.dict = none
/-- what a def promises that hands out such a tuple -/
def spZ (K : PySem.W.Frag) (R : Orc) (n : Nat) (S : SpD) : Sp := fun vs H Q _ => ∃ (q : Option Addr) (F : Hp) (as : List Ar) (m : Nat) (P : D → Nat → Prop), World R q F H F H ∧ Paired (ArAt ⟨K, R, q, F, H⟩ F) vs as ∧ as.length = n ∧ oraAt as ∧ (q = none ∨ as[0]? = some .ora) ∧ (∀ p, q = some p → R.cnt p H ≤ m) ∧ S as m P ∧
  ∀ d m' v F' H', P d m' → World R q F H F' H' → (∀ p, q = some p → R.cnt p H' ≤ m') → At K F' v d → Zk H' v → Q v H'
def CdZ (pr : Program) (wd : PySem.World) (K : PySem.W.Frag) (gl : Str → Option Value) (bas : Heap) (R : Orc) (k : Nat) (x : Str) (n : Nat) (S : SpD) : Prop :=
  ∃ (f : Addr) (fd : FuncData) (ps : List Str), FnG pr wd K gl bas k f fd ps (spZ K R n S) ∧ gl x = some (.ref f) ∧ PySem.W.keepIn K (.ref f) = true ∧ Binds K fd ps []
section
variable {pr : Program} {wd : PySem.World} {K : PySem.W.Frag} {gl : Str → Option Value} {bas : Heap} {R : Orc} {j k n : Nat} {x : Str} {S : SpD}
theorem CdZ.more (C : CdZ pr wd K gl bas R j x n S) (h : j ≤ k) : CdZ pr wd K gl bas R k x n S := by
  obtain ⟨f, fd, ps, F, rest⟩ := C
  exact ⟨f, fd, ps, F.more h, rest⟩
end
end DL
namespace DL.Ms
open PySem L2 PySem.Spec PyProof.Rows
end DL.Ms
namespace DL
open PySem L2 PySem.Spec PyProof.Rows
end DL
namespace DL
open PySem L2
def jnR (sc o1 o2 : D) (s5 s6 s7 s8 s9 s10 s11 : Sl) : DL.Env := [.im sc, .im o1, .im o2, .no, .no, s5, s6, s7, s8, s9, s10, s11]
end DL
namespace DL
open PySem L2
end DL
namespace DL
open PySem L2 PyProof.Rows
abbrev TD := List (List Key × D)
/-- what stands in the heap's dict, entry by entry -/
def TAt (K : PySem.W.Frag) (F : Hp) (kvs : List (List Key × V)) (xs : TD) : Prop := Paired (fun (p : List Key × V) (q : List Key × D) => p.1 = q.1 ∧ At K F p.2 q.2) kvs xs
section
variable {K : PySem.W.Frag} {F F' H : Hp} {a : Addr}
theorem TAt.mono (e : Ex F F') {kvs : List (List Key × V)} {xs : TD} (h : TAt K F kvs xs) : TAt K F' kvs xs := by
  unfold TAt at h ⊢
  induction h with
  | nil => exact .nil
  | cons h t ih => exact .cons ⟨h.1, h.2.mono e⟩ ih
end
end DL
namespace DL
open PySem L2
end DL
namespace DL
open PySem L2
section
variable {X : Cx} {c : Cn}
/-- arguments, some of them slots -/
abbrev Ar2 := Ar ⊕ Nat
abbrev AM2 := Env → (List Ar2 → Env → Prop) → Prop
def A2At (c : Cn) (F : Hp) (σ : L2.St) : V → Ar2 → Prop
  | v, .inl x => ArAt c F v x
  | v, .inr i => σ[i]? = some (some v)
theorem A2At.mono {F F' : Hp} {σ : L2.St} (e : Ex F F') {v : V} {x : Ar2} (h : A2At c F σ v x) : A2At c F' σ v x := by
  cases x with
  | inl x => exact ArAt.mono e h
  | inr i => exact h
variable {e : Expr} {es : List Expr}
variable {k : Nat} {f : Addr} {fd : FuncData} {ps : List Str} {S : SpD} {x : Str} {p pos : Pos} {fa : AM2} {n i : Nat}
end
end DL
namespace DL
open PySem L2
end DL
namespace DL
open PySem L2
end DL
namespace DL
open PySem L2 PyProof.Rows
end DL
namespace Q23
open PySem L2 DL
/-- the law's numbers: some integer below the total -/
def s_next : SpD := fun as m P => ∃ n : Int, as = [.ora, .d (.int n)] ∧ 0 < n ∧ n < 1073741824 ∧ m < 1048576 ∧ ∀ i : Int, 0 ≤ i → i < n → P (.int i) (m + 1)
/-- rolling_rows(mode), slots 0 mode -/
def g_rolling_rows : SM := sSeq (sIf (bD (d2 gEq (hV (dSl (hS 0) (oNo) (oI (dNeg (dC (.int 1)))))) (hV (dC (.str ("roll" : Str)))))) (sRet (dCB gIntU (DL.gCons (hV (d2 gIx (hS 0) (hV (dNeg (dC (.int 1)))))) (DL.gNil)))) (sNo)) (sRet (dC (.int 0)))
def r_rolling_rows : SpD := raw g_rolling_rows 1
/-- control_behind(screen, control, code), slots 0 screen 1 control 2 code 3 word 4 rows 5 columns 6 mode 7 row 8 column -/
def g_control_behind : SM := sSeq (sAsg (dV 0) (gTupT 2 (gConsT (gN 4) (gConsT (gN 5) (gNoT))))) (sSeq (sAsg (dV 1) (gTupT 3 (gConsT (gN 6) (gConsT (gN 7) (gConsT (gN 8) (gNoT)))))) (sSeq (sSet 3 (d2 gIx (hS 2) (hV (dC (.int 0))))) (sSeq (sIf (bD (d2 gEq (hS 3) (hV (dC (.str ("put" : Str)))))) (sRet (dTup (lCons (dV 6) (lCons (dV 7) (lCons (dCB gMin (DL.gCons (hV (d2 gAdd (hS 8) (hV (dC (.int 1))))) (DL.gCons (hV (d2 DL.gSub (hS 5) (hV (dC (.int 1))))) (DL.gNil)))) (lNil)))))) (sNo)) (sSeq (sIf (bD (d2 gEq (hS 3) (hV (dC (.str ("at" : Str)))))) (sRet (dTup (lCons (dV 6) (lCons (d2 gIx (hS 2) (hV (dC (.int 1)))) (lCons (d2 gIx (hS 2) (hV (dC (.int 2)))) (lNil)))))) (sNo)) (sSeq (sIf (bD (d2 gInU (hS 3) (hV (dTup (lCons (dC (.str ("hide" : Str))) (lCons (dC (.str ("paint" : Str))) (lNil))))))) (sRet (dTup (lCons (dV 3) (lCons (dV 7) (lCons (dV 8) (lNil)))))) (sNo)) (sSeq (sIf (bD (d2 gEq (hS 3) (hV (dC (.str ("roll" : Str)))))) (sRet (dTup (lCons (dJs [dFmt (dC (.str ("roll" : Str))), dFmt (d2 gIx (hS 2) (hV (dC (.int 1))))] "") (lCons (d2 DL.gSub (hS 4) (hV (dC (.int 1)))) (lCons (dC (.int 0)) (lNil)))))) (sNo)) (sSeq (sIf (bD (d2 gEq (hS 3) (hV (dC (.str ("line" : Str)))))) (sSeq (sIf (bD (d2 gGt (hV (dCall 1 r_rolling_rows (aCons (dV 6) (aNil)))) (hV (dC (.int 0))))) (sRet (dTup (lCons (dV 6) (lCons (d2 DL.gSub (hS 4) (hV (dC (.int 1)))) (lCons (dC (.int 0)) (lNil)))))) (sNo)) (sRet (dTup (lCons (dV 6) (lCons (dCB gMin (DL.gCons (hV (d2 gAdd (hS 7) (hV (dC (.int 1))))) (DL.gCons (hV (d2 DL.gSub (hS 4) (hV (dC (.int 1))))) (DL.gNil)))) (lCons (dC (.int 0)) (lNil))))))) (sNo)) (sSeq (sIf (bD (d2 gEq (hS 3) (hV (dC (.str ("swap" : Str)))))) (sRet (dTup (lCons (dC (.str ("hide" : Str))) (lCons (dV 7) (lCons (dV 8) (lNil)))))) (sNo)) (sSeq (sIf (bD (d2 gEq (hS 3) (hV (dC (.str ("rub" : Str)))))) (sRet (dTup (lCons (dV 6) (lCons (dV 7) (lCons (dCB gMax (DL.gCons (hV (d2 DL.gSub (hS 8) (hV (dC (.int 1))))) (DL.gCons (hV (dC (.int 0))) (DL.gNil)))) (lNil)))))) (sNo)) (sRet (dV 1)))))))))))
def r_control_behind : SpD := raw g_control_behind 9
/-- cursor_cell(screen, control), slots 0 screen 1 control 2 rows 3 columns 4 mode 5 row 6 column -/
def g_cursor_cell : SM := sSeq (sAsg (dV 0) (gTupT 2 (gConsT (gN 2) (gConsT (gN 3) (gNoT))))) (sSeq (sAsg (dV 1) (gTupT 3 (gConsT (gN 4) (gConsT (gN 5) (gConsT (gN 6) (gNoT)))))) (sSeq (sIf (bD (d2 gEq (hS 4) (hV (dC (.str ("hide" : Str)))))) (sAug 5 gIadd (hS 2)) (sNo)) (sRet (d2 gAdd (hV (d2 gMul (hS 5) (hS 3))) (hS 6)))))
def r_cursor_cell : SpD := raw g_cursor_cell 7
/-- with_cells(cells, place, others), slots 0 cells 1 place 2 others -/
def g_with_cells : SM := sRet (d2 gAdd (hV (d2 gAdd (hV (dSl (hS 0) (oNo) (oI (dV 1)))) (hS 2))) (hV (dSl (hS 0) (oI (d2 gAdd (hS 1) (hV (dCB gLen (DL.gCons (hS 2) (DL.gNil)))))) (oNo))))
def r_with_cells : SpD := raw g_with_cells 3
/-- cells_behind(screen, control, cells, code), slots 0 screen 1 control 2 cells 3 code 4 half 5 word 6 place 7 rows 8 columns 9 mode 10 _ 11 column 12 top -/
def g_cells_behind : SM := sSeq (sAsg (dV 0) (gTupT 2 (gConsT (gN 7) (gConsT (gN 8) (gNoT))))) (sSeq (sSet 4 (d2 gMul (hS 7) (hS 8))) (sSeq (sAsg (dV 1) (gTupT 3 (gConsT (gN 9) (gConsT (gN 10) (gConsT (gN 11) (gNoT)))))) (sSeq (sSet 5 (d2 gIx (hS 3) (hV (dC (.int 0))))) (sSeq (sSet 6 (dCall 2 r_cursor_cell (aCons (dV 0) (aCons (dV 1) (aNil))))) (sSeq (sIf (bD (d2 gEq (hS 5) (hV (dC (.str ("put" : Str)))))) (sRet (dCall 3 r_with_cells (aCons (dV 2) (aCons (dV 6) (aCons (dTup (lCons (d2 gIx (hS 3) (hV (dC (.int 1)))) (lNil))) (aNil)))))) (sNo)) (sSeq (sIf (bAnd (bD (d2 gEq (hS 5) (hV (dC (.str ("rub" : Str)))))) (bD (d2 gGt (hS 11) (hV (dC (.int 0)))))) (sRet (dCall 3 r_with_cells (aCons (dV 2) (aCons (d2 DL.gSub (hS 6) (hV (dC (.int 1)))) (aCons (dTup (lCons (dC (.str (" " : Str))) (lNil))) (aNil)))))) (sNo)) (sSeq (sIf (bD (d2 gEq (hS 5) (hV (dC (.str ("tail" : Str)))))) (sRet (dCall 3 r_with_cells (aCons (dV 2) (aCons (dV 6) (aCons (d2 gMulT (hV (dTup (lCons (dC (.str (" " : Str))) (lNil)))) (hV (d2 DL.gSub (hS 8) (hS 11)))) (aNil)))))) (sNo)) (sSeq (sIf (bAnd (bD (d2 gEq (hS 5) (hV (dC (.str ("line" : Str)))))) (bD (d2 gGt (hV (dCall 1 r_rolling_rows (aCons (dV 9) (aNil)))) (hV (dC (.int 0)))))) (sSeq (sSet 12 (d2 gMul (hV (d2 DL.gSub (hS 7) (hV (dCall 1 r_rolling_rows (aCons (dV 9) (aNil)))))) (hS 8))) (sRet (d2 gAdd (hV (d2 gAdd (hV (d2 gAdd (hV (dSl (hS 2) (oNo) (oI (dV 12)))) (hV (dSl (hS 2) (oI (d2 gAdd (hS 12) (hS 8))) (oI (dV 4)))))) (hV (d2 gMulT (hV (dTup (lCons (dC (.str (" " : Str))) (lNil)))) (hS 8))))) (hV (dSl (hS 2) (oI (dV 4)) (oNo)))))) (sNo)) (sSeq (sIf (bD (d2 gEq (hS 5) (hV (dC (.str ("swap" : Str)))))) (sRet (d2 gAdd (hV (dSl (hS 2) (oI (dV 4)) (oNo))) (hV (dSl (hS 2) (oNo) (oI (dV 4)))))) (sNo)) (sSeq (sIf (bD (d2 gEq (hS 5) (hV (dC (.str ("wipe" : Str)))))) (sRet (dCall 3 r_with_cells (aCons (dV 2) (aCons (dC (.int 0)) (aCons (d2 gMulT (hV (dTup (lCons (dC (.str (" " : Str))) (lNil)))) (hS 4)) (aNil)))))) (sNo)) (sSeq (sIf (bD (d2 gEq (hS 5) (hV (dC (.str ("clear" : Str)))))) (sRet (dCall 3 r_with_cells (aCons (dV 2) (aCons (dV 4) (aCons (d2 gMulT (hV (dTup (lCons (dC (.str (" " : Str))) (lNil)))) (hS 4)) (aNil)))))) (sNo)) (sRet (dV 2)))))))))))))
def r_cells_behind : SpD := raw g_cells_behind 13
/-- stepped(screen, control, cells, code), slots 0 screen 1 control 2 cells 3 code -/
def g_stepped : SM := sRet (dTup (lCons (dCall 3 r_control_behind (aCons (dV 0) (aCons (dV 1) (aCons (dV 3) (aNil))))) (lCons (dCall 4 r_cells_behind (aCons (dV 0) (aCons (dV 1) (aCons (dV 2) (aCons (dV 3) (aNil)))))) (lNil))))
def r_stepped : SpD := raw g_stepped 4
/-- is_integer(thing), slots 0 thing -/
def g_is_integer : SM := sRet (dAnd (dIsi "int" (hS 0)) (dNot (dIsi "bool" (hS 0))))
def r_is_integer : SpD := raw g_is_integer 1
/-- is_within(thing, least, most), slots 0 thing 1 least 2 most -/
def g_is_within : SM := sRet (dAnd (dCall 1 r_is_integer (aCons (dV 0) (aNil))) (dChain gLe gLe (hS 1) (hS 0) (hS 2)))
def r_is_within : SpD := raw g_is_within 3
/-- is_tuple(thing, least, most), slots 0 thing 1 least 2 most -/
def g_is_tuple : SM := sRet (dAnd (dIsi "tuple" (hS 0)) (dChain gLe gLe (hS 1) (hV (dCB gLen (DL.gCons (hS 0) (DL.gNil)))) (hS 2)))
def r_is_tuple : SpD := raw g_is_tuple 3
/-- is_one_of(thing, words), slots 0 thing 1 words -/
def g_is_one_of : SM := sRet (dAnd (dIsi "str" (hS 0)) (d2 gInU (hS 0) (hS 1)))
def r_is_one_of : SpD := raw g_is_one_of 2
/-- is_sign(sign, lowest), slots 0 sign 1 lowest -/
def g_is_sign : SM := sRet (dAnd (dChain gLe gLe (hS 1) (hV (dCB gOrd (DL.gCons (hS 0) (DL.gNil)))) (hV (dC (.int 126)))) (d2 gNe (hV (dCB gOrd (DL.gCons (hS 0) (DL.gNil)))) (hV (dC (.int 37)))))
def r_is_sign : SpD := raw g_is_sign 2
/-- has_signs(thing, lowest), slots 0 thing 1 lowest 2 sign -/
def g_has_signs : SM := sSeq (sIf (bOr (bNot (bTruth (hV (dIsi "str" (hS 0))))) (bNot (bD (dChain gLe gLe (hV (dC (.int 1))) (hV (dCB gLen (DL.gCons (hS 0) (DL.gNil)))) (hV (dC (.int 40))))))) (sRet (dC (.bool false))) (sNo)) (sRet (dCB gAll (DL.gCons (hV (dLc (iSeq (dV 0)) (gN 2) (bYes) (dCall 2 r_is_sign (aCons (dV 2) (aCons (dV 1) (aNil)))) [2])) (DL.gNil))))
def r_has_signs : SpD := raw g_has_signs 3
/-- need_screen(screen), slots 0 screen -/
def g_need_screen : SM := sSeq (sIf (bNot (bAnd (bTruth (hV (dCall 3 r_is_tuple (aCons (dV 0) (aCons (dC (.int 2)) (aCons (dC (.int 2)) (aNil))))))) (bAnd (bTruth (hV (dCall 3 r_is_within (aCons (d2 gIx (hS 0) (hV (dC (.int 0)))) (aCons (dC (.int 1)) (aCons (dC (.int 4)) (aNil))))))) (bTruth (hV (dCall 3 r_is_within (aCons (d2 gIx (hS 0) (hV (dC (.int 1)))) (aCons (dC (.int 1)) (aCons (dC (.int 40)) (aNil)))))))))) (sNever) (sNo)) (sRet (dV 0))
def r_need_screen : SpD := raw g_need_screen 1
/-- blank(screen), slots 0 screen 1 rows 2 columns -/
def g_blank : SM := sSeq (sExpr (dCall 1 r_need_screen (aCons (dV 0) (aNil)))) (sSeq (sAsg (dV 0) (gTupT 2 (gConsT (gN 1) (gConsT (gN 2) (gNoT))))) (sRet (d2 gMulT (hV (dTup (lCons (d2 gMulS (hV (dC (.str (" " : Str)))) (hS 2)) (lNil)))) (hS 1))))
def r_blank : SpD := raw g_blank 3
/-- is_cell_sign(thing), slots 0 thing -/
def g_is_cell_sign : SM := sRet (dAnd (dIsi "str" (hS 0)) (dAnd (d2 gEq (hV (dCB gLen (DL.gCons (hS 0) (DL.gNil)))) (hV (dC (.int 1)))) (dCall 2 r_is_sign (aCons (dV 0) (aCons (dC (.int 32)) (aNil))))))
def r_is_cell_sign : SpD := raw g_is_cell_sign 1
/-- is_code_of(screen, value), slots 0 screen 1 value 2 word 3 rows 4 columns -/
def g_is_code_of : SM := sSeq (sAsg (dV 0) (gTupT 2 (gConsT (gN 3) (gConsT (gN 4) (gNoT))))) (sSeq (sIf (bOr (bNot (bTruth (hV (dCall 3 r_is_tuple (aCons (dV 1) (aCons (dC (.int 1)) (aCons (dC (.int 3)) (aNil)))))))) (bNot (bTruth (hV (dIsi "str" (hV (d2 gIx (hS 1) (hV (dC (.int 0)))))))))) (sRet (dC (.bool false))) (sNo)) (sSeq (sSet 2 (d2 gIx (hS 1) (hV (dC (.int 0))))) (sSeq (sIf (bD (d2 gEq (hV (dCB gLen (DL.gCons (hS 1) (DL.gNil)))) (hV (dC (.int 1))))) (sRet (d2 gInU (hS 2) (hV (dC (.tuple ([("hide" : Str), ("paint" : Str), ("line" : Str), ("swap" : Str), ("wipe" : Str), ("clear" : Str), ("rub" : Str), ("tail" : Str), ("idle" : Str)].map PyData.str)))))) (sNo)) (sSeq (sIf (bD (d2 gEq (hV (dCB gLen (DL.gCons (hS 1) (DL.gNil)))) (hV (dC (.int 2))))) (sRet (dOr (dAnd (d2 gEq (hS 2) (hV (dC (.str ("put" : Str))))) (dCall 1 r_is_cell_sign (aCons (d2 gIx (hS 1) (hV (dC (.int 1)))) (aNil)))) (dAnd (d2 gEq (hS 2) (hV (dC (.str ("roll" : Str))))) (dCall 3 r_is_within (aCons (d2 gIx (hS 1) (hV (dC (.int 1)))) (aCons (dC (.int 1)) (aCons (dV 3) (aNil)))))))) (sNo)) (sRet (dAnd (d2 gEq (hS 2) (hV (dC (.str ("at" : Str))))) (dAnd (dCall 3 r_is_within (aCons (d2 gIx (hS 1) (hV (dC (.int 1)))) (aCons (dC (.int 0)) (aCons (d2 DL.gSub (hS 3) (hV (dC (.int 1)))) (aNil))))) (dCall 3 r_is_within (aCons (d2 gIx (hS 1) (hV (dC (.int 2)))) (aCons (dC (.int 0)) (aCons (d2 DL.gSub (hS 4) (hV (dC (.int 1)))) (aNil))))))))))))
def r_is_code_of : SpD := raw g_is_code_of 5
/-- is_code(screen, value), slots 0 screen 1 value -/
def g_is_code : SM := sSeq (sExpr (dCall 1 r_need_screen (aCons (dV 0) (aNil)))) (sRet (dCall 2 r_is_code_of (aCons (dV 0) (aCons (dV 1) (aNil)))))
def r_is_code : SpD := raw g_is_code 2
/-- first_state(screen), slots 0 screen 1 empty -/
def g_first_state : SM := sSeq (sSet 1 (dCall 1 r_blank (aCons (dV 0) (aNil)))) (sRet (dTup (lCons (dC (.str ("hide" : Str))) (lCons (dC (.int 0)) (lCons (dC (.int 0)) (lCons (dV 1) (lCons (dV 1) (lNil))))))))
def r_first_state : SpD := raw g_first_state 2
/-- need_codes(screen, codes, least, most), slots 0 screen 1 codes 2 least 3 most 4 number 5 code -/
def g_need_codes : SM := sSeq (sIf (bNot (bTruth (hV (dCall 3 r_is_tuple (aCons (dV 1) (aCons (dV 2) (aCons (dV 3) (aNil)))))))) (sNever) (sNo)) (sFor (iEn (lCons (dV 1) (lNil))) (gTupT 2 (gConsT (gN 4) (gConsT (gN 5) (gNoT)))) (sIf (bNot (bTruth (hV (dCall 2 r_is_code_of (aCons (dV 0) (aCons (dV 5) (aNil))))))) (sNever) (sNo)))
def r_need_codes : SpD := raw g_need_codes 6
/-- cells_of(state), slots 0 state -/
def g_cells_of : SM := sRet (dCB gTupS (DL.gCons (hV (dJoin (dC (.str ("" : Str))) (d2 gAdd (hV (d2 gIx (hS 0) (hV (dC (.int 3))))) (hV (d2 gIx (hS 0) (hV (dC (.int 4)))))))) (DL.gNil)))
def r_cells_of : SpD := raw g_cells_of 1
/-- memory_of(screen, cells, first), slots 0 screen 1 cells 2 first 3 rows 4 columns 5 row -/
def g_memory_of : SM := sSeq (sAsg (dV 0) (gTupT 2 (gConsT (gN 3) (gConsT (gN 4) (gNoT))))) (sRet (dCB gTuple (DL.gCons (hV (dLc (iRange2 (lCons (dV 2) (lCons (d2 gAdd (hS 2) (hS 3)) (lNil)))) (gN 5) (bYes) (dJoin (dC (.str ("" : Str))) (dSl (hS 1) (oI (d2 gMul (hS 5) (hS 4))) (oI (d2 gMul (hV (d2 gAdd (hS 5) (hV (dC (.int 1))))) (hS 4))))) [5])) (DL.gNil))))
def r_memory_of : SpD := raw g_memory_of 6
/-- pictures(screen, codes), slots 0 screen 1 codes 2 state 3 control 4 cells 5 found 6 code -/
def g_pictures : SM := sSeq (sSet 2 (dCall 1 r_first_state (aCons (dV 0) (aNil)))) (sSeq (sExpr (dCallD 2 [PyData.int 0, PyData.int 2000] r_need_codes (aCons (dV 0) (aCons (dV 1) (aNil))))) (sSeq (sSet 3 (dSl (hS 2) (oNo) (oI (dC (.int 3))))) (sSeq (sSet 4 (dCall 1 r_cells_of (aCons (dV 2) (aNil)))) (sSeq (sSetN 5 (dLst (lNil))) (sSeq (sFor (iSeq (dV 1)) (gN 6) (sSeq (sAsg (dCall 4 r_stepped (aCons (dV 0) (aCons (dV 3) (aCons (dV 4) (aCons (dV 6) (aNil)))))) (gTupT 2 (gConsT (gN 3) (gConsT (gN 4) (gNoT))))) (sApp 5 (dCall 3 r_memory_of (aCons (dV 0) (aCons (dV 4) (aCons (dC (.int 0)) (aNil)))))))) (sRet (dCB gTuple (DL.gCons (hS 5) (DL.gNil)))))))))
def r_pictures : SpD := raw g_pictures 7
/-- are_codes(screen, value, least, most), slots 0 screen 1 value 2 least 3 most 4 code -/
def g_are_codes : SM := sRet (dAnd (dCall 3 r_is_tuple (aCons (dV 1) (aCons (dV 2) (aCons (dV 3) (aNil))))) (dCB gAll (DL.gCons (hV (dLc (iSeq (dV 1)) (gN 4) (bYes) (dCall 2 r_is_code_of (aCons (dV 0) (aCons (dV 4) (aNil)))) [4])) (DL.gNil))))
def r_are_codes : SpD := raw g_are_codes 5
/-- _is_line(thing), slots 0 thing -/
def g__is_line : SM := sRet (dAnd (dCall 2 r_has_signs (aCons (dV 0) (aCons (dC (.int 32)) (aNil)))) (dAnd (d2 gNe (hV (d2 gIx (hS 0) (hV (dC (.int 0))))) (hV (dC (.str (" " : Str))))) (d2 gNe (hV (d2 gIx (hS 0) (hV (dNeg (dC (.int 1)))))) (hV (dC (.str (" " : Str)))))))
def r__is_line : SpD := raw g__is_line 1
/-- is_text(thing), slots 0 thing 1 line -/
def g_is_text : SM := sRet (dAnd (dCall 3 r_is_tuple (aCons (dV 0) (aCons (dC (.int 1)) (aCons (dC (.int 4)) (aNil))))) (dCB gAll (DL.gCons (hV (dLc (iSeq (dV 0)) (gN 1) (bYes) (dCall 1 r__is_line (aCons (dV 1) (aNil))) [1])) (DL.gNil))))
def r_is_text : SpD := raw g_is_text 2
/-- _has_room(screen, thing), slots 0 screen 1 thing 2 rows 3 columns 4 line -/
def g__has_room : SM := sSeq (sAsg (dV 0) (gTupT 2 (gConsT (gN 2) (gConsT (gN 3) (gNoT))))) (sRet (dAnd (dCall 1 r_is_text (aCons (dV 1) (aNil))) (dAnd (d2 gLe (hV (dCB gLen (DL.gCons (hS 1) (DL.gNil)))) (hS 2)) (dCB gAll (DL.gCons (hV (dLc (iSeq (dV 1)) (gN 4) (bYes) (d2 gLe (hV (dCB gLen (DL.gCons (hS 4) (DL.gNil)))) (hS 3)) [4])) (DL.gNil))))))
def r__has_room : SpD := raw g__has_room 5
/-- _is_sendable(screen, thing), slots 0 screen 1 thing -/
def g__is_sendable : SM := sSeq (sIf (bOr (bNot (bTruth (hV (dCall 3 r_is_tuple (aCons (dV 1) (aCons (dC (.int 3)) (aCons (dC (.int 3)) (aNil)))))))) (bNot (bTruth (hV (dCall 3 r_is_within (aCons (d2 gIx (hS 1) (hV (dC (.int 0)))) (aCons (dC (.int 0)) (aCons (dC (.int 1999)) (aNil))))))))) (sRet (dC (.bool false))) (sNo)) (sRet (dAnd (dCall 3 r_is_within (aCons (d2 gIx (hS 1) (hV (dC (.int 1)))) (aCons (d2 gAdd (hV (d2 gIx (hS 1) (hV (dC (.int 0))))) (hV (dC (.int 1)))) (aCons (dC (.int 1999)) (aNil))))) (dCall 2 r__has_room (aCons (dV 0) (aCons (d2 gIx (hS 1) (hV (dC (.int 2)))) (aNil))))))
def r__is_sendable : SpD := raw g__is_sendable 2
/-- _need_cues(screen, cues), slots 0 screen 1 cues 2 free 3 number 4 cue -/
def g__need_cues : SM := sSeq (sExpr (dCall 1 r_need_screen (aCons (dV 0) (aNil)))) (sSeq (sIf (bNot (bTruth (hV (dCall 3 r_is_tuple (aCons (dV 1) (aCons (dC (.int 0)) (aCons (dC (.int 200)) (aNil)))))))) (sNever) (sNo)) (sSeq (sSet 2 (dC (.int 0))) (sFor (iEn (lCons (dV 1) (lNil))) (gTupT 2 (gConsT (gN 3) (gConsT (gN 4) (gNoT)))) (sSeq (sIf (bOr (bNot (bTruth (hV (dCall 2 r__is_sendable (aCons (dV 0) (aCons (dV 4) (aNil))))))) (bD (d2 gLt (hV (d2 gIx (hS 4) (hV (dC (.int 0))))) (hS 2)))) (sNever) (sNo)) (sSet 2 (d2 gIx (hS 4) (hV (dC (.int 1)))))))))
def r__need_cues : SpD := raw g__need_cues 5
/-- _free_frames(ahead, start), slots 0 ahead 1 start 2 between -/
def g__free_frames : SM := sSeq (sIf (bD (d2 gIs (hS 0) (hV (dC .none)))) (sRet (dV 1)) (sNo)) (sSeq (sSet 2 (d2 DL.gSub (hV (d2 DL.gSub (hS 1) (hV (d2 gIx (hS 0) (hV (dC (.int 0))))))) (hV (dC (.int 1))))) (sSeq (sIf (bD (d2 gLt (hV (d2 gIx (hS 0) (hV (dC (.int 1))))) (hS 1))) (sRet (d2 DL.gSub (hS 2) (hV (dC (.int 1))))) (sNo)) (sRet (dV 2))))
def r__free_frames : SpD := raw g__free_frames 3
/-- _load_of(text), slots 0 text 1 codes 2 row 3 line 4 sign -/
def g__load_of : SM := sSeq (sSetN 1 (dLst (lCons (dTup (lCons (dC (.str ("hide" : Str))) (lNil))) (lCons (dTup (lCons (dC (.str ("clear" : Str))) (lNil))) (lNil))))) (sSeq (sFor (iEn (lCons (dV 0) (lNil))) (gTupT 2 (gConsT (gN 2) (gConsT (gN 3) (gNoT)))) (sSeq (sApp 1 (dTup (lCons (dC (.str ("at" : Str))) (lCons (dV 2) (lCons (dC (.int 0)) (lNil)))))) (sExt 1 (dLc (iSeq (dV 3)) (gN 4) (bYes) (dTup (lCons (dC (.str ("put" : Str))) (lCons (dV 4) (lNil)))) [4])))) (sRet (dCB gTuple (DL.gCons (hS 1) (DL.gNil)))))
def r__load_of : SpD := raw g__load_of 5
/-- _first_short(cues), slots 0 cues 1 ahead 2 number 3 cue -/
def g__first_short : SM := sSeq (sSet 1 (dC .none)) (sSeq (sFor (iEn (lCons (dV 0) (lNil))) (gTupT 2 (gConsT (gN 2) (gConsT (gN 3) (gNoT)))) (sSeq (sIf (bD (d2 gLt (hV (dCall 2 r__free_frames (aCons (dV 1) (aCons (d2 gIx (hS 3) (hV (dC (.int 0)))) (aNil))))) (hV (dCB gLen (DL.gCons (hV (dCall 1 r__load_of (aCons (d2 gIx (hS 3) (hV (dC (.int 2)))) (aNil)))) (DL.gNil)))))) (sRet (dV 2)) (sNo)) (sSet 1 (dV 3)))) (sRet (dC .none)))
def r__first_short : SpD := raw g__first_short 4
/-- _stream_of(cues), slots 0 cues 1 codes 2 start 3 end 4 _ 5 text 6 left 7 frame 8 code -/
def g__stream_of : SM := sSeq (sIf (bNot (bTruth (hS 0))) (sRet (dTup (lNil))) (sNo)) (sSeq (sSetN 1 (dRep (dLst (lCons (dC .none) (lNil))) (d2 gAdd (hV (d2 gIx (hV (d2 gIx (hS 0) (hV (dNeg (dC (.int 1)))))) (hV (dC (.int 1))))) (hV (dC (.int 1)))))) (sSeq (sFor (iSeq (dV 0)) (gTupT 3 (gConsT (gN 2) (gConsT (gN 3) (gConsT (gN 4) (gNoT))))) (sSeq (sPut 1 (dV 2) (dTup (lCons (dC (.str ("swap" : Str))) (lNil)))) (sPut 1 (dV 3) (dTup (lCons (dC (.str ("wipe" : Str))) (lNil)))))) (sSeq (sFor (iSeq (dV 0)) (gTupT 3 (gConsT (gN 2) (gConsT (gN 4) (gConsT (gN 5) (gNoT))))) (sSeq (sSetN 6 (dCB gList (DL.gCons (hV (dCall 1 r__load_of (aCons (dV 5) (aNil)))) (DL.gNil)))) (sSeq (sSet 7 (d2 DL.gSub (hS 2) (hV (dC (.int 1))))) (sWhile (bTruth (hS 6)) (sSeq (sIf (bD (d2 gIs (hV (d2 gIx (hS 1) (hS 7))) (hV (dC .none)))) (sPut 1 (dV 7) (dPop 6)) (sNo)) (sAug 7 gIsub (hV (dC (.int 1))))))))) (sRet (dCB gTuple (DL.gCons (hV (dLc (iSeq (dV 1)) (gN 8) (bYes) (dIf (bD (d2 gIs (hS 8) (hV (dC .none)))) (dTup (lCons (dC (.str ("idle" : Str))) (lNil))) (dV 8)) [8])) (DL.gNil)))))))
def r__stream_of : SpD := raw g__stream_of 9
/-- send_paper(screen, cues), slots 0 screen 1 cues 2 short -/
def g_send_paper : SM := sSeq (sExpr (dCall 2 r__need_cues (aCons (dV 0) (aCons (dV 1) (aNil))))) (sSeq (sSet 2 (dCall 1 r__first_short (aCons (dV 1) (aNil)))) (sSeq (sIf (bD (d2 gIsNot (hS 2) (hV (dC .none)))) (sRet (dTup (lCons (dC (.str ("short" : Str))) (lCons (dV 2) (lNil))))) (sNo)) (sRet (dTup (lCons (dC (.str ("stream" : Str))) (lCons (dCall 1 r__stream_of (aCons (dV 1) (aNil))) (lNil)))))))
def r_send_paper : SpD := raw g_send_paper 3
/-- _picture_of(screen, text), slots 0 screen 1 text 2 empty 3 lines 4 rows 5 columns 6 line -/
def g__picture_of : SM := sSeq (sAsg (dV 0) (gTupT 2 (gConsT (gN 4) (gConsT (gN 5) (gNoT))))) (sSeq (sSet 2 (d2 gMulS (hV (dC (.str (" " : Str)))) (hS 5))) (sSeq (sSet 3 (dLc (iSeq (dV 1)) (gN 6) (bYes) (dSl (hV (d2 gAdd (hS 6) (hS 2))) (oNo) (oI (dV 5))) [6])) (sRet (dCB gTuple (DL.gCons (hV (d2 gAdd (hS 3) (hV (d2 gMul (hV (dLst (lCons (dV 2) (lNil)))) (hV (d2 DL.gSub (hS 4) (hV (dCB gLen (DL.gCons (hS 3) (DL.gNil)))))))))) (DL.gNil))))))
def r__picture_of : SpD := raw g__picture_of 7
/-- _sends(screen, cues, thing), slots 0 screen 1 cues 2 thing 3 many 4 told 5 start 6 end 7 text -/
def g__sends : SM := sSeq (sSet 3 (dC (.int 0))) (sSeq (sIf (bTruth (hS 1)) (sSet 3 (d2 gAdd (hV (d2 gIx (hV (d2 gIx (hS 1) (hV (dNeg (dC (.int 1)))))) (hV (dC (.int 1))))) (hV (dC (.int 1))))) (sNo)) (sSeq (sIf (bNot (bTruth (hV (dCall 4 r_are_codes (aCons (dV 0) (aCons (dV 2) (aCons (dV 3) (aCons (dV 3) (aNil))))))))) (sRet (dC (.bool false))) (sNo)) (sSeq (sSetN 4 (dRep (dLst (lCons (dCall 1 r_blank (aCons (dV 0) (aNil))) (lNil))) (dV 3))) (sSeq (sFor (iSeq (dV 1)) (gTupT 3 (gConsT (gN 5) (gConsT (gN 6) (gConsT (gN 7) (gNoT))))) (sCutS 4 (dRep (dLst (lCons (dCall 2 r__picture_of (aCons (dV 0) (aCons (dV 7) (aNil)))) (lNil))) (d2 DL.gSub (hS 6) (hS 5))) (oI (dV 5)) (oI (dV 6)))) (sRet (d2 gEq (hV (dCB gList (DL.gCons (hV (dCall 2 r_pictures (aCons (dV 0) (aCons (dV 2) (aNil))))) (DL.gNil)))) (hS 4)))))))
def r__sends : SpD := raw g__sends 8
/-- check_send(screen, cues, paper), slots 0 screen 1 cues 2 paper 3 word 4 told -/
def g_check_send : SM := sSeq (sExpr (dCall 2 r__need_cues (aCons (dV 0) (aCons (dV 1) (aNil))))) (sSeq (sIf (bOr (bNot (bTruth (hV (dCall 3 r_is_tuple (aCons (dV 2) (aCons (dC (.int 2)) (aCons (dC (.int 2)) (aNil)))))))) (bNot (bTruth (hV (dCall 2 r_is_one_of (aCons (d2 gIx (hS 2) (hV (dC (.int 0)))) (aCons (dTup (lCons (dC (.str ("stream" : Str))) (lCons (dC (.str ("short" : Str))) (lNil)))) (aNil)))))))) (sNever) (sNo)) (sSeq (sAsg (dV 2) (gTupT 2 (gConsT (gN 3) (gConsT (gN 4) (gNoT))))) (sSeq (sIf (bAnd (bD (d2 gEq (hS 3) (hV (dC (.str ("stream" : Str)))))) (bNot (bTruth (hV (dCall 3 r__sends (aCons (dV 0) (aCons (dV 1) (aCons (dV 4) (aNil))))))))) (sNever) (sNo)) (sSeq (sIf (bAnd (bD (d2 gEq (hS 3) (hV (dC (.str ("short" : Str)))))) (bNot (bAnd (bTruth (hV (dCall 1 r_is_integer (aCons (dV 4) (aNil))))) (bD (d2 gEq (hS 4) (hV (dCall 1 r__first_short (aCons (dV 1) (aNil))))))))) (sNever) (sNo)) (sRet (dV 3))))))
def r_check_send : SpD := raw g_check_send 5
def gx_check_send (px : Exn → DL.Env → Prop) : SM := sSeq (sExpr (dCall 2 r__need_cues (aCons (dV 0) (aCons (dV 1) (aNil))))) (sSeq (sIf (bOr (bNot (bTruth (hV (dCall 3 r_is_tuple (aCons (dV 2) (aCons (dC (.int 2)) (aCons (dC (.int 2)) (aNil)))))))) (bNot (bTruth (hV (dCall 2 r_is_one_of (aCons (d2 gIx (hS 2) (hV (dC (.int 0)))) (aCons (dTup (lCons (dC (.str ("stream" : Str))) (lCons (dC (.str ("short" : Str))) (lNil)))) (aNil)))))))) (sRaise "BadPaper" (some "part") (dC (.str ("form" : Str))) px) (sNo)) (sSeq (sAsg (dV 2) (gTupT 2 (gConsT (gN 3) (gConsT (gN 4) (gNoT))))) (sSeq (sIf (bAnd (bD (d2 gEq (hS 3) (hV (dC (.str ("stream" : Str)))))) (bNot (bTruth (hV (dCall 3 r__sends (aCons (dV 0) (aCons (dV 1) (aCons (dV 4) (aNil))))))))) (sRaise "BadPaper" (some "part") (dC (.str ("stream" : Str))) px) (sNo)) (sSeq (sIf (bAnd (bD (d2 gEq (hS 3) (hV (dC (.str ("short" : Str)))))) (bNot (bAnd (bTruth (hV (dCall 1 r_is_integer (aCons (dV 4) (aNil))))) (bD (d2 gEq (hS 4) (hV (dCall 1 r__first_short (aCons (dV 1) (aNil))))))))) (sRaise "BadPaper" (some "part") (dC (.str ("short" : Str))) px) (sNo)) (sRet (dV 3))))))
def rx_check_send : SpX := rawX gx_check_send 5
/-- _law_size(_law_m, _law_most), slots 0 _law_m 1 _law_most -/
def g__law_size : SM := sRet (dTup (lCons (d2 gAdd (hV (dC (.int 1))) (hV (dCallO 0 2 s_next (aOra 0 (aCons (dC (.int 2)) (aNil)))))) (lCons (d2 gAdd (hV (dC (.int 1))) (hV (dCallO 0 2 s_next (aOra 0 (aCons (dV 1) (aNil)))))) (lNil))))
def r__law_size : SpD := raw g__law_size 2
/-- _law_code(_law_m, _law_size_here), slots 0 _law_m 1 _law_size_here 2 _law_way 3 _law_some -/
def g__law_code : SM := sSeq (sSet 2 (dCallO 0 2 s_next (aOra 0 (aCons (dC (.int 15)) (aNil))))) (sSeq (sIf (bD (d2 gLt (hS 2) (hV (dC (.int 5))))) (sRet (dTup (lCons (dC (.str ("put" : Str))) (lCons (d2 gIx (hV (dC (.str ("abx " : Str)))) (hV (dCallO 0 2 s_next (aOra 0 (aCons (dC (.int 4)) (aNil)))))) (lNil))))) (sNo)) (sSeq (sIf (bD (d2 gLt (hS 2) (hV (dC (.int 7))))) (sRet (dTup (lCons (dC (.str ("at" : Str))) (lCons (dCallO 0 2 s_next (aOra 0 (aCons (d2 gIx (hS 1) (hV (dC (.int 0)))) (aNil)))) (lCons (dCallO 0 2 s_next (aOra 0 (aCons (d2 gIx (hS 1) (hV (dC (.int 1)))) (aNil)))) (lNil)))))) (sNo)) (sSeq (sIf (bD (d2 gEq (hS 2) (hV (dC (.int 7))))) (sRet (dTup (lCons (dC (.str ("roll" : Str))) (lCons (d2 gAdd (hV (dC (.int 1))) (hV (dCallO 0 2 s_next (aOra 0 (aCons (d2 gIx (hS 1) (hV (dC (.int 0)))) (aNil)))))) (lNil))))) (sNo)) (sSeq (sSet 3 (dLst (lCons (dC (.str ("hide" : Str))) (lCons (dC (.str ("paint" : Str))) (lCons (dC (.str ("line" : Str))) (lCons (dC (.str ("swap" : Str))) (lCons (dC (.str ("wipe" : Str))) (lCons (dC (.str ("clear" : Str))) (lCons (dC (.str ("rub" : Str))) (lCons (dC (.str ("tail" : Str))) (lCons (dC (.str ("idle" : Str))) (lNil)))))))))))) (sRet (dTup (lCons (d2 gIx (hS 3) (hV (dCallO 0 2 s_next (aOra 0 (aCons (dC (.int 9)) (aNil)))))) (lNil))))))))
def r__law_code : SpD := raw g__law_code 4
/-- _law_rolled(_law_size_here, _law_shown_here, _law_total), slots 0 _law_size_here 1 _law_shown_here 2 _law_total 3 _law_first_here -/
def g__law_rolled : SM := sSeq (sSet 3 (d2 DL.gSub (hV (d2 gIx (hS 0) (hV (dC (.int 0))))) (hS 2))) (sRet (d2 gAdd (hV (d2 gAdd (hV (dSl (hS 1) (oNo) (oI (dV 3)))) (hV (dSl (hS 1) (oI (d2 gAdd (hS 3) (hV (dC (.int 1))))) (oNo))))) (hV (dLst (lCons (d2 gMul (hV (dLst (lCons (dC (.str (" " : Str))) (lNil)))) (hV (d2 gIx (hS 0) (hV (dC (.int 1)))))) (lNil))))))
def r__law_rolled : SpD := raw g__law_rolled 4
/-- _law_cursor(_law_size_here, _law_mode, _law_row, _law_col, _law_code_here), slots 0 _law_size_here 1 _law_mode 2 _law_row 3 _law_col 4 _law_code_here 5 _law_word 6 _law_below -/
def g__law_cursor : SM := sSeq (sSet 5 (d2 gIx (hS 4) (hV (dC (.int 0))))) (sSeq (sIf (bD (d2 gEq (hS 5) (hV (dC (.str ("at" : Str)))))) (sRet (dTup (lCons (dV 1) (lCons (d2 gIx (hS 4) (hV (dC (.int 1)))) (lCons (d2 gIx (hS 4) (hV (dC (.int 2)))) (lNil)))))) (sNo)) (sSeq (sIf (bD (d2 gEq (hS 5) (hV (dC (.str ("roll" : Str)))))) (sRet (dTup (lCons (d2 gAdd (hV (dC (.str ("roll" : Str)))) (hV (dCB gStrI (DL.gCons (hV (d2 gIx (hS 4) (hV (dC (.int 1))))) (DL.gNil))))) (lCons (d2 DL.gSub (hV (d2 gIx (hS 0) (hV (dC (.int 0))))) (hV (dC (.int 1)))) (lCons (dC (.int 0)) (lNil)))))) (sNo)) (sSeq (sIf (bD (d2 gEq (hS 5) (hV (dC (.str ("line" : Str)))))) (sSeq (sSet 6 (dIf (bD (d2 gEq (hV (dSl (hS 1) (oNo) (oI (dC (.int 4))))) (hV (dC (.str ("roll" : Str)))))) (d2 DL.gSub (hV (d2 gIx (hS 0) (hV (dC (.int 0))))) (hV (dC (.int 1)))) (dCB gMin (DL.gCons (hV (d2 gAdd (hS 2) (hV (dC (.int 1))))) (DL.gCons (hV (d2 DL.gSub (hV (d2 gIx (hS 0) (hV (dC (.int 0))))) (hV (dC (.int 1))))) (DL.gNil)))))) (sRet (dTup (lCons (dV 1) (lCons (dV 6) (lCons (dC (.int 0)) (lNil))))))) (sNo)) (sSeq (sIf (bD (d2 gEq (hS 5) (hV (dC (.str ("put" : Str)))))) (sRet (dTup (lCons (dV 1) (lCons (dV 2) (lCons (dCB gMin (DL.gCons (hV (d2 gAdd (hS 3) (hV (dC (.int 1))))) (DL.gCons (hV (d2 DL.gSub (hV (d2 gIx (hS 0) (hV (dC (.int 1))))) (hV (dC (.int 1))))) (DL.gNil)))) (lNil)))))) (sNo)) (sSeq (sIf (bD (d2 gEq (hS 5) (hV (dC (.str ("rub" : Str)))))) (sRet (dTup (lCons (dV 1) (lCons (dV 2) (lCons (dCB gMax (DL.gCons (hV (d2 DL.gSub (hS 3) (hV (dC (.int 1))))) (DL.gCons (hV (dC (.int 0))) (DL.gNil)))) (lNil)))))) (sNo)) (sSeq (sIf (bD (d2 gEq (hS 5) (hV (dC (.str ("swap" : Str)))))) (sRet (dTup (lCons (dC (.str ("hide" : Str))) (lCons (dV 2) (lCons (dV 3) (lNil)))))) (sNo)) (sRet (dTup (lCons (dIf (bD (d2 gInU (hS 5) (hV (dTup (lCons (dC (.str ("hide" : Str))) (lCons (dC (.str ("paint" : Str))) (lNil))))))) (dV 5) (dV 1)) (lCons (dV 2) (lCons (dV 3) (lNil))))))))))))
def r__law_cursor : SpD := raw g__law_cursor 7
def ls_b1 : SM := sPar 6 7 (lCons (dV 7) (lCons (dV 6) (lNil)))
def ls_b2 : SM := sSet 6 (dLc (iRange1 (lCons (d2 gIx (hS 0) (hV (dC (.int 0)))) (lNil))) (gN 9) (bYes) (d2 gMul (hV (dLst (lCons (dC (.str (" " : Str))) (lNil)))) (hV (d2 gIx (hS 0) (hV (dC (.int 1)))))) [9])
def ls_b3 : SM := sSet 7 (dLc (iRange1 (lCons (d2 gIx (hS 0) (hV (dC (.int 0)))) (lNil))) (gN 9) (bYes) (d2 gMul (hV (dLst (lCons (dC (.str (" " : Str))) (lNil)))) (hV (d2 gIx (hS 0) (hV (dC (.int 1)))))) [9])
def ls_b4 : SM := sSet 6 (dCall 3 r__law_rolled (aCons (dV 0) (aCons (dV 6) (aCons (dCB gIntU (DL.gCons (hV (dSl (hS 3) (oI (dC (.int 4))) (oNo))) (DL.gNil))) (aNil)))))
def ls_t4 : BM := bD (d2 gEq (hV (dSl (hS 3) (oNo) (oI (dC (.int 4))))) (hV (dC (.str ("roll" : Str)))))
def ls_ret : SM := sRet (d2 gAdd (hV (dCall 5 r__law_cursor (aCons (dV 0) (aCons (dV 3) (aCons (dV 4) (aCons (dV 5) (aCons (dV 2) (aNil)))))))) (hV (dTup (lCons (dV 6) (lCons (dV 7) (lNil))))))
def s__law_stepped : SpD := sStep ls_b1 ls_b2 ls_b3 ls_b4 ls_t4 ls_ret
/-- _law_told(_law_state), slots 0 _law_state 1 _law_memories 2 _law_memory 3 _law_one -/
def g__law_told : SM := sSeq (sSet 1 (dLc (iSeq (dSl (hS 0) (oI (dC (.int 3))) (oNo))) (gN 2) (bYes) (dCB gTuple (DL.gCons (hV (dLc (iSeq (dV 2)) (gN 3) (bYes) (dJoin (dC (.str ("" : Str))) (dV 3)) [3])) (DL.gNil))) [2])) (sRet (d2 gAdd (hV (dSl (hS 0) (oNo) (oI (dC (.int 3))))) (hV (dTup (lCons (d2 gIx (hS 1) (hV (dC (.int 0)))) (lCons (d2 gIx (hS 1) (hV (dC (.int 1)))) (lNil)))))))
def r__law_told : SpD := raw g__law_told 4
/-- _law_first(_law_size_here), slots 0 _law_size_here 1 _law_bare 2 _law_k -/
def g__law_first : SM := sSeq (sSet 1 (dLc (iRange1 (lCons (d2 gIx (hS 0) (hV (dC (.int 0)))) (lNil))) (gN 2) (bYes) (d2 gMul (hV (dLst (lCons (dC (.str (" " : Str))) (lNil)))) (hV (d2 gIx (hS 0) (hV (dC (.int 1)))))) [2])) (sRet (dTup (lCons (dC (.str ("hide" : Str))) (lCons (dC (.int 0)) (lCons (dC (.int 0)) (lCons (dV 1) (lCons (dV 1) (lNil))))))))
def r__law_first : SpD := raw g__law_first 3
/-- _law_text(_law_m, _law_size_here), slots 0 _law_m 1 _law_size_here 2 _law_found 3 _law_k 4 _law_line 5 _law_j -/
def g__law_text : SM := sSeq (sSetN 2 (dLst (lNil))) (sSeq (sFor (iRange1 (lCons (d2 gAdd (hV (dC (.int 1))) (hV (dCallO 0 2 s_next (aOra 0 (aCons (d2 gIx (hS 1) (hV (dC (.int 0)))) (aNil)))))) (lNil))) (gN 3) (sSeq (sSet 4 (dStrip Txt.stripChars (dJoin (dC (.str ("" : Str))) (dLc (iRange1 (lCons (d2 gAdd (hV (dC (.int 1))) (hV (dCallO 0 2 s_next (aOra 0 (aCons (d2 gIx (hS 1) (hV (dC (.int 1)))) (aNil)))))) (lNil))) (gN 5) (bYes) (d2 gIx (hV (dC (.str ("ab x" : Str)))) (hV (dCallO 0 2 s_next (aOra 0 (aCons (dC (.int 4)) (aNil)))))) [5])) (dC (.str (" " : Str))))) (sApp 2 (dIf (bD (d2 gNe (hS 4) (hV (dC (.str ("" : Str)))))) (dV 4) (dC (.str ("x" : Str))))))) (sRet (dCB gTuple (DL.gCons (hS 2) (DL.gNil)))))
def r__law_text : SpD := raw g__law_text 6
/-- _law_cost(_law_text_here), slots 0 _law_text_here 1 _law_line -/
def g__law_cost : SM := sRet (d2 gAdd (hV (dC (.int 2))) (hV (dCB gSum2 (DL.gCons (hV (dLc (iSeq (dV 0)) (gN 1) (bYes) (d2 gAdd (hV (dC (.int 1))) (hV (dCB gLen (DL.gCons (hS 1) (DL.gNil))))) [1])) (DL.gNil)))))
def r__law_cost : SpD := raw g__law_cost 2
/-- _law_cues(_law_m, _law_size_here, _law_total), slots 0 _law_m 1 _law_size_here 2 _law_total 3 _law_k 4 _law_found 5 _law_here 6 _law_text_here 7 _law_begin -/
def g__law_cues : SM := sSeq (sParNI 4 5 (dLst (lNil)) (dC (.int 0))) (sSeq (sFor (iRange1 (lCons (dCallO 0 2 s_next (aOra 0 (aCons (d2 gAdd (hS 2) (hV (dC (.int 1)))) (aNil)))) (lNil))) (gN 3) (sSeq (sSet 6 (dCallO 0 2 r__law_text (aOra 0 (aCons (dV 1) (aNil))))) (sSeq (sSet 7 (d2 gAdd (hS 5) (hV (d2 gIx (hV (dLst (lCons (dC (.int 0)) (lCons (dCall 1 r__law_cost (aCons (dV 6) (aNil))) (lCons (d2 gAdd (hV (dCall 1 r__law_cost (aCons (dV 6) (aNil)))) (hV (dC (.int 1)))) (lCons (dCallO 0 2 s_next (aOra 0 (aCons (dC (.int 30)) (aNil)))) (lNil))))))) (hV (dCallO 0 2 s_next (aOra 0 (aCons (dC (.int 4)) (aNil))))))))) (sSeq (sSet 5 (d2 gAdd (hV (d2 gAdd (hS 7) (hV (dC (.int 1))))) (hV (dCallO 0 2 s_next (aOra 0 (aCons (dC (.int 20)) (aNil))))))) (sApp 4 (dTup (lCons (dV 7) (lCons (dV 5) (lCons (dV 6) (lNil)))))))))) (sRet (dCB gTuple (DL.gCons (hS 4) (DL.gNil)))))
def r__law_cues : SpD := raw g__law_cues 8
/-- _law_free(_law_cues_here, _law_number), slots 0 _law_cues_here 1 _law_number 2 _law_first_here 3 _law_begin 4 _law_has_wipe -/
def g__law_free : SM := sSeq (sSet 2 (dIf (bD (d2 gGt (hS 1) (hV (dC (.int 0))))) (d2 gAdd (hV (d2 gIx (hV (d2 gIx (hS 0) (hV (d2 DL.gSub (hS 1) (hV (dC (.int 1))))))) (hV (dC (.int 0))))) (hV (dC (.int 1)))) (dC (.int 0)))) (sSeq (sSet 3 (d2 gIx (hV (d2 gIx (hS 0) (hS 1))) (hV (dC (.int 0))))) (sSeq (sSet 4 (dAnd (d2 gGt (hS 1) (hV (dC (.int 0)))) (d2 gLt (hV (d2 gIx (hV (d2 gIx (hS 0) (hV (d2 DL.gSub (hS 1) (hV (dC (.int 1))))))) (hV (dC (.int 1))))) (hS 3)))) (sRet (d2 DL.gSub (hV (d2 DL.gSub (hS 3) (hS 2))) (hV (dIf (bTruth (hS 4)) (dC (.int 1)) (dC (.int 0))))))))
def r__law_free : SpD := raw g__law_free 5
/-- _law_short(_law_cues_here), slots 0 _law_cues_here 1 _law_some 2 _law_k -/
def g__law_short : SM := sSeq (sSet 1 (dLc (iRange1 (lCons (dCB gLen (DL.gCons (hS 0) (DL.gNil))) (lNil))) (gN 2) (bD (d2 gLt (hV (dCall 2 r__law_free (aCons (dV 0) (aCons (dV 2) (aNil))))) (hV (dCall 1 r__law_cost (aCons (d2 gIx (hV (d2 gIx (hS 0) (hS 2))) (hV (dC (.int 2)))) (aNil)))))) (dV 2) [2])) (sRet (dIf (bD (d2 gNe (hS 1) (hV (dLst (lNil))))) (d2 gIx (hS 1) (hV (dC (.int 0)))) (dC .none)))
def r__law_short : SpD := raw g__law_short 3
/-- _law_picture(_law_size_here, _law_text_here), slots 0 _law_size_here 1 _law_text_here 2 _law_rows 3 _law_line -/
def g__law_picture : SM := sSeq (sSet 2 (dLc (iSeq (dV 1)) (gN 3) (bYes) (d2 gAdd (hS 3) (hV (d2 gMulS (hV (dC (.str (" " : Str)))) (hV (d2 DL.gSub (hV (d2 gIx (hS 0) (hV (dC (.int 1))))) (hV (dCB gLen (DL.gCons (hS 3) (DL.gNil))))))))) [3])) (sRet (dCB gTuple (DL.gCons (hV (d2 gAdd (hS 2) (hV (d2 gMul (hV (dLst (lCons (d2 gMulS (hV (dC (.str (" " : Str)))) (hV (d2 gIx (hS 0) (hV (dC (.int 1)))))) (lNil)))) (hV (d2 DL.gSub (hV (d2 gIx (hS 0) (hV (dC (.int 0))))) (hV (dCB gLen (DL.gCons (hS 2) (DL.gNil)))))))))) (DL.gNil))))
def r__law_picture : SpD := raw g__law_picture 4
/-- _law_shown(_law_size_here, _law_cues_here, _law_frame), slots 0 _law_size_here 1 _law_cues_here 2 _law_frame 3 _law_begin 4 _law_end 5 _law_text_here -/
def g__law_shown : SM := sSeq (sFor (iSeq (dV 1)) (gTupT 3 (gConsT (gN 3) (gConsT (gN 4) (gConsT (gN 5) (gNoT))))) (sIf (bD (dChain gLe gLt (hS 3) (hS 2) (hS 4))) (sRet (dCall 2 r__law_picture (aCons (dV 0) (aCons (dV 5) (aNil))))) (sNo))) (sRet (dCall 2 r__law_picture (aCons (dV 0) (aCons (dTup (lNil)) (aNil)))))
def r__law_shown : SpD := raw g__law_shown 6
/-- _law_does_send(_law_size_here, _law_cues_here, _law_codes), slots 0 _law_size_here 1 _law_cues_here 2 _law_codes 3 _law_total 4 _law_state 5 _law_frame 6 _law_code_here -/
def g__law_does_send : SM := sSeq (sSet 3 (dIf (bD (d2 gNe (hS 1) (hV (dTup (lNil))))) (d2 gAdd (hV (d2 gIx (hV (d2 gIx (hS 1) (hV (dNeg (dC (.int 1)))))) (hV (dC (.int 1))))) (hV (dC (.int 1)))) (dC (.int 0)))) (sSeq (sIf (bOr (bNot (bTruth (hV (dIsi "tuple" (hS 2))))) (bD (d2 gNe (hV (dCB gLen (DL.gCons (hS 2) (DL.gNil)))) (hS 3)))) (sRet (dC (.bool false))) (sNo)) (sSeq (sIf (bD (d2 gNe (hV (dLc (iSeq (dV 2)) (gN 6) (bNot (bTruth (hV (dCall 2 r_is_code (aCons (dV 0) (aCons (dV 6) (aNil))))))) (dV 6) [6])) (hV (dLst (lNil))))) (sRet (dC (.bool false))) (sNo)) (sSeq (sSet 4 (dCall 1 r__law_first (aCons (dV 0) (aNil)))) (sSeq (sFor (iEn (lCons (dV 2) (lNil))) (gTupT 2 (gConsT (gN 5) (gConsT (gN 6) (gNoT)))) (sSeq (sSet 4 (dCall 3 s__law_stepped (aCons (dV 0) (aCons (dV 4) (aCons (dV 6) (aNil)))))) (sIf (bD (d2 gNe (hV (d2 gIx (hV (dCall 1 r__law_told (aCons (dV 4) (aNil)))) (hV (dC (.int 3))))) (hV (dCall 3 r__law_shown (aCons (dV 0) (aCons (dV 1) (aCons (dV 5) (aNil)))))))) (sRet (dC (.bool false))) (sNo)))) (sRet (dC (.bool true)))))))
def r__law_does_send : SpD := raw g__law_does_send 7
/-- _law_due(_law_size_here, _law_cues_here, _law_sheet), slots 0 _law_size_here 1 _law_cues_here 2 _law_sheet -/
def g__law_due : SM := sSeq (sIf (bOr (bNot (bTruth (hV (dIsi "tuple" (hS 2))))) (bOr (bD (d2 gNe (hV (dCB gLen (DL.gCons (hS 2) (DL.gNil)))) (hV (dC (.int 2))))) (bNot (bTruth (hV (dIsi "str" (hV (d2 gIx (hS 2) (hV (dC (.int 0))))))))))) (sRet (dLst (lCons (dC (.str ("form" : Str))) (lNil)))) (sNo)) (sSeq (sIf (bD (d2 gNotInS (hV (d2 gIx (hS 2) (hV (dC (.int 0))))) (hV (dTup (lCons (dC (.str ("stream" : Str))) (lCons (dC (.str ("short" : Str))) (lNil))))))) (sRet (dLst (lCons (dC (.str ("form" : Str))) (lNil)))) (sNo)) (sSeq (sIf (bD (d2 gEq (hV (d2 gIx (hS 2) (hV (dC (.int 0))))) (hV (dC (.str ("stream" : Str)))))) (sRet (dIf (bTruth (hV (dCall 3 r__law_does_send (aCons (dV 0) (aCons (dV 1) (aCons (d2 gIx (hS 2) (hV (dC (.int 1)))) (aNil))))))) (dC (.str ("stream" : Str))) (dLst (lCons (dC (.str ("stream" : Str))) (lNil))))) (sNo)) (sRet (dIf (bAnd (bD (d2 gIsNot (hV (d2 gIx (hS 2) (hV (dC (.int 1))))) (hV (dC .none)))) (bD (d2 gEqS (hV (dCB gReprU (DL.gCons (hV (d2 gIx (hS 2) (hV (dC (.int 1))))) (DL.gNil)))) (hV (dCB gReprU (DL.gCons (hV (dCall 1 r__law_short (aCons (dV 1) (aNil)))) (DL.gNil))))))) (dC (.str ("short" : Str))) (dLst (lCons (dC (.str ("short" : Str))) (lNil)))))))
def r__law_due : SpD := raw g__law_due 3
/-- _law_outcome(_law_size_here, _law_cues_here, _law_sheet), slots 0 _law_size_here 1 _law_cues_here 2 _law_sheet 3 _law_found 4 e -/
def g__law_outcome : SM := sSeq (sSet 3 (dC .none)) (sSeq (sTryF "BadPaper" "part" 4 3 (fun y => .list [y]) (fun px => sSet 3 (dCallX 3 rx_check_send px (aCons (dV 0) (aCons (dV 1) (aCons (dV 2) (aNil))))))) (sRet (dV 3)))
def r__law_outcome : SpD := raw g__law_outcome 5
/-- _law_bent(_law_m, _law_size_here, _law_sheet), slots 0 _law_m 1 _law_size_here 2 _law_sheet 3 _law_odd 4 _law_some 5 _law_word 6 _law_thing 7 _law_at 8 _law_fresh -/
def g__law_bent : SM := sSeq (sAsg (dV 2) (gTupT 2 (gConsT (gN 5) (gConsT (gN 6) (gNoT))))) (sSeq (sSet 3 (d2 gIx (hV (dLst (lCons (dC .none) (lCons (dC (.int 0)) (lCons (dC (.bool true)) (lCons (dTup (lNil)) (lCons (dC (.str ("x" : Str))) (lCons (dNeg (dC (.int 1))) (lCons (dLst (lNil)) (lCons (dTup (lCons (dC (.str ("idle" : Str))) (lNil))) (lNil))))))))))) (hV (dCallO 0 2 s_next (aOra 0 (aCons (dC (.int 8)) (aNil))))))) (sSeq (sSetN 4 (dLst (lCons (dTup (lCons (dV 5) (lCons (dV 3) (lNil)))) (lCons (dTup (lCons (dV 3) (lCons (dV 6) (lNil)))) (lCons (dTup (lCons (dV 5) (lNil))) (lCons (d2 gAdd (hS 2) (hV (dTup (lCons (dC (.int 0)) (lNil))))) (lCons (dCB gList (DL.gCons (hS 2) (DL.gNil))) (lNil)))))))) (sSeq (sApp 4 (dTup (lCons (dIf (bD (d2 gEq (hS 5) (hV (dC (.str ("stream" : Str)))))) (dC (.str ("short" : Str))) (dC (.str ("stream" : Str)))) (lCons (dV 6) (lNil))))) (sSeq (sIf (bAnd (bD (d2 gEq (hS 5) (hV (dC (.str ("stream" : Str)))))) (bD (d2 gNe (hS 6) (hV (dTup (lNil)))))) (sSeq (sSet 7 (dCallO 0 2 s_next (aOra 0 (aCons (dCB gLen (DL.gCons (hS 6) (DL.gNil))) (aNil))))) (sSeq (sFor (iSeq (dTup (lCons (dCallO 0 2 r__law_code (aOra 0 (aCons (dV 1) (aNil)))) (lCons (dTup (lCons (dC (.str ("idle" : Str))) (lNil))) (lCons (dTup (lCons (dC (.str ("wipe" : Str))) (lNil))) (lCons (dTup (lCons (dC (.str ("paint" : Str))) (lNil))) (lCons (dV 3) (lNil)))))))) (gN 8) (sApp 4 (dTup (lCons (dV 5) (lCons (d2 gAdd (hV (d2 gAdd (hV (dSl (hS 6) (oNo) (oI (dV 7)))) (hV (dTup (lCons (dV 8) (lNil)))))) (hV (dSl (hS 6) (oI (d2 gAdd (hS 7) (hV (dC (.int 1))))) (oNo)))) (lNil)))))) (sSetN 4 (dCat (hS 4) (hV (dLst (lCons (dTup (lCons (dV 5) (lCons (dSl (hS 6) (oNo) (oI (dV 7))) (lNil)))) (lCons (dTup (lCons (dV 5) (lCons (d2 gAdd (hV (d2 gAdd (hV (dSl (hS 6) (oNo) (oI (dV 7)))) (hV (dRevT (hV (dSl (hS 6) (oI (dV 7)) (oI (d2 gAdd (hS 7) (hV (dC (.int 2))))))))))) (hV (dSl (hS 6) (oI (d2 gAdd (hS 7) (hV (dC (.int 2))))) (oNo)))) (lNil)))) (lNil))))))))) (sNo)) (sRet (d2 gIx (hS 4) (hV (dCallO 0 2 s_next (aOra 0 (aCons (dCB gLen (DL.gCons (hS 4) (DL.gNil))) (aNil)))))))))))
def r__law_bent : SpD := raw g__law_bent 9
/-- law behind its first row, slots 0 _law_script 1 _law_m 2 _law_turn 3 _law_size_here 4 _law_cues_here 5 _law_told_here 6 _law_some 7 _law_sheet 8 _law_k -/
def g_law : SM := sSeq (sFor (iRange1 (lCons (d2 gAdd (hV (dC (.int 2))) (hV (dCB gMin (DL.gCons (hV (dCB gLen (DL.gCons (hS 0) (DL.gNil)))) (DL.gCons (hV (dC (.int 4))) (DL.gNil)))))) (lNil))) (gN 2) (sSeq (sSet 3 (dCallO 1 2 r__law_size (aOra 1 (aCons (dC (.int 4)) (aNil))))) (sSeq (sSet 4 (dCallO 1 3 r__law_cues (aOra 1 (aCons (dV 3) (aCons (dC (.int 4)) (aNil)))))) (sSeq (sSet 5 (dCall 2 r_send_paper (aCons (dV 3) (aCons (dV 4) (aNil))))) (sSeq (sSet 6 (dLst (lCons (dV 5) (lCons (dTup (lCons (dC (.str ("short" : Str))) (lCons (dC (.int 0)) (lNil)))) (lCons (dTup (lCons (dC (.str ("short" : Str))) (lCons (dCB gLen (DL.gCons (hS 4) (DL.gNil))) (lNil)))) (lCons (dTup (lCons (dC (.str ("stream" : Str))) (lCons (dTup (lNil)) (lNil)))) (lCons (dC .none) (lCons (dTup (lCons (dC (.str ("stream" : Str))) (lNil))) (lCons (dC (.int 5)) (lCons (dTup (lCons (dC (.str ("short" : Str))) (lCons (dC .none) (lNil)))) (lNil))))))))))) (sFor (iSeq (d2 gAdd (hS 6) (hV (dLc (iRange1 (lCons (dC (.int 6)) (lNil))) (gN 8) (bYes) (dCallO 1 3 r__law_bent (aOra 1 (aCons (dV 3) (aCons (dV 5) (aNil))))) [8])))) (gN 7) (sIf (bD (d2 gNeS (hV (dCB gReprU (DL.gCons (hV (dCall 3 r__law_outcome (aCons (dV 3) (aCons (dV 4) (aCons (dV 7) (aNil)))))) (DL.gNil)))) (hV (dCB gReprU (DL.gCons (hV (dCall 3 r__law_due (aCons (dV 3) (aCons (dV 4) (aCons (dV 7) (aNil)))))) (DL.gNil)))))) (sRet (dC (.bool false))) (sNo)))))))) (sRet (dC (.bool true)))
def lawSays (ns : List Int) : Prop := g_law ⟨fun _ => False, fun d _ => d = .bool true, fun _ => False, fun _ => False⟩ [.im (.list (ns.map PyData.int)), .ora 0, .no, .no, .no, .no, .no, .no, .no]
end Q23
namespace Q23
open PySem L2 DL
def topS (i : Nat) : Stmt := PySem.Challenge.pw_captionhouse_k23_whole_sending_judged.main.body.getD i (.Pass ⟨0, 0, 0, 0⟩)
structure Tx (K : PySem.W.Frag) (gl : Str → Option Value) : Prop where
  n_ValueError : gl "ValueError" = none
  n_all : gl "all" = none
  n_bool : gl "bool" = none
  n_enumerate : gl "enumerate" = none
  n_int : gl "int" = none
  n_isinstance : gl "isinstance" = none
  n_len : gl "len" = none
  n_list : gl "list" = none
  n_max : gl "max" = none
  n_min : gl "min" = none
  n_ord : gl "ord" = none
  n_range : gl "range" = none
  n_repr : gl "repr" = none
  n_str : gl "str" = none
  n_sum : gl "sum" = none
  n_tuple : gl "tuple" = none
  s_BLANK_SIGN : ∃ t, gl "BLANK_SIGN" = some (.str (" " : Str) t)
  s_HIDE : ∃ t, gl "HIDE" = some (.str ("hide" : Str) t)
  c_LAST_FRAME : ∃ t, gl "LAST_FRAME" = some (.int 1999 t)
  t_LONE_WORDS : ∃ u, gl "LONE_WORDS" = some (.ref u) ∧ ∀ F, At K F (.ref u) (.tuple ([("hide" : Str), ("paint" : Str), ("line" : Str), ("swap" : Str), ("wipe" : Str), ("clear" : Str), ("rub" : Str), ("tail" : Str), ("idle" : Str)].map PyData.str))
  c_LOWEST_OF_CELLS : ∃ t, gl "LOWEST_OF_CELLS" = some (.int 32 t)
  c_LOWEST_OF_LINES : ∃ t, gl "LOWEST_OF_LINES" = some (.int 32 t)
  c_MOST_COLUMNS : ∃ t, gl "MOST_COLUMNS" = some (.int 40 t)
  c_MOST_LINES : ∃ t, gl "MOST_LINES" = some (.int 4 t)
  c_MOST_ROWS : ∃ t, gl "MOST_ROWS" = some (.int 4 t)
  c_MOST_SENDABLE : ∃ t, gl "MOST_SENDABLE" = some (.int 200 t)
  c_MOST_SIGNS : ∃ t, gl "MOST_SIGNS" = some (.int 40 t)
  c_PERCENT : ∃ t, gl "PERCENT" = some (.int 37 t)
  s_ROLL : ∃ t, gl "ROLL" = some (.str ("roll" : Str) t)
  c_TILDE : ∃ t, gl "TILDE" = some (.int 126 t)
def initOf : Stmt → Stmt
  | .ClassDef _ _ _ body _ _ _ _ _ _ _ => body.getD 0 (.Pass ⟨0, 0, 0, 0⟩)
  | s => s
section
variable {pr : Program} {wd : PySem.World} {K : PySem.W.Frag} {gl : Str → Option Value} {bas : Heap} {R : Orc}
abbrev st_BadPaper : Stmt := initOf (topS 22)
def names_BadPaper : List Str := ["self", "part"]
theorem sc_BadPaper : FnScope names_BadPaper ["self", "part"] (defScope st_BadPaper) := ⟨rfl, rfl, rfl, by decide +kernel, rfl, by decide +kernel, by decide +kernel⟩
theorem init_BadPaper {C fI : Addr} {fd : FuncData} (T : Tx K gl) (F : L2.Fun K "__init__" "BadPaper.__init__" st_BadPaper fI fd) (vV : PySem.W.findCls K (.type "ValueError") (.type "type") "__init__" = some (.val (.builtin "ValueError.__init__"))) (hno : PySem.W.findIn K (.ref C) "part" = some none) : FnOk pr wd K gl bas CX0 1 fI fd ["self", "part"] (spInit K C (some "part")) := by
  have sc := sc_BadPaper
  refine F.ok sc (fun vs H Q E h => ?_) fun cdv A out sh H vs Q E hr h => ?_
  · obtain ⟨a, v, rfl, _⟩ := h
    rfl
  obtain ⟨a, v, rfl, ha, TC, q⟩ := h
  exact ⟨_, pss_cons (ps_expr (pe_veinit rfl T.n_ValueError vV (pa_cons (pv 0) (pa_cons pe_str pa_nil)))) (pss_one (ps_ost (pv 0) (pv 1))), .ref a, rfl, a, C, [_], rfl, (by show 1 ≤ 1000; omega), TC, ha, v, rfl, .ref a, rfl, a, C, rfl, TC, hno, .inl ⟨ha, fun dx hd ne => q dx hd ne⟩⟩
abbrev st_rolling_rows : Stmt := topS 8
def names_rolling_rows : List Str := ["mode"]
theorem sc_rolling_rows : FnScope names_rolling_rows ["mode"] (defScope st_rolling_rows) := ⟨rfl, rfl, rfl, by decide +kernel, rfl, by decide +kernel, by decide +kernel⟩
theorem ok_rolling_rows {fa : Addr} {fd : FuncData} (T : Tx K gl) (F : L2.Fun K "rolling_rows" "rolling_rows" st_rolling_rows fa fd) : FnG pr wd K gl bas 1 fa fd ["mode"] (spD K R 1 r_rolling_rows) := by
  have sc := sc_rolling_rows
  refine FnG.data (g := g_rolling_rows) F sc rfl fun cdv A out sh H E q F hg hr => ?_
  exact (ds_cons (dp_if (dt_cmp (sem_eq rfl (hu64 hr)) (dh_of (de_sl rfl (dh_v (pv 0)) do_no (do_i (de_neg de_int)))) (dh_of (de_gstr rfl T.s_ROLL)) (nomark _)) (ds_one (dp_ret (de_ct (sem_intU) rfl T.n_int (by decide +kernel) (dg_cons (dh_of (de_ix rfl (dh_v (pv 0)) (dh_of (de_neg de_int)) (fun _ _ => rfl))) dg_nil)))) ds_nil)
    (ds_one (dp_ret de_int)))
abbrev st_control_behind : Stmt := topS 5
def names_control_behind : List Str := ["screen", "control", "code", "word", "rows", "columns", "mode", "row", "column"]
theorem sc_control_behind : FnScope names_control_behind ["screen", "control", "code"] (defScope st_control_behind) := ⟨rfl, rfl, rfl, by decide +kernel, rfl, by decide +kernel, by decide +kernel⟩
theorem ok_control_behind {fa : Addr} {fd : FuncData} (T : Tx K gl) (F : L2.Fun K "control_behind" "control_behind" st_control_behind fa fd) (C_rolling_rows : Cd pr wd K gl bas R 1 "rolling_rows" 1 r_rolling_rows) : FnG pr wd K gl bas 2 fa fd ["screen", "control", "code"] (spD K R 3 r_control_behind) := by
  have sc := sc_control_behind
  refine FnG.data (g := g_control_behind) F sc rfl fun cdv A out sh H E q F hg hr => ?_
  exact (ds_cons (dp_asg (de_v (pv 0)) (dg_tup rfl rfl (dgs_cons (dg_name sc.nd (i := 4) rfl (by first | exact Or.inl rfl | exact Or.inr rfl)) (dgs_cons (dg_name sc.nd (i := 5) rfl (by first | exact Or.inl rfl | exact Or.inr rfl)) dgs_nil))))
    (ds_cons (dp_asg (de_v (pv 1)) (dg_tup rfl rfl (dgs_cons (dg_name sc.nd (i := 6) rfl (by first | exact Or.inl rfl | exact Or.inr rfl)) (dgs_cons (dg_name sc.nd (i := 7) rfl (by first | exact Or.inl rfl | exact Or.inr rfl)) (dgs_cons (dg_name sc.nd (i := 8) rfl (by first | exact Or.inl rfl | exact Or.inr rfl)) dgs_nil)))))
    (ds_cons (dp_set sc.nd (i := 3) rfl (by first | exact Or.inl rfl | exact Or.inr rfl) (de_ix rfl (dh_v (pv 2)) (dh_of de_int) (fun _ _ => rfl)))
    (ds_cons (dp_if (dt_cmp (sem_eq rfl (hu64 hr)) (dh_v (pv 3)) (dh_of de_str) (nomark _)) (ds_one (dp_ret (de_tup (dl_cons (de_v (pv 6)) (dl_cons (de_v (pv 7)) (dl_cons (de_cb (sem_min rfl rfl) rfl T.n_min (by decide +kernel) (dg_cons (dh_of (de_bin (sem_add rfl) (dh_v (pv 8)) (dh_of de_int))) (dg_cons (dh_of (de_bin (sem_sub) (dh_v (pv 5)) (dh_of de_int))) dg_nil))) dl_nil)))))) ds_nil)
    (ds_cons (dp_if (dt_cmp (sem_eq rfl (hu64 hr)) (dh_v (pv 3)) (dh_of de_str) (nomark _)) (ds_one (dp_ret (de_tup (dl_cons (de_v (pv 6)) (dl_cons (de_ix rfl (dh_v (pv 2)) (dh_of de_int) (fun _ _ => rfl)) (dl_cons (de_ix rfl (dh_v (pv 2)) (dh_of de_int) (fun _ _ => rfl)) dl_nil)))))) ds_nil)
    (ds_cons (dp_if (dt_cmp (sem_inU rfl (hu65 hr)) (dh_v (pv 3)) (dh_of (de_tup (dl_cons de_str (dl_cons de_str dl_nil)))) rfl) (ds_one (dp_ret (de_tup (dl_cons (de_v (pv 3)) (dl_cons (de_v (pv 7)) (dl_cons (de_v (pv 8)) dl_nil)))))) ds_nil)
    (ds_cons (dp_if (dt_cmp (sem_eq rfl (hu64 hr)) (dh_v (pv 3)) (dh_of de_str) (nomark _)) (ds_one (dp_ret (de_tup (dl_cons (de_fs (pj_cons (de_fmt (de_gstr rfl T.s_ROLL)) (pj_cons (de_fmt (de_ix rfl (dh_v (pv 2)) (dh_of de_int) (fun _ _ => rfl))) pj_nil))) (dl_cons (de_bin (sem_sub) (dh_v (pv 4)) (dh_of de_int)) (dl_cons de_int dl_nil)))))) ds_nil)
    (ds_cons (dp_if (dt_cmp (sem_eq rfl (hu64 hr)) (dh_v (pv 3)) (dh_of de_str) (nomark _)) (ds_cons (dp_if (dt_cmp (sem_gt) (dh_of (de_cd (C_rolling_rows.more (by decide)) rfl hg hr rfl (da_cons (de_v (pv 6)) da_nil))) (dh_of de_int) (nomark _)) (ds_one (dp_ret (de_tup (dl_cons (de_v (pv 6)) (dl_cons (de_bin (sem_sub) (dh_v (pv 4)) (dh_of de_int)) (dl_cons de_int dl_nil)))))) ds_nil)
    (ds_one (dp_ret (de_tup (dl_cons (de_v (pv 6)) (dl_cons (de_cb (sem_min rfl rfl) rfl T.n_min (by decide +kernel) (dg_cons (dh_of (de_bin (sem_add rfl) (dh_v (pv 7)) (dh_of de_int))) (dg_cons (dh_of (de_bin (sem_sub) (dh_v (pv 4)) (dh_of de_int))) dg_nil))) (dl_cons de_int dl_nil))))))) ds_nil)
    (ds_cons (dp_if (dt_cmp (sem_eq rfl (hu64 hr)) (dh_v (pv 3)) (dh_of de_str) (nomark _)) (ds_one (dp_ret (de_tup (dl_cons (de_gstr rfl T.s_HIDE) (dl_cons (de_v (pv 7)) (dl_cons (de_v (pv 8)) dl_nil)))))) ds_nil)
    (ds_cons (dp_if (dt_cmp (sem_eq rfl (hu64 hr)) (dh_v (pv 3)) (dh_of de_str) (nomark _)) (ds_one (dp_ret (de_tup (dl_cons (de_v (pv 6)) (dl_cons (de_v (pv 7)) (dl_cons (de_cb (sem_max rfl rfl) rfl T.n_max (by decide +kernel) (dg_cons (dh_of (de_bin (sem_sub) (dh_v (pv 8)) (dh_of de_int))) (dg_cons (dh_of de_int) dg_nil))) dl_nil)))))) ds_nil)
    (ds_one (dp_ret (de_v (pv 1))))))))))))))
abbrev st_cursor_cell : Stmt := topS 7
def names_cursor_cell : List Str := ["screen", "control", "rows", "columns", "mode", "row", "column"]
theorem sc_cursor_cell : FnScope names_cursor_cell ["screen", "control"] (defScope st_cursor_cell) := ⟨rfl, rfl, rfl, by decide +kernel, rfl, by decide +kernel, by decide +kernel⟩
theorem ok_cursor_cell {fa : Addr} {fd : FuncData} (T : Tx K gl) (F : L2.Fun K "cursor_cell" "cursor_cell" st_cursor_cell fa fd) : FnG pr wd K gl bas 1 fa fd ["screen", "control"] (spD K R 2 r_cursor_cell) := by
  have sc := sc_cursor_cell
  refine FnG.data (g := g_cursor_cell) F sc rfl fun cdv A out sh H E q F hg hr => ?_
  exact (ds_cons (dp_asg (de_v (pv 0)) (dg_tup rfl rfl (dgs_cons (dg_name sc.nd (i := 2) rfl (by first | exact Or.inl rfl | exact Or.inr rfl)) (dgs_cons (dg_name sc.nd (i := 3) rfl (by first | exact Or.inl rfl | exact Or.inr rfl)) dgs_nil))))
    (ds_cons (dp_asg (de_v (pv 1)) (dg_tup rfl rfl (dgs_cons (dg_name sc.nd (i := 4) rfl (by first | exact Or.inl rfl | exact Or.inr rfl)) (dgs_cons (dg_name sc.nd (i := 5) rfl (by first | exact Or.inl rfl | exact Or.inr rfl)) (dgs_cons (dg_name sc.nd (i := 6) rfl (by first | exact Or.inl rfl | exact Or.inr rfl)) dgs_nil)))))
    (ds_cons (dp_if (dt_cmp (sem_eq rfl (hu64 hr)) (dh_v (pv 4)) (dh_of (de_gstr rfl T.s_HIDE)) (nomark _)) (ds_one (dp_aug sc.nd (i := 5) rfl (by first | exact Or.inl rfl | exact Or.inr rfl) (dh_v (pv 2)) sem_iadd)) ds_nil)
    (ds_one (dp_ret (de_bin (sem_add rfl) (dh_of (de_bin (sem_mul rfl) (dh_v (pv 5)) (dh_v (pv 3)))) (dh_v (pv 6))))))))
abbrev st_with_cells : Stmt := topS 9
def names_with_cells : List Str := ["cells", "place", "others"]
theorem sc_with_cells : FnScope names_with_cells ["cells", "place", "others"] (defScope st_with_cells) := ⟨rfl, rfl, rfl, by decide +kernel, rfl, by decide +kernel, by decide +kernel⟩
theorem ok_with_cells {fa : Addr} {fd : FuncData} (T : Tx K gl) (F : L2.Fun K "with_cells" "with_cells" st_with_cells fa fd) : FnG pr wd K gl bas 1 fa fd ["cells", "place", "others"] (spD K R 3 r_with_cells) := by
  have sc := sc_with_cells
  refine FnG.data (g := g_with_cells) F sc rfl fun cdv A out sh H E q F hg hr => ?_
  exact (ds_one (dp_ret (de_bin (sem_add rfl) (dh_of (de_bin (sem_add rfl) (dh_of (de_sl rfl (dh_v (pv 0)) do_no (do_i (de_v (pv 1))))) (dh_v (pv 2)))) (dh_of (de_sl rfl (dh_v (pv 0)) (do_i (de_bin (sem_add rfl) (dh_v (pv 1)) (dh_of (de_cb (sem_len rfl) rfl T.n_len (by decide +kernel) (dg_cons (dh_v (pv 2)) dg_nil))))) do_no)))))
abbrev st_cells_behind : Stmt := topS 6
def names_cells_behind : List Str := ["screen", "control", "cells", "code", "half", "word", "place", "rows", "columns", "mode", "_", "column", "top"]
theorem sc_cells_behind : FnScope names_cells_behind ["screen", "control", "cells", "code"] (defScope st_cells_behind) := ⟨rfl, rfl, rfl, by decide +kernel, rfl, by decide +kernel, by decide +kernel⟩
theorem ok_cells_behind {fa : Addr} {fd : FuncData} (T : Tx K gl) (F : L2.Fun K "cells_behind" "cells_behind" st_cells_behind fa fd) (C_cursor_cell : Cd pr wd K gl bas R 1 "cursor_cell" 2 r_cursor_cell) (C_with_cells : Cd pr wd K gl bas R 1 "with_cells" 3 r_with_cells) (C_rolling_rows : Cd pr wd K gl bas R 1 "rolling_rows" 1 r_rolling_rows) : FnG pr wd K gl bas 2 fa fd ["screen", "control", "cells", "code"] (spD K R 4 r_cells_behind) := by
  have sc := sc_cells_behind
  refine FnG.data (g := g_cells_behind) F sc rfl fun cdv A out sh H E q F hg hr => ?_
  exact (ds_cons (dp_asg (de_v (pv 0)) (dg_tup rfl rfl (dgs_cons (dg_name sc.nd (i := 7) rfl (by first | exact Or.inl rfl | exact Or.inr rfl)) (dgs_cons (dg_name sc.nd (i := 8) rfl (by first | exact Or.inl rfl | exact Or.inr rfl)) dgs_nil))))
    (ds_cons (dp_set sc.nd (i := 4) rfl (by first | exact Or.inl rfl | exact Or.inr rfl) (de_bin (sem_mul rfl) (dh_v (pv 7)) (dh_v (pv 8))))
    (ds_cons (dp_asg (de_v (pv 1)) (dg_tup rfl rfl (dgs_cons (dg_name sc.nd (i := 9) rfl (by first | exact Or.inl rfl | exact Or.inr rfl)) (dgs_cons (dg_name sc.nd (i := 10) rfl (by first | exact Or.inl rfl | exact Or.inr rfl)) (dgs_cons (dg_name sc.nd (i := 11) rfl (by first | exact Or.inl rfl | exact Or.inr rfl)) dgs_nil)))))
    (ds_cons (dp_set sc.nd (i := 5) rfl (by first | exact Or.inl rfl | exact Or.inr rfl) (de_ix rfl (dh_v (pv 3)) (dh_of de_int) (fun _ _ => rfl)))
    (ds_cons (dp_set sc.nd (i := 6) rfl (by first | exact Or.inl rfl | exact Or.inr rfl) (de_cd (C_cursor_cell.more (by decide)) rfl hg hr rfl (da_cons (de_v (pv 0)) (da_cons (de_v (pv 1)) da_nil))))
    (ds_cons (dp_if (dt_cmp (sem_eq rfl (hu64 hr)) (dh_v (pv 5)) (dh_of de_str) (nomark _)) (ds_one (dp_ret (de_cd (C_with_cells.more (by decide)) rfl hg hr rfl (da_cons (de_v (pv 2)) (da_cons (de_v (pv 6)) (da_cons (de_tup (dl_cons (de_ix rfl (dh_v (pv 3)) (dh_of de_int) (fun _ _ => rfl)) dl_nil)) da_nil)))))) ds_nil)
    (ds_cons (dp_if (PW.pt (dw_and (dt_cmp (sem_eq rfl (hu64 hr)) (dh_v (pv 5)) (dh_of de_str) (nomark _)) (pw_and1 (dt_cmp (sem_gt) (dh_v (pv 11)) (dh_of de_int) (nomark _))))) (ds_one (dp_ret (de_cd (C_with_cells.more (by decide)) rfl hg hr rfl (da_cons (de_v (pv 2)) (da_cons (de_bin (sem_sub) (dh_v (pv 6)) (dh_of de_int)) (da_cons (de_tup (dl_cons (de_gstr rfl T.s_BLANK_SIGN) dl_nil)) da_nil)))))) ds_nil)
    (ds_cons (dp_if (dt_cmp (sem_eq rfl (hu64 hr)) (dh_v (pv 5)) (dh_of de_str) (nomark _)) (ds_one (dp_ret (de_cd (C_with_cells.more (by decide)) rfl hg hr rfl (da_cons (de_v (pv 2)) (da_cons (de_v (pv 6)) (da_cons (de_bin (sem_mulT rfl) (dh_of (de_tup (dl_cons (de_gstr rfl T.s_BLANK_SIGN) dl_nil))) (dh_of (de_bin (sem_sub) (dh_v (pv 8)) (dh_v (pv 11))))) da_nil)))))) ds_nil)
    (ds_cons (dp_if (PW.pt (dw_and (dt_cmp (sem_eq rfl (hu64 hr)) (dh_v (pv 5)) (dh_of de_str) (nomark _)) (pw_and1 (dt_cmp (sem_gt) (dh_of (de_cd (C_rolling_rows.more (by decide)) rfl hg hr rfl (da_cons (de_v (pv 9)) da_nil))) (dh_of de_int) (nomark _))))) (ds_cons (dp_set sc.nd (i := 12) rfl (by first | exact Or.inl rfl | exact Or.inr rfl) (de_bin (sem_mul rfl) (dh_of (de_bin (sem_sub) (dh_v (pv 7)) (dh_of (de_cd (C_rolling_rows.more (by decide)) rfl hg hr rfl (da_cons (de_v (pv 9)) da_nil))))) (dh_v (pv 8))))
    (ds_one (dp_ret (de_bin (sem_add rfl) (dh_of (de_bin (sem_add rfl) (dh_of (de_bin (sem_add rfl) (dh_of (de_sl rfl (dh_v (pv 2)) do_no (do_i (de_v (pv 12))))) (dh_of (de_sl rfl (dh_v (pv 2)) (do_i (de_bin (sem_add rfl) (dh_v (pv 12)) (dh_v (pv 8)))) (do_i (de_v (pv 4))))))) (dh_of (de_bin (sem_mulT rfl) (dh_of (de_tup (dl_cons (de_gstr rfl T.s_BLANK_SIGN) dl_nil))) (dh_v (pv 8)))))) (dh_of (de_sl rfl (dh_v (pv 2)) (do_i (de_v (pv 4))) do_no)))))) ds_nil)
    (ds_cons (dp_if (dt_cmp (sem_eq rfl (hu64 hr)) (dh_v (pv 5)) (dh_of de_str) (nomark _)) (ds_one (dp_ret (de_bin (sem_add rfl) (dh_of (de_sl rfl (dh_v (pv 2)) (do_i (de_v (pv 4))) do_no)) (dh_of (de_sl rfl (dh_v (pv 2)) do_no (do_i (de_v (pv 4)))))))) ds_nil)
    (ds_cons (dp_if (dt_cmp (sem_eq rfl (hu64 hr)) (dh_v (pv 5)) (dh_of de_str) (nomark _)) (ds_one (dp_ret (de_cd (C_with_cells.more (by decide)) rfl hg hr rfl (da_cons (de_v (pv 2)) (da_cons de_int (da_cons (de_bin (sem_mulT rfl) (dh_of (de_tup (dl_cons (de_gstr rfl T.s_BLANK_SIGN) dl_nil))) (dh_v (pv 4))) da_nil)))))) ds_nil)
    (ds_cons (dp_if (dt_cmp (sem_eq rfl (hu64 hr)) (dh_v (pv 5)) (dh_of de_str) (nomark _)) (ds_one (dp_ret (de_cd (C_with_cells.more (by decide)) rfl hg hr rfl (da_cons (de_v (pv 2)) (da_cons (de_v (pv 4)) (da_cons (de_bin (sem_mulT rfl) (dh_of (de_tup (dl_cons (de_gstr rfl T.s_BLANK_SIGN) dl_nil))) (dh_v (pv 4))) da_nil)))))) ds_nil)
    (ds_one (dp_ret (de_v (pv 2))))))))))))))))
abbrev st_stepped : Stmt := topS 4
def names_stepped : List Str := ["screen", "control", "cells", "code"]
theorem sc_stepped : FnScope names_stepped ["screen", "control", "cells", "code"] (defScope st_stepped) := ⟨rfl, rfl, rfl, by decide +kernel, rfl, by decide +kernel, by decide +kernel⟩
theorem ok_stepped {fa : Addr} {fd : FuncData} (T : Tx K gl) (F : L2.Fun K "stepped" "stepped" st_stepped fa fd) (C_cells_behind : Cd pr wd K gl bas R 2 "cells_behind" 4 r_cells_behind) (C_control_behind : Cd pr wd K gl bas R 2 "control_behind" 3 r_control_behind) : FnG pr wd K gl bas 3 fa fd ["screen", "control", "cells", "code"] (spD K R 4 r_stepped) := by
  have sc := sc_stepped
  refine FnG.data (g := g_stepped) F sc rfl fun cdv A out sh H E q F hg hr => ?_
  exact (ds_one (dp_ret (de_tup (dl_cons (de_cd (C_control_behind.more (by decide)) rfl hg hr rfl (da_cons (de_v (pv 0)) (da_cons (de_v (pv 1)) (da_cons (de_v (pv 3)) da_nil)))) (dl_cons (de_cd (C_cells_behind.more (by decide)) rfl hg hr rfl (da_cons (de_v (pv 0)) (da_cons (de_v (pv 1)) (da_cons (de_v (pv 2)) (da_cons (de_v (pv 3)) da_nil))))) dl_nil)))))
abbrev st_is_integer : Stmt := topS 14
def names_is_integer : List Str := ["thing"]
theorem sc_is_integer : FnScope names_is_integer ["thing"] (defScope st_is_integer) := ⟨rfl, rfl, rfl, by decide +kernel, rfl, by decide +kernel, by decide +kernel⟩
theorem ok_is_integer {fa : Addr} {fd : FuncData} (T : Tx K gl) (F : L2.Fun K "is_integer" "is_integer" st_is_integer fa fd) : FnG pr wd K gl bas 1 fa fd ["thing"] (spD K R 1 r_is_integer) := by
  have sc := sc_is_integer
  refine FnG.data (g := g_is_integer) F sc rfl fun cdv A out sh H E q F hg hr => ?_
  exact (ds_one (dp_ret (de_and (de_isi rfl rfl T.n_isinstance rfl T.n_int (by decide +kernel) (dh_v (pv 0))) (pe_one (de_not (de_isi rfl rfl T.n_isinstance rfl T.n_bool (by decide +kernel) (dh_v (pv 0))))))))
abbrev st_is_within : Stmt := topS 15
def names_is_within : List Str := ["thing", "least", "most"]
theorem sc_is_within : FnScope names_is_within ["thing", "least", "most"] (defScope st_is_within) := ⟨rfl, rfl, rfl, by decide +kernel, rfl, by decide +kernel, by decide +kernel⟩
theorem ok_is_within {fa : Addr} {fd : FuncData} (T : Tx K gl) (F : L2.Fun K "is_within" "is_within" st_is_within fa fd) (C_is_integer : Cd pr wd K gl bas R 1 "is_integer" 1 r_is_integer) : FnG pr wd K gl bas 2 fa fd ["thing", "least", "most"] (spD K R 3 r_is_within) := by
  have sc := sc_is_within
  refine FnG.data (g := g_is_within) F sc rfl fun cdv A out sh H E q F hg hr => ?_
  exact (ds_one (dp_ret (de_and (de_cd (C_is_integer.more (by decide)) rfl hg hr rfl (da_cons (de_v (pv 0)) da_nil)) (pe_one (de_chain (sem_le) (sem_le) (dh_v (pv 1)) (dh_v (pv 0)) (dh_v (pv 2)) rfl)))))
abbrev st_is_tuple : Stmt := topS 16
def names_is_tuple : List Str := ["thing", "least", "most"]
theorem sc_is_tuple : FnScope names_is_tuple ["thing", "least", "most"] (defScope st_is_tuple) := ⟨rfl, rfl, rfl, by decide +kernel, rfl, by decide +kernel, by decide +kernel⟩
theorem ok_is_tuple {fa : Addr} {fd : FuncData} (T : Tx K gl) (F : L2.Fun K "is_tuple" "is_tuple" st_is_tuple fa fd) : FnG pr wd K gl bas 1 fa fd ["thing", "least", "most"] (spD K R 3 r_is_tuple) := by
  have sc := sc_is_tuple
  refine FnG.data (g := g_is_tuple) F sc rfl fun cdv A out sh H E q F hg hr => ?_
  exact (ds_one (dp_ret (de_and (de_isi rfl rfl T.n_isinstance rfl T.n_tuple (by decide +kernel) (dh_v (pv 0))) (pe_one (de_chain (sem_le) (sem_le) (dh_v (pv 1)) (dh_of (de_cb (sem_len rfl) rfl T.n_len (by decide +kernel) (dg_cons (dh_v (pv 0)) dg_nil))) (dh_v (pv 2)) rfl)))))
abbrev st_is_one_of : Stmt := topS 17
def names_is_one_of : List Str := ["thing", "words"]
theorem sc_is_one_of : FnScope names_is_one_of ["thing", "words"] (defScope st_is_one_of) := ⟨rfl, rfl, rfl, by decide +kernel, rfl, by decide +kernel, by decide +kernel⟩
theorem ok_is_one_of {fa : Addr} {fd : FuncData} (T : Tx K gl) (F : L2.Fun K "is_one_of" "is_one_of" st_is_one_of fa fd) : FnG pr wd K gl bas 1 fa fd ["thing", "words"] (spD K R 2 r_is_one_of) := by
  have sc := sc_is_one_of
  refine FnG.data (g := g_is_one_of) F sc rfl fun cdv A out sh H E q F hg hr => ?_
  exact (ds_one (dp_ret (de_and (de_isi rfl rfl T.n_isinstance rfl T.n_str (by decide +kernel) (dh_v (pv 0))) (pe_one (de_cmp (sem_inU rfl (hu65 hr)) (dh_v (pv 0)) (dh_v (pv 1)) rfl)))))
abbrev st_is_sign : Stmt := topS 18
def names_is_sign : List Str := ["sign", "lowest"]
theorem sc_is_sign : FnScope names_is_sign ["sign", "lowest"] (defScope st_is_sign) := ⟨rfl, rfl, rfl, by decide +kernel, rfl, by decide +kernel, by decide +kernel⟩
theorem ok_is_sign {fa : Addr} {fd : FuncData} (T : Tx K gl) (F : L2.Fun K "is_sign" "is_sign" st_is_sign fa fd) : FnG pr wd K gl bas 1 fa fd ["sign", "lowest"] (spD K R 2 r_is_sign) := by
  have sc := sc_is_sign
  refine FnG.data (g := g_is_sign) F sc rfl fun cdv A out sh H E q F hg hr => ?_
  exact (ds_one (dp_ret (de_and (de_chain (sem_le) (sem_le) (dh_v (pv 1)) (dh_of (de_cb (sem_ord) rfl T.n_ord (by decide +kernel) (dg_cons (dh_v (pv 0)) dg_nil))) (dh_of (de_gint rfl T.c_TILDE)) rfl) (pe_one (de_cmp (sem_ne rfl (hu64 hr)) (dh_of (de_cb (sem_ord) rfl T.n_ord (by decide +kernel) (dg_cons (dh_v (pv 0)) dg_nil))) (dh_of (de_gint rfl T.c_PERCENT)) (nomark _))))))
abbrev st_has_signs : Stmt := topS 19
def names_has_signs : List Str := ["thing", "lowest", "sign"]
theorem sc_has_signs : FnScope names_has_signs ["thing", "lowest"] (defScope st_has_signs) := ⟨rfl, rfl, rfl, by decide +kernel, rfl, by decide +kernel, by decide +kernel⟩
theorem ok_has_signs {fa : Addr} {fd : FuncData} (T : Tx K gl) (F : L2.Fun K "has_signs" "has_signs" st_has_signs fa fd) (C_is_sign : Cd pr wd K gl bas R 1 "is_sign" 2 r_is_sign) : FnG pr wd K gl bas 2 fa fd ["thing", "lowest"] (spD K R 2 r_has_signs) := by
  have sc := sc_has_signs
  refine FnG.data (g := g_has_signs) F sc rfl fun cdv A out sh H E q F hg hr => ?_
  exact (ds_cons (dp_if (PW.pt (dw_or (dt_not (dt_truth rfl (dh_of (de_isi rfl rfl T.n_isinstance rfl T.n_str (by decide +kernel) (dh_v (pv 0)))))) (pw_or1 (dt_not (dt_chain (sem_le) (sem_le) (dh_of de_int) (dh_of (de_cb (sem_len rfl) rfl T.n_len (by decide +kernel) (dg_cons (dh_v (pv 0)) dg_nil))) (dh_of (de_gint rfl T.c_MOST_SIGNS)) rfl))))) (ds_one (dp_ret de_bl)) ds_nil)
    (ds_one (dp_ret (de_cb (sem_all rfl rfl) rfl T.n_all (by decide +kernel) (dg_cons (dh_of (de_n (dn_lc (own := [("sign", 2)]) rfl sc.nd (di_seq rfl (de_v (pv 0))) (blkOk_by (own := [("sign", 2)]) (N := names_has_signs) (sc := defScope st_has_signs) (by decide +kernel)) (by decide) (fun _ _ _ _ _ => (dg_name sc.nd (i := 2) rfl (by first | exact Or.inl rfl | exact Or.inr rfl))) (fun _ _ _ _ _ => dts_nil) (fun _ _ _ _ _ => (de_cd (C_is_sign.more (by decide)) rfl hg hr rfl (da_cons (de_v (pv 2)) (da_cons (de_v (pv 1)) da_nil))))))) dg_nil)))))
abbrev st_need_screen : Stmt := topS 31
def names_need_screen : List Str := ["screen"]
theorem sc_need_screen : FnScope names_need_screen ["screen"] (defScope st_need_screen) := ⟨rfl, rfl, rfl, by decide +kernel, rfl, by decide +kernel, by decide +kernel⟩
theorem ok_need_screen {fa : Addr} {fd : FuncData} (T : Tx K gl) (F : L2.Fun K "need_screen" "need_screen" st_need_screen fa fd) (C_is_tuple : Cd pr wd K gl bas R 1 "is_tuple" 3 r_is_tuple) (C_is_within : Cd pr wd K gl bas R 2 "is_within" 3 r_is_within) : FnG pr wd K gl bas 3 fa fd ["screen"] (spD K R 1 r_need_screen) := by
  have sc := sc_need_screen
  refine FnG.data (g := g_need_screen) F sc rfl fun cdv A out sh H E q F hg hr => ?_
  exact (ds_cons (dp_if (dt_not (PW.pt (dw_and (dt_truth rfl (dh_of (de_cd (C_is_tuple.more (by decide)) rfl hg hr rfl (da_cons (de_v (pv 0)) (da_cons de_int (da_cons de_int da_nil)))))) (dw_and (dt_truth rfl (dh_of (de_cd (C_is_within.more (by decide)) rfl hg hr rfl (da_cons (de_ix rfl (dh_v (pv 0)) (dh_of de_int) (fun _ _ => rfl)) (da_cons de_int (da_cons (de_gint rfl T.c_MOST_ROWS) da_nil)))))) (pw_and1 (dt_truth rfl (dh_of (de_cd (C_is_within.more (by decide)) rfl hg hr rfl (da_cons (de_ix rfl (dh_v (pv 0)) (dh_of de_int) (fun _ _ => rfl)) (da_cons de_int (da_cons (de_gint rfl T.c_MOST_COLUMNS) da_nil))))))))))) ds_never ds_nil)
    (ds_one (dp_ret (de_v (pv 0)))))
abbrev st_blank : Stmt := topS 32
def names_blank : List Str := ["screen", "rows", "columns"]
theorem sc_blank : FnScope names_blank ["screen"] (defScope st_blank) := ⟨rfl, rfl, rfl, by decide +kernel, rfl, by decide +kernel, by decide +kernel⟩
theorem ok_blank {fa : Addr} {fd : FuncData} (T : Tx K gl) (F : L2.Fun K "blank" "blank" st_blank fa fd) (C_need_screen : Cd pr wd K gl bas R 3 "need_screen" 1 r_need_screen) : FnG pr wd K gl bas 4 fa fd ["screen"] (spD K R 1 r_blank) := by
  have sc := sc_blank
  refine FnG.data (g := g_blank) F sc rfl fun cdv A out sh H E q F hg hr => ?_
  exact (ds_cons (dp_expr (de_cd (C_need_screen.more (by decide)) rfl hg hr rfl (da_cons (de_v (pv 0)) da_nil)))
    (ds_cons (dp_asg (de_v (pv 0)) (dg_tup rfl rfl (dgs_cons (dg_name sc.nd (i := 1) rfl (by first | exact Or.inl rfl | exact Or.inr rfl)) (dgs_cons (dg_name sc.nd (i := 2) rfl (by first | exact Or.inl rfl | exact Or.inr rfl)) dgs_nil))))
    (ds_one (dp_ret (de_bin (sem_mulT rfl) (dh_of (de_tup (dl_cons (de_bin (sem_mulS) (dh_of (de_gstr rfl T.s_BLANK_SIGN)) (dh_v (pv 2))) dl_nil))) (dh_v (pv 1)))))))
abbrev st_is_cell_sign : Stmt := topS 39
def names_is_cell_sign : List Str := ["thing"]
theorem sc_is_cell_sign : FnScope names_is_cell_sign ["thing"] (defScope st_is_cell_sign) := ⟨rfl, rfl, rfl, by decide +kernel, rfl, by decide +kernel, by decide +kernel⟩
theorem ok_is_cell_sign {fa : Addr} {fd : FuncData} (T : Tx K gl) (F : L2.Fun K "is_cell_sign" "is_cell_sign" st_is_cell_sign fa fd) (C_is_sign : Cd pr wd K gl bas R 1 "is_sign" 2 r_is_sign) : FnG pr wd K gl bas 2 fa fd ["thing"] (spD K R 1 r_is_cell_sign) := by
  have sc := sc_is_cell_sign
  refine FnG.data (g := g_is_cell_sign) F sc rfl fun cdv A out sh H E q F hg hr => ?_
  exact (ds_one (dp_ret (de_and (de_isi rfl rfl T.n_isinstance rfl T.n_str (by decide +kernel) (dh_v (pv 0))) (de_and (de_cmp (sem_eq rfl (hu64 hr)) (dh_of (de_cb (sem_len rfl) rfl T.n_len (by decide +kernel) (dg_cons (dh_v (pv 0)) dg_nil))) (dh_of de_int) (nomark _)) (pe_one (de_cd (C_is_sign.more (by decide)) rfl hg hr rfl (da_cons (de_v (pv 0)) (da_cons (de_gint rfl T.c_LOWEST_OF_CELLS) da_nil))))))))
abbrev st_is_code_of : Stmt := topS 38
def names_is_code_of : List Str := ["screen", "value", "word", "rows", "columns"]
theorem sc_is_code_of : FnScope names_is_code_of ["screen", "value"] (defScope st_is_code_of) := ⟨rfl, rfl, rfl, by decide +kernel, rfl, by decide +kernel, by decide +kernel⟩
theorem ok_is_code_of {fa : Addr} {fd : FuncData} (T : Tx K gl) (F : L2.Fun K "is_code_of" "is_code_of" st_is_code_of fa fd) (C_is_tuple : Cd pr wd K gl bas R 1 "is_tuple" 3 r_is_tuple) (C_is_cell_sign : Cd pr wd K gl bas R 2 "is_cell_sign" 1 r_is_cell_sign) (C_is_within : Cd pr wd K gl bas R 2 "is_within" 3 r_is_within) : FnG pr wd K gl bas 3 fa fd ["screen", "value"] (spD K R 2 r_is_code_of) := by
  have sc := sc_is_code_of
  refine FnG.data (g := g_is_code_of) F sc rfl fun cdv A out sh H E q F hg hr => ?_
  exact (ds_cons (dp_asg (de_v (pv 0)) (dg_tup rfl rfl (dgs_cons (dg_name sc.nd (i := 3) rfl (by first | exact Or.inl rfl | exact Or.inr rfl)) (dgs_cons (dg_name sc.nd (i := 4) rfl (by first | exact Or.inl rfl | exact Or.inr rfl)) dgs_nil))))
    (ds_cons (dp_if (PW.pt (dw_or (dt_not (dt_truth rfl (dh_of (de_cd (C_is_tuple.more (by decide)) rfl hg hr rfl (da_cons (de_v (pv 1)) (da_cons de_int (da_cons de_int da_nil))))))) (pw_or1 (dt_not (dt_truth rfl (dh_of (de_isi rfl rfl T.n_isinstance rfl T.n_str (by decide +kernel) (dh_of (de_ix rfl (dh_v (pv 1)) (dh_of de_int) (fun _ _ => rfl)))))))))) (ds_one (dp_ret de_bl)) ds_nil)
    (ds_cons (dp_set sc.nd (i := 2) rfl (by first | exact Or.inl rfl | exact Or.inr rfl) (de_ix rfl (dh_v (pv 1)) (dh_of de_int) (fun _ _ => rfl)))
    (ds_cons (dp_if (dt_cmp (sem_eq rfl (hu64 hr)) (dh_of (de_cb (sem_len rfl) rfl T.n_len (by decide +kernel) (dg_cons (dh_v (pv 1)) dg_nil))) (dh_of de_int) (nomark _)) (ds_one (dp_ret (de_cmp (sem_inU rfl (hu65 hr)) (dh_v (pv 2)) (dh_of (de_gtop rfl T.t_LONE_WORDS)) rfl))) ds_nil)
    (ds_cons (dp_if (dt_cmp (sem_eq rfl (hu64 hr)) (dh_of (de_cb (sem_len rfl) rfl T.n_len (by decide +kernel) (dg_cons (dh_v (pv 1)) dg_nil))) (dh_of de_int) (nomark _)) (ds_one (dp_ret (de_or (de_and (de_cmp (sem_eq rfl (hu64 hr)) (dh_v (pv 2)) (dh_of de_str) (nomark _)) (pe_one (de_cd (C_is_cell_sign.more (by decide)) rfl hg hr rfl (da_cons (de_ix rfl (dh_v (pv 1)) (dh_of de_int) (fun _ _ => rfl)) da_nil)))) (pe_one (de_and (de_cmp (sem_eq rfl (hu64 hr)) (dh_v (pv 2)) (dh_of de_str) (nomark _)) (pe_one (de_cd (C_is_within.more (by decide)) rfl hg hr rfl (da_cons (de_ix rfl (dh_v (pv 1)) (dh_of de_int) (fun _ _ => rfl)) (da_cons de_int (da_cons (de_v (pv 3)) da_nil)))))))))) ds_nil)
    (ds_one (dp_ret (de_and (de_cmp (sem_eq rfl (hu64 hr)) (dh_v (pv 2)) (dh_of de_str) (nomark _)) (de_and (de_cd (C_is_within.more (by decide)) rfl hg hr rfl (da_cons (de_ix rfl (dh_v (pv 1)) (dh_of de_int) (fun _ _ => rfl)) (da_cons de_int (da_cons (de_bin (sem_sub) (dh_v (pv 3)) (dh_of de_int)) da_nil)))) (pe_one (de_cd (C_is_within.more (by decide)) rfl hg hr rfl (da_cons (de_ix rfl (dh_v (pv 1)) (dh_of de_int) (fun _ _ => rfl)) (da_cons de_int (da_cons (de_bin (sem_sub) (dh_v (pv 4)) (dh_of de_int)) da_nil))))))))))))))
abbrev st_is_code : Stmt := topS 33
def names_is_code : List Str := ["screen", "value"]
theorem sc_is_code : FnScope names_is_code ["screen", "value"] (defScope st_is_code) := ⟨rfl, rfl, rfl, by decide +kernel, rfl, by decide +kernel, by decide +kernel⟩
theorem ok_is_code {fa : Addr} {fd : FuncData} (T : Tx K gl) (F : L2.Fun K "is_code" "is_code" st_is_code fa fd) (C_need_screen : Cd pr wd K gl bas R 3 "need_screen" 1 r_need_screen) (C_is_code_of : Cd pr wd K gl bas R 3 "is_code_of" 2 r_is_code_of) : FnG pr wd K gl bas 4 fa fd ["screen", "value"] (spD K R 2 r_is_code) := by
  have sc := sc_is_code
  refine FnG.data (g := g_is_code) F sc rfl fun cdv A out sh H E q F hg hr => ?_
  exact (ds_cons (dp_expr (de_cd (C_need_screen.more (by decide)) rfl hg hr rfl (da_cons (de_v (pv 0)) da_nil)))
    (ds_one (dp_ret (de_cd (C_is_code_of.more (by decide)) rfl hg hr rfl (da_cons (de_v (pv 0)) (da_cons (de_v (pv 1)) da_nil))))))
abbrev st_first_state : Stmt := topS 34
def names_first_state : List Str := ["screen", "empty"]
theorem sc_first_state : FnScope names_first_state ["screen"] (defScope st_first_state) := ⟨rfl, rfl, rfl, by decide +kernel, rfl, by decide +kernel, by decide +kernel⟩
theorem ok_first_state {fa : Addr} {fd : FuncData} (T : Tx K gl) (F : L2.Fun K "first_state" "first_state" st_first_state fa fd) (C_blank : Cd pr wd K gl bas R 4 "blank" 1 r_blank) : FnG pr wd K gl bas 5 fa fd ["screen"] (spD K R 1 r_first_state) := by
  have sc := sc_first_state
  refine FnG.data (g := g_first_state) F sc rfl fun cdv A out sh H E q F hg hr => ?_
  exact (ds_cons (dp_set sc.nd (i := 1) rfl (by first | exact Or.inl rfl | exact Or.inr rfl) (de_cd (C_blank.more (by decide)) rfl hg hr rfl (da_cons (de_v (pv 0)) da_nil)))
    (ds_one (dp_ret (de_tup (dl_cons de_str (dl_cons de_int (dl_cons de_int (dl_cons (de_v (pv 1)) (dl_cons (de_v (pv 1)) dl_nil)))))))))
abbrev st_need_codes : Stmt := topS 36
def names_need_codes : List Str := ["screen", "codes", "least", "most", "number", "code"]
theorem sc_need_codes : FnScope names_need_codes ["screen", "codes", "least", "most"] (defScope st_need_codes) := ⟨rfl, rfl, rfl, by decide +kernel, rfl, by decide +kernel, by decide +kernel⟩
theorem ok_need_codes {fa : Addr} {fd : FuncData} (T : Tx K gl) (F : L2.FunD K "need_codes" "need_codes" (defArgs st_need_codes) (defBody st_need_codes) (defScope st_need_codes) [V.int 0, V.int 2000] [] fa fd) (C_is_tuple : Cd pr wd K gl bas R 1 "is_tuple" 3 r_is_tuple) (C_is_code_of : Cd pr wd K gl bas R 3 "is_code_of" 2 r_is_code_of) : FnG pr wd K gl bas 4 fa fd ["screen", "codes", "least", "most"] (spD K R 4 r_need_codes) := by
  have sc := sc_need_codes
  refine FnG.dataD (g := g_need_codes) F sc rfl fun cdv A out sh H E q F hg hr => ?_
  exact (ds_cons (dp_if (dt_not (dt_truth rfl (dh_of (de_cd (C_is_tuple.more (by decide)) rfl hg hr rfl (da_cons (de_v (pv 1)) (da_cons (de_v (pv 2)) (da_cons (de_v (pv 3)) da_nil))))))) ds_never ds_nil)
    (ds_one (dp_for PassesOwn.never rfl (di_enum rfl rfl T.n_enumerate (dl_cons (de_v (pv 1)) dl_nil)) (dg_tup rfl rfl (dgs_cons (dg_name sc.nd (i := 4) rfl (by first | exact Or.inl rfl | exact Or.inr rfl)) (dgs_cons (dg_name sc.nd (i := 5) rfl (by first | exact Or.inl rfl | exact Or.inr rfl)) dgs_nil))) (ds_one (dp_if (dt_not (dt_truth rfl (dh_of (de_cd (C_is_code_of.more (by decide)) rfl hg hr rfl (da_cons (de_v (pv 0)) (da_cons (de_v (pv 5)) da_nil)))))) ds_never ds_nil)))))
abbrev st_cells_of : Stmt := topS 40
def names_cells_of : List Str := ["state"]
theorem sc_cells_of : FnScope names_cells_of ["state"] (defScope st_cells_of) := ⟨rfl, rfl, rfl, by decide +kernel, rfl, by decide +kernel, by decide +kernel⟩
theorem ok_cells_of {fa : Addr} {fd : FuncData} (T : Tx K gl) (F : L2.Fun K "cells_of" "cells_of" st_cells_of fa fd) : FnG pr wd K gl bas 1 fa fd ["state"] (spD K R 1 r_cells_of) := by
  have sc := sc_cells_of
  refine FnG.data (g := g_cells_of) F sc rfl fun cdv A out sh H E q F hg hr => ?_
  exact (ds_one (dp_ret (de_ct (sem_tupS rfl) rfl T.n_tuple (by decide +kernel) (dg_cons (dh_of (de_join rfl de_str (de_bin (sem_add rfl) (dh_of (de_ix rfl (dh_v (pv 0)) (dh_of de_int) (fun _ _ => rfl))) (dh_of (de_ix rfl (dh_v (pv 0)) (dh_of de_int) (fun _ _ => rfl)))))) dg_nil))))
abbrev st_memory_of : Stmt := topS 41
def names_memory_of : List Str := ["screen", "cells", "first", "rows", "columns", "row"]
theorem sc_memory_of : FnScope names_memory_of ["screen", "cells", "first"] (defScope st_memory_of) := ⟨rfl, rfl, rfl, by decide +kernel, rfl, by decide +kernel, by decide +kernel⟩
theorem ok_memory_of {fa : Addr} {fd : FuncData} (T : Tx K gl) (F : L2.Fun K "memory_of" "memory_of" st_memory_of fa fd) : FnG pr wd K gl bas 1 fa fd ["screen", "cells", "first"] (spD K R 3 r_memory_of) := by
  have sc := sc_memory_of
  refine FnG.data (g := g_memory_of) F sc rfl fun cdv A out sh H E q F hg hr => ?_
  exact (ds_cons (dp_asg (de_v (pv 0)) (dg_tup rfl rfl (dgs_cons (dg_name sc.nd (i := 3) rfl (by first | exact Or.inl rfl | exact Or.inr rfl)) (dgs_cons (dg_name sc.nd (i := 4) rfl (by first | exact Or.inl rfl | exact Or.inr rfl)) dgs_nil))))
    (ds_one (dp_ret (de_ct (sem_tuple rfl) rfl T.n_tuple (by decide +kernel) (dg_cons (dh_of (de_n (dn_lc (own := [("row", 5)]) rfl sc.nd (di_range2 rfl T.n_range (dl_cons (de_v (pv 2)) (dl_cons (de_bin (sem_add rfl) (dh_v (pv 2)) (dh_v (pv 3))) dl_nil))) (blkOk_by (own := [("row", 5)]) (N := names_memory_of) (sc := defScope st_memory_of) (by decide +kernel)) (by decide) (fun _ _ _ _ _ => (dg_name sc.nd (i := 5) rfl (by first | exact Or.inl rfl | exact Or.inr rfl))) (fun _ _ _ _ _ => dts_nil) (fun _ _ _ _ _ => (de_join rfl de_str (de_sl rfl (dh_v (pv 1)) (do_i (de_bin (sem_mul rfl) (dh_v (pv 5)) (dh_v (pv 4)))) (do_i (de_bin (sem_mul rfl) (dh_of (de_bin (sem_add rfl) (dh_v (pv 5)) (dh_of de_int))) (dh_v (pv 4)))))))))) dg_nil)))))
abbrev st_pictures : Stmt := topS 35
def names_pictures : List Str := ["screen", "codes", "state", "control", "cells", "found", "code"]
theorem sc_pictures : FnScope names_pictures ["screen", "codes"] (defScope st_pictures) := ⟨rfl, rfl, rfl, by decide +kernel, rfl, by decide +kernel, by decide +kernel⟩
theorem ok_pictures {fa : Addr} {fd : FuncData} (T : Tx K gl) (F : L2.Fun K "pictures" "pictures" st_pictures fa fd) (CD_need_codes : CdD pr wd K gl bas R 4 "need_codes" 2 [PyData.int 0, PyData.int 2000] r_need_codes) (C_first_state : Cd pr wd K gl bas R 5 "first_state" 1 r_first_state) (C_cells_of : Cd pr wd K gl bas R 1 "cells_of" 1 r_cells_of) (C_stepped : Cd pr wd K gl bas R 3 "stepped" 4 r_stepped) (C_memory_of : Cd pr wd K gl bas R 1 "memory_of" 3 r_memory_of) : FnG pr wd K gl bas 6 fa fd ["screen", "codes"] (spD K R 2 r_pictures) := by
  have sc := sc_pictures
  refine FnG.data (g := g_pictures) F sc rfl fun cdv A out sh H E q F hg hr => ?_
  exact (ds_cons (dp_set sc.nd (i := 2) rfl (by first | exact Or.inl rfl | exact Or.inr rfl) (de_cd (C_first_state.more (by decide)) rfl hg hr rfl (da_cons (de_v (pv 0)) da_nil)))
    (ds_cons (dp_expr (de_cdD (CD_need_codes.more (by decide)) rfl hg hr rfl (da_cons (de_v (pv 0)) (da_cons (de_v (pv 1)) da_nil))))
    (ds_cons (dp_set sc.nd (i := 3) rfl (by first | exact Or.inl rfl | exact Or.inr rfl) (de_sl rfl (dh_v (pv 2)) do_no (do_i de_int)))
    (ds_cons (dp_set sc.nd (i := 4) rfl (by first | exact Or.inl rfl | exact Or.inr rfl) (de_cd (C_cells_of.more (by decide)) rfl hg hr rfl (da_cons (de_v (pv 2)) da_nil)))
    (ds_cons (dp_setN sc.nd (i := 5) rfl (by first | exact Or.inl rfl | exact Or.inr rfl) (dn_lst dl_nil))
    (ds_cons (dp_for PassesOwn.never rfl (di_seq rfl (de_v (pv 1))) (dg_name sc.nd (i := 6) rfl (by first | exact Or.inl rfl | exact Or.inr rfl)) (ds_cons (dp_asg (de_cd (C_stepped.more (by decide)) rfl hg hr rfl (da_cons (de_v (pv 0)) (da_cons (de_v (pv 3)) (da_cons (de_v (pv 4)) (da_cons (de_v (pv 6)) da_nil))))) (dg_tup rfl rfl (dgs_cons (dg_name sc.nd (i := 3) rfl (by first | exact Or.inl rfl | exact Or.inr rfl)) (dgs_cons (dg_name sc.nd (i := 4) rfl (by first | exact Or.inl rfl | exact Or.inr rfl)) dgs_nil))))
    (ds_one (dp_app rfl (pv 5) (de_cd (C_memory_of.more (by decide)) rfl hg hr rfl (da_cons (de_v (pv 0)) (da_cons (de_v (pv 4)) (da_cons de_int da_nil))))))))
    (ds_one (dp_ret (de_ct (sem_tuple rfl) rfl T.n_tuple (by decide +kernel) (dg_cons (dh_v (pv 5)) dg_nil))))))))))
abbrev st_are_codes : Stmt := topS 37
def names_are_codes : List Str := ["screen", "value", "least", "most", "code"]
theorem sc_are_codes : FnScope names_are_codes ["screen", "value", "least", "most"] (defScope st_are_codes) := ⟨rfl, rfl, rfl, by decide +kernel, rfl, by decide +kernel, by decide +kernel⟩
theorem ok_are_codes {fa : Addr} {fd : FuncData} (T : Tx K gl) (F : L2.FunD K "are_codes" "are_codes" (defArgs st_are_codes) (defBody st_are_codes) (defScope st_are_codes) [V.int 0, V.int 2000] [] fa fd) (C_is_tuple : Cd pr wd K gl bas R 1 "is_tuple" 3 r_is_tuple) (C_is_code_of : Cd pr wd K gl bas R 3 "is_code_of" 2 r_is_code_of) : FnG pr wd K gl bas 4 fa fd ["screen", "value", "least", "most"] (spD K R 4 r_are_codes) := by
  have sc := sc_are_codes
  refine FnG.dataD (g := g_are_codes) F sc rfl fun cdv A out sh H E q F hg hr => ?_
  exact (ds_one (dp_ret (de_and (de_cd (C_is_tuple.more (by decide)) rfl hg hr rfl (da_cons (de_v (pv 1)) (da_cons (de_v (pv 2)) (da_cons (de_v (pv 3)) da_nil)))) (pe_one (de_cb (sem_all rfl rfl) rfl T.n_all (by decide +kernel) (dg_cons (dh_of (de_n (dn_lc (own := [("code", 4)]) rfl sc.nd (di_seq rfl (de_v (pv 1))) (blkOk_by (own := [("code", 4)]) (N := names_are_codes) (sc := defScope st_are_codes) (by decide +kernel)) (by decide) (fun _ _ _ _ _ => (dg_name sc.nd (i := 4) rfl (by first | exact Or.inl rfl | exact Or.inr rfl))) (fun _ _ _ _ _ => dts_nil) (fun _ _ _ _ _ => (de_cd (C_is_code_of.more (by decide)) rfl hg hr rfl (da_cons (de_v (pv 0)) (da_cons (de_v (pv 4)) da_nil))))))) dg_nil))))))
abbrev st__is_line : Stmt := topS 46
def names__is_line : List Str := ["thing"]
theorem sc__is_line : FnScope names__is_line ["thing"] (defScope st__is_line) := ⟨rfl, rfl, rfl, by decide +kernel, rfl, by decide +kernel, by decide +kernel⟩
theorem ok__is_line {fa : Addr} {fd : FuncData} (T : Tx K gl) (F : L2.Fun K "_is_line" "_is_line" st__is_line fa fd) (C_has_signs : Cd pr wd K gl bas R 2 "has_signs" 2 r_has_signs) : FnG pr wd K gl bas 3 fa fd ["thing"] (spD K R 1 r__is_line) := by
  have sc := sc__is_line
  refine FnG.data (g := g__is_line) F sc rfl fun cdv A out sh H E q F hg hr => ?_
  exact (ds_one (dp_ret (de_and (de_cd (C_has_signs.more (by decide)) rfl hg hr rfl (da_cons (de_v (pv 0)) (da_cons (de_gint rfl T.c_LOWEST_OF_LINES) da_nil))) (de_and (de_cmp (sem_ne rfl (hu64 hr)) (dh_of (de_ix rfl (dh_v (pv 0)) (dh_of de_int) (fun _ _ => rfl))) (dh_of de_str) (nomark _)) (pe_one (de_cmp (sem_ne rfl (hu64 hr)) (dh_of (de_ix rfl (dh_v (pv 0)) (dh_of (de_neg de_int)) (fun _ _ => rfl))) (dh_of de_str) (nomark _)))))))
abbrev st_is_text : Stmt := topS 45
def names_is_text : List Str := ["thing", "line"]
theorem sc_is_text : FnScope names_is_text ["thing"] (defScope st_is_text) := ⟨rfl, rfl, rfl, by decide +kernel, rfl, by decide +kernel, by decide +kernel⟩
theorem ok_is_text {fa : Addr} {fd : FuncData} (T : Tx K gl) (F : L2.Fun K "is_text" "is_text" st_is_text fa fd) (C_is_tuple : Cd pr wd K gl bas R 1 "is_tuple" 3 r_is_tuple) (C__is_line : Cd pr wd K gl bas R 3 "_is_line" 1 r__is_line) : FnG pr wd K gl bas 4 fa fd ["thing"] (spD K R 1 r_is_text) := by
  have sc := sc_is_text
  refine FnG.data (g := g_is_text) F sc rfl fun cdv A out sh H E q F hg hr => ?_
  exact (ds_one (dp_ret (de_and (de_cd (C_is_tuple.more (by decide)) rfl hg hr rfl (da_cons (de_v (pv 0)) (da_cons de_int (da_cons (de_gint rfl T.c_MOST_LINES) da_nil)))) (pe_one (de_cb (sem_all rfl rfl) rfl T.n_all (by decide +kernel) (dg_cons (dh_of (de_n (dn_lc (own := [("line", 1)]) rfl sc.nd (di_seq rfl (de_v (pv 0))) (blkOk_by (own := [("line", 1)]) (N := names_is_text) (sc := defScope st_is_text) (by decide +kernel)) (by decide) (fun _ _ _ _ _ => (dg_name sc.nd (i := 1) rfl (by first | exact Or.inl rfl | exact Or.inr rfl))) (fun _ _ _ _ _ => dts_nil) (fun _ _ _ _ _ => (de_cd (C__is_line.more (by decide)) rfl hg hr rfl (da_cons (de_v (pv 1)) da_nil)))))) dg_nil))))))
abbrev st__has_room : Stmt := topS 54
def names__has_room : List Str := ["screen", "thing", "rows", "columns", "line"]
theorem sc__has_room : FnScope names__has_room ["screen", "thing"] (defScope st__has_room) := ⟨rfl, rfl, rfl, by decide +kernel, rfl, by decide +kernel, by decide +kernel⟩
theorem ok__has_room {fa : Addr} {fd : FuncData} (T : Tx K gl) (F : L2.Fun K "_has_room" "_has_room" st__has_room fa fd) (C_is_text : Cd pr wd K gl bas R 4 "is_text" 1 r_is_text) : FnG pr wd K gl bas 5 fa fd ["screen", "thing"] (spD K R 2 r__has_room) := by
  have sc := sc__has_room
  refine FnG.data (g := g__has_room) F sc rfl fun cdv A out sh H E q F hg hr => ?_
  exact (ds_cons (dp_asg (de_v (pv 0)) (dg_tup rfl rfl (dgs_cons (dg_name sc.nd (i := 2) rfl (by first | exact Or.inl rfl | exact Or.inr rfl)) (dgs_cons (dg_name sc.nd (i := 3) rfl (by first | exact Or.inl rfl | exact Or.inr rfl)) dgs_nil))))
    (ds_one (dp_ret (de_and (de_cd (C_is_text.more (by decide)) rfl hg hr rfl (da_cons (de_v (pv 1)) da_nil)) (de_and (de_cmp (sem_le) (dh_of (de_cb (sem_len rfl) rfl T.n_len (by decide +kernel) (dg_cons (dh_v (pv 1)) dg_nil))) (dh_v (pv 2)) (nomark _)) (pe_one (de_cb (sem_all rfl rfl) rfl T.n_all (by decide +kernel) (dg_cons (dh_of (de_n (dn_lc (own := [("line", 4)]) rfl sc.nd (di_seq rfl (de_v (pv 1))) (blkOk_by (own := [("line", 4)]) (N := names__has_room) (sc := defScope st__has_room) (by decide +kernel)) (by decide) (fun _ _ _ _ _ => (dg_name sc.nd (i := 4) rfl (by first | exact Or.inl rfl | exact Or.inr rfl))) (fun _ _ _ _ _ => dts_nil) (fun _ _ _ _ _ => (de_cmp (sem_le) (dh_of (de_cb (sem_len rfl) rfl T.n_len (by decide +kernel) (dg_cons (dh_v (pv 4)) dg_nil))) (dh_v (pv 3)) (nomark _)))))) dg_nil))))))))
abbrev st__is_sendable : Stmt := topS 53
def names__is_sendable : List Str := ["screen", "thing"]
theorem sc__is_sendable : FnScope names__is_sendable ["screen", "thing"] (defScope st__is_sendable) := ⟨rfl, rfl, rfl, by decide +kernel, rfl, by decide +kernel, by decide +kernel⟩
theorem ok__is_sendable {fa : Addr} {fd : FuncData} (T : Tx K gl) (F : L2.Fun K "_is_sendable" "_is_sendable" st__is_sendable fa fd) (C_is_tuple : Cd pr wd K gl bas R 1 "is_tuple" 3 r_is_tuple) (C_is_within : Cd pr wd K gl bas R 2 "is_within" 3 r_is_within) (C__has_room : Cd pr wd K gl bas R 5 "_has_room" 2 r__has_room) : FnG pr wd K gl bas 6 fa fd ["screen", "thing"] (spD K R 2 r__is_sendable) := by
  have sc := sc__is_sendable
  refine FnG.data (g := g__is_sendable) F sc rfl fun cdv A out sh H E q F hg hr => ?_
  exact (ds_cons (dp_if (PW.pt (dw_or (dt_not (dt_truth rfl (dh_of (de_cd (C_is_tuple.more (by decide)) rfl hg hr rfl (da_cons (de_v (pv 1)) (da_cons de_int (da_cons de_int da_nil))))))) (pw_or1 (dt_not (dt_truth rfl (dh_of (de_cd (C_is_within.more (by decide)) rfl hg hr rfl (da_cons (de_ix rfl (dh_v (pv 1)) (dh_of de_int) (fun _ _ => rfl)) (da_cons de_int (da_cons (de_gint rfl T.c_LAST_FRAME) da_nil)))))))))) (ds_one (dp_ret de_bl)) ds_nil)
    (ds_one (dp_ret (de_and (de_cd (C_is_within.more (by decide)) rfl hg hr rfl (da_cons (de_ix rfl (dh_v (pv 1)) (dh_of de_int) (fun _ _ => rfl)) (da_cons (de_bin (sem_add rfl) (dh_of (de_ix rfl (dh_v (pv 1)) (dh_of de_int) (fun _ _ => rfl))) (dh_of de_int)) (da_cons (de_gint rfl T.c_LAST_FRAME) da_nil)))) (pe_one (de_cd (C__has_room.more (by decide)) rfl hg hr rfl (da_cons (de_v (pv 0)) (da_cons (de_ix rfl (dh_v (pv 1)) (dh_of de_int) (fun _ _ => rfl)) da_nil))))))))
abbrev st__need_cues : Stmt := topS 52
def names__need_cues : List Str := ["screen", "cues", "free", "number", "cue"]
theorem sc__need_cues : FnScope names__need_cues ["screen", "cues"] (defScope st__need_cues) := ⟨rfl, rfl, rfl, by decide +kernel, rfl, by decide +kernel, by decide +kernel⟩
theorem ok__need_cues {fa : Addr} {fd : FuncData} (T : Tx K gl) (F : L2.Fun K "_need_cues" "_need_cues" st__need_cues fa fd) (C_need_screen : Cd pr wd K gl bas R 3 "need_screen" 1 r_need_screen) (C_is_tuple : Cd pr wd K gl bas R 1 "is_tuple" 3 r_is_tuple) (C__is_sendable : Cd pr wd K gl bas R 6 "_is_sendable" 2 r__is_sendable) : FnG pr wd K gl bas 7 fa fd ["screen", "cues"] (spD K R 2 r__need_cues) := by
  have sc := sc__need_cues
  refine FnG.data (g := g__need_cues) F sc rfl fun cdv A out sh H E q F hg hr => ?_
  exact (ds_cons (dp_expr (de_cd (C_need_screen.more (by decide)) rfl hg hr rfl (da_cons (de_v (pv 0)) da_nil)))
    (ds_cons (dp_if (dt_not (dt_truth rfl (dh_of (de_cd (C_is_tuple.more (by decide)) rfl hg hr rfl (da_cons (de_v (pv 1)) (da_cons de_int (da_cons (de_gint rfl T.c_MOST_SENDABLE) da_nil))))))) ds_never ds_nil)
    (ds_cons (dp_set sc.nd (i := 2) rfl (by first | exact Or.inl rfl | exact Or.inr rfl) de_int)
    (ds_one (dp_for PassesOwn.never rfl (di_enum rfl rfl T.n_enumerate (dl_cons (de_v (pv 1)) dl_nil)) (dg_tup rfl rfl (dgs_cons (dg_name sc.nd (i := 3) rfl (by first | exact Or.inl rfl | exact Or.inr rfl)) (dgs_cons (dg_name sc.nd (i := 4) rfl (by first | exact Or.inl rfl | exact Or.inr rfl)) dgs_nil))) (ds_cons (dp_if (PW.pt (dw_or (dt_not (dt_truth rfl (dh_of (de_cd (C__is_sendable.more (by decide)) rfl hg hr rfl (da_cons (de_v (pv 0)) (da_cons (de_v (pv 4)) da_nil)))))) (pw_or1 (dt_cmp (sem_lt) (dh_of (de_ix rfl (dh_v (pv 4)) (dh_of de_int) (fun _ _ => rfl))) (dh_v (pv 2)) (nomark _))))) ds_never ds_nil)
    (ds_one (dp_set sc.nd (i := 2) rfl (by first | exact Or.inl rfl | exact Or.inr rfl) (de_ix rfl (dh_v (pv 4)) (dh_of de_int) (fun _ _ => rfl))))))))))
abbrev st__free_frames : Stmt := topS 57
def names__free_frames : List Str := ["ahead", "start", "between"]
theorem sc__free_frames : FnScope names__free_frames ["ahead", "start"] (defScope st__free_frames) := ⟨rfl, rfl, rfl, by decide +kernel, rfl, by decide +kernel, by decide +kernel⟩
theorem ok__free_frames {fa : Addr} {fd : FuncData} (T : Tx K gl) (F : L2.Fun K "_free_frames" "_free_frames" st__free_frames fa fd) : FnG pr wd K gl bas 1 fa fd ["ahead", "start"] (spD K R 2 r__free_frames) := by
  have sc := sc__free_frames
  refine FnG.data (g := g__free_frames) F sc rfl fun cdv A out sh H E q F hg hr => ?_
  exact (ds_cons (dp_if (dt_cmp (sem_is) (dh_v (pv 0)) (dh_of de_non) (nomark _)) (ds_one (dp_ret (de_v (pv 1)))) ds_nil)
    (ds_cons (dp_set sc.nd (i := 2) rfl (by first | exact Or.inl rfl | exact Or.inr rfl) (de_bin (sem_sub) (dh_of (de_bin (sem_sub) (dh_v (pv 1)) (dh_of (de_ix rfl (dh_v (pv 0)) (dh_of de_int) (fun _ _ => rfl))))) (dh_of de_int)))
    (ds_cons (dp_if (dt_cmp (sem_lt) (dh_of (de_ix rfl (dh_v (pv 0)) (dh_of de_int) (fun _ _ => rfl))) (dh_v (pv 1)) (nomark _)) (ds_one (dp_ret (de_bin (sem_sub) (dh_v (pv 2)) (dh_of de_int)))) ds_nil)
    (ds_one (dp_ret (de_v (pv 2)))))))
abbrev st__load_of : Stmt := topS 55
def names__load_of : List Str := ["text", "codes", "row", "line", "sign"]
theorem sc__load_of : FnScope names__load_of ["text"] (defScope st__load_of) := ⟨rfl, rfl, rfl, by decide +kernel, rfl, by decide +kernel, by decide +kernel⟩
theorem ok__load_of {fa : Addr} {fd : FuncData} (T : Tx K gl) (F : L2.Fun K "_load_of" "_load_of" st__load_of fa fd) : FnG pr wd K gl bas 1 fa fd ["text"] (spD K R 1 r__load_of) := by
  have sc := sc__load_of
  refine FnG.data (g := g__load_of) F sc rfl fun cdv A out sh H E q F hg hr => ?_
  exact (ds_cons (dp_setN sc.nd (i := 1) rfl (by first | exact Or.inl rfl | exact Or.inr rfl) (dn_lst (dl_cons (de_tup (dl_cons de_str dl_nil)) (dl_cons (de_tup (dl_cons de_str dl_nil)) dl_nil))))
    (ds_cons (dp_for PassesOwn.never rfl (di_enum rfl rfl T.n_enumerate (dl_cons (de_v (pv 0)) dl_nil)) (dg_tup rfl rfl (dgs_cons (dg_name sc.nd (i := 2) rfl (by first | exact Or.inl rfl | exact Or.inr rfl)) (dgs_cons (dg_name sc.nd (i := 3) rfl (by first | exact Or.inl rfl | exact Or.inr rfl)) dgs_nil))) (ds_cons (dp_app rfl (pv 1) (de_tup (dl_cons de_str (dl_cons (de_v (pv 2)) (dl_cons de_int dl_nil)))))
    (ds_one (dp_ext (pv 1) (dn_lc (own := [("sign", 4)]) rfl sc.nd (di_seq rfl (de_v (pv 3))) (blkOk_by (own := [("sign", 4)]) (N := names__load_of) (sc := defScope st__load_of) (by decide +kernel)) (by decide) (fun _ _ _ _ _ => (dg_name sc.nd (i := 4) rfl (by first | exact Or.inl rfl | exact Or.inr rfl))) (fun _ _ _ _ _ => dts_nil) (fun _ _ _ _ _ => (de_tup (dl_cons de_str (dl_cons (de_v (pv 4)) dl_nil)))))))))
    (ds_one (dp_ret (de_ct (sem_tuple rfl) rfl T.n_tuple (by decide +kernel) (dg_cons (dh_v (pv 1)) dg_nil))))))
abbrev st__first_short : Stmt := topS 58
def names__first_short : List Str := ["cues", "ahead", "number", "cue"]
theorem sc__first_short : FnScope names__first_short ["cues"] (defScope st__first_short) := ⟨rfl, rfl, rfl, by decide +kernel, rfl, by decide +kernel, by decide +kernel⟩
theorem ok__first_short {fa : Addr} {fd : FuncData} (T : Tx K gl) (F : L2.Fun K "_first_short" "_first_short" st__first_short fa fd) (C__free_frames : Cd pr wd K gl bas R 1 "_free_frames" 2 r__free_frames) (C__load_of : Cd pr wd K gl bas R 1 "_load_of" 1 r__load_of) : FnG pr wd K gl bas 2 fa fd ["cues"] (spD K R 1 r__first_short) := by
  have sc := sc__first_short
  refine FnG.data (g := g__first_short) F sc rfl fun cdv A out sh H E q F hg hr => ?_
  exact (ds_cons (dp_set sc.nd (i := 1) rfl (by first | exact Or.inl rfl | exact Or.inr rfl) de_non)
    (ds_cons (dp_for PassesOwn.never rfl (di_enum rfl rfl T.n_enumerate (dl_cons (de_v (pv 0)) dl_nil)) (dg_tup rfl rfl (dgs_cons (dg_name sc.nd (i := 2) rfl (by first | exact Or.inl rfl | exact Or.inr rfl)) (dgs_cons (dg_name sc.nd (i := 3) rfl (by first | exact Or.inl rfl | exact Or.inr rfl)) dgs_nil))) (ds_cons (dp_if (dt_cmp (sem_lt) (dh_of (de_cd (C__free_frames.more (by decide)) rfl hg hr rfl (da_cons (de_v (pv 1)) (da_cons (de_ix rfl (dh_v (pv 3)) (dh_of de_int) (fun _ _ => rfl)) da_nil)))) (dh_of (de_cb (sem_len rfl) rfl T.n_len (by decide +kernel) (dg_cons (dh_of (de_cd (C__load_of.more (by decide)) rfl hg hr rfl (da_cons (de_ix rfl (dh_v (pv 3)) (dh_of de_int) (fun _ _ => rfl)) da_nil))) dg_nil))) (nomark _)) (ds_one (dp_ret (de_v (pv 2)))) ds_nil)
    (ds_one (dp_set sc.nd (i := 1) rfl (by first | exact Or.inl rfl | exact Or.inr rfl) (de_v (pv 3))))))
    (ds_one (dp_ret de_non))))
abbrev st__stream_of : Stmt := topS 59
def names__stream_of : List Str := ["cues", "codes", "start", "end", "_", "text", "left", "frame", "code"]
theorem sc__stream_of : FnScope names__stream_of ["cues"] (defScope st__stream_of) := ⟨rfl, rfl, rfl, by decide +kernel, rfl, by decide +kernel, by decide +kernel⟩
theorem ok__stream_of {fa : Addr} {fd : FuncData} (T : Tx K gl) (F : L2.Fun K "_stream_of" "_stream_of" st__stream_of fa fd) (C__load_of : Cd pr wd K gl bas R 1 "_load_of" 1 r__load_of) : FnG pr wd K gl bas 2 fa fd ["cues"] (spD K R 1 r__stream_of) := by
  have sc := sc__stream_of
  refine FnG.data (g := g__stream_of) F sc rfl fun cdv A out sh H E q F hg hr => ?_
  exact (ds_cons (dp_if (dt_not (dt_truth rfl (dh_v (pv 0)))) (ds_one (dp_ret (de_tup dl_nil))) ds_nil)
    (ds_cons (dp_setN sc.nd (i := 1) rfl (by first | exact Or.inl rfl | exact Or.inr rfl) (dn_rep (dn_lst (dl_cons de_non dl_nil)) (de_bin (sem_add rfl) (dh_of (de_ix rfl (dh_of (de_ix rfl (dh_v (pv 0)) (dh_of (de_neg de_int)) (fun _ _ => rfl))) (dh_of de_int) (fun _ _ => rfl))) (dh_of de_int))))
    (ds_cons (dp_for PassesOwn.never rfl (di_seq rfl (de_v (pv 0))) (dg_tup rfl rfl (dgs_cons (dg_name sc.nd (i := 2) rfl (by first | exact Or.inl rfl | exact Or.inr rfl)) (dgs_cons (dg_name sc.nd (i := 3) rfl (by first | exact Or.inl rfl | exact Or.inr rfl)) (dgs_cons (dg_name sc.nd (i := 4) rfl (by first | exact Or.inl rfl | exact Or.inr rfl)) dgs_nil)))) (ds_cons (dp_put (pv 1) (de_v (pv 2)) (de_tup (dl_cons de_str dl_nil)))
    (ds_one (dp_put (pv 1) (de_v (pv 3)) (de_tup (dl_cons de_str dl_nil))))))
    (ds_cons (dp_for PassesOwn.never rfl (di_seq rfl (de_v (pv 0))) (dg_tup rfl rfl (dgs_cons (dg_name sc.nd (i := 2) rfl (by first | exact Or.inl rfl | exact Or.inr rfl)) (dgs_cons (dg_name sc.nd (i := 4) rfl (by first | exact Or.inl rfl | exact Or.inr rfl)) (dgs_cons (dg_name sc.nd (i := 5) rfl (by first | exact Or.inl rfl | exact Or.inr rfl)) dgs_nil)))) (ds_cons (dp_setN sc.nd (i := 6) rfl (by first | exact Or.inl rfl | exact Or.inr rfl) (dn_list rfl rfl T.n_list (dg_cons (dh_of (de_cd (C__load_of.more (by decide)) rfl hg hr rfl (da_cons (de_v (pv 5)) da_nil))) dg_nil)))
    (ds_cons (dp_set sc.nd (i := 7) rfl (by first | exact Or.inl rfl | exact Or.inr rfl) (de_bin (sem_sub) (dh_v (pv 2)) (dh_of de_int)))
    (ds_one (dp_while PassesOwn.never (dt_truth rfl (dh_v (pv 6))) (ds_cons (dp_if (dt_cmp (sem_is) (dh_of (de_ix rfl (dh_v (pv 1)) (dh_v (pv 7)) (fun _ _ => rfl))) (dh_of de_non) (nomark _)) (ds_one (dp_put (pv 1) (de_v (pv 7)) (de_pop (pv 6)))) ds_nil)
    (ds_one (dp_aug sc.nd (i := 7) rfl (by first | exact Or.inl rfl | exact Or.inr rfl) (dh_of de_int) sem_isub))))))))
    (ds_one (dp_ret (de_ct (sem_tuple rfl) rfl T.n_tuple (by decide +kernel) (dg_cons (dh_of (de_n (dn_lc (own := [("code", 8)]) rfl sc.nd (di_seq rfl (de_v (pv 1))) (blkOk_by (own := [("code", 8)]) (N := names__stream_of) (sc := defScope st__stream_of) (by decide +kernel)) (by decide) (fun _ _ _ _ _ => (dg_name sc.nd (i := 8) rfl (by first | exact Or.inl rfl | exact Or.inr rfl))) (fun _ _ _ _ _ => dts_nil) (fun _ _ _ _ _ => (de_if (dt_cmp (sem_is) (dh_v (pv 8)) (dh_of de_non) (nomark _)) (de_tup (dl_cons de_str dl_nil)) (de_v (pv 8))))))) dg_nil))))))))
abbrev st_send_paper : Stmt := topS 50
def names_send_paper : List Str := ["screen", "cues", "short"]
theorem sc_send_paper : FnScope names_send_paper ["screen", "cues"] (defScope st_send_paper) := ⟨rfl, rfl, rfl, by decide +kernel, rfl, by decide +kernel, by decide +kernel⟩
theorem ok_send_paper {fa : Addr} {fd : FuncData} (T : Tx K gl) (F : L2.Fun K "send_paper" "send_paper" st_send_paper fa fd) (C__need_cues : Cd pr wd K gl bas R 7 "_need_cues" 2 r__need_cues) (C__first_short : Cd pr wd K gl bas R 2 "_first_short" 1 r__first_short) (C__stream_of : Cd pr wd K gl bas R 2 "_stream_of" 1 r__stream_of) : FnG pr wd K gl bas 8 fa fd ["screen", "cues"] (spD K R 2 r_send_paper) := by
  have sc := sc_send_paper
  refine FnG.data (g := g_send_paper) F sc rfl fun cdv A out sh H E q F hg hr => ?_
  exact (ds_cons (dp_expr (de_cd (C__need_cues.more (by decide)) rfl hg hr rfl (da_cons (de_v (pv 0)) (da_cons (de_v (pv 1)) da_nil))))
    (ds_cons (dp_set sc.nd (i := 2) rfl (by first | exact Or.inl rfl | exact Or.inr rfl) (de_cd (C__first_short.more (by decide)) rfl hg hr rfl (da_cons (de_v (pv 1)) da_nil)))
    (ds_cons (dp_if (dt_cmp (sem_isnot) (dh_v (pv 2)) (dh_of de_non) (nomark _)) (ds_one (dp_ret (de_tup (dl_cons de_str (dl_cons (de_v (pv 2)) dl_nil))))) ds_nil)
    (ds_one (dp_ret (de_tup (dl_cons de_str (dl_cons (de_cd (C__stream_of.more (by decide)) rfl hg hr rfl (da_cons (de_v (pv 1)) da_nil)) dl_nil))))))))
abbrev st__picture_of : Stmt := topS 56
def names__picture_of : List Str := ["screen", "text", "empty", "lines", "rows", "columns", "line"]
theorem sc__picture_of : FnScope names__picture_of ["screen", "text"] (defScope st__picture_of) := ⟨rfl, rfl, rfl, by decide +kernel, rfl, by decide +kernel, by decide +kernel⟩
theorem ok__picture_of {fa : Addr} {fd : FuncData} (T : Tx K gl) (F : L2.Fun K "_picture_of" "_picture_of" st__picture_of fa fd) : FnG pr wd K gl bas 1 fa fd ["screen", "text"] (spD K R 2 r__picture_of) := by
  have sc := sc__picture_of
  refine FnG.data (g := g__picture_of) F sc rfl fun cdv A out sh H E q F hg hr => ?_
  exact (ds_cons (dp_asg (de_v (pv 0)) (dg_tup rfl rfl (dgs_cons (dg_name sc.nd (i := 4) rfl (by first | exact Or.inl rfl | exact Or.inr rfl)) (dgs_cons (dg_name sc.nd (i := 5) rfl (by first | exact Or.inl rfl | exact Or.inr rfl)) dgs_nil))))
    (ds_cons (dp_set sc.nd (i := 2) rfl (by first | exact Or.inl rfl | exact Or.inr rfl) (de_bin (sem_mulS) (dh_of (de_gstr rfl T.s_BLANK_SIGN)) (dh_v (pv 5))))
    (ds_cons (dp_setLc (n := 3) (own := [("line", 6)]) rfl sc.nd rfl rfl (sw_true rfl rfl rfl (by decide +kernel)) (di_seq rfl (de_v (pv 1))) (blkOk_by (own := [("line", 6)]) (N := names__picture_of) (sc := defScope st__picture_of) (by decide +kernel)) (by decide) (fun _ _ _ _ _ => (dg_name sc.nd (i := 6) rfl (by first | exact Or.inl rfl | exact Or.inr rfl))) (fun _ _ _ _ _ => dts_nil) (fun _ _ _ _ _ => (de_sl rfl (dh_of (de_bin (sem_add rfl) (dh_v (pv 6)) (dh_v (pv 2)))) do_no (do_i (de_v (pv 5))))))
    (ds_one (dp_ret (de_ct (sem_tuple rfl) rfl T.n_tuple (by decide +kernel) (dg_cons (dh_of (de_bin (sem_add rfl) (dh_v (pv 3)) (dh_of (de_bin (sem_mul rfl) (dh_of (de_n (dn_lst (dl_cons (de_v (pv 2)) dl_nil)))) (dh_of (de_bin (sem_sub) (dh_v (pv 4)) (dh_of (de_cb (sem_len rfl) rfl T.n_len (by decide +kernel) (dg_cons (dh_v (pv 3)) dg_nil))))))))) dg_nil)))))))
abbrev st__sends : Stmt := topS 60
def names__sends : List Str := ["screen", "cues", "thing", "many", "told", "start", "end", "text"]
theorem sc__sends : FnScope names__sends ["screen", "cues", "thing"] (defScope st__sends) := ⟨rfl, rfl, rfl, by decide +kernel, rfl, by decide +kernel, by decide +kernel⟩
theorem ok__sends {fa : Addr} {fd : FuncData} (T : Tx K gl) (F : L2.Fun K "_sends" "_sends" st__sends fa fd) (C_are_codes : Cd pr wd K gl bas R 4 "are_codes" 4 r_are_codes) (C_blank : Cd pr wd K gl bas R 4 "blank" 1 r_blank) (C__picture_of : Cd pr wd K gl bas R 1 "_picture_of" 2 r__picture_of) (C_pictures : Cd pr wd K gl bas R 6 "pictures" 2 r_pictures) : FnG pr wd K gl bas 7 fa fd ["screen", "cues", "thing"] (spD K R 3 r__sends) := by
  have sc := sc__sends
  refine FnG.data (g := g__sends) F sc rfl fun cdv A out sh H E q F hg hr => ?_
  exact (ds_cons (dp_set sc.nd (i := 3) rfl (by first | exact Or.inl rfl | exact Or.inr rfl) de_int)
    (ds_cons (dp_if (dt_truth rfl (dh_v (pv 1))) (ds_one (dp_set sc.nd (i := 3) rfl (by first | exact Or.inl rfl | exact Or.inr rfl) (de_bin (sem_add rfl) (dh_of (de_ix rfl (dh_of (de_ix rfl (dh_v (pv 1)) (dh_of (de_neg de_int)) (fun _ _ => rfl))) (dh_of de_int) (fun _ _ => rfl))) (dh_of de_int)))) ds_nil)
    (ds_cons (dp_if (dt_not (dt_truth rfl (dh_of (de_cd (C_are_codes.more (by decide)) rfl hg hr rfl (da_cons (de_v (pv 0)) (da_cons (de_v (pv 2)) (da_cons (de_v (pv 3)) (da_cons (de_v (pv 3)) da_nil)))))))) (ds_one (dp_ret de_bl)) ds_nil)
    (ds_cons (dp_setN sc.nd (i := 4) rfl (by first | exact Or.inl rfl | exact Or.inr rfl) (dn_rep (dn_lst (dl_cons (de_cd (C_blank.more (by decide)) rfl hg hr rfl (da_cons (de_v (pv 0)) da_nil)) dl_nil)) (de_v (pv 3))))
    (ds_cons (dp_for PassesOwn.never rfl (di_seq rfl (de_v (pv 1))) (dg_tup rfl rfl (dgs_cons (dg_name sc.nd (i := 5) rfl (by first | exact Or.inl rfl | exact Or.inr rfl)) (dgs_cons (dg_name sc.nd (i := 6) rfl (by first | exact Or.inl rfl | exact Or.inr rfl)) (dgs_cons (dg_name sc.nd (i := 7) rfl (by first | exact Or.inl rfl | exact Or.inr rfl)) dgs_nil)))) (ds_one (dp_cutS (pv 4) (do_i (de_v (pv 5))) (do_i (de_v (pv 6))) (dn_rep (dn_lst (dl_cons (de_cd (C__picture_of.more (by decide)) rfl hg hr rfl (da_cons (de_v (pv 0)) (da_cons (de_v (pv 7)) da_nil))) dl_nil)) (de_bin (sem_sub) (dh_v (pv 6)) (dh_v (pv 5)))))))
    (ds_one (dp_ret (de_cmp (sem_eq rfl (hu64 hr)) (dh_of (de_n (dn_list rfl rfl T.n_list (dg_cons (dh_of (de_cd (C_pictures.more (by decide)) rfl hg hr rfl (da_cons (de_v (pv 0)) (da_cons (de_v (pv 2)) da_nil)))) dg_nil)))) (dh_v (pv 4)) (nomark _)))))))))
abbrev st_check_send : Stmt := topS 51
def names_check_send : List Str := ["screen", "cues", "paper", "word", "told"]
theorem sc_check_send : FnScope names_check_send ["screen", "cues", "paper"] (defScope st_check_send) := ⟨rfl, rfl, rfl, by decide +kernel, rfl, by decide +kernel, by decide +kernel⟩
theorem okX_check_send {fa : Addr} {fd : FuncData} (T : Tx K gl) (F : L2.Fun K "check_send" "check_send" st_check_send fa fd) (C__need_cues : Cd pr wd K gl bas R 7 "_need_cues" 2 r__need_cues) (C_is_tuple : Cd pr wd K gl bas R 1 "is_tuple" 3 r_is_tuple) (C_is_one_of : Cd pr wd K gl bas R 1 "is_one_of" 2 r_is_one_of) (C__sends : Cd pr wd K gl bas R 7 "_sends" 3 r__sends) (C_is_integer : Cd pr wd K gl bas R 1 "is_integer" 1 r_is_integer) (C__first_short : Cd pr wd K gl bas R 2 "_first_short" 1 r__first_short) (K_BadPaper : ClsAt pr wd K gl bas "BadPaper" (some "part")) : FnX pr wd K gl bas 9 fa fd ["screen", "cues", "paper"] (spX K gl R 3 rx_check_send) := by
  have sc := sc_check_send
  refine FnX.data (g := gx_check_send) F sc rfl fun cdv A out sh H E q F px hg hr tk => ?_
  exact (ds_cons (dp_expr (de_cd (C__need_cues.more (by decide)) rfl hg hr rfl (da_cons (de_v (pv 0)) (da_cons (de_v (pv 1)) da_nil))))
    (ds_cons (dp_if (PW.pt (dw_or (dt_not (dt_truth rfl (dh_of (de_cd (C_is_tuple.more (by decide)) rfl hg hr rfl (da_cons (de_v (pv 2)) (da_cons de_int (da_cons de_int da_nil))))))) (pw_or1 (dt_not (dt_truth rfl (dh_of (de_cd (C_is_one_of.more (by decide)) rfl hg hr rfl (da_cons (de_ix rfl (dh_v (pv 2)) (dh_of de_int) (fun _ _ => rfl)) (da_cons (de_tup (dl_cons de_str (dl_cons de_str dl_nil))) da_nil))))))))) (ds_one (dp_raise1 K_BadPaper tk rfl rfl (hr.mono (by decide)) rfl de_str)) ds_nil)
    (ds_cons (dp_asg (de_v (pv 2)) (dg_tup rfl rfl (dgs_cons (dg_name sc.nd (i := 3) rfl (by first | exact Or.inl rfl | exact Or.inr rfl)) (dgs_cons (dg_name sc.nd (i := 4) rfl (by first | exact Or.inl rfl | exact Or.inr rfl)) dgs_nil))))
    (ds_cons (dp_if (PW.pt (dw_and (dt_cmp (sem_eq rfl (hu64 hr)) (dh_v (pv 3)) (dh_of de_str) (nomark _)) (pw_and1 (dt_not (dt_truth rfl (dh_of (de_cd (C__sends.more (by decide)) rfl hg hr rfl (da_cons (de_v (pv 0)) (da_cons (de_v (pv 1)) (da_cons (de_v (pv 4)) da_nil)))))))))) (ds_one (dp_raise1 K_BadPaper tk rfl rfl (hr.mono (by decide)) rfl de_str)) ds_nil)
    (ds_cons (dp_if (PW.pt (dw_and (dt_cmp (sem_eq rfl (hu64 hr)) (dh_v (pv 3)) (dh_of de_str) (nomark _)) (pw_and1 (dt_not (PW.pt (dw_and (dt_truth rfl (dh_of (de_cd (C_is_integer.more (by decide)) rfl hg hr rfl (da_cons (de_v (pv 4)) da_nil)))) (pw_and1 (dt_cmp (sem_eq rfl (hu64 hr)) (dh_v (pv 4)) (dh_of (de_cd (C__first_short.more (by decide)) rfl hg hr rfl (da_cons (de_v (pv 1)) da_nil))) (nomark _))))))))) (ds_one (dp_raise1 K_BadPaper tk rfl rfl (hr.mono (by decide)) rfl de_str)) ds_nil)
    (ds_one (dp_ret (de_v (pv 3)))))))))
theorem ok_check_send {fa : Addr} {fd : FuncData} (T : Tx K gl) (F : L2.Fun K "check_send" "check_send" st_check_send fa fd) (C__need_cues : Cd pr wd K gl bas R 7 "_need_cues" 2 r__need_cues) (C_is_tuple : Cd pr wd K gl bas R 1 "is_tuple" 3 r_is_tuple) (C_is_one_of : Cd pr wd K gl bas R 1 "is_one_of" 2 r_is_one_of) (C__sends : Cd pr wd K gl bas R 7 "_sends" 3 r__sends) (C_is_integer : Cd pr wd K gl bas R 1 "is_integer" 1 r_is_integer) (C__first_short : Cd pr wd K gl bas R 2 "_first_short" 1 r__first_short) : FnG pr wd K gl bas 8 fa fd ["screen", "cues", "paper"] (spD K R 3 r_check_send) := by
  have sc := sc_check_send
  refine FnG.data (g := g_check_send) F sc rfl fun cdv A out sh H E q F hg hr => ?_
  exact (ds_cons (dp_expr (de_cd (C__need_cues.more (by decide)) rfl hg hr rfl (da_cons (de_v (pv 0)) (da_cons (de_v (pv 1)) da_nil))))
    (ds_cons (dp_if (PW.pt (dw_or (dt_not (dt_truth rfl (dh_of (de_cd (C_is_tuple.more (by decide)) rfl hg hr rfl (da_cons (de_v (pv 2)) (da_cons de_int (da_cons de_int da_nil))))))) (pw_or1 (dt_not (dt_truth rfl (dh_of (de_cd (C_is_one_of.more (by decide)) rfl hg hr rfl (da_cons (de_ix rfl (dh_v (pv 2)) (dh_of de_int) (fun _ _ => rfl)) (da_cons (de_tup (dl_cons de_str (dl_cons de_str dl_nil))) da_nil))))))))) ds_never ds_nil)
    (ds_cons (dp_asg (de_v (pv 2)) (dg_tup rfl rfl (dgs_cons (dg_name sc.nd (i := 3) rfl (by first | exact Or.inl rfl | exact Or.inr rfl)) (dgs_cons (dg_name sc.nd (i := 4) rfl (by first | exact Or.inl rfl | exact Or.inr rfl)) dgs_nil))))
    (ds_cons (dp_if (PW.pt (dw_and (dt_cmp (sem_eq rfl (hu64 hr)) (dh_v (pv 3)) (dh_of de_str) (nomark _)) (pw_and1 (dt_not (dt_truth rfl (dh_of (de_cd (C__sends.more (by decide)) rfl hg hr rfl (da_cons (de_v (pv 0)) (da_cons (de_v (pv 1)) (da_cons (de_v (pv 4)) da_nil)))))))))) ds_never ds_nil)
    (ds_cons (dp_if (PW.pt (dw_and (dt_cmp (sem_eq rfl (hu64 hr)) (dh_v (pv 3)) (dh_of de_str) (nomark _)) (pw_and1 (dt_not (PW.pt (dw_and (dt_truth rfl (dh_of (de_cd (C_is_integer.more (by decide)) rfl hg hr rfl (da_cons (de_v (pv 4)) da_nil)))) (pw_and1 (dt_cmp (sem_eq rfl (hu64 hr)) (dh_v (pv 4)) (dh_of (de_cd (C__first_short.more (by decide)) rfl hg hr rfl (da_cons (de_v (pv 1)) da_nil))) (nomark _))))))))) ds_never ds_nil)
    (ds_one (dp_ret (de_v (pv 3)))))))))
abbrev st__law_size : Stmt := topS 64
def names__law_size : List Str := ["_law_m", "_law_most"]
theorem sc__law_size : FnScope names__law_size ["_law_m", "_law_most"] (defScope st__law_size) := ⟨rfl, rfl, rfl, by decide +kernel, rfl, by decide +kernel, by decide +kernel⟩
theorem ok__law_size {fa : Addr} {fd : FuncData} (T : Tx K gl) (F : L2.Fun K "_law_size" "_law_size" st__law_size fa fd) (C__law_next : Cd pr wd K gl bas R 1 "_law_next" 2 s_next) : FnG pr wd K gl bas 2 fa fd ["_law_m", "_law_most"] (spD K R 2 r__law_size) := by
  have sc := sc__law_size
  refine FnG.data (g := g__law_size) F sc rfl fun cdv A out sh H E q F hg hr => ?_
  exact (ds_one (dp_ret (de_tup (dl_cons (de_bin (sem_add rfl) (dh_of de_int) (dh_of (de_cdO (i := 0) (C__law_next.more (by decide)) rfl hg hr rfl (da_ora (pv 0) (da_cons de_int da_nil))))) (dl_cons (de_bin (sem_add rfl) (dh_of de_int) (dh_of (de_cdO (i := 0) (C__law_next.more (by decide)) rfl hg hr rfl (da_ora (pv 0) (da_cons (de_v (pv 1)) da_nil))))) dl_nil)))))
abbrev st__law_code : Stmt := topS 65
def names__law_code : List Str := ["_law_m", "_law_size_here", "_law_way", "_law_some"]
theorem sc__law_code : FnScope names__law_code ["_law_m", "_law_size_here"] (defScope st__law_code) := ⟨rfl, rfl, rfl, by decide +kernel, rfl, by decide +kernel, by decide +kernel⟩
theorem ok__law_code {fa : Addr} {fd : FuncData} (T : Tx K gl) (F : L2.Fun K "_law_code" "_law_code" st__law_code fa fd) (C__law_next : Cd pr wd K gl bas R 1 "_law_next" 2 s_next) : FnG pr wd K gl bas 2 fa fd ["_law_m", "_law_size_here"] (spD K R 2 r__law_code) := by
  have sc := sc__law_code
  refine FnG.data (g := g__law_code) F sc rfl fun cdv A out sh H E q F hg hr => ?_
  exact (ds_cons (dp_set sc.nd (i := 2) rfl (by first | exact Or.inl rfl | exact Or.inr rfl) (de_cdO (i := 0) (C__law_next.more (by decide)) rfl hg hr rfl (da_ora (pv 0) (da_cons de_int da_nil))))
    (ds_cons (dp_if (dt_cmp (sem_lt) (dh_v (pv 2)) (dh_of de_int) (nomark _)) (ds_one (dp_ret (de_tup (dl_cons de_str (dl_cons (de_ix rfl (dh_of de_str) (dh_of (de_cdO (i := 0) (C__law_next.more (by decide)) rfl hg hr rfl (da_ora (pv 0) (da_cons de_int da_nil)))) (fun _ _ => rfl)) dl_nil))))) ds_nil)
    (ds_cons (dp_if (dt_cmp (sem_lt) (dh_v (pv 2)) (dh_of de_int) (nomark _)) (ds_one (dp_ret (de_tup (dl_cons de_str (dl_cons (de_cdO (i := 0) (C__law_next.more (by decide)) rfl hg hr rfl (da_ora (pv 0) (da_cons (de_ix rfl (dh_v (pv 1)) (dh_of de_int) (fun _ _ => rfl)) da_nil))) (dl_cons (de_cdO (i := 0) (C__law_next.more (by decide)) rfl hg hr rfl (da_ora (pv 0) (da_cons (de_ix rfl (dh_v (pv 1)) (dh_of de_int) (fun _ _ => rfl)) da_nil))) dl_nil)))))) ds_nil)
    (ds_cons (dp_if (dt_cmp (sem_eq rfl (hu64 hr)) (dh_v (pv 2)) (dh_of de_int) (nomark _)) (ds_one (dp_ret (de_tup (dl_cons de_str (dl_cons (de_bin (sem_add rfl) (dh_of de_int) (dh_of (de_cdO (i := 0) (C__law_next.more (by decide)) rfl hg hr rfl (da_ora (pv 0) (da_cons (de_ix rfl (dh_v (pv 1)) (dh_of de_int) (fun _ _ => rfl)) da_nil))))) dl_nil))))) ds_nil)
    (ds_cons (dp_set sc.nd (i := 3) rfl (by first | exact Or.inl rfl | exact Or.inr rfl) (de_n (dn_lst (dl_cons de_str (dl_cons de_str (dl_cons de_str (dl_cons de_str (dl_cons de_str (dl_cons de_str (dl_cons de_str (dl_cons de_str (dl_cons de_str dl_nil))))))))))))
    (ds_one (dp_ret (de_tup (dl_cons (de_ix rfl (dh_v (pv 3)) (dh_of (de_cdO (i := 0) (C__law_next.more (by decide)) rfl hg hr rfl (da_ora (pv 0) (da_cons de_int da_nil)))) (fun _ _ => rfl)) dl_nil)))))))))
abbrev st__law_rolled : Stmt := topS 66
def names__law_rolled : List Str := ["_law_size_here", "_law_shown_here", "_law_total", "_law_first_here"]
theorem sc__law_rolled : FnScope names__law_rolled ["_law_size_here", "_law_shown_here", "_law_total"] (defScope st__law_rolled) := ⟨rfl, rfl, rfl, by decide +kernel, rfl, by decide +kernel, by decide +kernel⟩
theorem ok__law_rolled {fa : Addr} {fd : FuncData} (T : Tx K gl) (F : L2.Fun K "_law_rolled" "_law_rolled" st__law_rolled fa fd) : FnG pr wd K gl bas 1 fa fd ["_law_size_here", "_law_shown_here", "_law_total"] (spD K R 3 r__law_rolled) := by
  have sc := sc__law_rolled
  refine FnG.data (g := g__law_rolled) F sc rfl fun cdv A out sh H E q F hg hr => ?_
  exact (ds_cons (dp_set sc.nd (i := 3) rfl (by first | exact Or.inl rfl | exact Or.inr rfl) (de_bin (sem_sub) (dh_of (de_ix rfl (dh_v (pv 0)) (dh_of de_int) (fun _ _ => rfl))) (dh_v (pv 2))))
    (ds_one (dp_ret (de_bin (sem_add rfl) (dh_of (de_bin (sem_add rfl) (dh_of (de_sl rfl (dh_v (pv 1)) do_no (do_i (de_v (pv 3))))) (dh_of (de_sl rfl (dh_v (pv 1)) (do_i (de_bin (sem_add rfl) (dh_v (pv 3)) (dh_of de_int))) do_no)))) (dh_of (de_n (dn_lst (dl_cons (de_bin (sem_mul rfl) (dh_of (de_n (dn_lst (dl_cons de_str dl_nil)))) (dh_of (de_ix rfl (dh_v (pv 0)) (dh_of de_int) (fun _ _ => rfl)))) dl_nil))))))))
abbrev st__law_written : Stmt := topS 67
def names__law_written : List Str := ["_law_size_here", "_law_use", "_law_row", "_law_col", "_law_code_here", "_law_k"]
theorem sc__law_written : FnScope names__law_written ["_law_size_here", "_law_use", "_law_row", "_law_col", "_law_code_here"] (defScope st__law_written) := ⟨rfl, rfl, rfl, by decide +kernel, rfl, by decide +kernel, by decide +kernel⟩
theorem ok__law_written {fa : Addr} {fd : FuncData} (T : Tx K gl) (F : L2.Fun K "_law_written" "_law_written" st__law_written fa fd) : FnG pr wd K gl bas 1 fa fd ["_law_size_here", "_law_use", "_law_row", "_law_col", "_law_code_here"] (spW K) := by
  have sc := sc__law_written
  refine FnG.of F sc (fun vs H Q E h => ?_) fun cdv A out sh H vs Q E hg hr h => ?_
  · obtain ⟨_, _, _, _, _, _, _, _, _, _, rfl, _⟩ := h
    rfl
  obtain ⟨⟨K', R', p', F0', H0'⟩, hK, says⟩ := wr_all (N := names__law_written) rfl h
  have hK : K' = K := hK
  subst hK
  refine ⟨wrT ⟨K', R', p', F0', H0'⟩, ?_, says⟩
  exact (pss_cons (ps_if (dt_cmp (sem_eq rfl (hu64 hr)) (dh_of (de_ix rfl (dh_v (pv 4)) (dh_of de_int) (fun _ _ => rfl))) (dh_of de_str) (nomark _)) (pss_one (ps_asg (de_ix rfl (dh_v (pv 4)) (dh_of de_int) (fun _ _ => rfl)) (pg_sub (pe_ix ix_list (pv 1) (pv 2) (fun _ _ => rfl)) (pv 3) set_list))) pss_nil)
    (pss_cons (ps_if (PW.pt (dw_and (dt_cmp (sem_eq rfl (hu64 hr)) (dh_of (de_ix rfl (dh_v (pv 4)) (dh_of de_int) (fun _ _ => rfl))) (dh_of de_str) (nomark _)) (pw_and1 (dt_cmp (sem_gt) (dh_v (pv 3)) (dh_of de_int) (nomark _))))) (pss_one (ps_asg de_str (pg_sub (pe_ix ix_list (pv 1) (pv 2) (fun _ _ => rfl)) (pe_op op_sub (pv 3) pe_int) set_list))) pss_nil)
    (pss_one (ps_if (dt_cmp (sem_eq rfl (hu64 hr)) (dh_of (de_ix rfl (dh_v (pv 4)) (dh_of de_int) (fun _ _ => rfl))) (dh_of de_str) (nomark _))
      (pss_one (ps_for PassesOwn.never rfl (di_range2 rfl T.n_range (dl_cons (de_v (pv 3)) (dl_cons (de_ix rfl (dh_v (pv 0)) (dh_of de_int) (fun _ _ => rfl)) dl_nil))) (pg_name (i := 5) sc.nd rfl (by first | exact Or.inl rfl | exact Or.inr rfl))
        (pss_one (ps_asg de_str (pg_sub (pe_ix ix_list (pv 1) (pv 2) (fun _ _ => rfl)) (pv 5) set_list))))) pss_nil))))
abbrev st__law_cursor : Stmt := topS 68
def names__law_cursor : List Str := ["_law_size_here", "_law_mode", "_law_row", "_law_col", "_law_code_here", "_law_word", "_law_below"]
theorem sc__law_cursor : FnScope names__law_cursor ["_law_size_here", "_law_mode", "_law_row", "_law_col", "_law_code_here"] (defScope st__law_cursor) := ⟨rfl, rfl, rfl, by decide +kernel, rfl, by decide +kernel, by decide +kernel⟩
theorem ok__law_cursor {fa : Addr} {fd : FuncData} (T : Tx K gl) (F : L2.Fun K "_law_cursor" "_law_cursor" st__law_cursor fa fd) : FnG pr wd K gl bas 1 fa fd ["_law_size_here", "_law_mode", "_law_row", "_law_col", "_law_code_here"] (spD K R 5 r__law_cursor) := by
  have sc := sc__law_cursor
  refine FnG.data (g := g__law_cursor) F sc rfl fun cdv A out sh H E q F hg hr => ?_
  exact (ds_cons (dp_set sc.nd (i := 5) rfl (by first | exact Or.inl rfl | exact Or.inr rfl) (de_ix rfl (dh_v (pv 4)) (dh_of de_int) (fun _ _ => rfl)))
    (ds_cons (dp_if (dt_cmp (sem_eq rfl (hu64 hr)) (dh_v (pv 5)) (dh_of de_str) (nomark _)) (ds_one (dp_ret (de_tup (dl_cons (de_v (pv 1)) (dl_cons (de_ix rfl (dh_v (pv 4)) (dh_of de_int) (fun _ _ => rfl)) (dl_cons (de_ix rfl (dh_v (pv 4)) (dh_of de_int) (fun _ _ => rfl)) dl_nil)))))) ds_nil)
    (ds_cons (dp_if (dt_cmp (sem_eq rfl (hu64 hr)) (dh_v (pv 5)) (dh_of de_str) (nomark _)) (ds_one (dp_ret (de_tup (dl_cons (de_bin (sem_add rfl) (dh_of de_str) (dh_of (de_ct (sem_strI) rfl T.n_str (by decide +kernel) (dg_cons (dh_of (de_ix rfl (dh_v (pv 4)) (dh_of de_int) (fun _ _ => rfl))) dg_nil)))) (dl_cons (de_bin (sem_sub) (dh_of (de_ix rfl (dh_v (pv 0)) (dh_of de_int) (fun _ _ => rfl))) (dh_of de_int)) (dl_cons de_int dl_nil)))))) ds_nil)
    (ds_cons (dp_if (dt_cmp (sem_eq rfl (hu64 hr)) (dh_v (pv 5)) (dh_of de_str) (nomark _)) (ds_cons (dp_set sc.nd (i := 6) rfl (by first | exact Or.inl rfl | exact Or.inr rfl) (de_if (dt_cmp (sem_eq rfl (hu64 hr)) (dh_of (de_sl rfl (dh_v (pv 1)) do_no (do_i de_int))) (dh_of de_str) (nomark _)) (de_bin (sem_sub) (dh_of (de_ix rfl (dh_v (pv 0)) (dh_of de_int) (fun _ _ => rfl))) (dh_of de_int)) (de_cb (sem_min rfl rfl) rfl T.n_min (by decide +kernel) (dg_cons (dh_of (de_bin (sem_add rfl) (dh_v (pv 2)) (dh_of de_int))) (dg_cons (dh_of (de_bin (sem_sub) (dh_of (de_ix rfl (dh_v (pv 0)) (dh_of de_int) (fun _ _ => rfl))) (dh_of de_int))) dg_nil)))))
    (ds_one (dp_ret (de_tup (dl_cons (de_v (pv 1)) (dl_cons (de_v (pv 6)) (dl_cons de_int dl_nil))))))) ds_nil)
    (ds_cons (dp_if (dt_cmp (sem_eq rfl (hu64 hr)) (dh_v (pv 5)) (dh_of de_str) (nomark _)) (ds_one (dp_ret (de_tup (dl_cons (de_v (pv 1)) (dl_cons (de_v (pv 2)) (dl_cons (de_cb (sem_min rfl rfl) rfl T.n_min (by decide +kernel) (dg_cons (dh_of (de_bin (sem_add rfl) (dh_v (pv 3)) (dh_of de_int))) (dg_cons (dh_of (de_bin (sem_sub) (dh_of (de_ix rfl (dh_v (pv 0)) (dh_of de_int) (fun _ _ => rfl))) (dh_of de_int))) dg_nil))) dl_nil)))))) ds_nil)
    (ds_cons (dp_if (dt_cmp (sem_eq rfl (hu64 hr)) (dh_v (pv 5)) (dh_of de_str) (nomark _)) (ds_one (dp_ret (de_tup (dl_cons (de_v (pv 1)) (dl_cons (de_v (pv 2)) (dl_cons (de_cb (sem_max rfl rfl) rfl T.n_max (by decide +kernel) (dg_cons (dh_of (de_bin (sem_sub) (dh_v (pv 3)) (dh_of de_int))) (dg_cons (dh_of de_int) dg_nil))) dl_nil)))))) ds_nil)
    (ds_cons (dp_if (dt_cmp (sem_eq rfl (hu64 hr)) (dh_v (pv 5)) (dh_of de_str) (nomark _)) (ds_one (dp_ret (de_tup (dl_cons de_str (dl_cons (de_v (pv 2)) (dl_cons (de_v (pv 3)) dl_nil)))))) ds_nil)
    (ds_one (dp_ret (de_tup (dl_cons (de_if (dt_cmp (sem_inU rfl (hu65 hr)) (dh_v (pv 5)) (dh_of (de_tup (dl_cons de_str (dl_cons de_str dl_nil)))) rfl) (de_v (pv 5)) (de_v (pv 1))) (dl_cons (de_v (pv 2)) (dl_cons (de_v (pv 3)) dl_nil)))))))))))))
abbrev st__law_stepped : Stmt := topS 69
def names__law_stepped : List Str := ["_law_size_here", "_law_state", "_law_code_here", "_law_mode", "_law_row", "_law_col", "_law_shown_here", "_law_hidden", "_law_one", "_law_k"]
theorem sc__law_stepped : FnScope names__law_stepped ["_law_size_here", "_law_state", "_law_code_here"] (defScope st__law_stepped) := ⟨rfl, rfl, rfl, by decide +kernel, rfl, by decide +kernel, by decide +kernel⟩
theorem ok__law_stepped {fa : Addr} {fd : FuncData} (T : Tx K gl) (F : L2.Fun K "_law_stepped" "_law_stepped" st__law_stepped fa fd) (C__law_rolled : Cd pr wd K gl bas R 1 "_law_rolled" 3 r__law_rolled) (C__law_cursor : Cd pr wd K gl bas R 1 "_law_cursor" 5 r__law_cursor) {fw : Addr} {fdw : FuncData} (Fw : FnG pr wd K gl bas 1 fw fdw ["_law_size_here", "_law_use", "_law_row", "_law_col", "_law_code_here"] (spW K)) (gw : gl "_law_written" = some (.ref fw)) (kw : PySem.W.keepIn K (.ref fw) = true) (bw : Binds K fdw ["_law_size_here", "_law_use", "_law_row", "_law_col", "_law_code_here"] []) : FnG pr wd K gl bas 2 fa fd ["_law_size_here", "_law_state", "_law_code_here"] (spD K R 3 s__law_stepped) := by
  have sc := sc__law_stepped
  refine FnG.of F sc (fun vs H Q E ⟨q, F0, as, m, P, w, pa, hl, _⟩ => by rw [paired_len pa, hl]; rfl) fun cdv A out sh H vs Q E hg hr h => ?_
  obtain ⟨⟨K', R', p', F0', H0'⟩, hK, hR, says⟩ := ls_all (N := names__law_stepped) (E0 := fun _ _ _ => False) rfl h
  have hK : K' = K := hK
  have hR : R' = R := hR
  subst hK
  subst hR
  refine ⟨lsAll ⟨K', R', p', F0', H0'⟩ ls_b1 ls_b2 ls_b3 ls_b4 ls_t4 (fun _ _ _ => False) ls_ret, ?_, says⟩
  exact (pss_cons (dp_asg (de_sl rfl (dh_v (pv 1)) do_no (do_i de_int)) (dg_tup rfl rfl (dgs_cons (dg_name sc.nd (i := 3) rfl (by first | exact Or.inl rfl | exact Or.inr rfl)) (dgs_cons (dg_name sc.nd (i := 4) rfl (by first | exact Or.inl rfl | exact Or.inr rfl)) (dgs_cons (dg_name sc.nd (i := 5) rfl (by first | exact Or.inl rfl | exact Or.inr rfl)) dgs_nil)))))
    (pss_cons (ps_par rfl sc.nd (i := 6) (j := 7) rfl rfl (by decide) rfl rfl (pa_cons (pe_lc (own := [("_law_one", 8)]) rfl sc.nd (di_seq rfl (de_ix rfl (dh_v (pv 1)) (dh_of de_int) (fun _ _ => rfl))) (blkOk_by (own := [("_law_one", 8)]) (N := names__law_stepped) (sc := defScope st__law_stepped) (by decide +kernel)) (fun _ _ _ _ _ => (dg_name sc.nd (i := 8) rfl (by first | exact Or.inl rfl | exact Or.inr rfl))) (fun _ _ _ _ _ => dts_nil) (fun _ _ _ _ _ => (dn_list rfl rfl T.n_list (dg_cons (dh_v (pv 8)) dg_nil)))) (pa_cons (pe_lc (own := [("_law_one", 8)]) rfl sc.nd (di_seq rfl (de_ix rfl (dh_v (pv 1)) (dh_of de_int) (fun _ _ => rfl))) (blkOk_by (own := [("_law_one", 8)]) (N := names__law_stepped) (sc := defScope st__law_stepped) (by decide +kernel)) (fun _ _ _ _ _ => (dg_name sc.nd (i := 8) rfl (by first | exact Or.inl rfl | exact Or.inr rfl))) (fun _ _ _ _ _ => dts_nil) (fun _ _ _ _ _ => (dn_list rfl rfl T.n_list (dg_cons (dh_v (pv 8)) dg_nil)))) pa_nil)) rfl)
    (pss_cons (ps_if (dt_cmp (sem_eq rfl (hu64 hr)) (dh_of (de_ix rfl (dh_v (pv 2)) (dh_of de_int) (fun _ _ => rfl))) (dh_of de_str) (nomark _)) (ds_one (dp_par rfl sc.nd (i := 6) (j := 7) rfl rfl (by decide) rfl rfl (dl_cons (de_v (pv 7)) (dl_cons (de_v (pv 6)) dl_nil)) rfl)) pss_nil)
    (pss_cons (ps_if (dt_cmp (sem_eq rfl (hu64 hr)) (dh_of (de_ix rfl (dh_v (pv 2)) (dh_of de_int) (fun _ _ => rfl))) (dh_of de_str) (nomark _)) (ds_one (dp_setLc (n := 6) (own := [("_law_k", 9)]) rfl sc.nd rfl rfl (sw_true rfl rfl rfl (by decide +kernel)) (di_range1 rfl T.n_range (dl_cons (de_ix rfl (dh_v (pv 0)) (dh_of de_int) (fun _ _ => rfl)) dl_nil)) (blkOk_by (own := [("_law_k", 9)]) (N := names__law_stepped) (sc := defScope st__law_stepped) (by decide +kernel)) (by decide) (fun _ _ _ _ _ => (dg_name sc.nd (i := 9) rfl (by first | exact Or.inl rfl | exact Or.inr rfl))) (fun _ _ _ _ _ => dts_nil) (fun _ _ _ _ _ => (de_bin (sem_mul rfl) (dh_of (de_n (dn_lst (dl_cons de_str dl_nil)))) (dh_of (de_ix rfl (dh_v (pv 0)) (dh_of de_int) (fun _ _ => rfl))))))) pss_nil)
    (pss_cons (ps_if (dt_cmp (sem_eq rfl (hu64 hr)) (dh_of (de_ix rfl (dh_v (pv 2)) (dh_of de_int) (fun _ _ => rfl))) (dh_of de_str) (nomark _)) (ds_one (dp_setLc (n := 7) (own := [("_law_k", 9)]) rfl sc.nd rfl rfl (sw_true rfl rfl rfl (by decide +kernel)) (di_range1 rfl T.n_range (dl_cons (de_ix rfl (dh_v (pv 0)) (dh_of de_int) (fun _ _ => rfl)) dl_nil)) (blkOk_by (own := [("_law_k", 9)]) (N := names__law_stepped) (sc := defScope st__law_stepped) (by decide +kernel)) (by decide) (fun _ _ _ _ _ => (dg_name sc.nd (i := 9) rfl (by first | exact Or.inl rfl | exact Or.inr rfl))) (fun _ _ _ _ _ => dts_nil) (fun _ _ _ _ _ => (de_bin (sem_mul rfl) (dh_of (de_n (dn_lst (dl_cons de_str dl_nil)))) (dh_of (de_ix rfl (dh_v (pv 0)) (dh_of de_int) (fun _ _ => rfl))))))) pss_nil)
    (pss_cons (ps_if (PW.pt (dw_and (dt_cmp (sem_eq rfl (hu64 hr)) (dh_of (de_ix rfl (dh_v (pv 2)) (dh_of de_int) (fun _ _ => rfl))) (dh_of de_str) (nomark _)) (pw_and1 (dt_cmp (sem_eq rfl (hu64 hr)) (dh_of (de_sl rfl (dh_v (pv 3)) do_no (do_i de_int))) (dh_of de_str) (nomark _))))) (ds_one (dp_set sc.nd (i := 6) rfl (by first | exact Or.inl rfl | exact Or.inr rfl) (de_cd (C__law_rolled.more (by decide)) rfl hg hr rfl (da_cons (de_v (pv 0)) (da_cons (de_v (pv 6)) (da_cons (de_ct (sem_intU) rfl T.n_int (by decide +kernel) (dg_cons (dh_of (de_sl rfl (dh_v (pv 3)) (do_i de_int) do_no)) dg_nil)) da_nil)))))) pss_nil)
    (pss_cons (ps_expr (pe_callG Fw hg hr rfl gw kw bw (pa_cons (pv 0) (pa_cons (pe_ifExp (dt_cmp (sem_eq rfl (hu64 hr)) (dh_v (pv 3)) (dh_of de_str) (nomark _)) (pv 7) (pv 6)) (pa_cons (pv 4) (pa_cons (pv 5) (pa_cons (pv 2) pa_nil)))))))
    (pss_one (dp_ret (de_bin (sem_add rfl) (dh_of (de_cd (C__law_cursor.more (by decide)) rfl hg hr rfl (da_cons (de_v (pv 0)) (da_cons (de_v (pv 3)) (da_cons (de_v (pv 4)) (da_cons (de_v (pv 5)) (da_cons (de_v (pv 2)) da_nil))))))) (dh_of (de_tup (dl_cons (de_v (pv 6)) (dl_cons (de_v (pv 7)) dl_nil))))))))))))))
abbrev st__law_told : Stmt := topS 70
def names__law_told : List Str := ["_law_state", "_law_memories", "_law_memory", "_law_one"]
theorem sc__law_told : FnScope names__law_told ["_law_state"] (defScope st__law_told) := ⟨rfl, rfl, rfl, by decide +kernel, rfl, by decide +kernel, by decide +kernel⟩
theorem ok__law_told {fa : Addr} {fd : FuncData} (T : Tx K gl) (F : L2.Fun K "_law_told" "_law_told" st__law_told fa fd) : FnG pr wd K gl bas 1 fa fd ["_law_state"] (spD K R 1 r__law_told) := by
  have sc := sc__law_told
  refine FnG.data (g := g__law_told) F sc rfl fun cdv A out sh H E q F hg hr => ?_
  exact (ds_cons (dp_setLc (n := 1) (own := [("_law_memory", 2)]) rfl sc.nd rfl rfl (sw_true rfl rfl rfl (by decide +kernel)) (di_seq rfl (de_sl rfl (dh_v (pv 0)) (do_i de_int) do_no)) (blkOk_by (own := [("_law_memory", 2)]) (N := names__law_told) (sc := defScope st__law_told) (by decide +kernel)) (by decide) (fun _ _ _ _ _ => (dg_name sc.nd (i := 2) rfl (by first | exact Or.inl rfl | exact Or.inr rfl))) (fun _ _ _ _ _ => dts_nil) (fun _ _ _ _ _ => (de_ct (sem_tuple rfl) rfl T.n_tuple (by decide +kernel) (dg_cons (dh_of (de_n (dn_lc (own := [("_law_one", 3)]) rfl sc.nd (di_seq rfl (de_v (pv 2))) (blkOk_in (own := [("_law_one", 3)]) (N := names__law_told) rfl rfl (by decide +kernel)) (by decide) (fun _ _ _ _ _ => (dg_name sc.nd (i := 3) rfl (by first | exact Or.inl rfl | exact Or.inr rfl))) (fun _ _ _ _ _ => dts_nil) (fun _ _ _ _ _ => (de_join rfl de_str (de_v (pv 3))))))) dg_nil))))
    (ds_one (dp_ret (de_bin (sem_add rfl) (dh_of (de_sl rfl (dh_v (pv 0)) do_no (do_i de_int))) (dh_of (de_tup (dl_cons (de_ix rfl (dh_v (pv 1)) (dh_of de_int) (fun _ _ => rfl)) (dl_cons (de_ix rfl (dh_v (pv 1)) (dh_of de_int) (fun _ _ => rfl)) dl_nil))))))))
abbrev st__law_first : Stmt := topS 71
def names__law_first : List Str := ["_law_size_here", "_law_bare", "_law_k"]
theorem sc__law_first : FnScope names__law_first ["_law_size_here"] (defScope st__law_first) := ⟨rfl, rfl, rfl, by decide +kernel, rfl, by decide +kernel, by decide +kernel⟩
theorem ok__law_first {fa : Addr} {fd : FuncData} (T : Tx K gl) (F : L2.Fun K "_law_first" "_law_first" st__law_first fa fd) : FnG pr wd K gl bas 1 fa fd ["_law_size_here"] (spD K R 1 r__law_first) := by
  have sc := sc__law_first
  refine FnG.data (g := g__law_first) F sc rfl fun cdv A out sh H E q F hg hr => ?_
  exact (ds_cons (dp_setLc (n := 1) (own := [("_law_k", 2)]) rfl sc.nd rfl rfl (sw_true rfl rfl rfl (by decide +kernel)) (di_range1 rfl T.n_range (dl_cons (de_ix rfl (dh_v (pv 0)) (dh_of de_int) (fun _ _ => rfl)) dl_nil)) (blkOk_by (own := [("_law_k", 2)]) (N := names__law_first) (sc := defScope st__law_first) (by decide +kernel)) (by decide) (fun _ _ _ _ _ => (dg_name sc.nd (i := 2) rfl (by first | exact Or.inl rfl | exact Or.inr rfl))) (fun _ _ _ _ _ => dts_nil) (fun _ _ _ _ _ => (de_bin (sem_mul rfl) (dh_of (de_n (dn_lst (dl_cons de_str dl_nil)))) (dh_of (de_ix rfl (dh_v (pv 0)) (dh_of de_int) (fun _ _ => rfl))))))
    (ds_one (dp_ret (de_tup (dl_cons de_str (dl_cons de_int (dl_cons de_int (dl_cons (de_v (pv 1)) (dl_cons (de_v (pv 1)) dl_nil)))))))))
abbrev st__law_text : Stmt := topS 72
def names__law_text : List Str := ["_law_m", "_law_size_here", "_law_found", "_law_k", "_law_line", "_law_j"]
theorem sc__law_text : FnScope names__law_text ["_law_m", "_law_size_here"] (defScope st__law_text) := ⟨rfl, rfl, rfl, by decide +kernel, rfl, by decide +kernel, by decide +kernel⟩
theorem ok__law_text {fa : Addr} {fd : FuncData} (T : Tx K gl) (F : L2.Fun K "_law_text" "_law_text" st__law_text fa fd) (C__law_next : Cd pr wd K gl bas R 1 "_law_next" 2 s_next) : FnG pr wd K gl bas 2 fa fd ["_law_m", "_law_size_here"] (spD K R 2 r__law_text) := by
  have sc := sc__law_text
  refine FnG.data (g := g__law_text) F sc rfl fun cdv A out sh H E q F hg hr => ?_
  exact (ds_cons (dp_setN sc.nd (i := 2) rfl (by first | exact Or.inl rfl | exact Or.inr rfl) (dn_lst dl_nil))
    (ds_cons (dp_for PassesOwn.never rfl (di_range1 rfl T.n_range (dl_cons (de_bin (sem_add rfl) (dh_of de_int) (dh_of (de_cdO (i := 0) (C__law_next.more (by decide)) rfl hg hr rfl (da_ora (pv 0) (da_cons (de_ix rfl (dh_v (pv 1)) (dh_of de_int) (fun _ _ => rfl)) da_nil))))) dl_nil)) (dg_name sc.nd (i := 3) rfl (by first | exact Or.inl rfl | exact Or.inr rfl)) (ds_cons (dp_set sc.nd (i := 4) rfl (by first | exact Or.inl rfl | exact Or.inr rfl) (de_strip (de_join rfl de_str (de_n (dn_lc (own := [("_law_j", 5)]) rfl sc.nd (di_range1 rfl T.n_range (dl_cons (de_bin (sem_add rfl) (dh_of de_int) (dh_of (de_cdO (i := 0) (C__law_next.more (by decide)) rfl hg hr rfl (da_ora (pv 0) (da_cons (de_ix rfl (dh_v (pv 1)) (dh_of de_int) (fun _ _ => rfl)) da_nil))))) dl_nil)) (blkOk_by (own := [("_law_j", 5)]) (N := names__law_text) (sc := defScope st__law_text) (by decide +kernel)) (by decide) (fun _ _ _ _ _ => (dg_name sc.nd (i := 5) rfl (by first | exact Or.inl rfl | exact Or.inr rfl))) (fun _ _ _ _ _ => dts_nil) (fun _ _ _ _ _ => (de_ix rfl (dh_of de_str) (dh_of (de_cdO (i := 0) (C__law_next.more (by decide)) rfl hg hr rfl (da_ora (pv 0) (da_cons de_int da_nil)))) (fun _ _ => rfl)))))) de_str))
    (ds_one (dp_app rfl (pv 2) (de_if (dt_cmp (sem_ne rfl (hu64 hr)) (dh_v (pv 4)) (dh_of de_str) (nomark _)) (de_v (pv 4)) de_str)))))
    (ds_one (dp_ret (de_ct (sem_tuple rfl) rfl T.n_tuple (by decide +kernel) (dg_cons (dh_v (pv 2)) dg_nil))))))
abbrev st__law_cost : Stmt := topS 73
def names__law_cost : List Str := ["_law_text_here", "_law_line"]
theorem sc__law_cost : FnScope names__law_cost ["_law_text_here"] (defScope st__law_cost) := ⟨rfl, rfl, rfl, by decide +kernel, rfl, by decide +kernel, by decide +kernel⟩
theorem ok__law_cost {fa : Addr} {fd : FuncData} (T : Tx K gl) (F : L2.Fun K "_law_cost" "_law_cost" st__law_cost fa fd) : FnG pr wd K gl bas 1 fa fd ["_law_text_here"] (spD K R 1 r__law_cost) := by
  have sc := sc__law_cost
  refine FnG.data (g := g__law_cost) F sc rfl fun cdv A out sh H E q F hg hr => ?_
  exact (ds_one (dp_ret (de_bin (sem_add rfl) (dh_of de_int) (dh_of (de_cb (sem_sum2 rfl rfl) rfl T.n_sum (by decide +kernel) (dg_cons (dh_of (de_n (dn_lc (own := [("_law_line", 1)]) rfl sc.nd (di_seq rfl (de_v (pv 0))) (blkOk_by (own := [("_law_line", 1)]) (N := names__law_cost) (sc := defScope st__law_cost) (by decide +kernel)) (by decide) (fun _ _ _ _ _ => (dg_name sc.nd (i := 1) rfl (by first | exact Or.inl rfl | exact Or.inr rfl))) (fun _ _ _ _ _ => dts_nil) (fun _ _ _ _ _ => (de_bin (sem_add rfl) (dh_of de_int) (dh_of (de_cb (sem_len rfl) rfl T.n_len (by decide +kernel) (dg_cons (dh_v (pv 1)) dg_nil)))))))) dg_nil))))))
abbrev st__law_cues : Stmt := topS 74
def names__law_cues : List Str := ["_law_m", "_law_size_here", "_law_total", "_law_k", "_law_found", "_law_here", "_law_text_here", "_law_begin"]
theorem sc__law_cues : FnScope names__law_cues ["_law_m", "_law_size_here", "_law_total"] (defScope st__law_cues) := ⟨rfl, rfl, rfl, by decide +kernel, rfl, by decide +kernel, by decide +kernel⟩
theorem ok__law_cues {fa : Addr} {fd : FuncData} (T : Tx K gl) (F : L2.Fun K "_law_cues" "_law_cues" st__law_cues fa fd) (C__law_next : Cd pr wd K gl bas R 1 "_law_next" 2 s_next) (C__law_text : Cd pr wd K gl bas R 2 "_law_text" 2 r__law_text) (C__law_cost : Cd pr wd K gl bas R 1 "_law_cost" 1 r__law_cost) : FnG pr wd K gl bas 3 fa fd ["_law_m", "_law_size_here", "_law_total"] (spD K R 3 r__law_cues) := by
  have sc := sc__law_cues
  refine FnG.data (g := g__law_cues) F sc rfl fun cdv A out sh H E q F hg hr => ?_
  exact (ds_cons (dp_parNI rfl sc.nd (i := 4) (j := 5) rfl rfl (by decide) rfl rfl (dn_lst dl_nil) de_int rfl)
    (ds_cons (dp_for PassesOwn.never rfl (di_range1 rfl T.n_range (dl_cons (de_cdO (i := 0) (C__law_next.more (by decide)) rfl hg hr rfl (da_ora (pv 0) (da_cons (de_bin (sem_add rfl) (dh_v (pv 2)) (dh_of de_int)) da_nil))) dl_nil)) (dg_name sc.nd (i := 3) rfl (by first | exact Or.inl rfl | exact Or.inr rfl)) (ds_cons (dp_set sc.nd (i := 6) rfl (by first | exact Or.inl rfl | exact Or.inr rfl) (de_cdO (i := 0) (C__law_text.more (by decide)) rfl hg hr rfl (da_ora (pv 0) (da_cons (de_v (pv 1)) da_nil))))
    (ds_cons (dp_set sc.nd (i := 7) rfl (by first | exact Or.inl rfl | exact Or.inr rfl) (de_bin (sem_add rfl) (dh_v (pv 5)) (dh_of (de_ix rfl (dh_of (de_n (dn_lst (dl_cons de_int (dl_cons (de_cd (C__law_cost.more (by decide)) rfl hg hr rfl (da_cons (de_v (pv 6)) da_nil)) (dl_cons (de_bin (sem_add rfl) (dh_of (de_cd (C__law_cost.more (by decide)) rfl hg hr rfl (da_cons (de_v (pv 6)) da_nil))) (dh_of de_int)) (dl_cons (de_cdO (i := 0) (C__law_next.more (by decide)) rfl hg hr rfl (da_ora (pv 0) (da_cons de_int da_nil))) dl_nil))))))) (dh_of (de_cdO (i := 0) (C__law_next.more (by decide)) rfl hg hr rfl (da_ora (pv 0) (da_cons de_int da_nil)))) (fun _ _ => rfl)))))
    (ds_cons (dp_set sc.nd (i := 5) rfl (by first | exact Or.inl rfl | exact Or.inr rfl) (de_bin (sem_add rfl) (dh_of (de_bin (sem_add rfl) (dh_v (pv 7)) (dh_of de_int))) (dh_of (de_cdO (i := 0) (C__law_next.more (by decide)) rfl hg hr rfl (da_ora (pv 0) (da_cons de_int da_nil))))))
    (ds_one (dp_app rfl (pv 4) (de_tup (dl_cons (de_v (pv 7)) (dl_cons (de_v (pv 5)) (dl_cons (de_v (pv 6)) dl_nil))))))))))
    (ds_one (dp_ret (de_ct (sem_tuple rfl) rfl T.n_tuple (by decide +kernel) (dg_cons (dh_v (pv 4)) dg_nil))))))
abbrev st__law_free : Stmt := topS 75
def names__law_free : List Str := ["_law_cues_here", "_law_number", "_law_first_here", "_law_begin", "_law_has_wipe"]
theorem sc__law_free : FnScope names__law_free ["_law_cues_here", "_law_number"] (defScope st__law_free) := ⟨rfl, rfl, rfl, by decide +kernel, rfl, by decide +kernel, by decide +kernel⟩
theorem ok__law_free {fa : Addr} {fd : FuncData} (T : Tx K gl) (F : L2.Fun K "_law_free" "_law_free" st__law_free fa fd) : FnG pr wd K gl bas 1 fa fd ["_law_cues_here", "_law_number"] (spD K R 2 r__law_free) := by
  have sc := sc__law_free
  refine FnG.data (g := g__law_free) F sc rfl fun cdv A out sh H E q F hg hr => ?_
  exact (ds_cons (dp_set sc.nd (i := 2) rfl (by first | exact Or.inl rfl | exact Or.inr rfl) (de_if (dt_cmp (sem_gt) (dh_v (pv 1)) (dh_of de_int) (nomark _)) (de_bin (sem_add rfl) (dh_of (de_ix rfl (dh_of (de_ix rfl (dh_v (pv 0)) (dh_of (de_bin (sem_sub) (dh_v (pv 1)) (dh_of de_int))) (fun _ _ => rfl))) (dh_of de_int) (fun _ _ => rfl))) (dh_of de_int)) de_int))
    (ds_cons (dp_set sc.nd (i := 3) rfl (by first | exact Or.inl rfl | exact Or.inr rfl) (de_ix rfl (dh_of (de_ix rfl (dh_v (pv 0)) (dh_v (pv 1)) (fun _ _ => rfl))) (dh_of de_int) (fun _ _ => rfl)))
    (ds_cons (dp_set sc.nd (i := 4) rfl (by first | exact Or.inl rfl | exact Or.inr rfl) (de_and (de_cmp (sem_gt) (dh_v (pv 1)) (dh_of de_int) (nomark _)) (pe_one (de_cmp (sem_lt) (dh_of (de_ix rfl (dh_of (de_ix rfl (dh_v (pv 0)) (dh_of (de_bin (sem_sub) (dh_v (pv 1)) (dh_of de_int))) (fun _ _ => rfl))) (dh_of de_int) (fun _ _ => rfl))) (dh_v (pv 3)) (nomark _)))))
    (ds_one (dp_ret (de_bin (sem_sub) (dh_of (de_bin (sem_sub) (dh_v (pv 3)) (dh_v (pv 2)))) (dh_of (de_if (dt_truth rfl (dh_v (pv 4))) de_int de_int))))))))
abbrev st__law_short : Stmt := topS 76
def names__law_short : List Str := ["_law_cues_here", "_law_some", "_law_k"]
theorem sc__law_short : FnScope names__law_short ["_law_cues_here"] (defScope st__law_short) := ⟨rfl, rfl, rfl, by decide +kernel, rfl, by decide +kernel, by decide +kernel⟩
theorem ok__law_short {fa : Addr} {fd : FuncData} (T : Tx K gl) (F : L2.Fun K "_law_short" "_law_short" st__law_short fa fd) (C__law_free : Cd pr wd K gl bas R 1 "_law_free" 2 r__law_free) (C__law_cost : Cd pr wd K gl bas R 1 "_law_cost" 1 r__law_cost) : FnG pr wd K gl bas 2 fa fd ["_law_cues_here"] (spD K R 1 r__law_short) := by
  have sc := sc__law_short
  refine FnG.data (g := g__law_short) F sc rfl fun cdv A out sh H E q F hg hr => ?_
  exact (ds_cons (dp_setLc (n := 1) (own := [("_law_k", 2)]) rfl sc.nd rfl rfl (sw_true rfl rfl rfl (by decide +kernel)) (di_range1 rfl T.n_range (dl_cons (de_cb (sem_len rfl) rfl T.n_len (by decide +kernel) (dg_cons (dh_v (pv 0)) dg_nil)) dl_nil)) (blkOk_by (own := [("_law_k", 2)]) (N := names__law_short) (sc := defScope st__law_short) (by decide +kernel)) (by decide) (fun _ _ _ _ _ => (dg_name sc.nd (i := 2) rfl (by first | exact Or.inl rfl | exact Or.inr rfl))) (fun _ _ _ _ _ => (dts_one (dt_cmp (sem_lt) (dh_of (de_cd (C__law_free.more (by decide)) rfl hg hr rfl (da_cons (de_v (pv 0)) (da_cons (de_v (pv 2)) da_nil)))) (dh_of (de_cd (C__law_cost.more (by decide)) rfl hg hr rfl (da_cons (de_ix rfl (dh_of (de_ix rfl (dh_v (pv 0)) (dh_v (pv 2)) (fun _ _ => rfl))) (dh_of de_int) (fun _ _ => rfl)) da_nil))) (nomark _)))) (fun _ _ _ _ _ => (de_v (pv 2))))
    (ds_one (dp_ret (de_if (dt_cmp (sem_ne rfl (hu64 hr)) (dh_v (pv 1)) (dh_of (de_n (dn_lst dl_nil))) (nomark _)) (de_ix rfl (dh_v (pv 1)) (dh_of de_int) (fun _ _ => rfl)) de_non))))
abbrev st__law_picture : Stmt := topS 77
def names__law_picture : List Str := ["_law_size_here", "_law_text_here", "_law_rows", "_law_line"]
theorem sc__law_picture : FnScope names__law_picture ["_law_size_here", "_law_text_here"] (defScope st__law_picture) := ⟨rfl, rfl, rfl, by decide +kernel, rfl, by decide +kernel, by decide +kernel⟩
theorem ok__law_picture {fa : Addr} {fd : FuncData} (T : Tx K gl) (F : L2.Fun K "_law_picture" "_law_picture" st__law_picture fa fd) : FnG pr wd K gl bas 1 fa fd ["_law_size_here", "_law_text_here"] (spD K R 2 r__law_picture) := by
  have sc := sc__law_picture
  refine FnG.data (g := g__law_picture) F sc rfl fun cdv A out sh H E q F hg hr => ?_
  exact (ds_cons (dp_setLc (n := 2) (own := [("_law_line", 3)]) rfl sc.nd rfl rfl (sw_true rfl rfl rfl (by decide +kernel)) (di_seq rfl (de_v (pv 1))) (blkOk_by (own := [("_law_line", 3)]) (N := names__law_picture) (sc := defScope st__law_picture) (by decide +kernel)) (by decide) (fun _ _ _ _ _ => (dg_name sc.nd (i := 3) rfl (by first | exact Or.inl rfl | exact Or.inr rfl))) (fun _ _ _ _ _ => dts_nil) (fun _ _ _ _ _ => (de_bin (sem_add rfl) (dh_v (pv 3)) (dh_of (de_bin (sem_mulS) (dh_of de_str) (dh_of (de_bin (sem_sub) (dh_of (de_ix rfl (dh_v (pv 0)) (dh_of de_int) (fun _ _ => rfl))) (dh_of (de_cb (sem_len rfl) rfl T.n_len (by decide +kernel) (dg_cons (dh_v (pv 3)) dg_nil))))))))))
    (ds_one (dp_ret (de_ct (sem_tuple rfl) rfl T.n_tuple (by decide +kernel) (dg_cons (dh_of (de_bin (sem_add rfl) (dh_v (pv 2)) (dh_of (de_bin (sem_mul rfl) (dh_of (de_n (dn_lst (dl_cons (de_bin (sem_mulS) (dh_of de_str) (dh_of (de_ix rfl (dh_v (pv 0)) (dh_of de_int) (fun _ _ => rfl)))) dl_nil)))) (dh_of (de_bin (sem_sub) (dh_of (de_ix rfl (dh_v (pv 0)) (dh_of de_int) (fun _ _ => rfl))) (dh_of (de_cb (sem_len rfl) rfl T.n_len (by decide +kernel) (dg_cons (dh_v (pv 2)) dg_nil))))))))) dg_nil)))))
abbrev st__law_shown : Stmt := topS 78
def names__law_shown : List Str := ["_law_size_here", "_law_cues_here", "_law_frame", "_law_begin", "_law_end", "_law_text_here"]
theorem sc__law_shown : FnScope names__law_shown ["_law_size_here", "_law_cues_here", "_law_frame"] (defScope st__law_shown) := ⟨rfl, rfl, rfl, by decide +kernel, rfl, by decide +kernel, by decide +kernel⟩
theorem ok__law_shown {fa : Addr} {fd : FuncData} (T : Tx K gl) (F : L2.Fun K "_law_shown" "_law_shown" st__law_shown fa fd) (C__law_picture : Cd pr wd K gl bas R 1 "_law_picture" 2 r__law_picture) : FnG pr wd K gl bas 2 fa fd ["_law_size_here", "_law_cues_here", "_law_frame"] (spD K R 3 r__law_shown) := by
  have sc := sc__law_shown
  refine FnG.data (g := g__law_shown) F sc rfl fun cdv A out sh H E q F hg hr => ?_
  exact (ds_cons (dp_for PassesOwn.never rfl (di_seq rfl (de_v (pv 1))) (dg_tup rfl rfl (dgs_cons (dg_name sc.nd (i := 3) rfl (by first | exact Or.inl rfl | exact Or.inr rfl)) (dgs_cons (dg_name sc.nd (i := 4) rfl (by first | exact Or.inl rfl | exact Or.inr rfl)) (dgs_cons (dg_name sc.nd (i := 5) rfl (by first | exact Or.inl rfl | exact Or.inr rfl)) dgs_nil)))) (ds_one (dp_if (dt_chain (sem_le) (sem_lt) (dh_v (pv 3)) (dh_v (pv 2)) (dh_v (pv 4)) rfl) (ds_one (dp_ret (de_cd (C__law_picture.more (by decide)) rfl hg hr rfl (da_cons (de_v (pv 0)) (da_cons (de_v (pv 5)) da_nil))))) ds_nil)))
    (ds_one (dp_ret (de_cd (C__law_picture.more (by decide)) rfl hg hr rfl (da_cons (de_v (pv 0)) (da_cons (de_tup dl_nil) da_nil))))))
abbrev st__law_does_send : Stmt := topS 79
def names__law_does_send : List Str := ["_law_size_here", "_law_cues_here", "_law_codes", "_law_total", "_law_state", "_law_frame", "_law_code_here"]
theorem sc__law_does_send : FnScope names__law_does_send ["_law_size_here", "_law_cues_here", "_law_codes"] (defScope st__law_does_send) := ⟨rfl, rfl, rfl, by decide +kernel, rfl, by decide +kernel, by decide +kernel⟩
theorem ok__law_does_send {fa : Addr} {fd : FuncData} (T : Tx K gl) (F : L2.Fun K "_law_does_send" "_law_does_send" st__law_does_send fa fd) (C_is_code : Cd pr wd K gl bas R 4 "is_code" 2 r_is_code) (C__law_first : Cd pr wd K gl bas R 1 "_law_first" 1 r__law_first) (C__law_stepped : Cd pr wd K gl bas R 2 "_law_stepped" 3 s__law_stepped) (C__law_told : Cd pr wd K gl bas R 1 "_law_told" 1 r__law_told) (C__law_shown : Cd pr wd K gl bas R 2 "_law_shown" 3 r__law_shown) : FnG pr wd K gl bas 5 fa fd ["_law_size_here", "_law_cues_here", "_law_codes"] (spD K R 3 r__law_does_send) := by
  have sc := sc__law_does_send
  refine FnG.data (g := g__law_does_send) F sc rfl fun cdv A out sh H E q F hg hr => ?_
  exact (ds_cons (dp_set sc.nd (i := 3) rfl (by first | exact Or.inl rfl | exact Or.inr rfl) (de_if (dt_cmp (sem_ne rfl (hu64 hr)) (dh_v (pv 1)) (dh_of (de_tup dl_nil)) (nomark _)) (de_bin (sem_add rfl) (dh_of (de_ix rfl (dh_of (de_ix rfl (dh_v (pv 1)) (dh_of (de_neg de_int)) (fun _ _ => rfl))) (dh_of de_int) (fun _ _ => rfl))) (dh_of de_int)) de_int))
    (ds_cons (dp_if (PW.pt (dw_or (dt_not (dt_truth rfl (dh_of (de_isi rfl rfl T.n_isinstance rfl T.n_tuple (by decide +kernel) (dh_v (pv 2)))))) (pw_or1 (dt_cmp (sem_ne rfl (hu64 hr)) (dh_of (de_cb (sem_len rfl) rfl T.n_len (by decide +kernel) (dg_cons (dh_v (pv 2)) dg_nil))) (dh_v (pv 3)) (nomark _))))) (ds_one (dp_ret de_bl)) ds_nil)
    (ds_cons (dp_if (dt_cmp (sem_ne rfl (hu64 hr)) (dh_of (de_n (dn_lc (own := [("_law_code_here", 6)]) rfl sc.nd (di_seq rfl (de_v (pv 2))) (blkOk_by (own := [("_law_code_here", 6)]) (N := names__law_does_send) (sc := defScope st__law_does_send) (by decide +kernel)) (by decide) (fun _ _ _ _ _ => (dg_name sc.nd (i := 6) rfl (by first | exact Or.inl rfl | exact Or.inr rfl))) (fun _ _ _ _ _ => (dts_one (dt_not (dt_truth rfl (dh_of (de_cd (C_is_code.more (by decide)) rfl hg hr rfl (da_cons (de_v (pv 0)) (da_cons (de_v (pv 6)) da_nil)))))))) (fun _ _ _ _ _ => (de_v (pv 6)))))) (dh_of (de_n (dn_lst dl_nil))) (nomark _)) (ds_one (dp_ret de_bl)) ds_nil)
    (ds_cons (dp_set sc.nd (i := 4) rfl (by first | exact Or.inl rfl | exact Or.inr rfl) (de_cd (C__law_first.more (by decide)) rfl hg hr rfl (da_cons (de_v (pv 0)) da_nil)))
    (ds_cons (dp_for PassesOwn.never rfl (di_enum rfl rfl T.n_enumerate (dl_cons (de_v (pv 2)) dl_nil)) (dg_tup rfl rfl (dgs_cons (dg_name sc.nd (i := 5) rfl (by first | exact Or.inl rfl | exact Or.inr rfl)) (dgs_cons (dg_name sc.nd (i := 6) rfl (by first | exact Or.inl rfl | exact Or.inr rfl)) dgs_nil))) (ds_cons (dp_set sc.nd (i := 4) rfl (by first | exact Or.inl rfl | exact Or.inr rfl) (de_cd (C__law_stepped.more (by decide)) rfl hg hr rfl (da_cons (de_v (pv 0)) (da_cons (de_v (pv 4)) (da_cons (de_v (pv 6)) da_nil)))))
    (ds_one (dp_if (dt_cmp (sem_ne rfl (hu64 hr)) (dh_of (de_ix rfl (dh_of (de_cd (C__law_told.more (by decide)) rfl hg hr rfl (da_cons (de_v (pv 4)) da_nil))) (dh_of de_int) (fun _ _ => rfl))) (dh_of (de_cd (C__law_shown.more (by decide)) rfl hg hr rfl (da_cons (de_v (pv 0)) (da_cons (de_v (pv 1)) (da_cons (de_v (pv 5)) da_nil))))) (nomark _)) (ds_one (dp_ret de_bl)) ds_nil))))
    (ds_one (dp_ret de_bl)))))))
abbrev st__law_due : Stmt := topS 80
def names__law_due : List Str := ["_law_size_here", "_law_cues_here", "_law_sheet"]
theorem sc__law_due : FnScope names__law_due ["_law_size_here", "_law_cues_here", "_law_sheet"] (defScope st__law_due) := ⟨rfl, rfl, rfl, by decide +kernel, rfl, by decide +kernel, by decide +kernel⟩
theorem ok__law_due {fa : Addr} {fd : FuncData} (T : Tx K gl) (F : L2.Fun K "_law_due" "_law_due" st__law_due fa fd) (C__law_does_send : Cd pr wd K gl bas R 5 "_law_does_send" 3 r__law_does_send) (C__law_short : Cd pr wd K gl bas R 2 "_law_short" 1 r__law_short) : FnG pr wd K gl bas 6 fa fd ["_law_size_here", "_law_cues_here", "_law_sheet"] (spD K R 3 r__law_due) := by
  have sc := sc__law_due
  refine FnG.data (g := g__law_due) F sc rfl fun cdv A out sh H E q F hg hr => ?_
  exact (ds_cons (dp_if (PW.pt (dw_or (dt_not (dt_truth rfl (dh_of (de_isi rfl rfl T.n_isinstance rfl T.n_tuple (by decide +kernel) (dh_v (pv 2)))))) (dw_or (dt_cmp (sem_ne rfl (hu64 hr)) (dh_of (de_cb (sem_len rfl) rfl T.n_len (by decide +kernel) (dg_cons (dh_v (pv 2)) dg_nil))) (dh_of de_int) (nomark _)) (pw_or1 (dt_not (dt_truth rfl (dh_of (de_isi rfl rfl T.n_isinstance rfl T.n_str (by decide +kernel) (dh_of (de_ix rfl (dh_v (pv 2)) (dh_of de_int) (fun _ _ => rfl))))))))))) (ds_one (dp_ret (de_n (dn_lst (dl_cons de_str dl_nil))))) ds_nil)
    (ds_cons (dp_if (dt_cmp (sem_notInS rfl) (dh_of (de_ix rfl (dh_v (pv 2)) (dh_of de_int) (fun _ _ => rfl))) (dh_of (de_tup (dl_cons de_str (dl_cons de_str dl_nil)))) rfl) (ds_one (dp_ret (de_n (dn_lst (dl_cons de_str dl_nil))))) ds_nil)
    (ds_cons (dp_if (dt_cmp (sem_eq rfl (hu64 hr)) (dh_of (de_ix rfl (dh_v (pv 2)) (dh_of de_int) (fun _ _ => rfl))) (dh_of de_str) (nomark _)) (ds_one (dp_ret (de_if (dt_truth rfl (dh_of (de_cd (C__law_does_send.more (by decide)) rfl hg hr rfl (da_cons (de_v (pv 0)) (da_cons (de_v (pv 1)) (da_cons (de_ix rfl (dh_v (pv 2)) (dh_of de_int) (fun _ _ => rfl)) da_nil)))))) de_str (de_n (dn_lst (dl_cons de_str dl_nil)))))) ds_nil)
    (ds_one (dp_ret (de_if (PW.pt (dw_and (dt_cmp (sem_isnot) (dh_of (de_ix rfl (dh_v (pv 2)) (dh_of de_int) (fun _ _ => rfl))) (dh_of de_non) (nomark _)) (pw_and1 (dt_cmp (sem_eqS) (dh_of (de_cb (sem_reprU rfl hg (hu64 hr)) rfl T.n_repr (by decide +kernel) (dg_cons (dh_of (de_ix rfl (dh_v (pv 2)) (dh_of de_int) (fun _ _ => rfl))) dg_nil))) (dh_of (de_cb (sem_reprU rfl hg (hu64 hr)) rfl T.n_repr (by decide +kernel) (dg_cons (dh_of (de_cd (C__law_short.more (by decide)) rfl hg hr rfl (da_cons (de_v (pv 1)) da_nil))) dg_nil))) (nomark _))))) de_str (de_n (dn_lst (dl_cons de_str dl_nil)))))))))
abbrev st__law_outcome : Stmt := topS 81
def names__law_outcome : List Str := ["_law_size_here", "_law_cues_here", "_law_sheet", "_law_found", "e"]
theorem sc__law_outcome : FnScope names__law_outcome ["_law_size_here", "_law_cues_here", "_law_sheet"] (defScope st__law_outcome) := ⟨rfl, rfl, rfl, by decide +kernel, rfl, by decide +kernel, by decide +kernel⟩
theorem ok__law_outcome {fa : Addr} {fd : FuncData} (T : Tx K gl) (F : L2.Fun K "_law_outcome" "_law_outcome" st__law_outcome fa fd) (CX_check_send : CdX pr wd K gl bas R 9 "check_send" 3 rx_check_send) (K_BadPaper : ClsAt pr wd K gl bas "BadPaper" (some "part")) (KF_BadPaper : FldOf K gl "BadPaper" "part") : FnG pr wd K gl bas 10 fa fd ["_law_size_here", "_law_cues_here", "_law_sheet"] (spD K R 3 r__law_outcome) := by
  have sc := sc__law_outcome
  refine FnG.data0 (g := g__law_outcome) F sc rfl fun cdv A out sh H E q F hg hr => ?_
  exact (s0_cons (s0_of (dp_set sc.nd (i := 3) rfl (by first | exact Or.inl rfl | exact Or.inr rfl) de_non))
    (s0_cons (dp_tryF (i := 4) (j := 3) rfl rfl sc.nd rfl rfl rfl (by first | exact Or.inl rfl | exact Or.inr rfl) K_BadPaper KF_BadPaper rfl (fun px pn xe tk po => (ds_one (dp_set sc.nd (i := 3) rfl (by first | exact Or.inl rfl | exact Or.inr rfl) (de_cdX tk (CX_check_send.more (by decide)) rfl hg hr rfl (da_cons (de_v (pv 0)) (da_cons (de_v (pv 1)) (da_cons (de_v (pv 2)) da_nil))))))) (fun a C oe cls d pn T1 T2 T3 T4 => (fd_one (fd_bare rfl T1 T2 T3 T4 (pv 4)))))
    (s0_one (s0_of (dp_ret (de_v (pv 3)))))))
abbrev st__law_bent : Stmt := topS 82
def names__law_bent : List Str := ["_law_m", "_law_size_here", "_law_sheet", "_law_odd", "_law_some", "_law_word", "_law_thing", "_law_at", "_law_fresh"]
theorem sc__law_bent : FnScope names__law_bent ["_law_m", "_law_size_here", "_law_sheet"] (defScope st__law_bent) := ⟨rfl, rfl, rfl, by decide +kernel, rfl, by decide +kernel, by decide +kernel⟩
theorem ok__law_bent {fa : Addr} {fd : FuncData} (T : Tx K gl) (F : L2.Fun K "_law_bent" "_law_bent" st__law_bent fa fd) (C__law_next : Cd pr wd K gl bas R 1 "_law_next" 2 s_next) (C__law_code : Cd pr wd K gl bas R 2 "_law_code" 2 r__law_code) : FnG pr wd K gl bas 3 fa fd ["_law_m", "_law_size_here", "_law_sheet"] (spD K R 3 r__law_bent) := by
  have sc := sc__law_bent
  refine FnG.data (g := g__law_bent) F sc rfl fun cdv A out sh H E q F hg hr => ?_
  exact (ds_cons (dp_asg (de_v (pv 2)) (dg_tup rfl rfl (dgs_cons (dg_name sc.nd (i := 5) rfl (by first | exact Or.inl rfl | exact Or.inr rfl)) (dgs_cons (dg_name sc.nd (i := 6) rfl (by first | exact Or.inl rfl | exact Or.inr rfl)) dgs_nil))))
    (ds_cons (dp_set sc.nd (i := 3) rfl (by first | exact Or.inl rfl | exact Or.inr rfl) (de_ix rfl (dh_of (de_n (dn_lst (dl_cons de_non (dl_cons de_int (dl_cons de_bl (dl_cons (de_tup dl_nil) (dl_cons de_str (dl_cons (de_neg de_int) (dl_cons (de_n (dn_lst dl_nil)) (dl_cons (de_tup (dl_cons de_str dl_nil)) dl_nil))))))))))) (dh_of (de_cdO (i := 0) (C__law_next.more (by decide)) rfl hg hr rfl (da_ora (pv 0) (da_cons de_int da_nil)))) (fun _ _ => rfl)))
    (ds_cons (dp_setN sc.nd (i := 4) rfl (by first | exact Or.inl rfl | exact Or.inr rfl) (dn_lst (dl_cons (de_tup (dl_cons (de_v (pv 5)) (dl_cons (de_v (pv 3)) dl_nil))) (dl_cons (de_tup (dl_cons (de_v (pv 3)) (dl_cons (de_v (pv 6)) dl_nil))) (dl_cons (de_tup (dl_cons (de_v (pv 5)) dl_nil)) (dl_cons (de_bin (sem_add rfl) (dh_v (pv 2)) (dh_of (de_tup (dl_cons de_int dl_nil)))) (dl_cons (de_n (dn_list rfl rfl T.n_list (dg_cons (dh_v (pv 2)) dg_nil))) dl_nil)))))))
    (ds_cons (dp_app rfl (pv 4) (de_tup (dl_cons (de_if (dt_cmp (sem_eq rfl (hu64 hr)) (dh_v (pv 5)) (dh_of de_str) (nomark _)) de_str de_str) (dl_cons (de_v (pv 6)) dl_nil))))
    (ds_cons (dp_if (PW.pt (dw_and (dt_cmp (sem_eq rfl (hu64 hr)) (dh_v (pv 5)) (dh_of de_str) (nomark _)) (pw_and1 (dt_cmp (sem_ne rfl (hu64 hr)) (dh_v (pv 6)) (dh_of (de_tup dl_nil)) (nomark _))))) (ds_cons (dp_set sc.nd (i := 7) rfl (by first | exact Or.inl rfl | exact Or.inr rfl) (de_cdO (i := 0) (C__law_next.more (by decide)) rfl hg hr rfl (da_ora (pv 0) (da_cons (de_cb (sem_len rfl) rfl T.n_len (by decide +kernel) (dg_cons (dh_v (pv 6)) dg_nil)) da_nil))))
    (ds_cons (dp_for PassesOwn.never rfl (di_seq rfl (de_tup (dl_cons (de_cdO (i := 0) (C__law_code.more (by decide)) rfl hg hr rfl (da_ora (pv 0) (da_cons (de_v (pv 1)) da_nil))) (dl_cons (de_tup (dl_cons de_str dl_nil)) (dl_cons (de_tup (dl_cons de_str dl_nil)) (dl_cons (de_tup (dl_cons de_str dl_nil)) (dl_cons (de_v (pv 3)) dl_nil))))))) (dg_name sc.nd (i := 8) rfl (by first | exact Or.inl rfl | exact Or.inr rfl)) (ds_one (dp_app rfl (pv 4) (de_tup (dl_cons (de_v (pv 5)) (dl_cons (de_bin (sem_add rfl) (dh_of (de_bin (sem_add rfl) (dh_of (de_sl rfl (dh_v (pv 6)) do_no (do_i (de_v (pv 7))))) (dh_of (de_tup (dl_cons (de_v (pv 8)) dl_nil))))) (dh_of (de_sl rfl (dh_v (pv 6)) (do_i (de_bin (sem_add rfl) (dh_v (pv 7)) (dh_of de_int))) do_no))) dl_nil))))))
    (ds_one (dp_setN sc.nd (i := 4) rfl (by first | exact Or.inl rfl | exact Or.inr rfl) (dn_cat rfl (dh_v (pv 4)) (dh_of (de_n (dn_lst (dl_cons (de_tup (dl_cons (de_v (pv 5)) (dl_cons (de_sl rfl (dh_v (pv 6)) do_no (do_i (de_v (pv 7)))) dl_nil))) (dl_cons (de_tup (dl_cons (de_v (pv 5)) (dl_cons (de_bin (sem_add rfl) (dh_of (de_bin (sem_add rfl) (dh_of (de_sl rfl (dh_v (pv 6)) do_no (do_i (de_v (pv 7))))) (dh_of (de_revT rfl (dh_of (de_sl rfl (dh_v (pv 6)) (do_i (de_v (pv 7))) (do_i (de_bin (sem_add rfl) (dh_v (pv 7)) (dh_of de_int))))))))) (dh_of (de_sl rfl (dh_v (pv 6)) (do_i (de_bin (sem_add rfl) (dh_v (pv 7)) (dh_of de_int))) do_no))) dl_nil))) dl_nil)))))))))) ds_nil)
    (ds_one (dp_ret (de_ix rfl (dh_v (pv 4)) (dh_of (de_cdO (i := 0) (C__law_next.more (by decide)) rfl hg hr rfl (da_ora (pv 0) (da_cons (de_cb (sem_len rfl) rfl T.n_len (by decide +kernel) (dg_cons (dh_v (pv 4)) dg_nil)) da_nil)))) (fun _ _ => rfl)))))))))
abbrev st__law_next : Stmt := topS 63
def names__law_next : List Str := ["_law_m", "_law_total", "_law_k", "_law_cell", "_law_mixed", "_law_rest"]
theorem sc__law_next : FnScope names__law_next ["_law_m", "_law_total"] (defScope st__law_next) := ⟨rfl, rfl, rfl, by decide +kernel, rfl, by decide +kernel, by decide +kernel⟩
theorem ok__law_next {fa : Addr} {fd : FuncData} (T : Tx K gl) (F : L2.Fun K "_law_next" "_law_next" st__law_next fa fd) : FnG pr wd K gl bas 1 fa fd ["_law_m", "_law_total"] (spD K srcOrc 2 s_next) := by
  have nd := sc__law_next.nd
  refine FnG.of F sc__law_next (fun vs H Q E ⟨q, F0, as, m, P, w, pa, hl, _⟩ => by rw [paired_len pa, hl]; rfl) fun cdv A out sh H vs Q E hg hr ⟨qo, F0, as, m, P, w, pa, hl, ho, hq, hm, ⟨n, eas, n0, n1, m1, kP⟩, k0⟩ => ?_
  subst eas
  obtain ⟨v1, vs, rfl, a1, pa⟩ : ∃ v1 vs', vs = v1 :: vs' ∧ ArAt ⟨K, srcOrc, qo, F0, H⟩ F0 v1 .ora ∧ Paired (ArAt ⟨K, srcOrc, qo, F0, H⟩ F0) vs' [.d (.int n)] := by
    cases pa with
    | cons a b => (exact ⟨_, _, rfl, a, b⟩)
  obtain ⟨v2, rfl, a2⟩ : ∃ v2, vs = [v2] ∧ ArAt ⟨K, srcOrc, qo, F0, H⟩ F0 v2 (.d (.int n)) := by
    cases pa with
    | cons a b => cases b; exact ⟨_, rfl, a⟩
  obtain ⟨q, eq, rfl⟩ := a1
  cases (show qo = some q from eq)
  have e2 : v2 = .int n := by
    have z : At K F0 v2 (.int n) := a2
    cases z
    rfl
  subst e2
  obtain ⟨c, l, cs, ls, k, s0⟩ := w.or q rfl
  have hk : k ≤ m := by have := hm q rfl; rw [s0.spot] at this; exact this
  refine ⟨_, pss_cons (ps_while PassesOwn.never (PW.pt (pw_and (pt_cmpR (op_neD (hu64 hr)) (pe_dget (hu_of hr) (pv 0) pe_str (fun _ _ => rfl)) (pe_lst pa_nil) (nomark _)) (pw_and1 (pt_cmpR op_eq (pe_ix ix_list (pe_dget (hu_of hr) (pv 0) pe_str (fun _ _ => rfl)) pe_int (fun _ _ => rfl)) pe_int (nomark _)))))
      (pss_one (ps_dput (hu_of hr) (pv 0) pe_str (pe_slice sl_list (pe_dget (hu_of hr) (pv 0) pe_str (fun _ _ => rfl)) (po_some pe_int) po_none) rfl)))
    (pss_cons (ps_if (pt_cmpR (op_neD (hu64 hr)) (pe_dget (hu_of hr) (pv 0) pe_str (fun _ _ => rfl)) (pe_lst pa_nil) (nomark _))
      (pss_cons (ps_set (i := 5) nd rfl (Or.inl rfl) (pe_callTy call_int1 rfl T.n_int (by decide +kernel) (pa_cons (pe_ix ix_list (pe_dget (hu_of hr) (pv 0) pe_str (fun _ _ => rfl)) pe_int (fun _ _ => rfl)) pa_nil)))
        (pss_cons (ps_asg (pe_op op_fdiv (pv 5) (pv 1)) (pg_sub (pe_dget (hu_of hr) (pv 0) pe_str (fun _ _ => rfl)) pe_int set_list))
          (pss_one (ps_ret (pe_op op_mod (pv 5) (pv 1)))))) pss_nil)
    (pss_cons (ps_set (i := 2) nd rfl (Or.inl rfl) (pe_op op_add (pe_dget (hu_of hr) (pv 0) pe_str (fun _ _ => rfl)) pe_int))
    (pss_cons (ps_dput (hu_of hr) (pv 0) pe_str (pv 2) rfl)
    (pss_cons (ps_set (i := 3) nd rfl (Or.inl rfl) (pe_ifExp (pt_cmpR (op_neD (hu64 hr)) (pe_dget (hu_of hr) (pv 0) pe_str (fun _ _ => rfl)) (pe_lst pa_nil) (nomark _))
        (pe_ix ix_list (pe_dget (hu_of hr) (pv 0) pe_str (fun _ _ => rfl)) (pe_op op_mod (pe_callTy call_int1 rfl T.n_int (by decide +kernel) (pa_cons (pv 2) pa_nil)) (pe_callB call_len_seq rfl T.n_len (by decide +kernel) (pa_cons (pe_dget (hu_of hr) (pv 0) pe_str (fun _ _ => rfl)) pa_nil))) (fun _ _ => rfl)) pe_int))
    (pss_cons (ps_set (i := 4) nd rfl (Or.inl rfl) (pe_op op_mul (pe_callTy call_int1 rfl T.n_int (by decide +kernel) (pa_cons (pe_op op_add (pe_op op_add (pe_op op_mod (pe_callTy call_int1 rfl T.n_int (by decide +kernel) (pa_cons (pv 3) pa_nil)) pe_int) (pe_op op_mul pe_int (pv 2))) (pe_op op_mul (pe_op op_mul pe_int (pv 2)) (pv 2))) pa_nil)) pe_int))
    (pss_cons (ps_set (i := 4) nd rfl (Or.inl rfl) (pe_op op_mul (pe_callTy call_int1 rfl T.n_int (by decide +kernel) (pa_cons (pe_op op_add (pe_op op_mod (pe_callTy call_int1 rfl T.n_int (by decide +kernel) (pa_cons (pv 4) pa_nil)) pe_int) (pe_op op_mul pe_int (pv 2))) pa_nil)) pe_int))
    (pss_one (ps_ret (pe_op op_mod (pe_callTy call_int1 rfl T.n_int (by decide +kernel) (pa_cons (pe_op op_fdiv (pe_op op_mod (pe_callTy call_int1 rfl T.n_int (by decide +kernel) (pa_cons (pv 4) pa_nil)) pe_int) pe_int) pa_nil)) (pv 1)))))))))), ?_⟩
  have fin : ∀ (r : Int) (H' : Hp) (l' : Addr) (ls' : List Int) (k' : Nat), 0 ≤ r → r < n → SrcAt H' q c l' cs ls' k' → k' ≤ k + 1 → Tou q H H' → Q (.int r) H' := by
    intro r H' l' ls' k' r0 r1 s' hk' t'
    refine k0 (.int r) (m + 1) _ F0 H' (kP r r0 r1) (t'.world w ⟨_, _, _, _, _, s'⟩) (fun p e => ?_) (.int r)
    cases e
    rw [s'.spot]
    omega
  have modn : ∀ x : Int, 0 ≤ x % n ∧ x % n < n := fun x => ⟨Int.emod_nonneg x (by omega), Int.emod_lt_of_pos x n0⟩
  refine next_while s0 rfl fun l1 ls1 H1 s1 t1 => ?_
  refine ne_left s1 rfl fun H2 s2 t2 => ?_
  have t12 := t1.trans t2
  cases ls1 with
  | cons x r =>
    refine rdL s2 rfl ⟨l1, _, 0, .int x, rfl, rfl, SqL.of s2.dl, by simp [atI, ixN], .inl ⟨_, rfl, ?_⟩⟩
    refine ⟨_, rfl, _, rfl, _, _, rfl, rfl, ⟨n0, n1⟩, ?_⟩
    refine rdL s2 rfl ⟨l1, _, 0, 0, rfl, rfl, s2.dl, by simp [ixN], ?_⟩
    have e1 : ((x :: r).map V.int).set 0 (V.int (x / n)) = ((x / n) :: r).map V.int := rfl
    rw [e1]
    have s3 := s2.setV ((x / n) :: r) s2.nl
    refine ⟨_, rfl, _, rfl, _, _, rfl, rfl, n0, ?_⟩
    exact fin _ _ _ _ _ (modn x).1 (modn x).2 s3 (Nat.le_succ k) (t12.trans (Tou.putL s2))
  | nil =>
    refine rdS s2 rfl ⟨_, _, rfl, rfl, ?_⟩
    change L2.gName 2 (V.int ((k + 1 : Nat) : Int)) _ H2 _
    refine ⟨_, rfl, _, rfl, q, _, rfl, DPut.k (k := kS) s2.dq small3, ?_⟩
    have s3 : SrcAt (upd H2 q (.dK [(kC, .ref c), (kL, .ref l1), (kS, .int ((k + 1 : Nat) : Int))])) q c l1 cs [] (k + 1) := s2.setS (k + 1)
    have t3 := t12.trans (Tou.putQ (l' := l1) (v := .int ((k + 1 : Nat) : Int)) s2 (.inl rfl) (fun _ z => by cases z))
    rw [put_kS]
    have kb : ((k + 1 : Nat) : Int) < 2097152 := by omega
    have kn : (0 : Int) ≤ ((k + 1 : Nat) : Int) := by omega
    generalize ((k + 1 : Nat) : Int) = j at kb kn s3 t3
    refine cell_use s3 rfl rfl fun z H4 s4 t4 => ?_
    have small : ∀ i : Int, 0 ≤ i → i < 2097152 → (-(2 ^ 64) < i ∧ i < 2 ^ 64) := fun i a b => ⟨by omega, by omega⟩
    refine ⟨_, rfl, .inl ⟨_, rfl, ?_⟩⟩
    refine ⟨_, _, rfl, rfl, (by decide : (0 : Int) < 2147483629), ?_⟩
    refine ⟨_, rfl, _, _, rfl, rfl, .inl ⟨by decide, by decide⟩, ?_⟩
    refine ⟨_, _, rfl, rfl, ?_⟩
    refine ⟨_, rfl, _, _, rfl, rfl, .inl ⟨by decide, by decide⟩, ?_⟩
    refine ⟨_, rfl, _, _, rfl, rfl, .inr (small j kn kb), ?_⟩
    refine ⟨_, _, rfl, rfl, .inl ⟨_, rfl, ?_⟩⟩
    refine ⟨_, _, rfl, rfl, .inr ⟨by decide, by decide⟩, ?_⟩
    refine ⟨_, rfl, .inl ⟨_, rfl, ?_⟩⟩
    refine ⟨_, _, rfl, rfl, (by decide : (0 : Int) < 2147483647), ?_⟩
    refine ⟨_, rfl, _, _, rfl, rfl, .inl ⟨by decide, by decide⟩, ?_⟩
    refine ⟨_, _, rfl, rfl, .inl ⟨_, rfl, ?_⟩⟩
    refine ⟨_, _, rfl, rfl, .inr ⟨by decide, by decide⟩, ?_⟩
    refine ⟨_, rfl, .inl ⟨_, rfl, ?_⟩⟩
    refine ⟨_, _, rfl, rfl, (by decide : (0 : Int) < 2147483587), ?_⟩
    refine ⟨_, _, rfl, rfl, ⟨by decide, by decide⟩, .inl ⟨_, rfl, ?_⟩⟩
    refine ⟨_, rfl, _, _, rfl, rfl, n0, ?_⟩
    exact fin _ _ _ _ _ (modn _).1 (modn _).2 s4 (Nat.le_refl _) (t3.trans t4)
abbrev st__law_begun : Stmt := topS 62
def names__law_begun : List Str := ["_law_script", "_law_cell"]
theorem sc__law_begun : FnScope names__law_begun ["_law_script"] (defScope st__law_begun) := ⟨rfl, rfl, rfl, by decide +kernel, rfl, by decide +kernel, by decide +kernel⟩
theorem ok__law_begun {fa : Addr} {fd : FuncData} (T : Tx K gl) (F : L2.Fun K "_law_begun" "_law_begun" st__law_begun fa fd) : FnG pr wd K gl bas 1 fa fd ["_law_script"] (spBegun K) := by
  have sc := sc__law_begun
  refine FnG.of F sc (fun vs H Q E h => ?_) fun cdv A out sh H vs Q E hg hr h => ?_
  · obtain ⟨a, ns, rfl, _⟩ := h
    rfl
  obtain ⟨a, ns, rfl, sq, hl, k⟩ := h
  refine ⟨_, pss_one (ps_ret (pe_disp (pps_cons pe_str (dn_list (c := ⟨K, Orc.nil, none, H, H⟩) rfl rfl T.n_list (dg_cons (dh_v (pv 0)) dg_nil)) (pps_cons pe_str (dn_lc (c := ⟨K, Orc.nil, none, H, H⟩) (own := [("_law_cell", 1)]) rfl sc.nd (di_seq rfl (de_v (pv 0))) (blkOk_by (own := [("_law_cell", 1)]) (N := names__law_begun) (sc := defScope st__law_begun) (by decide +kernel)) (by decide) (fun _ _ _ _ _ => (dg_name sc.nd (i := 1) rfl (by first | exact Or.inl rfl | exact Or.inr rfl))) (fun _ _ _ _ _ => (dts_one (dt_cmp (sem_ge) (dh_v (pv 1)) (dh_of (de_bin (sem_pow) (dh_of de_int) (dh_of de_int))) (nomark _)))) (fun _ _ _ _ _ => (de_v (pv 1)))) (pps_cons pe_str pe_int pps_nil))) rfl rfl (by decide) (by decide))), ?_⟩
  have w : World Orc.nil none H H H H := World.start (Ex.refl H) (fun _ _ z => z) fun _ z => nomatch z
  have r : Rel ⟨K, Orc.nil, none, H, H⟩ H H (start names__law_begun [.ref a]) (startE names__law_begun.length [.d (.list (ns.map PyData.int))] 0) [] :=
    rel_start w (.cons (.lst sq (AtAll.ofInts ns)) .nil) (fun i z => by cases i with | zero => rfl | succ i => cases z) fun _ z => nomatch z
  exact disp_use r rfl rfl (made_data ns hl) (by omega) (Nat.le_trans (great_len ns) (by omega)) fun q c l H' e1 e2 e3 e4 s => k q c l _ _ H' e1 e2 e3 e4 s
abbrev st_law : Stmt := topS 83
def names_law : List Str := ["_law_script", "_law_m", "_law_turn", "_law_size_here", "_law_cues_here", "_law_told_here", "_law_some", "_law_sheet", "_law_k"]
theorem sc_law : FnScope names_law ["_law_script"] (defScope st_law) := ⟨rfl, rfl, rfl, by decide +kernel, rfl, by decide +kernel, by decide +kernel⟩
theorem noIm (i : Nat) (d : D) : ([.ora 0, .no, .no, .no, .no, .no, .no, .no] : List Sl)[i]? ≠ some (.im d) := by
  intro e
  have := List.mem_of_getElem? e
  simp at this
theorem noOw {ns : List Int} (i : Nat) (d : D) : ([.im (.list (ns.map PyData.int)), .ora 0, .no, .no, .no, .no, .no, .no, .no] : List Sl)[i]? ≠ some (.ow d) := by
  intro e
  have := List.mem_of_getElem? e
  simp at this
theorem oneOra {ns : List Int} (i m : Nat) (e : ([.im (.list (ns.map PyData.int)), .ora 0, .no, .no, .no, .no, .no, .no, .no] : List Sl)[i]? = some (.ora m)) : i = 1 ∧ m = 0 := by
  have hi : i < 9 := by
    have := (List.getElem?_eq_some_iff.mp e).1
    simpa using this
  have : i = 0 ∨ i = 1 ∨ i = 2 ∨ i = 3 ∨ i = 4 ∨ i = 5 ∨ i = 6 ∨ i = 7 ∨ i = 8 := by omega
  rcases this with rfl | rfl | rfl | rfl | rfl | rfl | rfl | rfl | rfl <;> simp at e <;> simp [e]
theorem rel_law {K : PySem.W.Frag} {q c l a : Addr} {H H1 : Hp} {cs ls ns : List Int} (w : World srcOrc (some q) H H1 H H1) (sq : SqL K H a (ns.map V.int)) (s : SrcAt H1 q c l cs ls 0) :
    Rel ⟨K, srcOrc, some q, H, H1⟩ H H1 ((start names_law [.ref a]).set 1 (some (.ref q))) [.im (.list (ns.map PyData.int)), .ora 0, .no, .no, .no, .no, .no, .no, .no] [] := by
  refine ⟨w, ⟨rfl, fun i d e => ?_, fun i d e => ?_, fun i j d e b z => ?_, fun i n e => ?_, fun i j m n e1 e2 => ?_, (fun _ hp => nomatch hp), List.nodup_nil⟩⟩
  · rcases i with _ | i
    · cases e
      exact ⟨_, rfl, .lst sq (AtAll.ofInts ns)⟩
    · exact absurd e (noIm i d)
  · exact absurd e (noOw i d)
  · exact absurd z (noOw i d)
  · obtain ⟨rfl, rfl⟩ := oneOra i n e
    exact ⟨q, rfl, rfl, by rw [s.spot]; exact Nat.le_refl _⟩
  · rw [(oneOra i m e1).1, (oneOra j n e2).1]
def spLawG (K : PySem.W.Frag) : Sp := fun vs H Q _ => ∃ (a : Addr) (ns : List Int), vs = [.ref a] ∧ SqL K H a (ns.map V.int) ∧ ns.length ≤ 63 ∧ ∀ H', Q (.bl true) H'
theorem ok_law {fa fb : Addr} {fd fdb : FuncData} (T : Tx K gl) (F : L2.Fun K "law" "law" st_law fa fd) (Fb : FnG pr wd K gl bas 1 fb fdb ["_law_script"] (spBegun K)) (gb : gl "_law_begun" = some (.ref fb)) (kb : PySem.W.keepIn K (.ref fb) = true) (bb : Binds K fdb ["_law_script"] []) (C__law_size : Cd pr wd K gl bas srcOrc 2 "_law_size" 2 r__law_size) (C__law_cues : Cd pr wd K gl bas srcOrc 3 "_law_cues" 3 r__law_cues) (C_send_paper : Cd pr wd K gl bas srcOrc 8 "send_paper" 2 r_send_paper) (C__law_bent : Cd pr wd K gl bas srcOrc 3 "_law_bent" 3 r__law_bent) (C__law_outcome : Cd pr wd K gl bas srcOrc 10 "_law_outcome" 3 r__law_outcome) (C__law_due : Cd pr wd K gl bas srcOrc 6 "_law_due" 3 r__law_due)
    (says : ∀ ns : List Int, ns.length ≤ 63 → lawSays ns) : FnG pr wd K gl bas 11 fa fd ["_law_script"] (spLawG K) := by
  have sc := sc_law
  refine FnG.of F sc (fun vs H Q E h => ?_) fun cdv A out sh H vs Q E hg hr h => ?_
  · obtain ⟨a, ns, rfl, _⟩ := h
    rfl
  obtain ⟨a, ns, rfl, sq, hl, k⟩ := h
  refine ⟨_, pss_cons (ps_set (i := 1) sc.nd rfl (by first | exact Or.inl rfl | exact Or.inr rfl) (pe_callG Fb hg (hr.mono (by decide)) rfl gb kb bb (pa_cons (pv 0) pa_nil)))
    (pss_some (ι := Option Addr × Hp × Hp) (t := fun i => tS ⟨K, srcOrc, i.1, i.2.1, i.2.2⟩ g_law) fun ⟨qo, F0, H0⟩ => ?_), ?_⟩
  · exact (ds_cons (dp_for PassesOwn.never rfl (di_range1 rfl T.n_range (dl_cons (de_bin (sem_add rfl) (dh_of de_int) (dh_of (de_cb (sem_min rfl rfl) rfl T.n_min (by decide +kernel) (dg_cons (dh_of (de_cb (sem_len rfl) rfl T.n_len (by decide +kernel) (dg_cons (dh_v (pv 0)) dg_nil))) (dg_cons (dh_of de_int) dg_nil))))) dl_nil)) (dg_name sc.nd (i := 2) rfl (by first | exact Or.inl rfl | exact Or.inr rfl)) (ds_cons (dp_set sc.nd (i := 3) rfl (by first | exact Or.inl rfl | exact Or.inr rfl) (de_cdO (i := 1) (C__law_size.more (by decide)) rfl hg hr rfl (da_ora (pv 1) (da_cons de_int da_nil))))
    (ds_cons (dp_set sc.nd (i := 4) rfl (by first | exact Or.inl rfl | exact Or.inr rfl) (de_cdO (i := 1) (C__law_cues.more (by decide)) rfl hg hr rfl (da_ora (pv 1) (da_cons (de_v (pv 3)) (da_cons de_int da_nil)))))
    (ds_cons (dp_set sc.nd (i := 5) rfl (by first | exact Or.inl rfl | exact Or.inr rfl) (de_cd (C_send_paper.more (by decide)) rfl hg hr rfl (da_cons (de_v (pv 3)) (da_cons (de_v (pv 4)) da_nil))))
    (ds_cons (dp_set sc.nd (i := 6) rfl (by first | exact Or.inl rfl | exact Or.inr rfl) (de_n (dn_lst (dl_cons (de_v (pv 5)) (dl_cons (de_tup (dl_cons de_str (dl_cons de_int dl_nil))) (dl_cons (de_tup (dl_cons de_str (dl_cons (de_cb (sem_len rfl) rfl T.n_len (by decide +kernel) (dg_cons (dh_v (pv 4)) dg_nil)) dl_nil))) (dl_cons (de_tup (dl_cons de_str (dl_cons (de_tup dl_nil) dl_nil))) (dl_cons de_non (dl_cons (de_tup (dl_cons de_str dl_nil)) (dl_cons de_int (dl_cons (de_tup (dl_cons de_str (dl_cons de_non dl_nil))) dl_nil)))))))))))
    (ds_one (dp_for PassesOwn.never rfl (di_seq rfl (de_bin (sem_add rfl) (dh_v (pv 6)) (dh_of (de_n (dn_lc (own := [("_law_k", 8)]) rfl sc.nd (di_range1 rfl T.n_range (dl_cons de_int dl_nil)) (blkOk_by (own := [("_law_k", 8)]) (N := names_law) (sc := defScope st_law) (by decide +kernel)) (by decide) (fun _ _ _ _ _ => (dg_name sc.nd (i := 8) rfl (by first | exact Or.inl rfl | exact Or.inr rfl))) (fun _ _ _ _ _ => dts_nil) (fun _ _ _ _ _ => (de_cdO (i := 1) (C__law_bent.more (by decide)) rfl hg hr rfl (da_ora (pv 1) (da_cons (de_v (pv 3)) (da_cons (de_v (pv 5)) da_nil)))))))))) (dg_name sc.nd (i := 7) rfl (by first | exact Or.inl rfl | exact Or.inr rfl)) (ds_one (dp_if (dt_cmp (sem_neS) (dh_of (de_cb (sem_reprU rfl hg (hu64 hr)) rfl T.n_repr (by decide +kernel) (dg_cons (dh_of (de_cd (C__law_outcome.more (by decide)) rfl hg hr rfl (da_cons (de_v (pv 3)) (da_cons (de_v (pv 4)) (da_cons (de_v (pv 7)) da_nil))))) dg_nil))) (dh_of (de_cb (sem_reprU rfl hg (hu64 hr)) rfl T.n_repr (by decide +kernel) (dg_cons (dh_of (de_cd (C__law_due.more (by decide)) rfl hg hr rfl (da_cons (de_v (pv 3)) (da_cons (de_v (pv 4)) (da_cons (de_v (pv 7)) da_nil))))) dg_nil))) (nomark _)) (ds_one (dp_ret de_bl)) ds_nil)))))))))
    (ds_one (dp_ret de_bl)))
  refine ⟨.ref a, rfl, a, ns, rfl, sq, hl, fun q c l cs ls H1 ex hq hc hL s => ⟨(some q, H, H1), H, _, [], _, ?_, says ns hl, ?_, ?_, ?_, ?_⟩⟩
  · have w : World srcOrc (some q) H H1 H H1 := by
      refine World.start ex (fun b hb z => ?_) fun p e => ?_
      · rcases s.foot z with rfl | rfl | rfl
        · exact hb hq
        · exact hb hc
        · exact hb hL
      · cases e
        exact ⟨_, _, _, _, _, s⟩
    exact rel_law w sq s
  · exact fun _ _ _ _ z => z.elim
  · rintro d v ρ' σ' F' H' rfl _ at_
    cases at_
    exact k _
  · exact fun _ _ _ _ z => z.elim
  · exact fun _ _ _ _ z => z.elim
end
end Q23
namespace Q23
open PySem L2 DL
open PySem.W (nsIn keepIn codeIn fnOf)
theorem all_mk {l : PySem.W.OpenLaw} {wd : PySem.World} {K : PySem.W.Frag} {h : Heap} {gl : Str → Option Value} {fa : Addr} (X : K.In h) (G : h.Ns mainGlobals gl) (hfa : gl "law" = some (.ref fa))
    {f0 : Addr} {od0 an0 : Option Addr} {sl0 : Array (Option Value)} {oc0 kV0 dc0 pm0 cd0 ct0 : Value}
    (a0 : nsIn K mainGlobals "rolling_rows" = some (some (.ref f0))) (l0 : K.lookup f0 = some ⟨oc0, od0, .func (fnOf "rolling_rows" "rolling_rows" (defArgs st_rolling_rows) (defBody st_rolling_rows) (defScope st_rolling_rows) .none kV0 dc0 pm0 an0 cd0 ct0), sl0⟩) (c0 : codeIn K cd0 "rolling_rows" = true) (k0 : keepIn K (.ref f0) = true)
    {f1 : Addr} {od1 an1 : Option Addr} {sl1 : Array (Option Value)} {oc1 kV1 dc1 pm1 cd1 ct1 : Value}
    (a1 : nsIn K mainGlobals "control_behind" = some (some (.ref f1))) (l1 : K.lookup f1 = some ⟨oc1, od1, .func (fnOf "control_behind" "control_behind" (defArgs st_control_behind) (defBody st_control_behind) (defScope st_control_behind) .none kV1 dc1 pm1 an1 cd1 ct1), sl1⟩) (c1 : codeIn K cd1 "control_behind" = true) (k1 : keepIn K (.ref f1) = true)
    {f2 : Addr} {od2 an2 : Option Addr} {sl2 : Array (Option Value)} {oc2 kV2 dc2 pm2 cd2 ct2 : Value}
    (a2 : nsIn K mainGlobals "cursor_cell" = some (some (.ref f2))) (l2 : K.lookup f2 = some ⟨oc2, od2, .func (fnOf "cursor_cell" "cursor_cell" (defArgs st_cursor_cell) (defBody st_cursor_cell) (defScope st_cursor_cell) .none kV2 dc2 pm2 an2 cd2 ct2), sl2⟩) (c2 : codeIn K cd2 "cursor_cell" = true) (k2 : keepIn K (.ref f2) = true)
    {f3 : Addr} {od3 an3 : Option Addr} {sl3 : Array (Option Value)} {oc3 kV3 dc3 pm3 cd3 ct3 : Value}
    (a3 : nsIn K mainGlobals "with_cells" = some (some (.ref f3))) (l3 : K.lookup f3 = some ⟨oc3, od3, .func (fnOf "with_cells" "with_cells" (defArgs st_with_cells) (defBody st_with_cells) (defScope st_with_cells) .none kV3 dc3 pm3 an3 cd3 ct3), sl3⟩) (c3 : codeIn K cd3 "with_cells" = true) (k3 : keepIn K (.ref f3) = true)
    {f4 : Addr} {od4 an4 : Option Addr} {sl4 : Array (Option Value)} {oc4 kV4 dc4 pm4 cd4 ct4 : Value}
    (a4 : nsIn K mainGlobals "cells_behind" = some (some (.ref f4))) (l4 : K.lookup f4 = some ⟨oc4, od4, .func (fnOf "cells_behind" "cells_behind" (defArgs st_cells_behind) (defBody st_cells_behind) (defScope st_cells_behind) .none kV4 dc4 pm4 an4 cd4 ct4), sl4⟩) (c4 : codeIn K cd4 "cells_behind" = true) (k4 : keepIn K (.ref f4) = true)
    {f5 : Addr} {od5 an5 : Option Addr} {sl5 : Array (Option Value)} {oc5 kV5 dc5 pm5 cd5 ct5 : Value}
    (a5 : nsIn K mainGlobals "stepped" = some (some (.ref f5))) (l5 : K.lookup f5 = some ⟨oc5, od5, .func (fnOf "stepped" "stepped" (defArgs st_stepped) (defBody st_stepped) (defScope st_stepped) .none kV5 dc5 pm5 an5 cd5 ct5), sl5⟩) (c5 : codeIn K cd5 "stepped" = true) (k5 : keepIn K (.ref f5) = true)
    {f6 : Addr} {od6 an6 : Option Addr} {sl6 : Array (Option Value)} {oc6 kV6 dc6 pm6 cd6 ct6 : Value}
    (a6 : nsIn K mainGlobals "is_integer" = some (some (.ref f6))) (l6 : K.lookup f6 = some ⟨oc6, od6, .func (fnOf "is_integer" "is_integer" (defArgs st_is_integer) (defBody st_is_integer) (defScope st_is_integer) .none kV6 dc6 pm6 an6 cd6 ct6), sl6⟩) (c6 : codeIn K cd6 "is_integer" = true) (k6 : keepIn K (.ref f6) = true)
    {f7 : Addr} {od7 an7 : Option Addr} {sl7 : Array (Option Value)} {oc7 kV7 dc7 pm7 cd7 ct7 : Value}
    (a7 : nsIn K mainGlobals "is_within" = some (some (.ref f7))) (l7 : K.lookup f7 = some ⟨oc7, od7, .func (fnOf "is_within" "is_within" (defArgs st_is_within) (defBody st_is_within) (defScope st_is_within) .none kV7 dc7 pm7 an7 cd7 ct7), sl7⟩) (c7 : codeIn K cd7 "is_within" = true) (k7 : keepIn K (.ref f7) = true)
    {f8 : Addr} {od8 an8 : Option Addr} {sl8 : Array (Option Value)} {oc8 kV8 dc8 pm8 cd8 ct8 : Value}
    (a8 : nsIn K mainGlobals "is_tuple" = some (some (.ref f8))) (l8 : K.lookup f8 = some ⟨oc8, od8, .func (fnOf "is_tuple" "is_tuple" (defArgs st_is_tuple) (defBody st_is_tuple) (defScope st_is_tuple) .none kV8 dc8 pm8 an8 cd8 ct8), sl8⟩) (c8 : codeIn K cd8 "is_tuple" = true) (k8 : keepIn K (.ref f8) = true)
    {f9 : Addr} {od9 an9 : Option Addr} {sl9 : Array (Option Value)} {oc9 kV9 dc9 pm9 cd9 ct9 : Value}
    (a9 : nsIn K mainGlobals "is_one_of" = some (some (.ref f9))) (l9 : K.lookup f9 = some ⟨oc9, od9, .func (fnOf "is_one_of" "is_one_of" (defArgs st_is_one_of) (defBody st_is_one_of) (defScope st_is_one_of) .none kV9 dc9 pm9 an9 cd9 ct9), sl9⟩) (c9 : codeIn K cd9 "is_one_of" = true) (k9 : keepIn K (.ref f9) = true)
    {f10 : Addr} {od10 an10 : Option Addr} {sl10 : Array (Option Value)} {oc10 kV10 dc10 pm10 cd10 ct10 : Value}
    (a10 : nsIn K mainGlobals "is_sign" = some (some (.ref f10))) (l10 : K.lookup f10 = some ⟨oc10, od10, .func (fnOf "is_sign" "is_sign" (defArgs st_is_sign) (defBody st_is_sign) (defScope st_is_sign) .none kV10 dc10 pm10 an10 cd10 ct10), sl10⟩) (c10 : codeIn K cd10 "is_sign" = true) (k10 : keepIn K (.ref f10) = true)
    {f11 : Addr} {od11 an11 : Option Addr} {sl11 : Array (Option Value)} {oc11 kV11 dc11 pm11 cd11 ct11 : Value}
    (a11 : nsIn K mainGlobals "has_signs" = some (some (.ref f11))) (l11 : K.lookup f11 = some ⟨oc11, od11, .func (fnOf "has_signs" "has_signs" (defArgs st_has_signs) (defBody st_has_signs) (defScope st_has_signs) .none kV11 dc11 pm11 an11 cd11 ct11), sl11⟩) (c11 : codeIn K cd11 "has_signs" = true) (k11 : keepIn K (.ref f11) = true)
    {f12 : Addr} {od12 an12 : Option Addr} {sl12 : Array (Option Value)} {oc12 kV12 dc12 pm12 cd12 ct12 : Value}
    (a12 : nsIn K mainGlobals "need_screen" = some (some (.ref f12))) (l12 : K.lookup f12 = some ⟨oc12, od12, .func (fnOf "need_screen" "need_screen" (defArgs st_need_screen) (defBody st_need_screen) (defScope st_need_screen) .none kV12 dc12 pm12 an12 cd12 ct12), sl12⟩) (c12 : codeIn K cd12 "need_screen" = true) (k12 : keepIn K (.ref f12) = true)
    {f13 : Addr} {od13 an13 : Option Addr} {sl13 : Array (Option Value)} {oc13 kV13 dc13 pm13 cd13 ct13 : Value}
    (a13 : nsIn K mainGlobals "blank" = some (some (.ref f13))) (l13 : K.lookup f13 = some ⟨oc13, od13, .func (fnOf "blank" "blank" (defArgs st_blank) (defBody st_blank) (defScope st_blank) .none kV13 dc13 pm13 an13 cd13 ct13), sl13⟩) (c13 : codeIn K cd13 "blank" = true) (k13 : keepIn K (.ref f13) = true)
    {f14 : Addr} {od14 an14 : Option Addr} {sl14 : Array (Option Value)} {oc14 kV14 dc14 pm14 cd14 ct14 : Value}
    (a14 : nsIn K mainGlobals "is_cell_sign" = some (some (.ref f14))) (l14 : K.lookup f14 = some ⟨oc14, od14, .func (fnOf "is_cell_sign" "is_cell_sign" (defArgs st_is_cell_sign) (defBody st_is_cell_sign) (defScope st_is_cell_sign) .none kV14 dc14 pm14 an14 cd14 ct14), sl14⟩) (c14 : codeIn K cd14 "is_cell_sign" = true) (k14 : keepIn K (.ref f14) = true)
    {f15 : Addr} {od15 an15 : Option Addr} {sl15 : Array (Option Value)} {oc15 kV15 dc15 pm15 cd15 ct15 : Value}
    (a15 : nsIn K mainGlobals "is_code_of" = some (some (.ref f15))) (l15 : K.lookup f15 = some ⟨oc15, od15, .func (fnOf "is_code_of" "is_code_of" (defArgs st_is_code_of) (defBody st_is_code_of) (defScope st_is_code_of) .none kV15 dc15 pm15 an15 cd15 ct15), sl15⟩) (c15 : codeIn K cd15 "is_code_of" = true) (k15 : keepIn K (.ref f15) = true)
    {f16 : Addr} {od16 an16 : Option Addr} {sl16 : Array (Option Value)} {oc16 kV16 dc16 pm16 cd16 ct16 : Value}
    (a16 : nsIn K mainGlobals "is_code" = some (some (.ref f16))) (l16 : K.lookup f16 = some ⟨oc16, od16, .func (fnOf "is_code" "is_code" (defArgs st_is_code) (defBody st_is_code) (defScope st_is_code) .none kV16 dc16 pm16 an16 cd16 ct16), sl16⟩) (c16 : codeIn K cd16 "is_code" = true) (k16 : keepIn K (.ref f16) = true)
    {f17 : Addr} {od17 an17 : Option Addr} {sl17 : Array (Option Value)} {oc17 kV17 dc17 pm17 cd17 ct17 : Value}
    (a17 : nsIn K mainGlobals "first_state" = some (some (.ref f17))) (l17 : K.lookup f17 = some ⟨oc17, od17, .func (fnOf "first_state" "first_state" (defArgs st_first_state) (defBody st_first_state) (defScope st_first_state) .none kV17 dc17 pm17 an17 cd17 ct17), sl17⟩) (c17 : codeIn K cd17 "first_state" = true) (k17 : keepIn K (.ref f17) = true)
    {f18 : Addr} {od18 an18 : Option Addr} {sl18 : Array (Option Value)} {oc18 kV18 dc18 pm18 cd18 ct18 : Value}
    {T18 : Addr} {dT18 : Option Addr} {nT18 : Nat} {sT18 : Array (Option Value)} {u18_0 : Tok} {u18_1 : Tok} (a18 : nsIn K mainGlobals "need_codes" = some (some (.ref f18))) (l18 : K.lookup f18 = some ⟨oc18, od18, .func (fnOf "need_codes" "need_codes" (defArgs st_need_codes) (defBody st_need_codes) (defScope st_need_codes) (.ref T18) kV18 dc18 pm18 an18 cd18 ct18), sl18⟩) (d18 : K.lookup T18 = some ⟨.type "tuple", dT18, .seq #[.int 0 u18_0, .int 2000 u18_1] nT18, sT18⟩) (c18 : codeIn K cd18 "need_codes" = true) (k18 : keepIn K (.ref f18) = true)
    {f19 : Addr} {od19 an19 : Option Addr} {sl19 : Array (Option Value)} {oc19 kV19 dc19 pm19 cd19 ct19 : Value}
    (a19 : nsIn K mainGlobals "cells_of" = some (some (.ref f19))) (l19 : K.lookup f19 = some ⟨oc19, od19, .func (fnOf "cells_of" "cells_of" (defArgs st_cells_of) (defBody st_cells_of) (defScope st_cells_of) .none kV19 dc19 pm19 an19 cd19 ct19), sl19⟩) (c19 : codeIn K cd19 "cells_of" = true) (k19 : keepIn K (.ref f19) = true)
    {f20 : Addr} {od20 an20 : Option Addr} {sl20 : Array (Option Value)} {oc20 kV20 dc20 pm20 cd20 ct20 : Value}
    (a20 : nsIn K mainGlobals "memory_of" = some (some (.ref f20))) (l20 : K.lookup f20 = some ⟨oc20, od20, .func (fnOf "memory_of" "memory_of" (defArgs st_memory_of) (defBody st_memory_of) (defScope st_memory_of) .none kV20 dc20 pm20 an20 cd20 ct20), sl20⟩) (c20 : codeIn K cd20 "memory_of" = true) (k20 : keepIn K (.ref f20) = true)
    {f21 : Addr} {od21 an21 : Option Addr} {sl21 : Array (Option Value)} {oc21 kV21 dc21 pm21 cd21 ct21 : Value}
    (a21 : nsIn K mainGlobals "pictures" = some (some (.ref f21))) (l21 : K.lookup f21 = some ⟨oc21, od21, .func (fnOf "pictures" "pictures" (defArgs st_pictures) (defBody st_pictures) (defScope st_pictures) .none kV21 dc21 pm21 an21 cd21 ct21), sl21⟩) (c21 : codeIn K cd21 "pictures" = true) (k21 : keepIn K (.ref f21) = true)
    {f22 : Addr} {od22 an22 : Option Addr} {sl22 : Array (Option Value)} {oc22 kV22 dc22 pm22 cd22 ct22 : Value}
    {T22 : Addr} {dT22 : Option Addr} {nT22 : Nat} {sT22 : Array (Option Value)} {u22_0 : Tok} {u22_1 : Tok} (a22 : nsIn K mainGlobals "are_codes" = some (some (.ref f22))) (l22 : K.lookup f22 = some ⟨oc22, od22, .func (fnOf "are_codes" "are_codes" (defArgs st_are_codes) (defBody st_are_codes) (defScope st_are_codes) (.ref T22) kV22 dc22 pm22 an22 cd22 ct22), sl22⟩) (d22 : K.lookup T22 = some ⟨.type "tuple", dT22, .seq #[.int 0 u22_0, .int 2000 u22_1] nT22, sT22⟩) (c22 : codeIn K cd22 "are_codes" = true) (k22 : keepIn K (.ref f22) = true)
    {f23 : Addr} {od23 an23 : Option Addr} {sl23 : Array (Option Value)} {oc23 kV23 dc23 pm23 cd23 ct23 : Value}
    (a23 : nsIn K mainGlobals "_is_line" = some (some (.ref f23))) (l23 : K.lookup f23 = some ⟨oc23, od23, .func (fnOf "_is_line" "_is_line" (defArgs st__is_line) (defBody st__is_line) (defScope st__is_line) .none kV23 dc23 pm23 an23 cd23 ct23), sl23⟩) (c23 : codeIn K cd23 "_is_line" = true) (k23 : keepIn K (.ref f23) = true)
    {f24 : Addr} {od24 an24 : Option Addr} {sl24 : Array (Option Value)} {oc24 kV24 dc24 pm24 cd24 ct24 : Value}
    (a24 : nsIn K mainGlobals "is_text" = some (some (.ref f24))) (l24 : K.lookup f24 = some ⟨oc24, od24, .func (fnOf "is_text" "is_text" (defArgs st_is_text) (defBody st_is_text) (defScope st_is_text) .none kV24 dc24 pm24 an24 cd24 ct24), sl24⟩) (c24 : codeIn K cd24 "is_text" = true) (k24 : keepIn K (.ref f24) = true)
    {f25 : Addr} {od25 an25 : Option Addr} {sl25 : Array (Option Value)} {oc25 kV25 dc25 pm25 cd25 ct25 : Value}
    (a25 : nsIn K mainGlobals "_has_room" = some (some (.ref f25))) (l25 : K.lookup f25 = some ⟨oc25, od25, .func (fnOf "_has_room" "_has_room" (defArgs st__has_room) (defBody st__has_room) (defScope st__has_room) .none kV25 dc25 pm25 an25 cd25 ct25), sl25⟩) (c25 : codeIn K cd25 "_has_room" = true) (k25 : keepIn K (.ref f25) = true)
    {f26 : Addr} {od26 an26 : Option Addr} {sl26 : Array (Option Value)} {oc26 kV26 dc26 pm26 cd26 ct26 : Value}
    (a26 : nsIn K mainGlobals "_is_sendable" = some (some (.ref f26))) (l26 : K.lookup f26 = some ⟨oc26, od26, .func (fnOf "_is_sendable" "_is_sendable" (defArgs st__is_sendable) (defBody st__is_sendable) (defScope st__is_sendable) .none kV26 dc26 pm26 an26 cd26 ct26), sl26⟩) (c26 : codeIn K cd26 "_is_sendable" = true) (k26 : keepIn K (.ref f26) = true)
    {f27 : Addr} {od27 an27 : Option Addr} {sl27 : Array (Option Value)} {oc27 kV27 dc27 pm27 cd27 ct27 : Value}
    (a27 : nsIn K mainGlobals "_need_cues" = some (some (.ref f27))) (l27 : K.lookup f27 = some ⟨oc27, od27, .func (fnOf "_need_cues" "_need_cues" (defArgs st__need_cues) (defBody st__need_cues) (defScope st__need_cues) .none kV27 dc27 pm27 an27 cd27 ct27), sl27⟩) (c27 : codeIn K cd27 "_need_cues" = true) (k27 : keepIn K (.ref f27) = true)
    {f28 : Addr} {od28 an28 : Option Addr} {sl28 : Array (Option Value)} {oc28 kV28 dc28 pm28 cd28 ct28 : Value}
    (a28 : nsIn K mainGlobals "_free_frames" = some (some (.ref f28))) (l28 : K.lookup f28 = some ⟨oc28, od28, .func (fnOf "_free_frames" "_free_frames" (defArgs st__free_frames) (defBody st__free_frames) (defScope st__free_frames) .none kV28 dc28 pm28 an28 cd28 ct28), sl28⟩) (c28 : codeIn K cd28 "_free_frames" = true) (k28 : keepIn K (.ref f28) = true)
    {f29 : Addr} {od29 an29 : Option Addr} {sl29 : Array (Option Value)} {oc29 kV29 dc29 pm29 cd29 ct29 : Value}
    (a29 : nsIn K mainGlobals "_load_of" = some (some (.ref f29))) (l29 : K.lookup f29 = some ⟨oc29, od29, .func (fnOf "_load_of" "_load_of" (defArgs st__load_of) (defBody st__load_of) (defScope st__load_of) .none kV29 dc29 pm29 an29 cd29 ct29), sl29⟩) (c29 : codeIn K cd29 "_load_of" = true) (k29 : keepIn K (.ref f29) = true)
    {f30 : Addr} {od30 an30 : Option Addr} {sl30 : Array (Option Value)} {oc30 kV30 dc30 pm30 cd30 ct30 : Value}
    (a30 : nsIn K mainGlobals "_first_short" = some (some (.ref f30))) (l30 : K.lookup f30 = some ⟨oc30, od30, .func (fnOf "_first_short" "_first_short" (defArgs st__first_short) (defBody st__first_short) (defScope st__first_short) .none kV30 dc30 pm30 an30 cd30 ct30), sl30⟩) (c30 : codeIn K cd30 "_first_short" = true) (k30 : keepIn K (.ref f30) = true)
    {f31 : Addr} {od31 an31 : Option Addr} {sl31 : Array (Option Value)} {oc31 kV31 dc31 pm31 cd31 ct31 : Value}
    (a31 : nsIn K mainGlobals "_stream_of" = some (some (.ref f31))) (l31 : K.lookup f31 = some ⟨oc31, od31, .func (fnOf "_stream_of" "_stream_of" (defArgs st__stream_of) (defBody st__stream_of) (defScope st__stream_of) .none kV31 dc31 pm31 an31 cd31 ct31), sl31⟩) (c31 : codeIn K cd31 "_stream_of" = true) (k31 : keepIn K (.ref f31) = true)
    {f32 : Addr} {od32 an32 : Option Addr} {sl32 : Array (Option Value)} {oc32 kV32 dc32 pm32 cd32 ct32 : Value}
    (a32 : nsIn K mainGlobals "send_paper" = some (some (.ref f32))) (l32 : K.lookup f32 = some ⟨oc32, od32, .func (fnOf "send_paper" "send_paper" (defArgs st_send_paper) (defBody st_send_paper) (defScope st_send_paper) .none kV32 dc32 pm32 an32 cd32 ct32), sl32⟩) (c32 : codeIn K cd32 "send_paper" = true) (k32 : keepIn K (.ref f32) = true)
    {f33 : Addr} {od33 an33 : Option Addr} {sl33 : Array (Option Value)} {oc33 kV33 dc33 pm33 cd33 ct33 : Value}
    (a33 : nsIn K mainGlobals "_picture_of" = some (some (.ref f33))) (l33 : K.lookup f33 = some ⟨oc33, od33, .func (fnOf "_picture_of" "_picture_of" (defArgs st__picture_of) (defBody st__picture_of) (defScope st__picture_of) .none kV33 dc33 pm33 an33 cd33 ct33), sl33⟩) (c33 : codeIn K cd33 "_picture_of" = true) (k33 : keepIn K (.ref f33) = true)
    {f34 : Addr} {od34 an34 : Option Addr} {sl34 : Array (Option Value)} {oc34 kV34 dc34 pm34 cd34 ct34 : Value}
    (a34 : nsIn K mainGlobals "_sends" = some (some (.ref f34))) (l34 : K.lookup f34 = some ⟨oc34, od34, .func (fnOf "_sends" "_sends" (defArgs st__sends) (defBody st__sends) (defScope st__sends) .none kV34 dc34 pm34 an34 cd34 ct34), sl34⟩) (c34 : codeIn K cd34 "_sends" = true) (k34 : keepIn K (.ref f34) = true)
    {f35 : Addr} {od35 an35 : Option Addr} {sl35 : Array (Option Value)} {oc35 kV35 dc35 pm35 cd35 ct35 : Value}
    (a35 : nsIn K mainGlobals "check_send" = some (some (.ref f35))) (l35 : K.lookup f35 = some ⟨oc35, od35, .func (fnOf "check_send" "check_send" (defArgs st_check_send) (defBody st_check_send) (defScope st_check_send) .none kV35 dc35 pm35 an35 cd35 ct35), sl35⟩) (c35 : codeIn K cd35 "check_send" = true) (k35 : keepIn K (.ref f35) = true)
    {f36 : Addr} {od36 an36 : Option Addr} {sl36 : Array (Option Value)} {oc36 kV36 dc36 pm36 cd36 ct36 : Value}
    (a36 : nsIn K mainGlobals "_law_size" = some (some (.ref f36))) (l36 : K.lookup f36 = some ⟨oc36, od36, .func (fnOf "_law_size" "_law_size" (defArgs st__law_size) (defBody st__law_size) (defScope st__law_size) .none kV36 dc36 pm36 an36 cd36 ct36), sl36⟩) (c36 : codeIn K cd36 "_law_size" = true) (k36 : keepIn K (.ref f36) = true)
    {f37 : Addr} {od37 an37 : Option Addr} {sl37 : Array (Option Value)} {oc37 kV37 dc37 pm37 cd37 ct37 : Value}
    (a37 : nsIn K mainGlobals "_law_code" = some (some (.ref f37))) (l37 : K.lookup f37 = some ⟨oc37, od37, .func (fnOf "_law_code" "_law_code" (defArgs st__law_code) (defBody st__law_code) (defScope st__law_code) .none kV37 dc37 pm37 an37 cd37 ct37), sl37⟩) (c37 : codeIn K cd37 "_law_code" = true) (k37 : keepIn K (.ref f37) = true)
    {f38 : Addr} {od38 an38 : Option Addr} {sl38 : Array (Option Value)} {oc38 kV38 dc38 pm38 cd38 ct38 : Value}
    (a38 : nsIn K mainGlobals "_law_rolled" = some (some (.ref f38))) (l38 : K.lookup f38 = some ⟨oc38, od38, .func (fnOf "_law_rolled" "_law_rolled" (defArgs st__law_rolled) (defBody st__law_rolled) (defScope st__law_rolled) .none kV38 dc38 pm38 an38 cd38 ct38), sl38⟩) (c38 : codeIn K cd38 "_law_rolled" = true) (k38 : keepIn K (.ref f38) = true)
    {f39 : Addr} {od39 an39 : Option Addr} {sl39 : Array (Option Value)} {oc39 kV39 dc39 pm39 cd39 ct39 : Value}
    (a39 : nsIn K mainGlobals "_law_written" = some (some (.ref f39))) (l39 : K.lookup f39 = some ⟨oc39, od39, .func (fnOf "_law_written" "_law_written" (defArgs st__law_written) (defBody st__law_written) (defScope st__law_written) .none kV39 dc39 pm39 an39 cd39 ct39), sl39⟩) (c39 : codeIn K cd39 "_law_written" = true) (k39 : keepIn K (.ref f39) = true)
    {f40 : Addr} {od40 an40 : Option Addr} {sl40 : Array (Option Value)} {oc40 kV40 dc40 pm40 cd40 ct40 : Value}
    (a40 : nsIn K mainGlobals "_law_cursor" = some (some (.ref f40))) (l40 : K.lookup f40 = some ⟨oc40, od40, .func (fnOf "_law_cursor" "_law_cursor" (defArgs st__law_cursor) (defBody st__law_cursor) (defScope st__law_cursor) .none kV40 dc40 pm40 an40 cd40 ct40), sl40⟩) (c40 : codeIn K cd40 "_law_cursor" = true) (k40 : keepIn K (.ref f40) = true)
    {f41 : Addr} {od41 an41 : Option Addr} {sl41 : Array (Option Value)} {oc41 kV41 dc41 pm41 cd41 ct41 : Value}
    (a41 : nsIn K mainGlobals "_law_stepped" = some (some (.ref f41))) (l41 : K.lookup f41 = some ⟨oc41, od41, .func (fnOf "_law_stepped" "_law_stepped" (defArgs st__law_stepped) (defBody st__law_stepped) (defScope st__law_stepped) .none kV41 dc41 pm41 an41 cd41 ct41), sl41⟩) (c41 : codeIn K cd41 "_law_stepped" = true) (k41 : keepIn K (.ref f41) = true)
    {f42 : Addr} {od42 an42 : Option Addr} {sl42 : Array (Option Value)} {oc42 kV42 dc42 pm42 cd42 ct42 : Value}
    (a42 : nsIn K mainGlobals "_law_told" = some (some (.ref f42))) (l42 : K.lookup f42 = some ⟨oc42, od42, .func (fnOf "_law_told" "_law_told" (defArgs st__law_told) (defBody st__law_told) (defScope st__law_told) .none kV42 dc42 pm42 an42 cd42 ct42), sl42⟩) (c42 : codeIn K cd42 "_law_told" = true) (k42 : keepIn K (.ref f42) = true)
    {f43 : Addr} {od43 an43 : Option Addr} {sl43 : Array (Option Value)} {oc43 kV43 dc43 pm43 cd43 ct43 : Value}
    (a43 : nsIn K mainGlobals "_law_first" = some (some (.ref f43))) (l43 : K.lookup f43 = some ⟨oc43, od43, .func (fnOf "_law_first" "_law_first" (defArgs st__law_first) (defBody st__law_first) (defScope st__law_first) .none kV43 dc43 pm43 an43 cd43 ct43), sl43⟩) (c43 : codeIn K cd43 "_law_first" = true) (k43 : keepIn K (.ref f43) = true)
    {f44 : Addr} {od44 an44 : Option Addr} {sl44 : Array (Option Value)} {oc44 kV44 dc44 pm44 cd44 ct44 : Value}
    (a44 : nsIn K mainGlobals "_law_text" = some (some (.ref f44))) (l44 : K.lookup f44 = some ⟨oc44, od44, .func (fnOf "_law_text" "_law_text" (defArgs st__law_text) (defBody st__law_text) (defScope st__law_text) .none kV44 dc44 pm44 an44 cd44 ct44), sl44⟩) (c44 : codeIn K cd44 "_law_text" = true) (k44 : keepIn K (.ref f44) = true)
    {f45 : Addr} {od45 an45 : Option Addr} {sl45 : Array (Option Value)} {oc45 kV45 dc45 pm45 cd45 ct45 : Value}
    (a45 : nsIn K mainGlobals "_law_cost" = some (some (.ref f45))) (l45 : K.lookup f45 = some ⟨oc45, od45, .func (fnOf "_law_cost" "_law_cost" (defArgs st__law_cost) (defBody st__law_cost) (defScope st__law_cost) .none kV45 dc45 pm45 an45 cd45 ct45), sl45⟩) (c45 : codeIn K cd45 "_law_cost" = true) (k45 : keepIn K (.ref f45) = true)
    {f46 : Addr} {od46 an46 : Option Addr} {sl46 : Array (Option Value)} {oc46 kV46 dc46 pm46 cd46 ct46 : Value}
    (a46 : nsIn K mainGlobals "_law_cues" = some (some (.ref f46))) (l46 : K.lookup f46 = some ⟨oc46, od46, .func (fnOf "_law_cues" "_law_cues" (defArgs st__law_cues) (defBody st__law_cues) (defScope st__law_cues) .none kV46 dc46 pm46 an46 cd46 ct46), sl46⟩) (c46 : codeIn K cd46 "_law_cues" = true) (k46 : keepIn K (.ref f46) = true)
    {f47 : Addr} {od47 an47 : Option Addr} {sl47 : Array (Option Value)} {oc47 kV47 dc47 pm47 cd47 ct47 : Value}
    (a47 : nsIn K mainGlobals "_law_free" = some (some (.ref f47))) (l47 : K.lookup f47 = some ⟨oc47, od47, .func (fnOf "_law_free" "_law_free" (defArgs st__law_free) (defBody st__law_free) (defScope st__law_free) .none kV47 dc47 pm47 an47 cd47 ct47), sl47⟩) (c47 : codeIn K cd47 "_law_free" = true) (k47 : keepIn K (.ref f47) = true)
    {f48 : Addr} {od48 an48 : Option Addr} {sl48 : Array (Option Value)} {oc48 kV48 dc48 pm48 cd48 ct48 : Value}
    (a48 : nsIn K mainGlobals "_law_short" = some (some (.ref f48))) (l48 : K.lookup f48 = some ⟨oc48, od48, .func (fnOf "_law_short" "_law_short" (defArgs st__law_short) (defBody st__law_short) (defScope st__law_short) .none kV48 dc48 pm48 an48 cd48 ct48), sl48⟩) (c48 : codeIn K cd48 "_law_short" = true) (k48 : keepIn K (.ref f48) = true)
    {f49 : Addr} {od49 an49 : Option Addr} {sl49 : Array (Option Value)} {oc49 kV49 dc49 pm49 cd49 ct49 : Value}
    (a49 : nsIn K mainGlobals "_law_picture" = some (some (.ref f49))) (l49 : K.lookup f49 = some ⟨oc49, od49, .func (fnOf "_law_picture" "_law_picture" (defArgs st__law_picture) (defBody st__law_picture) (defScope st__law_picture) .none kV49 dc49 pm49 an49 cd49 ct49), sl49⟩) (c49 : codeIn K cd49 "_law_picture" = true) (k49 : keepIn K (.ref f49) = true)
    {f50 : Addr} {od50 an50 : Option Addr} {sl50 : Array (Option Value)} {oc50 kV50 dc50 pm50 cd50 ct50 : Value}
    (a50 : nsIn K mainGlobals "_law_shown" = some (some (.ref f50))) (l50 : K.lookup f50 = some ⟨oc50, od50, .func (fnOf "_law_shown" "_law_shown" (defArgs st__law_shown) (defBody st__law_shown) (defScope st__law_shown) .none kV50 dc50 pm50 an50 cd50 ct50), sl50⟩) (c50 : codeIn K cd50 "_law_shown" = true) (k50 : keepIn K (.ref f50) = true)
    {f51 : Addr} {od51 an51 : Option Addr} {sl51 : Array (Option Value)} {oc51 kV51 dc51 pm51 cd51 ct51 : Value}
    (a51 : nsIn K mainGlobals "_law_does_send" = some (some (.ref f51))) (l51 : K.lookup f51 = some ⟨oc51, od51, .func (fnOf "_law_does_send" "_law_does_send" (defArgs st__law_does_send) (defBody st__law_does_send) (defScope st__law_does_send) .none kV51 dc51 pm51 an51 cd51 ct51), sl51⟩) (c51 : codeIn K cd51 "_law_does_send" = true) (k51 : keepIn K (.ref f51) = true)
    {f52 : Addr} {od52 an52 : Option Addr} {sl52 : Array (Option Value)} {oc52 kV52 dc52 pm52 cd52 ct52 : Value}
    (a52 : nsIn K mainGlobals "_law_due" = some (some (.ref f52))) (l52 : K.lookup f52 = some ⟨oc52, od52, .func (fnOf "_law_due" "_law_due" (defArgs st__law_due) (defBody st__law_due) (defScope st__law_due) .none kV52 dc52 pm52 an52 cd52 ct52), sl52⟩) (c52 : codeIn K cd52 "_law_due" = true) (k52 : keepIn K (.ref f52) = true)
    {f53 : Addr} {od53 an53 : Option Addr} {sl53 : Array (Option Value)} {oc53 kV53 dc53 pm53 cd53 ct53 : Value}
    (a53 : nsIn K mainGlobals "_law_outcome" = some (some (.ref f53))) (l53 : K.lookup f53 = some ⟨oc53, od53, .func (fnOf "_law_outcome" "_law_outcome" (defArgs st__law_outcome) (defBody st__law_outcome) (defScope st__law_outcome) .none kV53 dc53 pm53 an53 cd53 ct53), sl53⟩) (c53 : codeIn K cd53 "_law_outcome" = true) (k53 : keepIn K (.ref f53) = true)
    {f54 : Addr} {od54 an54 : Option Addr} {sl54 : Array (Option Value)} {oc54 kV54 dc54 pm54 cd54 ct54 : Value}
    (a54 : nsIn K mainGlobals "_law_bent" = some (some (.ref f54))) (l54 : K.lookup f54 = some ⟨oc54, od54, .func (fnOf "_law_bent" "_law_bent" (defArgs st__law_bent) (defBody st__law_bent) (defScope st__law_bent) .none kV54 dc54 pm54 an54 cd54 ct54), sl54⟩) (c54 : codeIn K cd54 "_law_bent" = true) (k54 : keepIn K (.ref f54) = true)
    {f55 : Addr} {od55 an55 : Option Addr} {sl55 : Array (Option Value)} {oc55 kV55 dc55 pm55 cd55 ct55 : Value}
    (a55 : nsIn K mainGlobals "_law_next" = some (some (.ref f55))) (l55 : K.lookup f55 = some ⟨oc55, od55, .func (fnOf "_law_next" "_law_next" (defArgs st__law_next) (defBody st__law_next) (defScope st__law_next) .none kV55 dc55 pm55 an55 cd55 ct55), sl55⟩) (c55 : codeIn K cd55 "_law_next" = true) (k55 : keepIn K (.ref f55) = true)
    {f56 : Addr} {od56 an56 : Option Addr} {sl56 : Array (Option Value)} {oc56 kV56 dc56 pm56 cd56 ct56 : Value}
    (a56 : nsIn K mainGlobals "_law_begun" = some (some (.ref f56))) (l56 : K.lookup f56 = some ⟨oc56, od56, .func (fnOf "_law_begun" "_law_begun" (defArgs st__law_begun) (defBody st__law_begun) (defScope st__law_begun) .none kV56 dc56 pm56 an56 cd56 ct56), sl56⟩) (c56 : codeIn K cd56 "_law_begun" = true) (k56 : keepIn K (.ref f56) = true)
    {f57 : Addr} {od57 an57 : Option Addr} {sl57 : Array (Option Value)} {oc57 kV57 dc57 pm57 cd57 ct57 : Value}
    (a57 : nsIn K mainGlobals "law" = some (some (.ref f57))) (l57 : K.lookup f57 = some ⟨oc57, od57, .func (fnOf "law" "law" (defArgs st_law) (defBody st_law) (defScope st_law) .none kV57 dc57 pm57 an57 cd57 ct57), sl57⟩) (c57 : codeIn K cd57 "law" = true) (k57 : keepIn K (.ref f57) = true)
    {C0 gI0 : Addr} {nm0 qq0 : Str} {N0 : Addr} {bs0 : List Value} {sn0 : List Str} {sub0 : List Value} {ab0 : Bool} {col0 : Option Bool} {dd0 : Option Addr} {ma0 mb0 mc0 md0 mf0 : Option Value} {iod0 ian0 : Option Addr} {isl0 : Array (Option Value)} {ioc0 ikV0 idc0 ipm0 icd0 ict0 : Value}
    (xa0 : nsIn K mainGlobals "BadPaper" = some (some (.ref C0))) (xl0 : K.lookup C0 = some (PySem.excClassObj nm0 qq0 C0 N0 bs0 [.type "ValueError", .type "Exception", .type "BaseException", .type "object"] true sn0 sub0 ab0 col0 dd0 ma0 mb0 mc0 md0 mf0 "ValueError.__new__"))
    (xs0 : PySem.W.findIn K (.ref C0) "__setattr__" = some (some (.builtin "object.__setattr__"))) (xe0 : PySem.W.subIn K (.ref C0) (.type "BaseException") = some true) (xt0 : PySem.W.typeIn K (.ref C0) = some (.type "type")) (xk0 : keepIn K (.ref C0) = true) (xc0 : PySem.W.isClsIn K C0 = true) (xb0 : PySem.W.subIn K (.ref C0) (.ref C0) = some true)
    (xi0 : PySem.W.findIn K (.ref C0) "__init__" = some (some (.ref gI0))) (xy0 : PySem.W.typeIn K (.ref gI0) = some (.type "function")) (xf0 : K.lookup gI0 = some ⟨ioc0, iod0, .func (fnOf "__init__" "BadPaper.__init__" (defArgs st_BadPaper) (defBody st_BadPaper) (defScope st_BadPaper) .none ikV0 idc0 ipm0 ian0 icd0 ict0), isl0⟩) (xd0 : codeIn K icd0 "BadPaper.__init__" = true) (xg0 : keepIn K (.ref gI0) = true)
    (xn0 : PySem.W.findIn K (.ref C0) "part" = some none)
    (xp0 : PySem.W.findIn K (.ref C0) "__getattribute__" = some (some (.builtin "BaseException.__getattribute__"))) (xq0 : PySem.W.findIn K (.ref C0) "__getattr__" = some none) (xr0 : PySem.W.hasDictIn K C0 = true)
    (xvV : PySem.W.findCls K (.type "ValueError") (.type "type") "__init__" = some (.val (.builtin "ValueError.__init__")))
    (z_ValueError : nsIn K mainGlobals "ValueError" = some none)
    (z_all : nsIn K mainGlobals "all" = some none)
    (z_bool : nsIn K mainGlobals "bool" = some none)
    (z_enumerate : nsIn K mainGlobals "enumerate" = some none)
    (z_int : nsIn K mainGlobals "int" = some none)
    (z_isinstance : nsIn K mainGlobals "isinstance" = some none)
    (z_len : nsIn K mainGlobals "len" = some none)
    (z_list : nsIn K mainGlobals "list" = some none)
    (z_max : nsIn K mainGlobals "max" = some none)
    (z_min : nsIn K mainGlobals "min" = some none)
    (z_ord : nsIn K mainGlobals "ord" = some none)
    (z_range : nsIn K mainGlobals "range" = some none)
    (z_repr : nsIn K mainGlobals "repr" = some none)
    (z_str : nsIn K mainGlobals "str" = some none)
    (z_sum : nsIn K mainGlobals "sum" = some none)
    (z_tuple : nsIn K mainGlobals "tuple" = some none)
    {t_BLANK_SIGN : Tok} (v_BLANK_SIGN : nsIn K mainGlobals "BLANK_SIGN" = some (some (.str (" " : Str) t_BLANK_SIGN)))
    {t_HIDE : Tok} (v_HIDE : nsIn K mainGlobals "HIDE" = some (some (.str ("hide" : Str) t_HIDE)))
    {t_LAST_FRAME : Tok} (v_LAST_FRAME : nsIn K mainGlobals "LAST_FRAME" = some (some (.int 1999 t_LAST_FRAME)))
    {u_LONE_WORDS : Addr} {dd_LONE_WORDS : Option Addr} {nn_LONE_WORDS : Nat} {sl_LONE_WORDS : Array (Option Value)} {k0_LONE_WORDS : Tok} {k1_LONE_WORDS : Tok} {k2_LONE_WORDS : Tok} {k3_LONE_WORDS : Tok} {k4_LONE_WORDS : Tok} {k5_LONE_WORDS : Tok} {k6_LONE_WORDS : Tok} {k7_LONE_WORDS : Tok} {k8_LONE_WORDS : Tok} (v_LONE_WORDS : nsIn K mainGlobals "LONE_WORDS" = some (some (.ref u_LONE_WORDS))) (w_LONE_WORDS : K.lookup u_LONE_WORDS = some ⟨.type "tuple", dd_LONE_WORDS, .seq #[.str "hide" k0_LONE_WORDS, .str "paint" k1_LONE_WORDS, .str "line" k2_LONE_WORDS, .str "swap" k3_LONE_WORDS, .str "wipe" k4_LONE_WORDS, .str "clear" k5_LONE_WORDS, .str "rub" k6_LONE_WORDS, .str "tail" k7_LONE_WORDS, .str "idle" k8_LONE_WORDS] nn_LONE_WORDS, sl_LONE_WORDS⟩)
    {t_LOWEST_OF_CELLS : Tok} (v_LOWEST_OF_CELLS : nsIn K mainGlobals "LOWEST_OF_CELLS" = some (some (.int 32 t_LOWEST_OF_CELLS)))
    {t_LOWEST_OF_LINES : Tok} (v_LOWEST_OF_LINES : nsIn K mainGlobals "LOWEST_OF_LINES" = some (some (.int 32 t_LOWEST_OF_LINES)))
    {t_MOST_COLUMNS : Tok} (v_MOST_COLUMNS : nsIn K mainGlobals "MOST_COLUMNS" = some (some (.int 40 t_MOST_COLUMNS)))
    {t_MOST_LINES : Tok} (v_MOST_LINES : nsIn K mainGlobals "MOST_LINES" = some (some (.int 4 t_MOST_LINES)))
    {t_MOST_ROWS : Tok} (v_MOST_ROWS : nsIn K mainGlobals "MOST_ROWS" = some (some (.int 4 t_MOST_ROWS)))
    {t_MOST_SENDABLE : Tok} (v_MOST_SENDABLE : nsIn K mainGlobals "MOST_SENDABLE" = some (some (.int 200 t_MOST_SENDABLE)))
    {t_MOST_SIGNS : Tok} (v_MOST_SIGNS : nsIn K mainGlobals "MOST_SIGNS" = some (some (.int 40 t_MOST_SIGNS)))
    {t_PERCENT : Tok} (v_PERCENT : nsIn K mainGlobals "PERCENT" = some (some (.int 37 t_PERCENT)))
    {t_ROLL : Tok} (v_ROLL : nsIn K mainGlobals "ROLL" = some (some (.str ("roll" : Str) t_ROLL)))
    {t_TILDE : Tok} (v_TILDE : nsIn K mainGlobals "TILDE" = some (some (.int 126 t_TILDE)))
    (says : ∀ ns : List Int, ns.length ≤ 63 → lawSays ns) :
    ∃ fd : FuncData, (∀ (s : Shared) (v : Value), BindsTo s fd ⟨[v], []⟩ [("_law_script", v)]) ∧ ∀ bas : Heap, K.In bas → bas.Ns mainGlobals gl → FnG l.prog wd K gl bas 11 fa fd ["_law_script"] (spLawG K) := by
  have e := hfa.symm.trans (PySem.W.mg_of X G a57)
  cases e
  have T : Tx K gl := ⟨PySem.W.mg_none_of X G z_ValueError, PySem.W.mg_none_of X G z_all, PySem.W.mg_none_of X G z_bool, PySem.W.mg_none_of X G z_enumerate, PySem.W.mg_none_of X G z_int, PySem.W.mg_none_of X G z_isinstance, PySem.W.mg_none_of X G z_len, PySem.W.mg_none_of X G z_list, PySem.W.mg_none_of X G z_max, PySem.W.mg_none_of X G z_min, PySem.W.mg_none_of X G z_ord, PySem.W.mg_none_of X G z_range, PySem.W.mg_none_of X G z_repr, PySem.W.mg_none_of X G z_str, PySem.W.mg_none_of X G z_sum, PySem.W.mg_none_of X G z_tuple, ⟨_, PySem.W.mg_of X G v_BLANK_SIGN⟩, ⟨_, PySem.W.mg_of X G v_HIDE⟩, ⟨_, PySem.W.mg_of X G v_LAST_FRAME⟩, ⟨_, PySem.W.mg_of X G v_LONE_WORDS, at_top w_LONE_WORDS (Nat.le_of_ble_eq_true rfl) (.cons ⟨_, rfl⟩ (.cons ⟨_, rfl⟩ (.cons ⟨_, rfl⟩ (.cons ⟨_, rfl⟩ (.cons ⟨_, rfl⟩ (.cons ⟨_, rfl⟩ (.cons ⟨_, rfl⟩ (.cons ⟨_, rfl⟩ (.cons ⟨_, rfl⟩ .nil)))))))))⟩, ⟨_, PySem.W.mg_of X G v_LOWEST_OF_CELLS⟩, ⟨_, PySem.W.mg_of X G v_LOWEST_OF_LINES⟩, ⟨_, PySem.W.mg_of X G v_MOST_COLUMNS⟩, ⟨_, PySem.W.mg_of X G v_MOST_LINES⟩, ⟨_, PySem.W.mg_of X G v_MOST_ROWS⟩, ⟨_, PySem.W.mg_of X G v_MOST_SENDABLE⟩, ⟨_, PySem.W.mg_of X G v_MOST_SIGNS⟩, ⟨_, PySem.W.mg_of X G v_PERCENT⟩, ⟨_, PySem.W.mg_of X G v_ROLL⟩, ⟨_, PySem.W.mg_of X G v_TILDE⟩⟩
  have F0 := fun_mk (st := st_rolling_rows) l0 c0 k0
  have b0 := F0.binds (ps := ["mode"]) fun _ _ _ _ _ _ us hl => match us, hl with | [_], _ => rfl
  have F1 := fun_mk (st := st_control_behind) l1 c1 k1
  have b1 := F1.binds (ps := ["screen", "control", "code"]) fun _ _ _ _ _ _ us hl => match us, hl with | [_, _, _], _ => rfl
  have F2 := fun_mk (st := st_cursor_cell) l2 c2 k2
  have b2 := F2.binds (ps := ["screen", "control"]) fun _ _ _ _ _ _ us hl => match us, hl with | [_, _], _ => rfl
  have F3 := fun_mk (st := st_with_cells) l3 c3 k3
  have b3 := F3.binds (ps := ["cells", "place", "others"]) fun _ _ _ _ _ _ us hl => match us, hl with | [_, _, _], _ => rfl
  have F4 := fun_mk (st := st_cells_behind) l4 c4 k4
  have b4 := F4.binds (ps := ["screen", "control", "cells", "code"]) fun _ _ _ _ _ _ us hl => match us, hl with | [_, _, _, _], _ => rfl
  have F5 := fun_mk (st := st_stepped) l5 c5 k5
  have b5 := F5.binds (ps := ["screen", "control", "cells", "code"]) fun _ _ _ _ _ _ us hl => match us, hl with | [_, _, _, _], _ => rfl
  have F6 := fun_mk (st := st_is_integer) l6 c6 k6
  have b6 := F6.binds (ps := ["thing"]) fun _ _ _ _ _ _ us hl => match us, hl with | [_], _ => rfl
  have F7 := fun_mk (st := st_is_within) l7 c7 k7
  have b7 := F7.binds (ps := ["thing", "least", "most"]) fun _ _ _ _ _ _ us hl => match us, hl with | [_, _, _], _ => rfl
  have F8 := fun_mk (st := st_is_tuple) l8 c8 k8
  have b8 := F8.binds (ps := ["thing", "least", "most"]) fun _ _ _ _ _ _ us hl => match us, hl with | [_, _, _], _ => rfl
  have F9 := fun_mk (st := st_is_one_of) l9 c9 k9
  have b9 := F9.binds (ps := ["thing", "words"]) fun _ _ _ _ _ _ us hl => match us, hl with | [_, _], _ => rfl
  have F10 := fun_mk (st := st_is_sign) l10 c10 k10
  have b10 := F10.binds (ps := ["sign", "lowest"]) fun _ _ _ _ _ _ us hl => match us, hl with | [_, _], _ => rfl
  have F11 := fun_mk (st := st_has_signs) l11 c11 k11
  have b11 := F11.binds (ps := ["thing", "lowest"]) fun _ _ _ _ _ _ us hl => match us, hl with | [_, _], _ => rfl
  have F12 := fun_mk (st := st_need_screen) l12 c12 k12
  have b12 := F12.binds (ps := ["screen"]) fun _ _ _ _ _ _ us hl => match us, hl with | [_], _ => rfl
  have F13 := fun_mk (st := st_blank) l13 c13 k13
  have b13 := F13.binds (ps := ["screen"]) fun _ _ _ _ _ _ us hl => match us, hl with | [_], _ => rfl
  have F14 := fun_mk (st := st_is_cell_sign) l14 c14 k14
  have b14 := F14.binds (ps := ["thing"]) fun _ _ _ _ _ _ us hl => match us, hl with | [_], _ => rfl
  have F15 := fun_mk (st := st_is_code_of) l15 c15 k15
  have b15 := F15.binds (ps := ["screen", "value"]) fun _ _ _ _ _ _ us hl => match us, hl with | [_, _], _ => rfl
  have F16 := fun_mk (st := st_is_code) l16 c16 k16
  have b16 := F16.binds (ps := ["screen", "value"]) fun _ _ _ _ _ _ us hl => match us, hl with | [_, _], _ => rfl
  have F17 := fun_mk (st := st_first_state) l17 c17 k17
  have b17 := F17.binds (ps := ["screen"]) fun _ _ _ _ _ _ us hl => match us, hl with | [_], _ => rfl
  have F18 : L2.FunD K "need_codes" "need_codes" (defArgs st_need_codes) (defBody st_need_codes) (defScope st_need_codes) [V.int 0, V.int 2000] [] f18 _ := ⟨⟨oc18, od18, .ref T18, kV18, dc18, pm18, an18, cd18, ct18, sl18, rfl, l18, c18, .inr ⟨by simp, T18, _, [Value.int 0 u18_0, Value.int 2000 u18_1], nT18, rfl, d18, rfl, .cons ⟨_, rfl⟩ (.cons ⟨_, rfl⟩ (.nil))⟩, .inl rfl⟩, k18⟩
  obtain ⟨ds18, rd18, b18⟩ := F18.binds1 (ps := ["screen", "codes", "least", "most"]) 2 0 (by simp) rfl fun T kV doc pm an cdv ct us its h1 h2 => match us, its, h1, h2 with | [_, _], [_, _], _, _ => ⟨_, rfl, rfl⟩
  have F19 := fun_mk (st := st_cells_of) l19 c19 k19
  have b19 := F19.binds (ps := ["state"]) fun _ _ _ _ _ _ us hl => match us, hl with | [_], _ => rfl
  have F20 := fun_mk (st := st_memory_of) l20 c20 k20
  have b20 := F20.binds (ps := ["screen", "cells", "first"]) fun _ _ _ _ _ _ us hl => match us, hl with | [_, _, _], _ => rfl
  have F21 := fun_mk (st := st_pictures) l21 c21 k21
  have b21 := F21.binds (ps := ["screen", "codes"]) fun _ _ _ _ _ _ us hl => match us, hl with | [_, _], _ => rfl
  have F22 : L2.FunD K "are_codes" "are_codes" (defArgs st_are_codes) (defBody st_are_codes) (defScope st_are_codes) [V.int 0, V.int 2000] [] f22 _ := ⟨⟨oc22, od22, .ref T22, kV22, dc22, pm22, an22, cd22, ct22, sl22, rfl, l22, c22, .inr ⟨by simp, T22, _, [Value.int 0 u22_0, Value.int 2000 u22_1], nT22, rfl, d22, rfl, .cons ⟨_, rfl⟩ (.cons ⟨_, rfl⟩ (.nil))⟩, .inl rfl⟩, k22⟩
  obtain ⟨ds22, rd22, b22⟩ := F22.binds1 (ps := ["screen", "value", "least", "most"]) 2 0 (by simp) rfl fun T kV doc pm an cdv ct us its h1 h2 => match us, its, h1, h2 with | [_, _], [_, _], _, _ => ⟨_, rfl, rfl⟩
  obtain ⟨dsF22, rdF22, bF22⟩ := F22.binds1 (ps := ["screen", "value", "least", "most"]) 4 2 (by simp) rfl fun T kV doc pm an cdv ct us its h1 h2 => match us, its, h1, h2 with | [_, _, _, _], [_, _], _, _ => ⟨_, rfl, rfl⟩
  have rdF22 := (show L2.Vals [] dsF22 from rdF22)
  cases rdF22
  have F23 := fun_mk (st := st__is_line) l23 c23 k23
  have b23 := F23.binds (ps := ["thing"]) fun _ _ _ _ _ _ us hl => match us, hl with | [_], _ => rfl
  have F24 := fun_mk (st := st_is_text) l24 c24 k24
  have b24 := F24.binds (ps := ["thing"]) fun _ _ _ _ _ _ us hl => match us, hl with | [_], _ => rfl
  have F25 := fun_mk (st := st__has_room) l25 c25 k25
  have b25 := F25.binds (ps := ["screen", "thing"]) fun _ _ _ _ _ _ us hl => match us, hl with | [_, _], _ => rfl
  have F26 := fun_mk (st := st__is_sendable) l26 c26 k26
  have b26 := F26.binds (ps := ["screen", "thing"]) fun _ _ _ _ _ _ us hl => match us, hl with | [_, _], _ => rfl
  have F27 := fun_mk (st := st__need_cues) l27 c27 k27
  have b27 := F27.binds (ps := ["screen", "cues"]) fun _ _ _ _ _ _ us hl => match us, hl with | [_, _], _ => rfl
  have F28 := fun_mk (st := st__free_frames) l28 c28 k28
  have b28 := F28.binds (ps := ["ahead", "start"]) fun _ _ _ _ _ _ us hl => match us, hl with | [_, _], _ => rfl
  have F29 := fun_mk (st := st__load_of) l29 c29 k29
  have b29 := F29.binds (ps := ["text"]) fun _ _ _ _ _ _ us hl => match us, hl with | [_], _ => rfl
  have F30 := fun_mk (st := st__first_short) l30 c30 k30
  have b30 := F30.binds (ps := ["cues"]) fun _ _ _ _ _ _ us hl => match us, hl with | [_], _ => rfl
  have F31 := fun_mk (st := st__stream_of) l31 c31 k31
  have b31 := F31.binds (ps := ["cues"]) fun _ _ _ _ _ _ us hl => match us, hl with | [_], _ => rfl
  have F32 := fun_mk (st := st_send_paper) l32 c32 k32
  have b32 := F32.binds (ps := ["screen", "cues"]) fun _ _ _ _ _ _ us hl => match us, hl with | [_, _], _ => rfl
  have F33 := fun_mk (st := st__picture_of) l33 c33 k33
  have b33 := F33.binds (ps := ["screen", "text"]) fun _ _ _ _ _ _ us hl => match us, hl with | [_, _], _ => rfl
  have F34 := fun_mk (st := st__sends) l34 c34 k34
  have b34 := F34.binds (ps := ["screen", "cues", "thing"]) fun _ _ _ _ _ _ us hl => match us, hl with | [_, _, _], _ => rfl
  have F35 := fun_mk (st := st_check_send) l35 c35 k35
  have b35 := F35.binds (ps := ["screen", "cues", "paper"]) fun _ _ _ _ _ _ us hl => match us, hl with | [_, _, _], _ => rfl
  have F36 := fun_mk (st := st__law_size) l36 c36 k36
  have b36 := F36.binds (ps := ["_law_m", "_law_most"]) fun _ _ _ _ _ _ us hl => match us, hl with | [_, _], _ => rfl
  have F37 := fun_mk (st := st__law_code) l37 c37 k37
  have b37 := F37.binds (ps := ["_law_m", "_law_size_here"]) fun _ _ _ _ _ _ us hl => match us, hl with | [_, _], _ => rfl
  have F38 := fun_mk (st := st__law_rolled) l38 c38 k38
  have b38 := F38.binds (ps := ["_law_size_here", "_law_shown_here", "_law_total"]) fun _ _ _ _ _ _ us hl => match us, hl with | [_, _, _], _ => rfl
  have F39 := fun_mk (st := st__law_written) l39 c39 k39
  have b39 := F39.binds (ps := ["_law_size_here", "_law_use", "_law_row", "_law_col", "_law_code_here"]) fun _ _ _ _ _ _ us hl => match us, hl with | [_, _, _, _, _], _ => rfl
  have F40 := fun_mk (st := st__law_cursor) l40 c40 k40
  have b40 := F40.binds (ps := ["_law_size_here", "_law_mode", "_law_row", "_law_col", "_law_code_here"]) fun _ _ _ _ _ _ us hl => match us, hl with | [_, _, _, _, _], _ => rfl
  have F41 := fun_mk (st := st__law_stepped) l41 c41 k41
  have b41 := F41.binds (ps := ["_law_size_here", "_law_state", "_law_code_here"]) fun _ _ _ _ _ _ us hl => match us, hl with | [_, _, _], _ => rfl
  have F42 := fun_mk (st := st__law_told) l42 c42 k42
  have b42 := F42.binds (ps := ["_law_state"]) fun _ _ _ _ _ _ us hl => match us, hl with | [_], _ => rfl
  have F43 := fun_mk (st := st__law_first) l43 c43 k43
  have b43 := F43.binds (ps := ["_law_size_here"]) fun _ _ _ _ _ _ us hl => match us, hl with | [_], _ => rfl
  have F44 := fun_mk (st := st__law_text) l44 c44 k44
  have b44 := F44.binds (ps := ["_law_m", "_law_size_here"]) fun _ _ _ _ _ _ us hl => match us, hl with | [_, _], _ => rfl
  have F45 := fun_mk (st := st__law_cost) l45 c45 k45
  have b45 := F45.binds (ps := ["_law_text_here"]) fun _ _ _ _ _ _ us hl => match us, hl with | [_], _ => rfl
  have F46 := fun_mk (st := st__law_cues) l46 c46 k46
  have b46 := F46.binds (ps := ["_law_m", "_law_size_here", "_law_total"]) fun _ _ _ _ _ _ us hl => match us, hl with | [_, _, _], _ => rfl
  have F47 := fun_mk (st := st__law_free) l47 c47 k47
  have b47 := F47.binds (ps := ["_law_cues_here", "_law_number"]) fun _ _ _ _ _ _ us hl => match us, hl with | [_, _], _ => rfl
  have F48 := fun_mk (st := st__law_short) l48 c48 k48
  have b48 := F48.binds (ps := ["_law_cues_here"]) fun _ _ _ _ _ _ us hl => match us, hl with | [_], _ => rfl
  have F49 := fun_mk (st := st__law_picture) l49 c49 k49
  have b49 := F49.binds (ps := ["_law_size_here", "_law_text_here"]) fun _ _ _ _ _ _ us hl => match us, hl with | [_, _], _ => rfl
  have F50 := fun_mk (st := st__law_shown) l50 c50 k50
  have b50 := F50.binds (ps := ["_law_size_here", "_law_cues_here", "_law_frame"]) fun _ _ _ _ _ _ us hl => match us, hl with | [_, _, _], _ => rfl
  have F51 := fun_mk (st := st__law_does_send) l51 c51 k51
  have b51 := F51.binds (ps := ["_law_size_here", "_law_cues_here", "_law_codes"]) fun _ _ _ _ _ _ us hl => match us, hl with | [_, _, _], _ => rfl
  have F52 := fun_mk (st := st__law_due) l52 c52 k52
  have b52 := F52.binds (ps := ["_law_size_here", "_law_cues_here", "_law_sheet"]) fun _ _ _ _ _ _ us hl => match us, hl with | [_, _, _], _ => rfl
  have F53 := fun_mk (st := st__law_outcome) l53 c53 k53
  have b53 := F53.binds (ps := ["_law_size_here", "_law_cues_here", "_law_sheet"]) fun _ _ _ _ _ _ us hl => match us, hl with | [_, _, _], _ => rfl
  have F54 := fun_mk (st := st__law_bent) l54 c54 k54
  have b54 := F54.binds (ps := ["_law_m", "_law_size_here", "_law_sheet"]) fun _ _ _ _ _ _ us hl => match us, hl with | [_, _, _], _ => rfl
  have F55 := fun_mk (st := st__law_next) l55 c55 k55
  have b55 := F55.binds (ps := ["_law_m", "_law_total"]) fun _ _ _ _ _ _ us hl => match us, hl with | [_, _], _ => rfl
  have F56 := fun_mk (st := st__law_begun) l56 c56 k56
  have b56 := F56.binds (ps := ["_law_script"]) fun _ _ _ _ _ _ us hl => match us, hl with | [_], _ => rfl
  have F57 := fun_mk (st := st_law) l57 c57 k57
  have b57 := F57.binds (ps := ["_law_script"]) fun _ _ _ _ _ _ us hl => match us, hl with | [_], _ => rfl
  refine ⟨fnOf "law" "law" (defArgs st_law) (defBody st_law) (defScope st_law) .none kV57 dc57 pm57 an57 cd57 ct57, fun s v => .of_eq rfl, fun bas _ _ => ?_⟩
  have FI0 := fun_mk (st := st_BadPaper) xf0 xd0 xg0
  have bI0 := FI0.binds (ps := ["self", "part"]) fun _ _ _ _ _ _ us hl => match us, hl with | [_, _], _ => rfl
  have K_BadPaper : ClsAt l.prog wd K gl bas "BadPaper" (some "part") := ⟨C0, gI0, _, _, PySem.W.mg_of X G xa0, ⟨⟨nm0, qq0, N0, bs0, _, sn0, sub0, ab0, col0, dd0, ma0, mb0, mc0, md0, mf0, xl0, by decide +kernel⟩, xs0, xe0, xt0, xk0⟩, xi0, xy0, init_BadPaper T FI0 xvV xn0, bI0, exm_own xe0 xc0 xt0 xb0⟩
  have KF_BadPaper : FldOf K gl "BadPaper" "part" := ⟨C0, PySem.W.mg_of X G xa0, ⟨xp0, xq0, xe0, xr0⟩, xn0⟩
  have C__law_next : Cd l.prog wd K gl bas srcOrc 1 "_law_next" 2 s_next := ⟨_, _, _, ok__law_next T F55, PySem.W.mg_of X G a55, k55, b55⟩
  have C_rolling_rows : Cd l.prog wd K gl bas srcOrc 1 "rolling_rows" 1 r_rolling_rows := ⟨_, _, _, ok_rolling_rows T F0, PySem.W.mg_of X G a0, k0, b0⟩
  have C_control_behind : Cd l.prog wd K gl bas srcOrc 2 "control_behind" 3 r_control_behind := ⟨_, _, _, ok_control_behind T F1 C_rolling_rows, PySem.W.mg_of X G a1, k1, b1⟩
  have C_cursor_cell : Cd l.prog wd K gl bas srcOrc 1 "cursor_cell" 2 r_cursor_cell := ⟨_, _, _, ok_cursor_cell T F2, PySem.W.mg_of X G a2, k2, b2⟩
  have C_with_cells : Cd l.prog wd K gl bas srcOrc 1 "with_cells" 3 r_with_cells := ⟨_, _, _, ok_with_cells T F3, PySem.W.mg_of X G a3, k3, b3⟩
  have C_cells_behind : Cd l.prog wd K gl bas srcOrc 2 "cells_behind" 4 r_cells_behind := ⟨_, _, _, ok_cells_behind T F4 C_cursor_cell C_with_cells C_rolling_rows, PySem.W.mg_of X G a4, k4, b4⟩
  have C_stepped : Cd l.prog wd K gl bas srcOrc 3 "stepped" 4 r_stepped := ⟨_, _, _, ok_stepped T F5 C_cells_behind C_control_behind, PySem.W.mg_of X G a5, k5, b5⟩
  have C_is_integer : Cd l.prog wd K gl bas srcOrc 1 "is_integer" 1 r_is_integer := ⟨_, _, _, ok_is_integer T F6, PySem.W.mg_of X G a6, k6, b6⟩
  have C_is_within : Cd l.prog wd K gl bas srcOrc 2 "is_within" 3 r_is_within := ⟨_, _, _, ok_is_within T F7 C_is_integer, PySem.W.mg_of X G a7, k7, b7⟩
  have C_is_tuple : Cd l.prog wd K gl bas srcOrc 1 "is_tuple" 3 r_is_tuple := ⟨_, _, _, ok_is_tuple T F8, PySem.W.mg_of X G a8, k8, b8⟩
  have C_is_one_of : Cd l.prog wd K gl bas srcOrc 1 "is_one_of" 2 r_is_one_of := ⟨_, _, _, ok_is_one_of T F9, PySem.W.mg_of X G a9, k9, b9⟩
  have C_is_sign : Cd l.prog wd K gl bas srcOrc 1 "is_sign" 2 r_is_sign := ⟨_, _, _, ok_is_sign T F10, PySem.W.mg_of X G a10, k10, b10⟩
  have C_has_signs : Cd l.prog wd K gl bas srcOrc 2 "has_signs" 2 r_has_signs := ⟨_, _, _, ok_has_signs T F11 C_is_sign, PySem.W.mg_of X G a11, k11, b11⟩
  have C_need_screen : Cd l.prog wd K gl bas srcOrc 3 "need_screen" 1 r_need_screen := ⟨_, _, _, ok_need_screen T F12 C_is_tuple C_is_within, PySem.W.mg_of X G a12, k12, b12⟩
  have C_blank : Cd l.prog wd K gl bas srcOrc 4 "blank" 1 r_blank := ⟨_, _, _, ok_blank T F13 C_need_screen, PySem.W.mg_of X G a13, k13, b13⟩
  have C_is_cell_sign : Cd l.prog wd K gl bas srcOrc 2 "is_cell_sign" 1 r_is_cell_sign := ⟨_, _, _, ok_is_cell_sign T F14 C_is_sign, PySem.W.mg_of X G a14, k14, b14⟩
  have C_is_code_of : Cd l.prog wd K gl bas srcOrc 3 "is_code_of" 2 r_is_code_of := ⟨_, _, _, ok_is_code_of T F15 C_is_tuple C_is_cell_sign C_is_within, PySem.W.mg_of X G a15, k15, b15⟩
  have C_is_code : Cd l.prog wd K gl bas srcOrc 4 "is_code" 2 r_is_code := ⟨_, _, _, ok_is_code T F16 C_need_screen C_is_code_of, PySem.W.mg_of X G a16, k16, b16⟩
  have C_first_state : Cd l.prog wd K gl bas srcOrc 5 "first_state" 1 r_first_state := ⟨_, _, _, ok_first_state T F17 C_blank, PySem.W.mg_of X G a17, k17, b17⟩
  have CD_need_codes : CdD l.prog wd K gl bas srcOrc 4 "need_codes" 2 [PyData.int 0, PyData.int 2000] r_need_codes := ⟨_, _, _, ds18, _, ok_need_codes T F18 C_is_tuple C_is_code_of, PySem.W.mg_of X G a18, k18, b18, rd18, fun _ => .cons (.int _) (.cons (.int _) (.nil))⟩
  have C_cells_of : Cd l.prog wd K gl bas srcOrc 1 "cells_of" 1 r_cells_of := ⟨_, _, _, ok_cells_of T F19, PySem.W.mg_of X G a19, k19, b19⟩
  have C_memory_of : Cd l.prog wd K gl bas srcOrc 1 "memory_of" 3 r_memory_of := ⟨_, _, _, ok_memory_of T F20, PySem.W.mg_of X G a20, k20, b20⟩
  have C_pictures : Cd l.prog wd K gl bas srcOrc 6 "pictures" 2 r_pictures := ⟨_, _, _, ok_pictures T F21 CD_need_codes C_first_state C_cells_of C_stepped C_memory_of, PySem.W.mg_of X G a21, k21, b21⟩
  have CD_are_codes : CdD l.prog wd K gl bas srcOrc 4 "are_codes" 2 [PyData.int 0, PyData.int 2000] r_are_codes := ⟨_, _, _, ds22, _, ok_are_codes T F22 C_is_tuple C_is_code_of, PySem.W.mg_of X G a22, k22, b22, rd22, fun _ => .cons (.int _) (.cons (.int _) (.nil))⟩
  have C_are_codes : Cd l.prog wd K gl bas srcOrc 4 "are_codes" 4 r_are_codes := ⟨_, _, _, ok_are_codes T F22 C_is_tuple C_is_code_of, PySem.W.mg_of X G a22, k22, bF22⟩
  have C__is_line : Cd l.prog wd K gl bas srcOrc 3 "_is_line" 1 r__is_line := ⟨_, _, _, ok__is_line T F23 C_has_signs, PySem.W.mg_of X G a23, k23, b23⟩
  have C_is_text : Cd l.prog wd K gl bas srcOrc 4 "is_text" 1 r_is_text := ⟨_, _, _, ok_is_text T F24 C_is_tuple C__is_line, PySem.W.mg_of X G a24, k24, b24⟩
  have C__has_room : Cd l.prog wd K gl bas srcOrc 5 "_has_room" 2 r__has_room := ⟨_, _, _, ok__has_room T F25 C_is_text, PySem.W.mg_of X G a25, k25, b25⟩
  have C__is_sendable : Cd l.prog wd K gl bas srcOrc 6 "_is_sendable" 2 r__is_sendable := ⟨_, _, _, ok__is_sendable T F26 C_is_tuple C_is_within C__has_room, PySem.W.mg_of X G a26, k26, b26⟩
  have C__need_cues : Cd l.prog wd K gl bas srcOrc 7 "_need_cues" 2 r__need_cues := ⟨_, _, _, ok__need_cues T F27 C_need_screen C_is_tuple C__is_sendable, PySem.W.mg_of X G a27, k27, b27⟩
  have C__free_frames : Cd l.prog wd K gl bas srcOrc 1 "_free_frames" 2 r__free_frames := ⟨_, _, _, ok__free_frames T F28, PySem.W.mg_of X G a28, k28, b28⟩
  have C__load_of : Cd l.prog wd K gl bas srcOrc 1 "_load_of" 1 r__load_of := ⟨_, _, _, ok__load_of T F29, PySem.W.mg_of X G a29, k29, b29⟩
  have C__first_short : Cd l.prog wd K gl bas srcOrc 2 "_first_short" 1 r__first_short := ⟨_, _, _, ok__first_short T F30 C__free_frames C__load_of, PySem.W.mg_of X G a30, k30, b30⟩
  have C__stream_of : Cd l.prog wd K gl bas srcOrc 2 "_stream_of" 1 r__stream_of := ⟨_, _, _, ok__stream_of T F31 C__load_of, PySem.W.mg_of X G a31, k31, b31⟩
  have C_send_paper : Cd l.prog wd K gl bas srcOrc 8 "send_paper" 2 r_send_paper := ⟨_, _, _, ok_send_paper T F32 C__need_cues C__first_short C__stream_of, PySem.W.mg_of X G a32, k32, b32⟩
  have C__picture_of : Cd l.prog wd K gl bas srcOrc 1 "_picture_of" 2 r__picture_of := ⟨_, _, _, ok__picture_of T F33, PySem.W.mg_of X G a33, k33, b33⟩
  have C__sends : Cd l.prog wd K gl bas srcOrc 7 "_sends" 3 r__sends := ⟨_, _, _, ok__sends T F34 C_are_codes C_blank C__picture_of C_pictures, PySem.W.mg_of X G a34, k34, b34⟩
  have CX_check_send : CdX l.prog wd K gl bas srcOrc 9 "check_send" 3 rx_check_send := ⟨_, _, _, okX_check_send T F35 C__need_cues C_is_tuple C_is_one_of C__sends C_is_integer C__first_short K_BadPaper, PySem.W.mg_of X G a35, k35, b35⟩
  have C_check_send : Cd l.prog wd K gl bas srcOrc 8 "check_send" 3 r_check_send := ⟨_, _, _, ok_check_send T F35 C__need_cues C_is_tuple C_is_one_of C__sends C_is_integer C__first_short, PySem.W.mg_of X G a35, k35, b35⟩
  have C__law_size : Cd l.prog wd K gl bas srcOrc 2 "_law_size" 2 r__law_size := ⟨_, _, _, ok__law_size T F36 C__law_next, PySem.W.mg_of X G a36, k36, b36⟩
  have C__law_code : Cd l.prog wd K gl bas srcOrc 2 "_law_code" 2 r__law_code := ⟨_, _, _, ok__law_code T F37 C__law_next, PySem.W.mg_of X G a37, k37, b37⟩
  have C__law_rolled : Cd l.prog wd K gl bas srcOrc 1 "_law_rolled" 3 r__law_rolled := ⟨_, _, _, ok__law_rolled T F38, PySem.W.mg_of X G a38, k38, b38⟩
  have FW := ok__law_written (pr := l.prog) (wd := wd) (gl := gl) (bas := bas) T F39
  have C__law_cursor : Cd l.prog wd K gl bas srcOrc 1 "_law_cursor" 5 r__law_cursor := ⟨_, _, _, ok__law_cursor T F40, PySem.W.mg_of X G a40, k40, b40⟩
  have C__law_stepped : Cd l.prog wd K gl bas srcOrc 2 "_law_stepped" 3 s__law_stepped := ⟨_, _, _, ok__law_stepped T F41 C__law_rolled C__law_cursor FW (PySem.W.mg_of X G a39) k39 b39, PySem.W.mg_of X G a41, k41, b41⟩
  have C__law_told : Cd l.prog wd K gl bas srcOrc 1 "_law_told" 1 r__law_told := ⟨_, _, _, ok__law_told T F42, PySem.W.mg_of X G a42, k42, b42⟩
  have C__law_first : Cd l.prog wd K gl bas srcOrc 1 "_law_first" 1 r__law_first := ⟨_, _, _, ok__law_first T F43, PySem.W.mg_of X G a43, k43, b43⟩
  have C__law_text : Cd l.prog wd K gl bas srcOrc 2 "_law_text" 2 r__law_text := ⟨_, _, _, ok__law_text T F44 C__law_next, PySem.W.mg_of X G a44, k44, b44⟩
  have C__law_cost : Cd l.prog wd K gl bas srcOrc 1 "_law_cost" 1 r__law_cost := ⟨_, _, _, ok__law_cost T F45, PySem.W.mg_of X G a45, k45, b45⟩
  have C__law_cues : Cd l.prog wd K gl bas srcOrc 3 "_law_cues" 3 r__law_cues := ⟨_, _, _, ok__law_cues T F46 C__law_next C__law_text C__law_cost, PySem.W.mg_of X G a46, k46, b46⟩
  have C__law_free : Cd l.prog wd K gl bas srcOrc 1 "_law_free" 2 r__law_free := ⟨_, _, _, ok__law_free T F47, PySem.W.mg_of X G a47, k47, b47⟩
  have C__law_short : Cd l.prog wd K gl bas srcOrc 2 "_law_short" 1 r__law_short := ⟨_, _, _, ok__law_short T F48 C__law_free C__law_cost, PySem.W.mg_of X G a48, k48, b48⟩
  have C__law_picture : Cd l.prog wd K gl bas srcOrc 1 "_law_picture" 2 r__law_picture := ⟨_, _, _, ok__law_picture T F49, PySem.W.mg_of X G a49, k49, b49⟩
  have C__law_shown : Cd l.prog wd K gl bas srcOrc 2 "_law_shown" 3 r__law_shown := ⟨_, _, _, ok__law_shown T F50 C__law_picture, PySem.W.mg_of X G a50, k50, b50⟩
  have C__law_does_send : Cd l.prog wd K gl bas srcOrc 5 "_law_does_send" 3 r__law_does_send := ⟨_, _, _, ok__law_does_send T F51 C_is_code C__law_first C__law_stepped C__law_told C__law_shown, PySem.W.mg_of X G a51, k51, b51⟩
  have C__law_due : Cd l.prog wd K gl bas srcOrc 6 "_law_due" 3 r__law_due := ⟨_, _, _, ok__law_due T F52 C__law_does_send C__law_short, PySem.W.mg_of X G a52, k52, b52⟩
  have C__law_outcome : Cd l.prog wd K gl bas srcOrc 10 "_law_outcome" 3 r__law_outcome := ⟨_, _, _, ok__law_outcome T F53 CX_check_send K_BadPaper KF_BadPaper, PySem.W.mg_of X G a53, k53, b53⟩
  have C__law_bent : Cd l.prog wd K gl bas srcOrc 3 "_law_bent" 3 r__law_bent := ⟨_, _, _, ok__law_bent T F54 C__law_next C__law_code, PySem.W.mg_of X G a54, k54, b54⟩
  exact ok_law T F57 (ok__law_begun T F56) (PySem.W.mg_of X G a56) k56 b56 C__law_size C__law_cues C_send_paper C__law_bent C__law_outcome C__law_due says
end Q23
namespace Q23
open PySem L2 DL
inductive Fn : Nat → D → Prop
  | non (n : Nat) : Fn n .none
  | bl (n : Nat) (b : Bool) : Fn n (.bool b)
  | int (n : Nat) (i : Int) : Fn n (.int i)
  | str (n : Nat) (s : Str) (hl : s.length ≤ 1000) (hs : PyData.strOk s = true) : Fn n (.str s)
  | tup (n : Nat) (ds : List D) (h : ∀ d ∈ ds, Fn n d) (hl : ds.length ≤ 1000) : Fn (n + 1) (.tuple ds)
  | lst (n : Nat) (ds : List D) (h : ∀ d ∈ ds, Fn n d) (hl : ds.length ≤ 1000) : Fn (n + 1) (.list ds)
theorem all_lay : ∀ ds : List D, (∀ d ∈ ds, d.canLay0 = true) → PyData.canLayAll0 ds = true
  | [], _ => rfl
  | d :: ds, h => Bool.and_eq_true_iff.mpr ⟨h d (List.mem_cons_self ..), all_lay ds fun x hx => h x (List.mem_cons_of_mem _ hx)⟩
theorem all_dep {n : Nat} : ∀ ds : List D, (∀ d ∈ ds, d.depth ≤ n) → PyData.depthAll ds ≤ n
  | [], _ => Nat.zero_le _
  | d :: ds, h => by
    have a := h d (List.mem_cons_self ..)
    have b := all_dep ds fun x hx => h x (List.mem_cons_of_mem _ hx)
    simp only [PyData.depthAll]
    omega
theorem Fn.lay {n : Nat} {d : D} (f : Fn n d) : d.canLay0 = true ∧ d.depth ≤ n := by
  induction f with
  | non n => exact ⟨rfl, Nat.zero_le _⟩
  | bl n b => exact ⟨rfl, Nat.zero_le _⟩
  | int n i => exact ⟨rfl, Nat.zero_le _⟩
  | str n s hl hs => exact ⟨hs, Nat.zero_le _⟩
  | tup n ds h hl ih =>
    have := all_dep ds fun d hd => (ih d hd).2
    exact ⟨all_lay ds fun d hd => (ih d hd).1, by simp only [PyData.depth]; omega⟩
  | lst n ds h hl ih =>
    have := all_dep ds fun d hd => (ih d hd).2
    exact ⟨all_lay ds fun d hd => (ih d hd).1, by simp only [PyData.depth]; omega⟩
theorem Fn.ok {n : Nat} {d : D} (f : Fn n d) (hn : n ≤ 60) : okD d := by
  obtain ⟨a, b⟩ := f.lay
  show SeqAt.shaped d = true
  unfold SeqAt.shaped
  rw [a]
  simp
  omega
theorem Fn.mono {n m : Nat} {d : D} (f : Fn n d) (h : n ≤ m) : Fn m d := by
  induction f generalizing m with
  | non n => exact .non _
  | bl n b => exact .bl _ _
  | int n i => exact .int _ _
  | str n s hl hs => exact .str _ _ hl hs
  | tup n ds hd hl ih =>
    obtain ⟨m, rfl⟩ : ∃ k, m = k + 1 := ⟨m - 1, by omega⟩
    exact .tup m ds (fun d hd => ih d hd (by omega)) hl
  | lst n ds hd hl ih =>
    obtain ⟨m, rfl⟩ : ∃ k, m = k + 1 := ⟨m - 1, by omega⟩
    exact .lst m ds (fun d hd => ih d hd (by omega)) hl
def isI : D → Bool
  | .int _ => true
  | _ => false
theorem k_bi : kitB "bool" "int" = some true := by decide +kernel
theorem k_bb : kitB "bool" "bool" = some true := by decide +kernel
theorem kI : ∀ d : D, kitB (tyN d) "int" = some (match d with | .int _ => true | .bool _ => true | _ => false)
  | .none => (by decide +kernel : kitB "NoneType" "int" = some false)
  | .bool _ => k_bi
  | .int _ => k_int
  | .str _ => (by decide +kernel : kitB "str" "int" = some false)
  | .list _ => (by decide +kernel : kitB "list" "int" = some false)
  | .tuple _ => (by decide +kernel : kitB "tuple" "int" = some false)
  | .dict _ => (by decide +kernel : kitB "dict" "int" = some false)
theorem kT : ∀ d : D, kitB (tyN d) "tuple" = some (match d with | .tuple _ => true | _ => false)
  | .none => (by decide +kernel : kitB "NoneType" "tuple" = some false)
  | .bool _ => (by decide +kernel : kitB "bool" "tuple" = some false)
  | .int _ => (by decide +kernel : kitB "int" "tuple" = some false)
  | .str _ => (by decide +kernel : kitB "str" "tuple" = some false)
  | .list _ => (by decide +kernel : kitB "list" "tuple" = some false)
  | .tuple _ => k_tt
  | .dict _ => (by decide +kernel : kitB "dict" "tuple" = some false)
theorem kS : ∀ d : D, kitB (tyN d) "str" = some (match d with | .str _ => true | _ => false)
  | .none => (by decide +kernel : kitB "NoneType" "str" = some false)
  | .bool _ => (by decide +kernel : kitB "bool" "str" = some false)
  | .int _ => (by decide +kernel : kitB "int" "str" = some false)
  | .str _ => k_ss
  | .list _ => (by decide +kernel : kitB "list" "str" = some false)
  | .tuple _ => (by decide +kernel : kitB "tuple" "str" = some false)
  | .dict _ => (by decide +kernel : kitB "dict" "str" = some false)
section
variable {d : D} {m : Nat} {P : D → Nat → Prop}
theorem d_is_integer (h : P (.bool (isI d)) 0) : r_is_integer [.d d] m P := by
  cases d with
  | int i => exact ⟨trivial, true, k_int, trivial, false, k_ib, hd_d, h⟩
  | bool b => exact ⟨trivial, true, k_bi, trivial, true, k_bb, hd_d, h⟩
  | none => exact ⟨trivial, _, kI _, hd_d, h⟩
  | str s => exact ⟨trivial, _, kI _, hd_d, h⟩
  | list s => exact ⟨trivial, _, kI _, hd_d, h⟩
  | tuple s => exact ⟨trivial, _, kI _, hd_d, h⟩
  | dict s => exact ⟨trivial, _, kI _, hd_d, h⟩
def within (d : D) (a b : Int) : Bool := match d with
  | .int i => decide (a ≤ i) && decide (i ≤ b)
  | _ => false
theorem d_is_within {a b : Int} (h : P (.bool (within d a b)) 0) : r_is_within [.d d, .d (.int a), .d (.int b)] m P := by
  refine ⟨rfl, rfl, d_is_integer ?_⟩
  cases d with
  | int i =>
    by_cases e : a ≤ i
    · have h : P (.bool (decide (a ≤ i) && decide (i ≤ b))) 0 := h
      rw [decide_eq_true e, Bool.true_and] at h
      simp [raw, startE, arSl, sSeq, sIf, sRet, sRetN, sNo, sSet, sSetN, sExpr, sAsg, dCall, dCallO, aCons, aNil, aOra, dV, hS, hV, dC, d2, see, seeAll, dCB, DL.gCons, DL.gNil, dChain, bD, bAnd, bOr, bNot, dAnd, dOr, dNot, dNeg, dIf, dIsi, bTruth, truD, lCons, lNil, dTup, dLst, isD, gCmp, gAdd, DL.gSub, gIs, gIsNot, gLen, gN, gTupT, gConsT, gNoT, ownL, dSl, oI, oNo, isI, e, h]
    · have h : P (.bool (decide (a ≤ i) && decide (i ≤ b))) 0 := h
      rw [decide_eq_false e, Bool.false_and] at h
      simp [raw, startE, arSl, sSeq, sIf, sRet, sRetN, sNo, sSet, sSetN, sExpr, sAsg, dCall, dCallO, aCons, aNil, aOra, dV, hS, hV, dC, d2, see, seeAll, dCB, DL.gCons, DL.gNil, dChain, bD, bAnd, bOr, bNot, dAnd, dOr, dNot, dNeg, dIf, dIsi, bTruth, truD, lCons, lNil, dTup, dLst, isD, gCmp, gAdd, DL.gSub, gIs, gIsNot, gLen, gN, gTupT, gConsT, gNoT, ownL, dSl, oI, oNo, isI, e, h]
  | bool b => exact ⟨hd_d, h⟩
  | none => exact ⟨hd_d, h⟩
  | str s => exact ⟨hd_d, h⟩
  | list s => exact ⟨hd_d, h⟩
  | tuple s => exact ⟨hd_d, h⟩
  | dict s => exact ⟨hd_d, h⟩
def tupB (d : D) (a b : Int) : Bool := match d with
  | .tuple ds => decide (a ≤ ds.length) && decide ((ds.length : Int) ≤ b)
  | _ => false
theorem d_is_tuple {a b : Int} (h : P (.bool (tupB d a b)) 0) : r_is_tuple [.d d, .d (.int a), .d (.int b)] m P := by
  cases d with
  | tuple ds =>
    refine ⟨trivial, true, k_tt, ?_⟩
    have h : P (.bool (decide (a ≤ ds.length) && decide ((ds.length : Int) ≤ b))) 0 := h
    by_cases e : a ≤ (ds.length : Int)
    · rw [decide_eq_true e, Bool.true_and] at h
      simp [raw, startE, arSl, sSeq, sIf, sRet, sRetN, sNo, sSet, sSetN, sExpr, sAsg, dCall, dCallO, aCons, aNil, aOra, dV, hS, hV, dC, d2, see, seeAll, dCB, DL.gCons, DL.gNil, dChain, bD, bAnd, bOr, bNot, dAnd, dOr, dNot, dNeg, dIf, dIsi, bTruth, truD, lCons, lNil, dTup, dLst, isD, gCmp, gAdd, DL.gSub, gIs, gIsNot, gLen, gN, gTupT, gConsT, gNoT, ownL, dSl, oI, oNo, e, h]
    · rw [decide_eq_false e, Bool.false_and] at h
      simp [raw, startE, arSl, sSeq, sIf, sRet, sRetN, sNo, sSet, sSetN, sExpr, sAsg, dCall, dCallO, aCons, aNil, aOra, dV, hS, hV, dC, d2, see, seeAll, dCB, DL.gCons, DL.gNil, dChain, bD, bAnd, bOr, bNot, dAnd, dOr, dNot, dNeg, dIf, dIsi, bTruth, truD, lCons, lNil, dTup, dLst, isD, gCmp, gAdd, DL.gSub, gIs, gIsNot, gLen, gN, gTupT, gConsT, gNoT, ownL, dSl, oI, oNo, e, h]
  | int i => exact ⟨trivial, _, kT _, hd_d, h⟩
  | bool b => exact ⟨trivial, _, kT _, hd_d, h⟩
  | none => exact ⟨trivial, _, kT _, hd_d, h⟩
  | str s => exact ⟨trivial, _, kT _, hd_d, h⟩
  | list s => exact ⟨trivial, _, kT _, hd_d, h⟩
  | dict s => exact ⟨trivial, _, kT _, hd_d, h⟩
def sgC (c : Nat) : Bool := decide (32 ≤ c) && decide (c ≤ 126) && !decide (c = 37)
theorem okI (i : Int) : okD (.int i) := rfl
theorem eqI (i j : Int) : PyData.eqv (.int i) (.int j) = decide (i = j) := by
  simp [PyData.eqv]
  by_cases e : i = j <;> simp [e]
theorem d_is_sign {c : Nat} (h : P (.bool (sgC c)) 0) : r_is_sign [.d (.str ⟨#[c]⟩), .d (.int 32)] m P := by
  by_cases a1 : 32 ≤ c
  · have b1 : (32 : Int) ≤ (c : Int) := by omega
    by_cases a2 : c ≤ 126
    · have b2 : (c : Int) ≤ 126 := by omega
      have e : sgC c = !decide ((c : Int) = 37) := by
        unfold sgC
        rw [decide_eq_true a1, decide_eq_true a2, Bool.true_and, Bool.true_and]
        congr 1
        (exact decide_eq_decide.mpr (by omega))
      rw [e] at h
      simp [r_is_sign, g_is_sign, raw, startE, arSl, sSeq, sIf, sRet, sRetN, sNo, sSet, sSetN, sExpr, sAsg, dCall, dCallO, aCons, aNil, aOra, dV, hS, hV, dC, d2, see, seeAll, dCB, DL.gCons, DL.gNil, dChain, bD, bAnd, bOr, bNot, dAnd, dOr, dNot, dNeg, dIf, dIsi, bTruth, truD, lCons, lNil, dTup, dLst, isD, gCmp, gAdd, DL.gSub, gIs, gIsNot, gLen, gN, gTupT, gConsT, gNoT, ownL, dSl, oI, oNo, gOrd, gNe, b1, b2, okI, eqI]
      exact ⟨rfl, h⟩
    · have b2 : ¬ (c : Int) ≤ 126 := by omega
      have e : sgC c = false := by
        unfold sgC
        rw [decide_eq_false a2, Bool.and_false, Bool.false_and]
      rw [e] at h
      simp [r_is_sign, g_is_sign, raw, startE, arSl, sSeq, sIf, sRet, sRetN, sNo, sSet, sSetN, sExpr, sAsg, dCall, dCallO, aCons, aNil, aOra, dV, hS, hV, dC, d2, see, seeAll, dCB, DL.gCons, DL.gNil, dChain, bD, bAnd, bOr, bNot, dAnd, dOr, dNot, dNeg, dIf, dIsi, bTruth, truD, lCons, lNil, dTup, dLst, isD, gCmp, gAdd, DL.gSub, gIs, gIsNot, gLen, gN, gTupT, gConsT, gNoT, ownL, dSl, oI, oNo, gOrd, gNe, b1, b2, okI, eqI]
      exact ⟨rfl, h⟩
  · have b1 : ¬ (32 : Int) ≤ (c : Int) := by omega
    have e : sgC c = false := by
      unfold sgC
      rw [decide_eq_false a1, Bool.false_and, Bool.false_and]
    rw [e] at h
    simp [r_is_sign, g_is_sign, raw, startE, arSl, sSeq, sIf, sRet, sRetN, sNo, sSet, sSetN, sExpr, sAsg, dCall, dCallO, aCons, aNil, aOra, dV, hS, hV, dC, d2, see, seeAll, dCB, DL.gCons, DL.gNil, dChain, bD, bAnd, bOr, bNot, dAnd, dOr, dNot, dNeg, dIf, dIsi, bTruth, truD, lCons, lNil, dTup, dLst, isD, gCmp, gAdd, DL.gSub, gIs, gIsNot, gLen, gN, gTupT, gConsT, gNoT, ownL, dSl, oI, oNo, gOrd, gNe, b1, okI, eqI]
    exact ⟨rfl, h⟩
def sgB (d : D) : Bool := match d with
  | .str s => (match s.cps.toList with
    | [c] => sgC c
    | _ => false)
  | _ => false
theorem one_of {s : Str} (h : s.length = 1) : ∃ c, s = ⟨#[c]⟩ := by
  obtain ⟨⟨l⟩⟩ := s
  have h : l.length = 1 := h
  match l, h with
  | [c], _ => exact ⟨c, rfl⟩
theorem sgB_no {s : Str} (h : ¬ s.length = 1) : sgB (.str s) = false := by
  obtain ⟨⟨l⟩⟩ := s
  have h : ¬ l.length = 1 := h
  match l, h with
  | [], _ => rfl
  | [c], h => exact absurd rfl h
  | _ :: _ :: _, _ => rfl
theorem d_cell_sign {n : Nat} (f : Fn n d) (h : P (.bool (sgB d)) 0) : r_is_cell_sign [.d d] m P := by
  cases f with
  | str n s hl hs =>
    have hl : s.length ≤ 1000000 := by omega
    refine ⟨trivial, _, kS _, ?_⟩
    by_cases e : s.length = 1
    · obtain ⟨c, rfl⟩ := one_of e
      refine ⟨trivial, hl, okI _, okI _, ?_⟩
      refine ⟨rfl, rfl, d_is_sign ?_⟩
      exact ⟨hd_d, h⟩
    · rw [sgB_no e] at h
      have e : ((s.length : Int) = 1) = False := by simp; omega
      simp [raw, startE, arSl, sSeq, sIf, sRet, sRetN, sNo, sSet, sSetN, sExpr, sAsg, dCall, dCallO, aCons, aNil, aOra, dV, hS, hV, dC, d2, see, seeAll, dCB, DL.gCons, DL.gNil, dChain, bD, bAnd, bOr, bNot, dAnd, dOr, dNot, dNeg, dIf, dIsi, bTruth, truD, lCons, lNil, dTup, dLst, isD, gCmp, gAdd, DL.gSub, gIs, gIsNot, gLen, gN, gTupT, gConsT, gNoT, ownL, dSl, oI, oNo, gLen, gEq, okI, eqI, hl, e]
      exact h
  | _ => exact ⟨trivial, _, kS _, hd_d, h⟩
theorem bools_map {α : Type} (f : α → Bool) : ∀ l : List α, ofBools (l.map fun x => PyData.bool (f x)) = some (l.map f)
  | [] => rfl
  | x :: l => by
    show (ofBools (l.map fun x => PyData.bool (f x))).map (f x :: ·) = _
    rw [bools_map f l]
    rfl
def chB (d : D) : Bool := match d with
  | .str s => sgC (s.cps.getD 0 0)
  | _ => false
theorem all_signs (s : Str) : (signs s).all chB = s.cps.toList.all sgC := by
  rw [signs_eq, List.all_map]
  rfl
end
theorem lcL_filt {t : TM} {b : BM} {f : DM} {vs : List Nat} {K : List D → DL.Env → Prop} {ρ : DL.Env} (p : D → Bool) (g : D → D) : ∀ (ds acc : List D),
    (∀ d ∈ ds, ∀ (Q : D → DL.Env → Prop) (R : DL.Env → Prop), (p d = true → ∀ ρ3, wipeE ρ3 vs = ρ → Q (g d) ρ3) → (p d = false → ∀ ρ3, wipeE ρ3 vs = ρ → R ρ3) → t d ρ fun ρ1 => b ρ1 fun k ρ2 => if k = true then f ρ2 Q else R ρ2) →
    K (acc ++ (ds.filter p).map g) ρ → lcL t b f vs K ds acc ρ
  | [], acc, _, hk => by
    show K acc ρ
    simpa using hk
  | d :: ds, acc, h, hk => by
    refine h d (List.mem_cons_self ..) (fun y ρ3 => lcL t b f vs K ds (acc ++ [y]) (wipeE ρ3 vs)) (fun ρ3 => lcL t b f vs K ds acc (wipeE ρ3 vs)) (fun hp ρ3 e => ?_) fun hp ρ3 e => ?_
    · show lcL t b f vs K ds (acc ++ [g d]) (wipeE ρ3 vs)
      rw [e]
      refine lcL_filt p g ds (acc ++ [g d]) (fun d' hd => h d' (List.mem_cons_of_mem _ hd)) ?_
      rw [List.filter_cons_of_pos hp] at hk
      simpa using hk
    · show lcL t b f vs K ds acc (wipeE ρ3 vs)
      rw [e]
      refine lcL_filt p g ds acc (fun d' hd => h d' (List.mem_cons_of_mem _ hd)) ?_
      rw [List.filter_cons_of_neg (by rw [hp]; exact Bool.false_ne_true)] at hk
      exact hk
theorem parts_eqv (l : List D) : PyData.eqv (.list l) (.list []) = decide (l = []) := by
  cases l <;> simp [PyData.eqv, PyData.eqvAll]
def scr (r w : Int) : D := .tuple [.int r, .int w]
theorem Fn.items {n : Nat} {ds : List D} (f : Fn n (.tuple ds)) : (∀ d ∈ ds, Fn n d) ∧ ds.length ≤ 1000 := by
  cases f with
  | tup n ds h hl => exact ⟨fun d hd => (h d hd).mono (Nat.le_succ n), hl⟩
structure OkS (r w : Int) : Prop where
  r1 : 1 ≤ r
  r4 : r ≤ 4
  w1 : 1 ≤ w
  w40 : w ≤ 40
theorem OkS.four {r w : Int} (o : OkS r w) : r = 1 ∨ r = 2 ∨ r = 3 ∨ r = 4 := by
  have := o.r1
  have := o.r4
  omega
theorem eqS (a b : Str) : PyData.eqv (.str a) (.str b) = (a == b) := by simp [PyData.eqv]
section
variable {d : D} {m : Nat} {P : D → Nat → Prop} {r w : Int} {n : Nat}
theorem w_in {i a b : Int} (h1 : a ≤ i) (h2 : i ≤ b) : within (.int i) a b = true := by
  show (decide (a ≤ i) && decide (i ≤ b)) = true
  rw [decide_eq_true h1, decide_eq_true h2]
  rfl
theorem d_need_screen (o : OkS r w) (h : P (scr r w) 0) : r_need_screen [.d (scr r w)] m P := by
  refine ⟨rfl, rfl, d_is_tuple ?_⟩
  refine ⟨trivial, _, rfl, rfl, rfl, d_is_within ?_⟩
  rw [w_in o.r1 o.r4]
  refine ⟨trivial, _, rfl, rfl, rfl, d_is_within ?_⟩
  rw [w_in o.w1 o.w40]
  exact ⟨hd_d, h⟩
def allModes : List Str := ["hide", "paint", "roll1", "roll2", "roll3", "roll4"]
def modes (r : Int) : List Str := allModes.take (2 + r).toNat
def loneWs : List Str := ["hide", "paint", "line", "swap", "wipe", "clear", "rub", "tail", "idle"]
def lone (s : Str) : Bool := loneWs.any (· == s)
def codeB (r w : Int) (d : D) : Bool := match d with
  | .tuple [.str s] => lone s
  | .tuple [.str s, x] => (s == ("put" : Str) && sgB x) || (s == ("roll" : Str) && within x 1 r)
  | .tuple [.str s, x, y] => s == ("at" : Str) && (within x 0 (r - 1) && within y 0 (w - 1))
  | _ => false
theorem okS' {s : Str} {n : Nat} (f : Fn n (.str s)) : okD (.str s) := by
  cases f with
  | str n s hl hs => exact (Fn.str 0 s hl hs).ok (by omega)
theorem okW (s : Str) (h : PyData.strOk s = true := by decide +kernel) : okD (.str s) := by
  show SeqAt.shaped _ = true
  unfold SeqAt.shaped
  show (PyData.strOk s && _) = true
  rw [h]
  rfl
def d2tail (s : Str) (x : D) (r : Int) (P : D → Nat → Prop) : Prop := ((s == ("roll" : Str)) = true ∧ P (.bool (within x 1 r)) 0) ∨ ((s == ("roll" : Str)) = false ∧ P (.bool false) 0)
theorem d_code_of (f : Fn n d) (h : P (.bool (codeB r w d)) 0) : r_is_code_of [.d (scr r w), .d d] m P := by
  refine ⟨rfl, rfl, rfl, rfl, d_is_tuple ?_⟩
  cases d with
  | tuple ds =>
    obtain ⟨fi, _⟩ := f.items
    match ds, h, fi with
    | [], h, _ => exact ⟨hd_d, h⟩
    | [a], h, fi =>
      cases a with
      | str s =>
        refine ⟨trivial, _, rfl, _, kS _, ?_⟩
        refine ⟨trivial, _, rfl, ?_⟩
        refine ⟨trivial, okI _, okI _, ?_⟩
        refine ⟨trivial, loneWs, ofStrs_map loneWs, ?_⟩
        exact ⟨hd_d, h⟩
      | _ => exact ⟨trivial, _, rfl, _, kS _, hd_d, h⟩
    | [a, x], h, fi =>
      cases a with
      | str s =>
        have os := okS' (fi (.str s) (by simp))
        refine ⟨trivial, _, rfl, _, kS _, ?_⟩
        refine ⟨trivial, _, rfl, ?_⟩
        refine ⟨trivial, okI _, okI _, ?_⟩
        refine ⟨trivial, okI _, okI _, ?_⟩
        refine ⟨trivial, os, okW _, ?_⟩
        rw [eqS]
        have h : P (.bool ((s == ("put" : Str) && sgB x) || (s == ("roll" : Str) && within x 1 r))) 0 := h
        have last : P (.bool (s == ("roll" : Str) && within x 1 r)) 0 → d2tail s x r P := fun h => by
          by_cases z : (s == ("roll" : Str)) = true
          · rw [z, Bool.true_and] at h
            exact .inl ⟨z, h⟩
          · have z : (s == ("roll" : Str)) = false := by simpa using z
            rw [z, Bool.false_and] at h
            exact .inr ⟨z, h⟩
        by_cases z : (s == ("put" : Str)) = true
        · rw [z, Bool.true_and] at h
          rw [z]
          refine ⟨trivial, _, rfl, rfl, rfl, d_cell_sign (fi x (by simp)) ?_⟩
          by_cases y : sgB x = true
          · rw [y, Bool.true_or] at h
            rw [y]
            exact ⟨hd_d, h⟩
          · have y : sgB x = false := by simpa using y
            rw [y, Bool.false_or] at h
            rw [y]
            refine ⟨trivial, os, okW _, ?_⟩
            rw [eqS]
            rcases last h with ⟨v, h⟩ | ⟨v, h⟩
            · rw [v]
              refine ⟨trivial, _, rfl, rfl, rfl, d_is_within ?_⟩
              exact ⟨hd_d, h⟩
            · rw [v]
              exact ⟨hd_d, h⟩
        · have z : (s == ("put" : Str)) = false := by simpa using z
          rw [z, Bool.false_and, Bool.false_or] at h
          rw [z]
          refine ⟨trivial, os, okW _, ?_⟩
          rw [eqS]
          rcases last h with ⟨v, h⟩ | ⟨v, h⟩
          · rw [v]
            refine ⟨trivial, _, rfl, rfl, rfl, d_is_within ?_⟩
            exact ⟨hd_d, h⟩
          · rw [v]
            exact ⟨hd_d, h⟩
      | _ => exact ⟨trivial, _, rfl, _, kS _, hd_d, h⟩
    | [a, x, y], h, fi =>
      cases a with
      | str s =>
        have os := okS' (fi (.str s) (by simp))
        refine ⟨trivial, _, rfl, _, kS _, ?_⟩
        refine ⟨trivial, _, rfl, ?_⟩
        refine ⟨trivial, okI _, okI _, ?_⟩
        refine ⟨trivial, okI _, okI _, ?_⟩
        refine ⟨trivial, os, okW _, ?_⟩
        rw [eqS]
        have h : P (.bool (s == ("at" : Str) && (within x 0 (r - 1) && within y 0 (w - 1)))) 0 := h
        by_cases z : (s == ("at" : Str)) = true
        · rw [z, Bool.true_and] at h
          rw [z]
          refine ⟨trivial, _, rfl, trivial, ?_⟩
          refine ⟨rfl, rfl, d_is_within ?_⟩
          by_cases v : within x 0 (r - 1) = true
          · rw [v, Bool.true_and] at h
            rw [v]
            refine ⟨trivial, _, rfl, trivial, ?_⟩
            refine ⟨rfl, rfl, d_is_within ?_⟩
            exact ⟨hd_d, h⟩
          · have v : within x 0 (r - 1) = false := by simpa using v
            rw [v, Bool.false_and] at h
            rw [v]
            exact ⟨hd_d, h⟩
        · have z : (s == ("at" : Str)) = false := by simpa using z
          rw [z, Bool.false_and] at h
          rw [z]
          exact ⟨hd_d, h⟩
      | _ => exact ⟨trivial, _, rfl, _, kS _, hd_d, h⟩
    | a :: b :: c :: e :: rest, h, _ =>
      have e1 : tupB (.tuple (a :: b :: c :: e :: rest)) 1 3 = false := by
        show (decide ((1 : Int) ≤ _) && decide (((rest.length + 1 + 1 + 1 + 1 : Nat) : Int) ≤ 3)) = false
        rw [decide_eq_false (show ¬ ((rest.length + 1 + 1 + 1 + 1 : Nat) : Int) ≤ 3 by omega), Bool.and_false]
      rw [e1]
      have e2 : codeB r w (.tuple (a :: b :: c :: e :: rest)) = false := by
        cases a <;> rfl
      rw [e2] at h
      exact ⟨hd_d, h⟩
  | _ => exact ⟨hd_d, h⟩
end
section
variable {m : Nat} {P : D → Nat → Prop}
def Tu (n : Nat) (x : D) : Prop := ∃ ds, x = .tuple ds ∧ 0 < ds.length ∧ ds.length ≤ 10 ∧ ∀ d ∈ ds, Fn n d
theorem fS (s : Str) (hl : s.length ≤ 1000 := by decide +kernel) (hs : PyData.strOk s = true := by decide +kernel) : Fn 0 (.str s) := .str 0 s hl hs
theorem ch_fn {c : Nat} (h : c < 0x110000) : Fn 0 (.str ⟨#[c]⟩) := by
  refine .str 0 _ (by show 1 ≤ 1000; omega) ?_
  show (#[c] : Array Nat).all (· < 0x110000) = true
  simpa using h
end
theorem modes_fn {r w : Int} (o : OkS r w) : (modes r).length = (2 + r).toNat ∧ ∀ s ∈ modes r, Fn 0 (.str s) := by
  have all : ∀ z ∈ allModes, z.length ≤ 1000 ∧ PyData.strOk z = true := by decide +kernel
  refine ⟨?_, fun s hs => ?_⟩
  · rcases o.four with rfl | rfl | rfl | rfl <;> rfl
  · have := all s (List.mem_of_mem_take hs)
    exact fS s this.1 this.2
section
variable {m : Nat} {P : D → Nat → Prop}
theorem cut_mem {x : D} {xs : List D} {lo hi : Option Int} (h : x ∈ cutD xs lo hi) : x ∈ xs := List.mem_of_mem_drop (List.mem_of_mem_take h)
theorem cut_len (xs : List D) (lo hi : Option Int) : (cutD xs lo hi).length ≤ xs.length := by
  unfold cutD
  (rw [List.length_take, List.length_drop])
  omega
theorem Tu.mono {n k : Nat} {x : D} (t : Tu n x) (h : n ≤ k) : Tu k x := by
  obtain ⟨ds, e, l1, l2, f⟩ := t
  exact ⟨ds, e, l1, l2, fun d hd => (f d hd).mono h⟩
end
end Q23
namespace Q23
open PySem L2 DL
def S (l : List Nat) : Str := ⟨l.toArray⟩
theorem S_len (l : List Nat) : (S l).length = l.length := by
  show l.toArray.size = _
  simp
theorem S_list (l : List Nat) : (S l).cps.toList = l := by
  show l.toArray.toList = l
  simp
theorem S_inj {a b : List Nat} (h : S a = S b) : a = b := by
  have := congrArg (fun s : Str => s.cps.toList) h
  simpa [S_list] using this
theorem S_app (a b : List Nat) : S a ++ S b = S (a ++ b) := by
  show (⟨a.toArray ++ b.toArray⟩ : Str) = ⟨(a ++ b).toArray⟩
  simp
theorem S_eqb (a b : List Nat) : (S a == S b) = decide (a = b) := by
  by_cases h : a = b
  · subst h
    simp
  · rw [decide_eq_false h]
    exact beq_eq_false_iff_ne.mpr fun z => h (S_inj z)
def sp (c : Nat) : Bool := decide (c = 32)
theorem sp_eq : ((" " : Str).cps.contains : Nat → Bool) = sp := by
  have e : (" " : Str).cps = #[32] := by decide +kernel
  funext c
  rw [e]
  unfold sp
  by_cases h : c = 32
  · subst h
    decide +kernel
  · rw [decide_eq_false h]
    simp [Array.contains]
    omega
def rs (l : List Nat) : List Nat := (l.reverse.dropWhile sp).reverse
theorem dw (p : Nat → Bool) : ∀ l : List Nat, l.dropWhile p = l.drop (l.takeWhile p).length
  | [] => rfl
  | a :: l => by
    by_cases h : p a = true
    · rw [List.dropWhile_cons_of_pos h, List.takeWhile_cons_of_pos h, List.length_cons, List.drop_succ_cons]
      exact dw p l
    · rw [List.dropWhile_cons_of_neg h, List.takeWhile_cons_of_neg h]
      rfl
theorem rs_take (l : List Nat) : rs l = l.take (l.length - (l.reverse.takeWhile sp).length) := by
  unfold rs
  rw [dw, List.drop_reverse, List.reverse_reverse]
theorem strip_eq (l : List Nat) : Txt.stripChars (S l) (" " : Str) = S (rs (l.dropWhile sp)) := by
  unfold Txt.stripChars
  rw [sp_eq, PyProof.Rows.stripBy_eq, rs_take, dw]
  show (⟨(S l).cps.extract ((S l).cps.toList.takeWhile sp).length ((S l).length - (((S l).cps.toList.drop ((S l).cps.toList.takeWhile sp).length).reverse.takeWhile sp).length)⟩ : Str) = _
  rw [S_list, S_len]
  show (⟨l.toArray.extract _ _⟩ : Str) = ⟨_⟩
  congr 1
  apply Array.ext'
  simp only [Array.toList_extract, List.extract]
  rw [List.length_drop]
  congr 1
  omega
theorem rs_split (l : List Nat) : ∃ k, l = rs l ++ List.replicate k 32 ∧ (rs l).getLast? ≠ some 32 := by
  have gen : ∀ m : List Nat, ∃ k, m = List.replicate k 32 ++ m.dropWhile sp ∧ (m.dropWhile sp).head? ≠ some 32 := by
    intro m
    induction m with
    | nil => exact ⟨0, rfl, by simp⟩
    | cons c m ih =>
      by_cases z : sp c = true
      · obtain ⟨k, h1, h2⟩ := ih
        have e : c = 32 := of_decide_eq_true z
        rw [List.dropWhile_cons_of_pos z]
        refine ⟨k + 1, ?_, h2⟩
        rw [List.replicate_succ, List.cons_append, ← h1, e]
      · rw [List.dropWhile_cons_of_neg z]
        refine ⟨0, rfl, fun e => z ?_⟩
        have e : c = 32 := by simpa using e
        rw [e]
        decide
  obtain ⟨k, h1, h2⟩ := gen l.reverse
  refine ⟨k, ?_, ?_⟩
  · have := congrArg List.reverse h1
    rw [List.reverse_reverse, List.reverse_append, List.reverse_replicate] at this
    exact this
  · unfold rs
    rw [List.getLast?_reverse]
    exact h2
theorem rs_mem {l : List Nat} {c : Nat} (h : c ∈ rs l) : c ∈ l := by
  rw [rs_take] at h
  exact List.mem_of_mem_take h
theorem rs_len (l : List Nat) : (rs l).length ≤ l.length := by
  rw [rs_take, List.length_take]
  omega
theorem rs_head {l : List Nat} (h : rs l ≠ []) : (rs l).head? = l.head? := by
  obtain ⟨k, e, _⟩ := rs_split l
  cases hr : rs l with
  | nil => exact absurd hr h
  | cons a t =>
    rw [hr] at e
    rw [e]
    rfl
theorem dw_head (l : List Nat) : (l.dropWhile sp).head? ≠ some 32 := by
  induction l with
  | nil => simp
  | cons c m ih =>
    by_cases z : sp c = true
    · rw [List.dropWhile_cons_of_pos z]
      exact ih
    · rw [List.dropWhile_cons_of_neg z]
      intro e
      have e : c = 32 := by simpa using e
      rw [e] at z
      exact z (by decide)
theorem S_join : ∀ rows : List (List Nat), Str.join ("" : Str) (rows.map S) = S rows.flatten
  | [] => by decide +kernel
  | [l] => by
    show S l = _
    simp
  | l :: m :: r => by
    show S l ++ ("" : Str) ++ Str.join ("" : Str) ((m :: r).map S) = _
    rw [S_join (m :: r)]
    have e : ("" : Str) = S [] := by decide +kernel
    rw [e, S_app, S_app]
    simp
theorem T_join (rows : List (List Nat)) : Txt.join ("" : Str) (rows.map S) = S rows.flatten := by
  unfold Txt.join
  rw [StrLaws.glued_eq_join, S_join]
theorem flat1 (cs : List Nat) : (cs.map fun c => [c]).flatten = cs := by
  induction cs with
  | nil => rfl
  | cons c cs ih =>
    rw [List.map_cons, List.flatten_cons, ih]
    rfl
theorem T_joinC (cs : List Nat) : Txt.join ("" : Str) (cs.map fun c => (⟨#[c]⟩ : Str)) = S cs := by
  have e : (cs.map fun c => (⟨#[c]⟩ : Str)) = (cs.map fun c => [c]).map S := by
    rw [List.map_map]
    rfl
  rw [e, T_join, flat1]
theorem sum_len : ∀ rows : List (List Nat), ((rows.map S).map (·.length)).sum = rows.flatten.length
  | [] => rfl
  | l :: r => by
    simp only [List.map_cons, List.sum_cons, List.flatten_cons, List.length_append]
    rw [sum_len r, S_len]
theorem signs_S (l : List Nat) : signs (S l) = l.map fun c => PyData.str ⟨#[c]⟩ := by
  rw [signs_eq, S_list]
theorem mul_S (n : Int) : mulT (" " : Str) n = S (List.replicate n.toNat 32) := by
  have e : (" " : Str).cps.toList = [32] := by decide +kernel
  unfold mulT
  rw [e]
  show (⟨_⟩ : Str) = ⟨_⟩
  congr 2
  induction n.toNat with
  | zero => rfl
  | succ k ih => rw [List.replicate_succ, List.replicate_succ, List.flatten_cons, ih]; rfl
end Q23
namespace Q23
open PySem L2 DL
def chD (c : Nat) : D := .str ⟨#[c]⟩
def Row (w : Int) (l : List Nat) : Prop := l.length = w.toNat ∧ ∀ c ∈ l, sgC c = true
def rowL (l : List Nat) : D := .list (l.map chD)
structure Mem (r w : Int) (rows : List (List Nat)) : Prop where
  n : rows.length = r.toNat
  a : ∀ l ∈ rows, Row w l
theorem ch_sg {i : Int} (h0 : 0 ≤ i) (h1 : i < 4) : ∃ c, atI ("ab x" : Str).cps.toList i = some c ∧ sgC c = true := by
  have : i = 0 ∨ i = 1 ∨ i = 2 ∨ i = 3 := by omega
  rcases this with rfl | rfl | rfl | rfl
  · exact ⟨97, by decide +kernel, by decide⟩
  · exact ⟨98, by decide +kernel, by decide⟩
  · exact ⟨32, by decide +kernel, by decide⟩
  · exact ⟨120, by decide +kernel, by decide⟩
section
variable {E : DE} {r w : Int} {a : Sl} {b d : Sl}
def memL (rows : List (List Nat)) : D := .list (rows.map rowL)
end
def memD (rows : List (List Nat)) : D := .tuple (rows.map fun l => .str (S l))
theorem strs_ch : ∀ l : List Nat, ofStrs (l.map chD) = some (l.map fun c => (⟨#[c]⟩ : Str))
  | [] => rfl
  | c :: l => by
    show (ofStrs (l.map chD)).map (_ :: ·) = _
    rw [strs_ch l]
    rfl
theorem sum_ch (l : List Nat) : ((l.map fun c => (⟨#[c]⟩ : Str)).map (·.length)).sum = l.length := by
  induction l with
  | nil => rfl
  | cons c l ih =>
    (simp only [List.map_cons, List.sum_cons, List.length_cons])
    rw [ih]
    show 1 + l.length = _
    omega
def jnR (x : D) : D := match x with
  | .list cs => .str (Txt.join ("" : Str) ((ofStrs cs).getD []))
  | _ => x
theorem jn_row (l : List Nat) : jnR (rowL l) = .str (S l) := by
  show PyData.str (Txt.join ("" : Str) ((ofStrs (l.map chD)).getD [])) = _
  rw [strs_ch]
  show PyData.str (Txt.join ("" : Str) (l.map fun c => (⟨#[c]⟩ : Str))) = _
  rw [T_joinC]
def jmM (x : D) : D := match x with
  | .list rows => .tuple (rows.map jnR)
  | _ => x
theorem jm_mem (rows : List (List Nat)) : jmM (memL rows) = memD rows := by
  show PyData.tuple ((rows.map rowL).map jnR) = _
  rw [List.map_map]
  show _ = PyData.tuple _
  congr 1
  exact List.map_congr_left fun l _ => jn_row l
theorem d_told {m : Nat} {P : D → Nat → Prop} {r w : Int} {s : Str} {i j : Int} {a b : List (List Nat)} (o : OkS r w) (ha : Mem r w a) (hb : Mem r w b) (h : P (.tuple [.str s, .int i, .int j, memD a, memD b]) 0) : r__law_told [.d (.tuple [.str s, .int i, .int j, memL a, memL b])] m P := by
  have r4 := o.r4
  have w40 := o.w40
  have w1 := o.w1
  refine ⟨trivial, by show 2 ≤ 1000000; omega, ⟨by simp, fun j hj => by simp at hj; subst hj; rfl⟩, ?_⟩
  refine lcL_map (ρ := [.im (.tuple [.str s, .int i, .int j, memL a, memL b]), .no, .no, .no]) jmM [memL a, memL b] [] ?_ ?_
  · intro d hd Q hQ
    obtain ⟨rows, rfl, hm⟩ : ∃ rows, d = memL rows ∧ Mem r w rows := by
      simp at hd
      rcases hd with rfl | rfl
      · exact ⟨a, rfl, ha⟩
      · exact ⟨b, rfl, hb⟩
    have hn := hm.n
    refine ⟨by show (rows.map rowL).length ≤ 1000000; rw [List.length_map]; omega, ⟨by simp, fun j hj => by simp at hj; subst hj; rfl⟩, ?_⟩
    refine lcL_map (ρ := [.im (.tuple [.str s, .int i, .int j, memL a, memL b]), .no, .im (memL rows), .no]) jnR (rows.map rowL) [] ?_ ?_
    · intro y hy Q' hQ'
      obtain ⟨l, hl, rfl⟩ := List.mem_map.mp hy
      have row := hm.a l hl
      have ll := row.1
      refine ⟨⟨_, rfl⟩, _, l.map chD, _, rfl, .inl rfl, strs_ch l, ?_, ?_⟩
      · rw [sum_ch]
        have h0 : ("" : Str).length = 0 := by decide +kernel
        rw [h0]
        omega
      · have e : PyData.str (Txt.join ("" : Str) (l.map fun c => (⟨#[c]⟩ : Str))) = jnR (rowL l) := by rw [T_joinC, jn_row]
        rw [e]
        exact hQ' _ rfl
    · rw [List.nil_append]
      exact hQ _ rfl
  · rw [List.nil_append]
    show _ ∧ _
    refine ⟨trivial, trivial, _, rfl, trivial, _, rfl, by show 2 ≤ 1000000; omega, by show 3 + 2 ≤ 1000000; omega, ?_⟩
    have e : PyData.tuple ([.str s, .int i, .int j] ++ [jmM (memL a), jmM (memL b)]) = .tuple [.str s, .int i, .int j, memD a, memD b] := by rw [jm_mem, jm_mem]; rfl
    have h : P (PyData.tuple ([.str s, .int i, .int j] ++ [jmM (memL a), jmM (memL b)])) 0 := by rw [e]; exact h
    exact ⟨hd_d, h⟩
end Q23
namespace Q23
open PySem L2 DL
def lineD (l : List Nat) : D := .str (S l)
def textD (ls : List (List Nat)) : D := .tuple (ls.map lineD)
theorem sg_lt {c : Nat} (h : sgC c = true) : c < 0x110000 ∧ 32 ≤ c ∧ c ≤ 126 ∧ c ≠ 37 := by
  unfold sgC at h
  simp at h
  omega
theorem ok_S {l : List Nat} (h : ∀ c ∈ l, sgC c = true) : PyData.strOk (S l) = true := by
  show l.toArray.all (· < 0x110000) = true
  (rw [← Array.all_toList, List.all_eq_true])
  intro c hc
  have hc : c ∈ l := by simpa using hc
  exact decide_eq_true (sg_lt (h c hc)).1
theorem okD_S {l : List Nat} (h : ∀ c ∈ l, sgC c = true) : okD (.str (S l)) := okW _ (ok_S h)
theorem S_nil : ("" : Str) = S [] := by decide +kernel
theorem fnL {l : List Nat} (hl : l.length ≤ 1000) (h : ∀ c ∈ l, sgC c = true) : Fn 0 (lineD l) := .str 0 _ (by rw [S_len]; exact hl) (ok_S h)
theorem all_sg {l : List Nat} (h : ∀ c ∈ l, sgC c = true) : l.all sgC = true := List.all_eq_true.mpr h
section
variable {m : Nat} {P : D → Nat → Prop} {r w : Int}
theorem mem_fn {rows : List (List Nat)} (o : OkS r w) (h : Mem r w rows) : Fn 1 (textD rows) := by
  have r4 := o.r4
  have w40 := o.w40
  have hn := h.n
  refine .tup 0 _ (fun d hd => ?_) (by rw [List.length_map]; omega)
  obtain ⟨l, ml, rfl⟩ := List.mem_map.mp hd
  have := (h.a l ml).1
  exact fnL (by omega) (h.a l ml).2
end
section
variable {E : DE} {ρ : DL.Env} {i : Nat} {a b : Str} {G R : SM} {t : BM}
theorem if_no (hi : ρ[i]? = some (.im (.str a))) (ha : okD (.str a)) (hb : okD (.str b)) (hn : (a == b) = false) (h : R E ρ) : sSeq (sIf (bD (d2 gEq (hS i) (hV (dC (.str b))))) G sNo) R E ρ := by
  show (match ρ[i]? with
    | some (.im _) => True
    | some (.ow _) => True
    | _ => False) ∧ see ρ (.slot i) fun dx => _
  have e : ∀ k : D → Prop, k (.str a) → see ρ (.slot i) k := fun k q => by
    show (match ρ[i]? with
      | some (.im d) => k d
      | some (.ow d) => k d
      | _ => False)
    rw [hi]
    exact q
  refine ⟨by rw [hi]; trivial, e _ ⟨ha, hb, ?_⟩⟩
  rw [eqS, hn]
  exact h
theorem if_yes (hi : ρ[i]? = some (.im (.str a))) (ha : okD (.str a)) (hb : okD (.str b)) (hn : (a == b) = true) (h : G { E with nx := R E } ρ) : sSeq (sIf (bD (d2 gEq (hS i) (hV (dC (.str b))))) G sNo) R E ρ := by
  show (match ρ[i]? with
    | some (.im _) => True
    | some (.ow _) => True
    | _ => False) ∧ see ρ (.slot i) fun dx => _
  have e : ∀ k : D → Prop, k (.str a) → see ρ (.slot i) k := fun k q => by
    show (match ρ[i]? with
      | some (.im d) => k d
      | some (.ow d) => k d
      | _ => False)
    rw [hi]
    exact q
  refine ⟨by rw [hi]; trivial, e _ ⟨ha, hb, ?_⟩⟩
  rw [eqS, hn]
  exact h
theorem if_noA (hi : ρ[i]? = some (.im (.str a))) (ha : okD (.str a)) (hb : okD (.str b)) (hn : (a == b) = false) (h : R E ρ) : sSeq (sIf (bAnd (bD (d2 gEq (hS i) (hV (dC (.str b))))) t) G sNo) R E ρ := by
  show (match ρ[i]? with
    | some (.im _) => True
    | some (.ow _) => True
    | _ => False) ∧ see ρ (.slot i) fun dx => _
  have e : ∀ k : D → Prop, k (.str a) → see ρ (.slot i) k := fun k q => by
    show (match ρ[i]? with
      | some (.im d) => k d
      | some (.ow d) => k d
      | _ => False)
    rw [hi]
    exact q
  refine ⟨by rw [hi]; trivial, e _ ⟨ha, hb, ?_⟩⟩
  rw [eqS, hn]
  exact h
theorem sl_see (hi : ρ[i]? = some (.im (.str a))) (k : D → Prop) (q : k (.str a)) : see ρ (.slot i) k := by
  show (match ρ[i]? with
    | some (.im d) => k d
    | some (.ow d) => k d
    | _ => False)
  rw [hi]
  exact q
abbrev inT (i : Nat) : BM := bD (d2 gInU (hS i) (hV (dTup (lCons (dC (.str ("hide" : Str))) (lCons (dC (.str ("paint" : Str))) (lNil))))))
theorem if_noU (hi : ρ[i]? = some (.im (.str a))) (hn : (["hide", "paint"] : List Str).any (fun z => z == a) = false) (h : R E ρ) : sSeq (sIf (inT i) G sNo) R E ρ := by
  show (match ρ[i]? with
    | some (.im _) => True
    | some (.ow _) => True
    | _ => False) ∧ _ ∧ see ρ (.slot i) fun dx => _
  refine ⟨by rw [hi]; trivial, by show 2 ≤ 1000000; omega, sl_see hi _ ⟨["hide", "paint"], rfl, ?_⟩⟩
  rw [hn]
  exact h
theorem if_yesU (hi : ρ[i]? = some (.im (.str a))) (hn : (["hide", "paint"] : List Str).any (fun z => z == a) = true) (h : G { E with nx := R E } ρ) : sSeq (sIf (inT i) G sNo) R E ρ := by
  show (match ρ[i]? with
    | some (.im _) => True
    | some (.ow _) => True
    | _ => False) ∧ _ ∧ see ρ (.slot i) fun dx => _
  refine ⟨by rw [hi]; trivial, by show 2 ≤ 1000000; omega, sl_see hi _ ⟨["hide", "paint"], rfl, ?_⟩⟩
  rw [hn]
  exact h
end
def cellsD (cs : List Nat) : D := .tuple (cs.map chD)
def ctlD (s : Str) (i j : Int) : D := .tuple [.str s, .int i, .int j]
theorem cut_take (xs : List D) (p : Nat) : cutD xs none (some (p : Int)) = xs.take p := by
  unfold cutD
  rw [HT.sIx_none, HT.sIx_nat, List.drop_zero, Nat.sub_zero]
  by_cases h : p ≤ xs.length
  · rw [Nat.min_eq_left h]
  · (rw [Nat.min_eq_right (by omega), List.take_of_length_le (Nat.le_refl _), List.take_of_length_le (by omega)])
theorem cut_drop (xs : List D) (p : Nat) : cutD xs (some (p : Int)) none = xs.drop p := by
  unfold cutD
  rw [HT.sIx_none, HT.sIx_nat]
  by_cases h : p ≤ xs.length
  · rw [Nat.min_eq_left h, List.take_of_length_le (by rw [List.length_drop]; exact Nat.le_refl _)]
  · (rw [Nat.min_eq_right (by omega), List.drop_of_length_le (Nat.le_refl _), List.drop_of_length_le (by omega)])
    simp
section
variable {m : Nat} {P : D → Nat → Prop}
theorem d_with_cells {A B C O : List D} {p : Int} (hp : p = (A.length : Int)) (hb : O.length = B.length) (hl : (A ++ (B ++ C)).length ≤ 100000) (h : P (.tuple (A ++ (O ++ C))) 0) : r_with_cells [.d (.tuple (A ++ (B ++ C))), .d (.int p), .d (.tuple O)] m P := by
  subst hp
  have e1 : cutD (A ++ (B ++ C)) none (some (A.length : Int)) = A := by rw [cut_take, List.take_left]
  have e2 : cutD (A ++ (B ++ C)) (some ((A.length : Int) + (O.length : Int))) none = C := by
    have : ((A.length : Int) + (O.length : Int)) = ((A.length + B.length : Nat) : Int) := by omega
    rw [this, cut_drop, ← List.append_assoc, ← List.length_append, List.drop_left]
  simp only [List.length_append] at hl
  refine ⟨trivial, trivial, ?_⟩
  show (cutD (A ++ (B ++ C)) none (some (A.length : Int))).length + O.length ≤ 1000000 ∧ _
  rw [e1]
  refine ⟨by omega, trivial, trivial, trivial, ?_⟩
  show (A ++ O).length + (cutD (A ++ (B ++ C)) (some ((A.length : Int) + (O.length : Int))) none).length ≤ 1000000 ∧ _
  rw [e2]
  refine ⟨by rw [List.length_append]; omega, hd_d, ?_⟩
  rw [← List.append_assoc] at h
  exact h
end
inductive Co
  | put (c : Nat) | at (i j : Nat) | roll (k : Nat) | lone (w : Str)
def rollS (k : Nat) : Str := if k = 1 then "roll1" else if k = 2 then "roll2" else if k = 3 then "roll3" else "roll4"
def rollN (s : Str) : Nat := if s = "roll1" then 1 else if s = "roll2" then 2 else if s = "roll3" then 3 else if s = "roll4" then 4 else 0
def coD : Co → D
  | .put c => .tuple [.str ("put" : Str), .str ⟨#[c]⟩]
  | .at i j => .tuple [.str ("at" : Str), .int (i : Int), .int (j : Int)]
  | .roll k => .tuple [.str ("roll" : Str), .int (k : Int)]
  | .lone w => .tuple [.str w]
def ctlF (R W : Nat) (s : Str) (i j : Nat) : Co → Str × Nat × Nat
  | .put _ => (s, i, min (j + 1) (W - 1))
  | .at a b => (s, a, b)
  | .roll k => (rollS k, R - 1, 0)
  | .lone w => if w = "hide" ∨ w = "paint" then (w, i, j) else if w = "line" then (if 0 < rollN s then (s, R - 1, 0) else (s, min (i + 1) (R - 1), 0)) else if w = "swap" then ("hide", i, j) else if w = "rub" then (s, i, j - 1) else (s, i, j)
def inRow (s : Str) (f : List Nat → List Nat) (i : Nat) (A B : List (List Nat)) : List (List Nat) × List (List Nat) :=
  if s = "hide" then (A, B.set i (f (B.getD i []))) else (A.set i (f (A.getD i [])), B)
def blRow (W : Nat) : List Nat := List.replicate W 32
def memF (R W : Nat) (s : Str) (i j : Nat) (A B : List (List Nat)) : Co → List (List Nat) × List (List Nat)
  | .put c => inRow s (fun l => l.set j c) i A B
  | .at _ _ => (A, B)
  | .roll _ => (A, B)
  | .lone w => if w = "rub" then (if 0 < j then inRow s (fun l => l.set (j - 1) 32) i A B else (A, B))
    else if w = "tail" then inRow s (fun l => l.take j ++ List.replicate (l.length - j) 32) i A B
    else if w = "line" then (if 0 < rollN s then (A.take (R - rollN s) ++ A.drop (R - rollN s + 1) ++ [blRow W], B) else (A, B))
    else if w = "swap" then (B, A) else if w = "wipe" then (List.replicate R (blRow W), B) else if w = "clear" then (A, List.replicate R (blRow W)) else (A, B)
structure OkC (R W : Nat) (c : Co) : Prop where
  ok : match c with
    | .put c => sgC c = true
    | .at i j => i < R ∧ j < W
    | .roll k => 1 ≤ k ∧ k ≤ R
    | .lone w => w ∈ loneWs
theorem flat_len {W : Nat} : ∀ ms : List (List Nat), (∀ l ∈ ms, l.length = W) → ms.flatten.length = ms.length * W
  | [], _ => by simp
  | a :: ms, q => by
    rw [List.flatten_cons, List.length_append, q a (List.mem_cons_self ..), flat_len ms fun l hl => q l (List.mem_cons_of_mem _ hl), List.length_cons, Nat.succ_mul, Nat.add_comm]
theorem flat_take {W : Nat} : ∀ (ms : List (List Nat)) (k : Nat), (∀ l ∈ ms, l.length = W) → k ≤ ms.length → ms.flatten.take (k * W) = (ms.take k).flatten
  | ms, 0, _, _ => by simp
  | [], k + 1, _, h => by simp at h
  | a :: ms, k + 1, q, h => by
    have e := q a (List.mem_cons_self ..)
    rw [List.flatten_cons, List.take_succ_cons, List.flatten_cons, Nat.succ_mul, Nat.add_comm, ← e, List.take_length_add_append, e, flat_take ms k (fun l hl => q l (List.mem_cons_of_mem _ hl)) (by simpa using h)]
theorem flat_drop {W : Nat} : ∀ (ms : List (List Nat)) (k : Nat), (∀ l ∈ ms, l.length = W) → k ≤ ms.length → ms.flatten.drop (k * W) = (ms.drop k).flatten
  | ms, 0, _, _ => by simp
  | [], k + 1, _, h => by simp at h
  | a :: ms, k + 1, q, h => by
    have e := q a (List.mem_cons_self ..)
    rw [List.flatten_cons, List.drop_succ_cons, Nat.succ_mul, Nat.add_comm, ← e, List.drop_length_add_append, e, flat_drop ms k (fun l hl => q l (List.mem_cons_of_mem _ hl)) (by simpa using h)]
theorem flat_split {X : List (List Nat)} {q : Nat} (hq : q < X.length) : X.flatten = (X.take q).flatten ++ (X.getD q [] ++ (X.drop (q + 1)).flatten) := by
  have e : X = X.take q ++ X.getD q [] :: X.drop (q + 1) := by
    rw [List.getD_eq_getElem?_getD, List.getElem?_eq_getElem hq]
    show X = X.take q ++ X[q] :: X.drop (q + 1)
    rw [← List.drop_eq_getElem_cons hq, List.take_append_drop]
  conv => lhs; rw [e]
  rw [List.flatten_append, List.flatten_cons]
theorem flat_set {X : List (List Nat)} {q : Nat} {r : List Nat} (hq : q < X.length) : (X.set q r).flatten = (X.take q).flatten ++ (r ++ (X.drop (q + 1)).flatten) := by
  rw [List.set_eq_take_append_cons_drop, if_pos hq, List.flatten_append, List.flatten_cons]
section
variable {m : Nat} {P : D → Nat → Prop} {R W : Nat}
theorem cells_app (A B C : List Nat) : cellsD (A ++ (B ++ C)) = .tuple (A.map chD ++ (B.map chD ++ C.map chD)) := by
  unfold cellsD
  rw [List.map_append, List.map_append]
/-- a stretch within a row -/
theorem d_splice {X : List (List Nat)} {q j : Nat} {O : List Nat} {p : Int} (hX : ∀ l ∈ X, l.length = W) (hq : q < X.length) (hj : j + O.length ≤ W) (hp : p = (q : Int) * W + j) (hl : X.length * W ≤ 100000) (h : P (cellsD (X.set q ((X.getD q []).take j ++ (O ++ (X.getD q []).drop (j + O.length)))).flatten) 0) :
    r_with_cells [.d (cellsD X.flatten), .d (.int p), .d (.tuple (O.map chD))] m P := by
  have gm : X.getD q [] ∈ X := by
    rw [List.getD_eq_getElem?_getD, List.getElem?_eq_getElem hq]
    exact List.getElem_mem hq
  have gl := hX _ gm
  have e1 : X.flatten = ((X.take q).flatten ++ (X.getD q []).take j) ++ (((X.getD q []).drop j).take O.length ++ ((X.getD q []).drop (j + O.length) ++ (X.drop (q + 1)).flatten)) := by
    rw [flat_split hq]
    conv => lhs; rw [← List.take_append_drop j (X.getD q [])]
    conv => lhs; rw [← List.take_append_drop O.length ((X.getD q []).drop j)]
    rw [List.drop_drop]
    simp
  have e2 : (X.set q ((X.getD q []).take j ++ (O ++ (X.getD q []).drop (j + O.length)))).flatten = ((X.take q).flatten ++ (X.getD q []).take j) ++ (O ++ ((X.getD q []).drop (j + O.length) ++ (X.drop (q + 1)).flatten)) := by
    rw [flat_set hq]
    simp
  have l1 : ((X.take q).flatten ++ (X.getD q []).take j).length = q * W + j := by
    rw [List.length_append, flat_len _ (fun l hl => hX l (List.mem_of_mem_take hl)), List.length_take, List.length_take, gl]
    have : min q X.length = q := by omega
    rw [this]
    omega
  have l2 : X.flatten.length = X.length * W := flat_len X hX
  have l3 : (((X.getD q []).drop j).take O.length).length = O.length := by
    rw [List.length_take, List.length_drop, gl]
    omega
  rw [e2] at h
  rw [e1] at l2
  rw [e1, cells_app]
  refine d_with_cells ?_ (by rw [List.length_map, List.length_map, l3]) (by rw [← List.map_append, ← List.map_append, List.length_map, l2]; omega) ?_
  · rw [List.length_map, l1, hp]
    push_cast
    rfl
  · rw [cells_app] at h
    exact h
theorem d_head {A B O : List Nat} (hO : O.length = A.length) (hl : (A ++ B).length ≤ 100000) (h : P (cellsD (O ++ B)) 0) : r_with_cells [.d (cellsD (A ++ B)), .d (.int 0), .d (.tuple (O.map chD))] m P := by
  have e1 : cellsD (A ++ B) = .tuple ([] ++ (A.map chD ++ B.map chD)) := cells_app [] A B
  have e2 : cellsD (O ++ B) = .tuple ([] ++ (O.map chD ++ B.map chD)) := cells_app [] O B
  rw [e1]
  rw [e2] at h
  exact d_with_cells rfl (by rw [List.length_map, List.length_map, hO]) (by rw [← List.map_append]; simpa using hl) h
theorem d_tail {A B O : List Nat} {p : Int} (hp : p = (A.length : Int)) (hO : O.length = B.length) (hl : (A ++ B).length ≤ 100000) (h : P (cellsD (A ++ O)) 0) : r_with_cells [.d (cellsD (A ++ B)), .d (.int p), .d (.tuple (O.map chD))] m P := by
  have e1 : cellsD (A ++ B) = .tuple (A.map chD ++ (B.map chD ++ [])) := by
    have := cells_app A B []
    simpa using this
  have e2 : cellsD (A ++ O) = .tuple (A.map chD ++ (O.map chD ++ [])) := by
    have := cells_app A O []
    simpa using this
  rw [e1]
  rw [e2] at h
  refine d_with_cells (by rw [List.length_map]; exact hp) (by rw [List.length_map, List.length_map, hO]) (by simpa using hl) h
end
end Q23
namespace Q23
open PySem L2 DL
def cnRest : SM := sSeq (sIf (bD (d2 gEq (hS 3) (hV (dC (.str ("put" : Str)))))) (sRet (dTup (lCons (dV 6) (lCons (dV 7) (lCons (dCB gMin (DL.gCons (hV (d2 gAdd (hS 8) (hV (dC (.int 1))))) (DL.gCons (hV (d2 DL.gSub (hS 5) (hV (dC (.int 1))))) (DL.gNil)))) (lNil)))))) (sNo)) (sSeq (sIf (bD (d2 gEq (hS 3) (hV (dC (.str ("at" : Str)))))) (sRet (dTup (lCons (dV 6) (lCons (d2 gIx (hS 2) (hV (dC (.int 1)))) (lCons (d2 gIx (hS 2) (hV (dC (.int 2)))) (lNil)))))) (sNo)) (sSeq (sIf (bD (d2 gInU (hS 3) (hV (dTup (lCons (dC (.str ("hide" : Str))) (lCons (dC (.str ("paint" : Str))) (lNil))))))) (sRet (dTup (lCons (dV 3) (lCons (dV 7) (lCons (dV 8) (lNil)))))) (sNo)) (sSeq (sIf (bD (d2 gEq (hS 3) (hV (dC (.str ("roll" : Str)))))) (sRet (dTup (lCons (dJs [dFmt (dC (.str ("roll" : Str))), dFmt (d2 gIx (hS 2) (hV (dC (.int 1))))] "") (lCons (d2 DL.gSub (hS 4) (hV (dC (.int 1)))) (lCons (dC (.int 0)) (lNil)))))) (sNo)) (sSeq (sIf (bD (d2 gEq (hS 3) (hV (dC (.str ("line" : Str)))))) (sSeq (sIf (bD (d2 gGt (hV (dCall 1 r_rolling_rows (aCons (dV 6) (aNil)))) (hV (dC (.int 0))))) (sRet (dTup (lCons (dV 6) (lCons (d2 DL.gSub (hS 4) (hV (dC (.int 1)))) (lCons (dC (.int 0)) (lNil)))))) (sNo)) (sRet (dTup (lCons (dV 6) (lCons (dCB gMin (DL.gCons (hV (d2 gAdd (hS 7) (hV (dC (.int 1))))) (DL.gCons (hV (d2 DL.gSub (hS 4) (hV (dC (.int 1))))) (DL.gNil)))) (lCons (dC (.int 0)) (lNil))))))) (sNo)) (sSeq (sIf (bD (d2 gEq (hS 3) (hV (dC (.str ("swap" : Str)))))) (sRet (dTup (lCons (dC (.str ("hide" : Str))) (lCons (dV 7) (lCons (dV 8) (lNil)))))) (sNo)) (sSeq (sIf (bD (d2 gEq (hS 3) (hV (dC (.str ("rub" : Str)))))) (sRet (dTup (lCons (dV 6) (lCons (dV 7) (lCons (dCB gMax (DL.gCons (hV (d2 DL.gSub (hS 8) (hV (dC (.int 1))))) (DL.gCons (hV (dC (.int 0))) (DL.gNil)))) (lNil)))))) (sNo)) (sRet (dV 1))))))))
def cbRest : SM := sSeq (sIf (bD (d2 gEq (hS 5) (hV (dC (.str ("put" : Str)))))) (sRet (dCall 3 r_with_cells (aCons (dV 2) (aCons (dV 6) (aCons (dTup (lCons (d2 gIx (hS 3) (hV (dC (.int 1)))) (lNil))) (aNil)))))) (sNo)) (sSeq (sIf (bAnd (bD (d2 gEq (hS 5) (hV (dC (.str ("rub" : Str)))))) (bD (d2 gGt (hS 11) (hV (dC (.int 0)))))) (sRet (dCall 3 r_with_cells (aCons (dV 2) (aCons (d2 DL.gSub (hS 6) (hV (dC (.int 1)))) (aCons (dTup (lCons (dC (.str (" " : Str))) (lNil))) (aNil)))))) (sNo)) (sSeq (sIf (bD (d2 gEq (hS 5) (hV (dC (.str ("tail" : Str)))))) (sRet (dCall 3 r_with_cells (aCons (dV 2) (aCons (dV 6) (aCons (d2 gMulT (hV (dTup (lCons (dC (.str (" " : Str))) (lNil)))) (hV (d2 DL.gSub (hS 8) (hS 11)))) (aNil)))))) (sNo)) (sSeq (sIf (bAnd (bD (d2 gEq (hS 5) (hV (dC (.str ("line" : Str)))))) (bD (d2 gGt (hV (dCall 1 r_rolling_rows (aCons (dV 9) (aNil)))) (hV (dC (.int 0)))))) (sSeq (sSet 12 (d2 gMul (hV (d2 DL.gSub (hS 7) (hV (dCall 1 r_rolling_rows (aCons (dV 9) (aNil)))))) (hS 8))) (sRet (d2 gAdd (hV (d2 gAdd (hV (d2 gAdd (hV (dSl (hS 2) (oNo) (oI (dV 12)))) (hV (dSl (hS 2) (oI (d2 gAdd (hS 12) (hS 8))) (oI (dV 4)))))) (hV (d2 gMulT (hV (dTup (lCons (dC (.str (" " : Str))) (lNil)))) (hS 8))))) (hV (dSl (hS 2) (oI (dV 4)) (oNo)))))) (sNo)) (sSeq (sIf (bD (d2 gEq (hS 5) (hV (dC (.str ("swap" : Str)))))) (sRet (d2 gAdd (hV (dSl (hS 2) (oI (dV 4)) (oNo))) (hV (dSl (hS 2) (oNo) (oI (dV 4)))))) (sNo)) (sSeq (sIf (bD (d2 gEq (hS 5) (hV (dC (.str ("wipe" : Str)))))) (sRet (dCall 3 r_with_cells (aCons (dV 2) (aCons (dC (.int 0)) (aCons (d2 gMulT (hV (dTup (lCons (dC (.str (" " : Str))) (lNil)))) (hS 4)) (aNil)))))) (sNo)) (sSeq (sIf (bD (d2 gEq (hS 5) (hV (dC (.str ("clear" : Str)))))) (sRet (dCall 3 r_with_cells (aCons (dV 2) (aCons (dV 4) (aCons (d2 gMulT (hV (dTup (lCons (dC (.str (" " : Str))) (lNil)))) (hS 4)) (aNil)))))) (sNo)) (sRet (dV 2))))))))
def cnE (R W : Nat) (s : Str) (i j : Nat) (c w : D) : DL.Env := [.im (scr R W), .im (ctlD s i j), .im c, .im w, .im (.int R), .im (.int W), .im (.str s), .im (.int i), .im (.int j)]
def cbE (R W : Nat) (s : Str) (i j : Nat) (cs c w : D) (p : Int) : DL.Env := [.im (scr R W), .im (ctlD s i j), .im cs, .im c, .im (.int ((R : Int) * W)), .im w, .im (.int p), .im (.int R), .im (.int W), .im (.str s), .im (.int i), .im (.int j), .no]
section
variable {m : Nat} {P : D → Nat → Prop} {R W i j : Nat} {s : Str} {c : D} {w : Str} {rest : List D}
theorem at0' : atI (PyData.str w :: rest) 0 = some (.str w) := by simp [atI, ixN]
theorem rolls (h : s ∈ allModes) : (cutS s none (some (-1)) == ("roll" : Str)) = decide (0 < rollN s) ∧ s.length ≤ 1000000 ∧ PyData.strOk (cutS s none (some (-1))) = true := by
  have : ∀ s ∈ allModes, (cutS s none (some (-1)) == ("roll" : Str)) = decide (0 < rollN s) ∧ s.length ≤ 1000000 ∧ PyData.strOk (cutS s none (some (-1))) = true := by decide +kernel
  exact this s h
theorem rolls2 (h : s ∈ allModes) (hr : 0 < rollN s) : ∃ n, atI s.cps.toList (-1) = some n ∧ PySem.intText? ⟨#[n]⟩ = some (rollN s : Int) := by
  have : ∀ s ∈ allModes, 0 < rollN s → atI s.cps.toList (-1) = some (rollN s + 48) ∧ PySem.intText? ⟨#[rollN s + 48]⟩ = some (rollN s : Int) := by decide +kernel
  exact ⟨_, this s h hr⟩
theorem d_rolling (hs : s ∈ allModes) (h : P (.int (rollN s)) 0) : r_rolling_rows [.d (.str s)] m P := by
  obtain ⟨e1, l1, o1⟩ := rolls hs
  refine ⟨trivial, l1, okW _ o1, okW _, ?_⟩
  rw [eqS, e1]
  by_cases z : 0 < rollN s
  · obtain ⟨n, e2, e3⟩ := rolls2 hs z
    rw [decide_eq_true z]
    refine ⟨trivial, l1, n, e2, _, e3, by show 1 ≤ 640; omega, ?_⟩
    exact ⟨hd_d, h⟩
  · rw [decide_eq_false z]
    have e : rollN s = 0 := by omega
    rw [e] at h
    exact ⟨hd_d, h⟩
def hid (s : Str) (R : Nat) : Nat := if s = "hide" then R else 0
theorem d_cursor (o : OkS (R : Int) (W : Int)) (os : okD (.str s)) (hi : i < 100) (h : P (.int (((i + hid s R : Nat) : Int) * W + j)) 0) : r_cursor_cell [.d (scr R W), .d (ctlD s i j)] m P := by
  have r4 := o.r4
  have w40 := o.w40
  refine ⟨rfl, rfl, rfl, rfl, ?_⟩
  refine ⟨trivial, os, okW _, ?_⟩
  rw [eqS]
  by_cases z : s = "hide"
  · have e : hid s R = R := if_pos z
    rw [e] at h
    rw [beq_iff_eq.mpr z]
    refine ⟨trivial, trivial, trivial, trivial, .inl ⟨by omega, by omega⟩, trivial, hd_d, ?_⟩
    have e2 : ((i + R : Nat) : Int) = (i : Int) + R := by push_cast; rfl
    rw [e2] at h
    exact h
  · have e : hid s R = 0 := if_neg z
    rw [e, Nat.add_zero] at h
    rw [beq_eq_false_iff_ne.mpr z]
    exact ⟨trivial, trivial, .inl ⟨by omega, by omega⟩, trivial, hd_d, h⟩
theorem cn_pro (h : ∀ E : DE, (∀ ρ : DL.Env, ρ[0]? = some (.im (scr R W)) → ∀ d, P d 0 → E.rt d ρ) → cnRest E (cnE R W s i j (.tuple (.str w :: rest)) (.str w))) : r_control_behind [.d (scr R W), .d (ctlD s i j), .d (.tuple (.str w :: rest))] m P := by
  refine ⟨rfl, rfl, rfl, rfl, trivial, _, at0', h _ fun ρ e d q => ?_⟩
  show (match ρ[0]? with
    | some (Sl.ora m') => P d m'
    | _ => ([Ar.d (scr R W), Ar.d (ctlD s i j), Ar.d (.tuple (.str w :: rest))]).head?.map isD ≠ some false ∧ P d 0)
  rw [e]
  exact ⟨hd_d, q⟩
theorem cb_pro {cs : D} (o : OkS (R : Int) (W : Int)) (os : okD (.str s)) (hi : i < 100) (h : ∀ E : DE, (∀ ρ : DL.Env, ρ[0]? = some (.im (scr R W)) → ∀ d, P d 0 → E.rt d ρ) → cbRest E (cbE R W s i j cs (.tuple (.str w :: rest)) (.str w) (((i + hid s R : Nat) : Int) * W + j))) : r_cells_behind [.d (scr R W), .d (ctlD s i j), .d cs, .d (.tuple (.str w :: rest))] m P := by
  have r4 := o.r4
  refine ⟨rfl, rfl, trivial, trivial, .inl ⟨by omega, by omega⟩, rfl, rfl, trivial, _, at0', ?_⟩
  refine ⟨rfl, rfl, d_cursor o os hi (h _ fun ρ e d q => ?_)⟩
  show (match ρ[0]? with
    | some (Sl.ora m') => P d m'
    | _ => ([Ar.d (scr R W), Ar.d (ctlD s i j), Ar.d cs, Ar.d (.tuple (.str w :: rest))]).head?.map isD ≠ some false ∧ P d 0)
  rw [e]
  exact ⟨hd_d, q⟩
end
end Q23
namespace Q23
open PySem L2 DL
def ctlO (x : Str × Nat × Nat) : D := ctlD x.1 x.2.1 x.2.2
section
variable {E : DE} {R W i j : Nat} {s : Str}
theorem if_andS {ρ : DL.Env} {k : Nat} {a b : Str} {G R : SM} {t : BM} (hi : ρ[k]? = some (.im (.str a))) (ha : okD (.str a)) (hb : okD (.str b)) (hn : (a == b) = true) (h : t ρ fun x ρ1 => if x = true then G { E with nx := R E } ρ1 else R E ρ1) : sSeq (sIf (bAnd (bD (d2 gEq (hS k) (hV (dC (.str b))))) t) G sNo) R E ρ := by
  show (match ρ[k]? with
    | some (.im _) => True
    | some (.ow _) => True
    | _ => False) ∧ see ρ (.slot k) fun dx => _
  refine ⟨by rw [hi]; trivial, sl_see hi _ ⟨ha, hb, ?_⟩⟩
  rw [eqS, hn]
  exact h
theorem cn_put {c : Nat} (w1 : 1 ≤ W) (h : E.rt (ctlD s i ((min (j + 1) (W - 1) : Nat) : Int)) (cnE R W s i j (coD (.put c)) (.str ("put" : Str)))) : cnRest E (cnE R W s i j (coD (.put c)) (.str ("put" : Str))) := by
  have e : ((min (j + 1) (W - 1) : Nat) : Int) = min ((j : Int) + 1) ((W : Int) - 1) := by omega
  rw [e] at h
  refine if_yes (i := 3) (a := "put") (b := "put") rfl (okW _) (okW _) (by decide +kernel) ?_
  exact ⟨trivial, trivial, by show 3 ≤ 1000000; omega, h⟩
theorem cn_at {a b : Nat} (h : E.rt (ctlD s a b) (cnE R W s i j (coD (.at a b)) (.str ("at" : Str)))) : cnRest E (cnE R W s i j (coD (.at a b)) (.str ("at" : Str))) := by
  refine if_no (i := 3) (a := "at") (b := "put") rfl (okW _) (okW _) (by decide +kernel) ?_
  refine if_yes (i := 3) (a := "at") (b := "at") rfl (okW _) (okW _) (by decide +kernel) ?_
  exact ⟨trivial, _, rfl, trivial, _, rfl, by show 3 ≤ 1000000; omega, h⟩
theorem roll_str {k : Nat} (h1 : 1 ≤ k) (h2 : k ≤ 4) : (("" : Str) ++ ("roll" : Str)) ++ ((toString (k : Int) : String) : Str) = rollS k ∧ (k : Int).natAbs.log2 < 1920 ∧ (((("" : Str) ++ ("roll" : Str)) ++ ((toString (k : Int) : String) : Str))).length ≤ 1000000 := by
  have : k = 1 ∨ k = 2 ∨ k = 3 ∨ k = 4 := by omega
  rcases this with rfl | rfl | rfl | rfl <;> exact ⟨by decide +kernel, by decide +kernel, by decide +kernel⟩
theorem cn_roll {k : Nat} (r1 : 1 ≤ R) (k1 : 1 ≤ k) (k4 : k ≤ 4) (h : E.rt (ctlD (rollS k) ((R - 1 : Nat) : Int) 0) (cnE R W s i j (coD (.roll k)) (.str ("roll" : Str)))) : cnRest E (cnE R W s i j (coD (.roll k)) (.str ("roll" : Str))) := by
  have e : ((R - 1 : Nat) : Int) = (R : Int) - 1 := by omega
  obtain ⟨e1, e2, e3⟩ := roll_str k1 k4
  rw [e, ← e1] at h
  refine if_no (i := 3) (a := "roll") (b := "put") rfl (okW _) (okW _) (by decide +kernel) ?_
  refine if_no (i := 3) (a := "roll") (b := "at") rfl (okW _) (okW _) (by decide +kernel) ?_
  refine if_noU (i := 3) (a := "roll") rfl (by decide +kernel) ?_
  refine if_yes (i := 3) (a := "roll") (b := "roll") rfl (okW _) (okW _) (by decide +kernel) ?_
  exact ⟨by decide +kernel, by decide +kernel, trivial, _, rfl, e2, e3, trivial, by show 3 ≤ 1000000; omega, h⟩
theorem cn_hide (h : E.rt (ctlD "hide" i j) (cnE R W s i j (coD (.lone "hide")) (.str ("hide" : Str)))) : cnRest E (cnE R W s i j (coD (.lone "hide")) (.str ("hide" : Str))) := by
  refine if_no (i := 3) (a := "hide") (b := "put") rfl (okW _) (okW _) (by decide +kernel) ?_
  refine if_no (i := 3) (a := "hide") (b := "at") rfl (okW _) (okW _) (by decide +kernel) ?_
  refine if_yesU (i := 3) (a := "hide") rfl (by decide +kernel) ?_
  exact ⟨by show 3 ≤ 1000000; omega, h⟩
theorem cn_paint (h : E.rt (ctlD "paint" i j) (cnE R W s i j (coD (.lone "paint")) (.str ("paint" : Str)))) : cnRest E (cnE R W s i j (coD (.lone "paint")) (.str ("paint" : Str))) := by
  refine if_no (i := 3) (a := "paint") (b := "put") rfl (okW _) (okW _) (by decide +kernel) ?_
  refine if_no (i := 3) (a := "paint") (b := "at") rfl (okW _) (okW _) (by decide +kernel) ?_
  refine if_yesU (i := 3) (a := "paint") rfl (by decide +kernel) ?_
  exact ⟨by show 3 ≤ 1000000; omega, h⟩
theorem cn_line (r1 : 1 ≤ R) (hs : s ∈ allModes) (h : E.rt (if 0 < rollN s then ctlD s ((R - 1 : Nat) : Int) 0 else ctlD s ((min (i + 1) (R - 1) : Nat) : Int) 0) (cnE R W s i j (coD (.lone "line")) (.str ("line" : Str)))) : cnRest E (cnE R W s i j (coD (.lone "line")) (.str ("line" : Str))) := by
  have e : ((R - 1 : Nat) : Int) = (R : Int) - 1 := by omega
  have e2 : ((min (i + 1) (R - 1) : Nat) : Int) = min ((i : Int) + 1) ((R : Int) - 1) := by omega
  rw [e, e2] at h
  refine if_no (i := 3) (a := "line") (b := "put") rfl (okW _) (okW _) (by decide +kernel) ?_
  refine if_no (i := 3) (a := "line") (b := "at") rfl (okW _) (okW _) (by decide +kernel) ?_
  refine if_noU (i := 3) (a := "line") rfl (by decide +kernel) ?_
  refine if_no (i := 3) (a := "line") (b := "roll") rfl (okW _) (okW _) (by decide +kernel) ?_
  refine if_yes (i := 3) (a := "line") (b := "line") rfl (okW _) (okW _) (by decide +kernel) ?_
  refine ⟨rfl, rfl, d_rolling hs ?_⟩
  show (if decide ((0 : Int) < (rollN s : Int)) = true then _ else _)
  by_cases z : 0 < rollN s
  · rw [if_pos z] at h
    rw [if_pos (decide_eq_true (by omega))]
    exact ⟨trivial, by show 3 ≤ 1000000; omega, h⟩
  · rw [if_neg z] at h
    rw [if_neg (by simp; omega)]
    exact ⟨trivial, trivial, by show 3 ≤ 1000000; omega, h⟩
theorem cn_swap (h : E.rt (ctlD "hide" i j) (cnE R W s i j (coD (.lone "swap")) (.str ("swap" : Str)))) : cnRest E (cnE R W s i j (coD (.lone "swap")) (.str ("swap" : Str))) := by
  refine if_no (i := 3) (a := "swap") (b := "put") rfl (okW _) (okW _) (by decide +kernel) ?_
  refine if_no (i := 3) (a := "swap") (b := "at") rfl (okW _) (okW _) (by decide +kernel) ?_
  refine if_noU (i := 3) (a := "swap") rfl (by decide +kernel) ?_
  refine if_no (i := 3) (a := "swap") (b := "roll") rfl (okW _) (okW _) (by decide +kernel) ?_
  refine if_no (i := 3) (a := "swap") (b := "line") rfl (okW _) (okW _) (by decide +kernel) ?_
  refine if_yes (i := 3) (a := "swap") (b := "swap") rfl (okW _) (okW _) (by decide +kernel) ?_
  exact ⟨by show 3 ≤ 1000000; omega, h⟩
theorem cn_rub (h : E.rt (ctlD s i ((j - 1 : Nat) : Int)) (cnE R W s i j (coD (.lone "rub")) (.str ("rub" : Str)))) : cnRest E (cnE R W s i j (coD (.lone "rub")) (.str ("rub" : Str))) := by
  have e : ((j - 1 : Nat) : Int) = max ((j : Int) - 1) 0 := by omega
  rw [e] at h
  refine if_no (i := 3) (a := "rub") (b := "put") rfl (okW _) (okW _) (by decide +kernel) ?_
  refine if_no (i := 3) (a := "rub") (b := "at") rfl (okW _) (okW _) (by decide +kernel) ?_
  refine if_noU (i := 3) (a := "rub") rfl (by decide +kernel) ?_
  refine if_no (i := 3) (a := "rub") (b := "roll") rfl (okW _) (okW _) (by decide +kernel) ?_
  refine if_no (i := 3) (a := "rub") (b := "line") rfl (okW _) (okW _) (by decide +kernel) ?_
  refine if_no (i := 3) (a := "rub") (b := "swap") rfl (okW _) (okW _) (by decide +kernel) ?_
  refine if_yes (i := 3) (a := "rub") (b := "rub") rfl (okW _) (okW _) (by decide +kernel) ?_
  exact ⟨trivial, by show 3 ≤ 1000000; omega, h⟩
theorem cn_wipe (h : E.rt (ctlD s i j) (cnE R W s i j (coD (.lone "wipe")) (.str ("wipe" : Str)))) : cnRest E (cnE R W s i j (coD (.lone "wipe")) (.str ("wipe" : Str))) := by
  refine if_no (i := 3) (a := "wipe") (b := "put") rfl (okW _) (okW _) (by decide +kernel) ?_
  refine if_no (i := 3) (a := "wipe") (b := "at") rfl (okW _) (okW _) (by decide +kernel) ?_
  refine if_noU (i := 3) (a := "wipe") rfl (by decide +kernel) ?_
  refine if_no (i := 3) (a := "wipe") (b := "roll") rfl (okW _) (okW _) (by decide +kernel) ?_
  refine if_no (i := 3) (a := "wipe") (b := "line") rfl (okW _) (okW _) (by decide +kernel) ?_
  refine if_no (i := 3) (a := "wipe") (b := "swap") rfl (okW _) (okW _) (by decide +kernel) ?_
  refine if_no (i := 3) (a := "wipe") (b := "rub") rfl (okW _) (okW _) (by decide +kernel) ?_
  exact h
theorem cn_clear (h : E.rt (ctlD s i j) (cnE R W s i j (coD (.lone "clear")) (.str ("clear" : Str)))) : cnRest E (cnE R W s i j (coD (.lone "clear")) (.str ("clear" : Str))) := by
  refine if_no (i := 3) (a := "clear") (b := "put") rfl (okW _) (okW _) (by decide +kernel) ?_
  refine if_no (i := 3) (a := "clear") (b := "at") rfl (okW _) (okW _) (by decide +kernel) ?_
  refine if_noU (i := 3) (a := "clear") rfl (by decide +kernel) ?_
  refine if_no (i := 3) (a := "clear") (b := "roll") rfl (okW _) (okW _) (by decide +kernel) ?_
  refine if_no (i := 3) (a := "clear") (b := "line") rfl (okW _) (okW _) (by decide +kernel) ?_
  refine if_no (i := 3) (a := "clear") (b := "swap") rfl (okW _) (okW _) (by decide +kernel) ?_
  refine if_no (i := 3) (a := "clear") (b := "rub") rfl (okW _) (okW _) (by decide +kernel) ?_
  exact h
theorem cn_tail (h : E.rt (ctlD s i j) (cnE R W s i j (coD (.lone "tail")) (.str ("tail" : Str)))) : cnRest E (cnE R W s i j (coD (.lone "tail")) (.str ("tail" : Str))) := by
  refine if_no (i := 3) (a := "tail") (b := "put") rfl (okW _) (okW _) (by decide +kernel) ?_
  refine if_no (i := 3) (a := "tail") (b := "at") rfl (okW _) (okW _) (by decide +kernel) ?_
  refine if_noU (i := 3) (a := "tail") rfl (by decide +kernel) ?_
  refine if_no (i := 3) (a := "tail") (b := "roll") rfl (okW _) (okW _) (by decide +kernel) ?_
  refine if_no (i := 3) (a := "tail") (b := "line") rfl (okW _) (okW _) (by decide +kernel) ?_
  refine if_no (i := 3) (a := "tail") (b := "swap") rfl (okW _) (okW _) (by decide +kernel) ?_
  refine if_no (i := 3) (a := "tail") (b := "rub") rfl (okW _) (okW _) (by decide +kernel) ?_
  exact h
theorem cn_idle (h : E.rt (ctlD s i j) (cnE R W s i j (coD (.lone "idle")) (.str ("idle" : Str)))) : cnRest E (cnE R W s i j (coD (.lone "idle")) (.str ("idle" : Str))) := by
  refine if_no (i := 3) (a := "idle") (b := "put") rfl (okW _) (okW _) (by decide +kernel) ?_
  refine if_no (i := 3) (a := "idle") (b := "at") rfl (okW _) (okW _) (by decide +kernel) ?_
  refine if_noU (i := 3) (a := "idle") rfl (by decide +kernel) ?_
  refine if_no (i := 3) (a := "idle") (b := "roll") rfl (okW _) (okW _) (by decide +kernel) ?_
  refine if_no (i := 3) (a := "idle") (b := "line") rfl (okW _) (okW _) (by decide +kernel) ?_
  refine if_no (i := 3) (a := "idle") (b := "swap") rfl (okW _) (okW _) (by decide +kernel) ?_
  refine if_no (i := 3) (a := "idle") (b := "rub") rfl (okW _) (okW _) (by decide +kernel) ?_
  exact h
theorem d_control_behind {m : Nat} {P : D → Nat → Prop} {co : Co} (o : OkS (R : Int) (W : Int)) (hs : s ∈ allModes) (hc : OkC R W co) (h : P (ctlO (ctlF R W s i j co)) 0) : r_control_behind [.d (scr R W), .d (ctlD s i j), .d (coD co)] m P := by
  have r1 := o.r1
  have r4 := o.r4
  have w1 := o.w1
  cases co with
  | put c => exact cn_pro fun E k => cn_put (by omega) (k _ rfl _ h)
  | «at» a b => exact cn_pro fun E k => cn_at (k _ rfl _ h)
  | roll q =>
    have hq : 1 ≤ q ∧ q ≤ R := hc.ok
    exact cn_pro fun E k => cn_roll (by omega) hq.1 (by omega) (k _ rfl _ h)
  | lone w =>
    have hw : w ∈ loneWs := hc.ok
    simp only [loneWs, List.mem_cons, List.not_mem_nil, or_false] at hw
    rcases hw with rfl | rfl | rfl | rfl | rfl | rfl | rfl | rfl | rfl
    · exact cn_pro fun E k => cn_hide (k _ rfl _ h)
    · exact cn_pro fun E k => cn_paint (k _ rfl _ h)
    · refine cn_pro fun E k => cn_line (by omega) hs (k _ rfl _ ?_)
      have e : ctlF R W s i j (.lone "line") = if 0 < rollN s then (s, R - 1, 0) else (s, min (i + 1) (R - 1), 0) := by
        have h1 : ¬ (("line" : Str) = "hide" ∨ ("line" : Str) = "paint") := by decide +kernel
        simp only [ctlF, h1, if_true, if_false]
      rw [e] at h
      by_cases z : 0 < rollN s
      · rw [if_pos z] at h ⊢
        exact h
      · rw [if_neg z] at h ⊢
        exact h
    · refine cn_pro fun E k => cn_swap (k _ rfl _ ?_)
      have e : ctlF R W s i j (.lone "swap") = (("hide" : Str), i, j) := by
        have h1 : ¬ (("swap" : Str) = "hide" ∨ ("swap" : Str) = "paint") := by decide +kernel
        have h2 : ¬ ("swap" : Str) = "line" := by decide +kernel
        simp only [ctlF, h1, h2, if_true, if_false]
      rw [e] at h
      exact h
    · refine cn_pro fun E k => cn_wipe (k _ rfl _ ?_)
      have e : ctlF R W s i j (.lone "wipe") = (s, i, j) := by
        have h1 : ¬ (("wipe" : Str) = "hide" ∨ ("wipe" : Str) = "paint") := by decide +kernel
        have h2 : ¬ ("wipe" : Str) = "line" := by decide +kernel
        have h3 : ¬ ("wipe" : Str) = "swap" := by decide +kernel
        have h4 : ¬ ("wipe" : Str) = "rub" := by decide +kernel
        simp only [ctlF, h1, h2, h3, h4, if_true, if_false]
      rw [e] at h
      exact h
    · refine cn_pro fun E k => cn_clear (k _ rfl _ ?_)
      have e : ctlF R W s i j (.lone "clear") = (s, i, j) := by
        have h1 : ¬ (("clear" : Str) = "hide" ∨ ("clear" : Str) = "paint") := by decide +kernel
        have h2 : ¬ ("clear" : Str) = "line" := by decide +kernel
        have h3 : ¬ ("clear" : Str) = "swap" := by decide +kernel
        have h4 : ¬ ("clear" : Str) = "rub" := by decide +kernel
        simp only [ctlF, h1, h2, h3, h4, if_true, if_false]
      rw [e] at h
      exact h
    · refine cn_pro fun E k => cn_rub (k _ rfl _ ?_)
      have e : ctlF R W s i j (.lone "rub") = (s, i, j - 1) := by
        have h1 : ¬ (("rub" : Str) = "hide" ∨ ("rub" : Str) = "paint") := by decide +kernel
        have h2 : ¬ ("rub" : Str) = "line" := by decide +kernel
        have h3 : ¬ ("rub" : Str) = "swap" := by decide +kernel
        simp only [ctlF, h1, h2, h3, if_true, if_false]
      rw [e] at h
      exact h
    · refine cn_pro fun E k => cn_tail (k _ rfl _ ?_)
      have e : ctlF R W s i j (.lone "tail") = (s, i, j) := by
        have h1 : ¬ (("tail" : Str) = "hide" ∨ ("tail" : Str) = "paint") := by decide +kernel
        have h2 : ¬ ("tail" : Str) = "line" := by decide +kernel
        have h3 : ¬ ("tail" : Str) = "swap" := by decide +kernel
        have h4 : ¬ ("tail" : Str) = "rub" := by decide +kernel
        simp only [ctlF, h1, h2, h3, h4, if_true, if_false]
      rw [e] at h
      exact h
    · refine cn_pro fun E k => cn_idle (k _ rfl _ ?_)
      have e : ctlF R W s i j (.lone "idle") = (s, i, j) := by
        have h1 : ¬ (("idle" : Str) = "hide" ∨ ("idle" : Str) = "paint") := by decide +kernel
        have h2 : ¬ ("idle" : Str) = "line" := by decide +kernel
        have h3 : ¬ ("idle" : Str) = "swap" := by decide +kernel
        have h4 : ¬ ("idle" : Str) = "rub" := by decide +kernel
        simp only [ctlF, h1, h2, h3, h4, if_true, if_false]
      rw [e] at h
      exact h
end
end Q23
namespace Q23
open PySem L2 DL
theorem sp_ch : PyData.str (" " : Str) = chD 32 := by
  have e0 : (" " : Str) = ⟨#[32]⟩ := by decide +kernel
  rw [e0]
  rfl
theorem bl_rep {n : Nat} : (List.replicate n [PyData.str (" " : Str)]).flatten = (List.replicate n 32).map chD := by
  rw [sp_ch, List.map_replicate]
  induction n with
  | zero => rfl
  | succ k ih => rw [List.replicate_succ, List.replicate_succ, List.flatten_cons, ih]; rfl
def outM (x : List (List Nat) × List (List Nat)) : D := cellsD (x.1 ++ x.2).flatten
section
variable {E : DE} {R W i j : Nat} {s : Str} {A B : List (List Nat)}
theorem X_all {c : Nat} (gA : Mem (R : Int) (W : Int) A) (gB : Mem (R : Int) (W : Int) B) : (∀ l ∈ A ++ B, l.length = W) ∧ (A ++ B).length = R + R := by
  have na : A.length = R := gA.n
  have nb : B.length = R := gB.n
  refine ⟨fun l hl => ?_, by rw [List.length_append]; omega⟩
  rcases List.mem_append.mp hl with z | z
  · exact (gA.a l z).1
  · exact (gB.a l z).1
theorem inRow_set {f : List Nat → List Nat} (gA : A.length = R) : (inRow s f i A B).1 ++ (inRow s f i A B).2 = (A ++ B).set (i + hid s R) (f ((A ++ B).getD (i + hid s R) [])) ∨ ¬ i < R := by
  by_cases hi : i < R
  · left
    unfold inRow hid
    by_cases z : s = "hide"
    · rw [if_pos z, if_pos z]
      show A ++ B.set i _ = _
      rw [List.set_append_right _ _ (by omega), List.getD_eq_getElem?_getD, List.getD_eq_getElem?_getD, List.getElem?_append_right (by omega), gA, Nat.add_sub_cancel]
    · rw [if_neg z, if_neg z, Nat.add_zero]
      show A.set i _ ++ B = _
      rw [List.set_append_left _ _ (by omega), List.getD_eq_getElem?_getD, List.getD_eq_getElem?_getD, List.getElem?_append_left (by omega)]
  · exact .inr hi
theorem q_lt (hi : i < R) : i + hid s R < R + R := by
  unfold hid
  split <;> omega
theorem okb (o : OkS (R : Int) (W : Int)) : 1 ≤ R ∧ R ≤ 4 ∧ 1 ≤ W ∧ W ≤ 40 ∧ (R + R) * W ≤ 100000 ∧ R * W ≤ 160 ∧ 1 ≤ R * W := by
  have r1 := o.r1
  have r4 := o.r4
  have w1 := o.w1
  have w40 := o.w40
  have h1 : (R + R) * W ≤ 8 * 40 := Nat.mul_le_mul (by omega) (by omega)
  have h2 : R * W ≤ 4 * 40 := Nat.mul_le_mul (by omega) (by omega)
  have h3 : 1 * 1 ≤ R * W := Nat.mul_le_mul (by omega) (by omega)
  exact ⟨by omega, by omega, by omega, by omega, by omega, by omega, by omega⟩
abbrev place (R W i j : Nat) (s : Str) : Int := ((i + hid s R : Nat) : Int) * W + j
theorem kb_put {c : Nat} (o : OkS (R : Int) (W : Int)) (gA : Mem (R : Int) (W : Int) A) (gB : Mem (R : Int) (W : Int) B) (hi : i < R) (hj : j < W) (h : E.rt (outM (memF R W s i j A B (.put c))) (cbE R W s i j (cellsD (A ++ B).flatten) (coD (.put c)) (.str ("put" : Str)) (place R W i j s))) :
    cbRest E (cbE R W s i j (cellsD (A ++ B).flatten) (coD (.put c)) (.str ("put" : Str)) (place R W i j s)) := by
  obtain ⟨x1, x2⟩ := X_all (c := 0) gA gB
  have hq := q_lt (s := s) hi
  obtain ⟨b1, b2, b3, b4, b5, _⟩ := okb o
  refine if_yes (i := 5) (a := "put") (b := "put") rfl (okW _) (okW _) (by decide +kernel) ?_
  refine ⟨trivial, _, rfl, by show 1 ≤ 1000000; omega, rfl, rfl, ?_⟩
  refine d_splice (O := [c]) (q := i + hid s R) (j := j) x1 (by rw [x2]; exact hq) hj rfl (by rw [x2]; exact b5) ?_
  have e := (inRow_set (s := s) (i := i) (B := B) (f := fun l => l.set j c) gA.n).resolve_right fun z => z hi
  have gl : ((A ++ B).getD (i + hid s R) []).length = W := by
    have gm : (A ++ B).getD (i + hid s R) [] ∈ A ++ B := by
      rw [List.getD_eq_getElem?_getD, List.getElem?_eq_getElem (by rw [x2]; exact hq)]
      exact List.getElem_mem _
    exact x1 _ gm
  have h : E.rt (cellsD ((inRow s (fun l => l.set j c) i A B).1 ++ (inRow s (fun l => l.set j c) i A B).2).flatten) _ := h
  rw [e] at h
  have e2 : ((A ++ B).getD (i + hid s R) []).set j c = ((A ++ B).getD (i + hid s R) []).take j ++ ([c] ++ ((A ++ B).getD (i + hid s R) []).drop (j + [c].length)) := by
    rw [List.set_eq_take_append_cons_drop, if_pos (by rw [gl]; exact hj)]
    rfl
  have h : E.rt (cellsD ((A ++ B).set (i + hid s R) (((A ++ B).getD (i + hid s R) []).set j c)).flatten) _ := h
  rw [e2] at h
  exact h
theorem kb_rub (o : OkS (R : Int) (W : Int)) (gA : Mem (R : Int) (W : Int) A) (gB : Mem (R : Int) (W : Int) B) (hi : i < R) (hj : j < W) (h : E.rt (outM (if 0 < j then inRow s (fun l => l.set (j - 1) 32) i A B else (A, B))) (cbE R W s i j (cellsD (A ++ B).flatten) (coD (.lone "rub")) (.str ("rub" : Str)) (place R W i j s))) :
    cbRest E (cbE R W s i j (cellsD (A ++ B).flatten) (coD (.lone "rub")) (.str ("rub" : Str)) (place R W i j s)) := by
  obtain ⟨x1, x2⟩ := X_all (c := 0) gA gB
  have hq := q_lt (s := s) hi
  obtain ⟨b1, b2, b3, b4, b5, _⟩ := okb o
  refine if_no (i := 5) (a := "rub") (b := "put") rfl (okW _) (okW _) (by decide +kernel) ?_
  refine if_andS (k := 5) (a := "rub") (b := "rub") rfl (okW _) (okW _) (by decide +kernel) ?_
  refine ⟨trivial, ?_⟩
  show (if decide ((0 : Int) < (j : Int)) = true then _ else _)
  by_cases z : 0 < j
  · rw [if_pos z] at h
    rw [if_pos (decide_eq_true (by omega))]
    refine ⟨trivial, by show 1 ≤ 1000000; omega, rfl, rfl, ?_⟩
    show r_with_cells [.d (cellsD (A ++ B).flatten), .d (.int (place R W i j s - 1)), .d (.tuple [.str (" " : Str)])] 0 _
    rw [sp_ch]
    refine d_splice (O := [32]) (q := i + hid s R) (j := j - 1) x1 (by rw [x2]; exact hq) (by show j - 1 + 1 ≤ W; omega) (by show ((i + hid s R : Nat) : Int) * W + j - 1 = _; omega) (by rw [x2]; exact b5) ?_
    have e := (inRow_set (s := s) (i := i) (B := B) (f := fun l => l.set (j - 1) 32) gA.n).resolve_right fun z => z hi
    have gl : ((A ++ B).getD (i + hid s R) []).length = W := by
      have gm : (A ++ B).getD (i + hid s R) [] ∈ A ++ B := by
        rw [List.getD_eq_getElem?_getD, List.getElem?_eq_getElem (by rw [x2]; exact hq)]
        exact List.getElem_mem _
      exact x1 _ gm
    have h : E.rt (cellsD ((inRow s (fun l => l.set (j - 1) 32) i A B).1 ++ (inRow s (fun l => l.set (j - 1) 32) i A B).2).flatten) _ := h
    rw [e] at h
    have e2 : ((A ++ B).getD (i + hid s R) []).set (j - 1) 32 = ((A ++ B).getD (i + hid s R) []).take (j - 1) ++ ([32] ++ ((A ++ B).getD (i + hid s R) []).drop (j - 1 + [32].length)) := by
      rw [List.set_eq_take_append_cons_drop, if_pos (by rw [gl]; omega)]
      rfl
    have h : E.rt (cellsD ((A ++ B).set (i + hid s R) (((A ++ B).getD (i + hid s R) []).set (j - 1) 32)).flatten) _ := h
    rw [e2] at h
    exact h
  · rw [if_neg z] at h
    rw [if_neg (by simp; omega)]
    refine if_no (i := 5) (a := "rub") (b := "tail") rfl (okW _) (okW _) (by decide +kernel) ?_
    refine if_noA (i := 5) (a := "rub") (b := "line") rfl (okW _) (okW _) (by decide +kernel) ?_
    refine if_no (i := 5) (a := "rub") (b := "swap") rfl (okW _) (okW _) (by decide +kernel) ?_
    refine if_no (i := 5) (a := "rub") (b := "wipe") rfl (okW _) (okW _) (by decide +kernel) ?_
    refine if_no (i := 5) (a := "rub") (b := "clear") rfl (okW _) (okW _) (by decide +kernel) ?_
    exact h
theorem kb_tail (o : OkS (R : Int) (W : Int)) (gA : Mem (R : Int) (W : Int) A) (gB : Mem (R : Int) (W : Int) B) (hi : i < R) (hj : j < W) (h : E.rt (outM (inRow s (fun l => l.take j ++ List.replicate (l.length - j) 32) i A B)) (cbE R W s i j (cellsD (A ++ B).flatten) (coD (.lone "tail")) (.str ("tail" : Str)) (place R W i j s))) :
    cbRest E (cbE R W s i j (cellsD (A ++ B).flatten) (coD (.lone "tail")) (.str ("tail" : Str)) (place R W i j s)) := by
  obtain ⟨x1, x2⟩ := X_all (c := 0) gA gB
  have hq := q_lt (s := s) hi
  obtain ⟨b1, b2, b3, b4, b5, _⟩ := okb o
  refine if_no (i := 5) (a := "tail") (b := "put") rfl (okW _) (okW _) (by decide +kernel) ?_
  refine if_noA (i := 5) (a := "tail") (b := "rub") rfl (okW _) (okW _) (by decide +kernel) ?_
  refine if_yes (i := 5) (a := "tail") (b := "tail") rfl (okW _) (okW _) (by decide +kernel) ?_
  refine ⟨by show 1 ≤ 1000000; omega, trivial, trivial, ⟨by omega, by omega⟩, by simp, by show 1 ≤ 1000; omega, rfl, rfl, ?_⟩
  show r_with_cells [.d (cellsD (A ++ B).flatten), .d (.int (place R W i j s)), .d (.tuple (List.replicate ((W : Int) - (j : Int)).toNat [PyData.str (" " : Str)]).flatten)] 0 _
  have en : ((W : Int) - (j : Int)).toNat = W - j := by omega
  rw [en, bl_rep]
  refine d_splice (O := List.replicate (W - j) 32) (q := i + hid s R) (j := j) x1 (by rw [x2]; exact hq) (by rw [List.length_replicate]; omega) rfl (by rw [x2]; exact b5) ?_
  have e := (inRow_set (s := s) (i := i) (B := B) (f := fun l => l.take j ++ List.replicate (l.length - j) 32) gA.n).resolve_right fun z => z hi
  have gl : ((A ++ B).getD (i + hid s R) []).length = W := by
    have gm : (A ++ B).getD (i + hid s R) [] ∈ A ++ B := by
      rw [List.getD_eq_getElem?_getD, List.getElem?_eq_getElem (by rw [x2]; exact hq)]
      exact List.getElem_mem _
    exact x1 _ gm
  have h : E.rt (cellsD ((inRow s (fun l => l.take j ++ List.replicate (l.length - j) 32) i A B).1 ++ (inRow s (fun l => l.take j ++ List.replicate (l.length - j) 32) i A B).2).flatten) _ := h
  rw [e] at h
  have h : E.rt (cellsD ((A ++ B).set (i + hid s R) (((A ++ B).getD (i + hid s R) []).take j ++ List.replicate (((A ++ B).getD (i + hid s R) []).length - j) 32)).flatten) _ := h
  have e2 : ((A ++ B).getD (i + hid s R) []).take j ++ List.replicate (((A ++ B).getD (i + hid s R) []).length - j) 32 = ((A ++ B).getD (i + hid s R) []).take j ++ (List.replicate (W - j) 32 ++ ((A ++ B).getD (i + hid s R) []).drop (j + (List.replicate (W - j) 32).length)) := by
    rw [gl, List.length_replicate, List.drop_of_length_le (by rw [gl]; omega), List.append_nil]
  rw [e2] at h
  exact h
theorem roll_le (o : OkS (R : Int) (W : Int)) (hs : s ∈ modes R) : rollN s ≤ R ∧ s ∈ allModes := by
  obtain ⟨b1, b2, _⟩ := okb o
  have : ∀ r, r = 1 ∨ r = 2 ∨ r = 3 ∨ r = 4 → ∀ s ∈ modes (r : Nat), rollN s ≤ r ∧ s ∈ allModes := by
    rintro r (rfl | rfl | rfl | rfl) <;> decide +kernel
  exact this R (by omega) s hs
def cbE' (R W : Nat) (s : Str) (i j : Nat) (cs c w : D) (p : Int) (x : Sl) : DL.Env := [.im (scr R W), .im (ctlD s i j), .im cs, .im c, .im (.int ((R : Int) * W)), .im w, .im (.int p), .im (.int R), .im (.int W), .im (.str s), .im (.int i), .im (.int j), x]
theorem kb_line (o : OkS (R : Int) (W : Int)) (hs : s ∈ modes R) (gA : Mem (R : Int) (W : Int) A) (gB : Mem (R : Int) (W : Int) B) (h : E.rt (outM (if 0 < rollN s then (A.take (R - rollN s) ++ A.drop (R - rollN s + 1) ++ [blRow W], B) else (A, B))) (cbE' R W s i j (cellsD (A ++ B).flatten) (coD (.lone "line")) (.str ("line" : Str)) (place R W i j s) (if 0 < rollN s then .im (.int (((R : Int) - rollN s) * W)) else .no))) :
    cbRest E (cbE R W s i j (cellsD (A ++ B).flatten) (coD (.lone "line")) (.str ("line" : Str)) (place R W i j s)) := by
  obtain ⟨x1, x2⟩ := X_all (c := 0) gA gB
  obtain ⟨b1, b2, b3, b4, b5, b6, b7⟩ := okb o
  obtain ⟨rl, sa⟩ := roll_le o hs
  have na : A.length = R := gA.n
  have nb : B.length = R := gB.n
  refine if_no (i := 5) (a := "line") (b := "put") rfl (okW _) (okW _) (by decide +kernel) ?_
  refine if_noA (i := 5) (a := "line") (b := "rub") rfl (okW _) (okW _) (by decide +kernel) ?_
  refine if_no (i := 5) (a := "line") (b := "tail") rfl (okW _) (okW _) (by decide +kernel) ?_
  refine if_andS (k := 5) (a := "line") (b := "line") rfl (okW _) (okW _) (by decide +kernel) ?_
  refine ⟨rfl, rfl, d_rolling sa ?_⟩
  show (if decide ((0 : Int) < (rollN s : Int)) = true then _ else _)
  by_cases z : 0 < rollN s
  · rw [if_pos z, if_pos z] at h
    rw [if_pos (decide_eq_true (by omega))]
    refine ⟨trivial, rfl, rfl, d_rolling sa ?_⟩
    refine ⟨trivial, .inr ⟨by omega, by omega⟩, ?_⟩
    have wA : ∀ l ∈ A, l.length = W := fun l hl => (gA.a l hl).1
    have wB : ∀ l ∈ B, l.length = W := fun l hl => (gB.a l hl).1
    have fA : A.flatten.length = R * W := by rw [flat_len A wA, na]
    have e0 : ((R : Int) - rollN s) * W = (((R - rollN s) * W : Nat) : Int) := by
      rw [Int.natCast_mul, Int.natCast_sub rl]
    have eh : (R : Int) * W = ((R * W : Nat) : Int) := by push_cast; rfl
    have e1 : ((R : Int) - rollN s) * W + W = (((R - rollN s + 1) * W : Nat) : Int) := by
      rw [e0, Nat.succ_mul]
      push_cast
      rfl
    have m1 : (R - rollN s + 1) * W ≤ R * W := Nat.mul_le_mul (by omega) (Nat.le_refl _)
    have m2 : (R - rollN s) * W ≤ R * W := Nat.mul_le_mul (by omega) (Nat.le_refl _)
    have c1 : cutD ((A ++ B).flatten.map chD) none (some (((R : Int) - rollN s) * W)) = ((A.take (R - rollN s)).flatten).map chD := by
      rw [e0, cut_take, List.flatten_append, ← List.map_take, List.take_append_of_le_length (by rw [fA]; exact m2), flat_take A _ wA (by omega)]
    have c2 : cutD ((A ++ B).flatten.map chD) (some (((R : Int) - rollN s) * W + W)) (some ((R : Int) * W)) = ((A.drop (R - rollN s + 1)).flatten).map chD := by
      rw [e1, eh]
      unfold cutD
      have fl : (((A ++ B).flatten).map chD).length = R * W + R * W := by rw [List.length_map, List.flatten_append, List.length_append, fA, flat_len B wB, nb]
      rw [HT.sIx_nat, HT.sIx_nat, fl, Nat.min_eq_left (by omega), Nat.min_eq_left (by omega), ← List.map_drop, ← List.map_take, List.flatten_append, List.drop_append_of_le_length (by rw [fA]; exact m1), flat_drop A _ wA (by omega), List.take_append_of_le_length, List.take_of_length_le]
      · rw [flat_len _ fun l hl => wA l (List.mem_of_mem_drop hl), List.length_drop, na, Nat.sub_mul]
        omega
      · rw [flat_len _ fun l hl => wA l (List.mem_of_mem_drop hl), List.length_drop, na, Nat.sub_mul]
        omega
    have c3 : cutD ((A ++ B).flatten.map chD) (some ((R : Int) * W)) none = (B.flatten).map chD := by
      rw [eh, cut_drop, List.flatten_append, ← List.map_drop, ← fA, List.drop_left]
    have l1 : (A.take (R - rollN s)).flatten.length ≤ 1000 := by
      rw [flat_len _ fun l hl => wA l (List.mem_of_mem_take hl), List.length_take, na]
      have : min (R - rollN s) R * W ≤ R * W := Nat.mul_le_mul (by omega) (Nat.le_refl _)
      omega
    have l2 : (A.drop (R - rollN s + 1)).flatten.length ≤ 1000 := by
      rw [flat_len _ fun l hl => wA l (List.mem_of_mem_drop hl), List.length_drop, na]
      have : (R - (R - rollN s + 1)) * W ≤ R * W := Nat.mul_le_mul (by omega) (Nat.le_refl _)
      omega
    have l3 : B.flatten.length ≤ 1000 := by
      rw [flat_len B wB, nb]
      omega
    refine ⟨trivial, trivial, trivial, trivial, ?_⟩
    show (cutD ((A ++ B).flatten.map chD) none (some (((R : Int) - rollN s) * W))).length + (cutD ((A ++ B).flatten.map chD) (some (((R : Int) - rollN s) * W + W)) (some ((R : Int) * W))).length ≤ 1000000 ∧ _
    rw [c1, c2]
    refine ⟨by rw [List.length_map, List.length_map]; omega, by show 1 ≤ 1000000; omega, trivial, ⟨by omega, by omega⟩, by simp, by show 1 ≤ 1000; omega, ?_⟩
    show (((A.take (R - rollN s)).flatten).map chD ++ ((A.drop (R - rollN s + 1)).flatten).map chD).length + (List.replicate ((W : Int)).toNat [PyData.str (" " : Str)]).flatten.length ≤ 1000000 ∧ _
    rw [Int.toNat_natCast, bl_rep]
    refine ⟨by simp only [List.length_append, List.length_map, List.length_replicate]; omega, trivial, ?_⟩
    show ((((A.take (R - rollN s)).flatten).map chD ++ ((A.drop (R - rollN s + 1)).flatten).map chD) ++ (List.replicate W 32).map chD).length + (cutD ((A ++ B).flatten.map chD) (some ((R : Int) * W)) none).length ≤ 1000000 ∧ _
    rw [c3]
    refine ⟨by simp only [List.length_append, List.length_map, List.length_replicate]; omega, ?_⟩
    have ef : outM (A.take (R - rollN s) ++ A.drop (R - rollN s + 1) ++ [blRow W], B) = .tuple (((A.take (R - rollN s)).flatten.map chD ++ (A.drop (R - rollN s + 1)).flatten.map chD) ++ (List.replicate W 32).map chD ++ B.flatten.map chD) := by
      show cellsD ((A.take (R - rollN s) ++ A.drop (R - rollN s + 1) ++ [blRow W]) ++ B).flatten = _
      unfold cellsD blRow
      simp [List.map_append]
    rw [ef] at h
    exact h
  · rw [if_neg z, if_neg z] at h
    rw [if_neg (by simp; omega)]
    refine if_no (i := 5) (a := "line") (b := "swap") rfl (okW _) (okW _) (by decide +kernel) ?_
    refine if_no (i := 5) (a := "line") (b := "wipe") rfl (okW _) (okW _) (by decide +kernel) ?_
    refine if_no (i := 5) (a := "line") (b := "clear") rfl (okW _) (okW _) (by decide +kernel) ?_
    exact h
theorem kb_swap (o : OkS (R : Int) (W : Int)) (gA : Mem (R : Int) (W : Int) A) (gB : Mem (R : Int) (W : Int) B) (h : E.rt (outM (B, A)) (cbE R W s i j (cellsD (A ++ B).flatten) (coD (.lone "swap")) (.str ("swap" : Str)) (place R W i j s))) :
    cbRest E (cbE R W s i j (cellsD (A ++ B).flatten) (coD (.lone "swap")) (.str ("swap" : Str)) (place R W i j s)) := by
  obtain ⟨b1, b2, b3, b4, b5, b6, b7⟩ := okb o
  have na : A.length = R := gA.n
  have nb : B.length = R := gB.n
  have wA : ∀ l ∈ A, l.length = W := fun l hl => (gA.a l hl).1
  have wB : ∀ l ∈ B, l.length = W := fun l hl => (gB.a l hl).1
  have fA : A.flatten.length = R * W := by rw [flat_len A wA, na]
  have fB : B.flatten.length = R * W := by rw [flat_len B wB, nb]
  have eh : (R : Int) * W = ((R * W : Nat) : Int) := by push_cast; rfl
  refine if_no (i := 5) (a := "swap") (b := "put") rfl (okW _) (okW _) (by decide +kernel) ?_
  refine if_noA (i := 5) (a := "swap") (b := "rub") rfl (okW _) (okW _) (by decide +kernel) ?_
  refine if_no (i := 5) (a := "swap") (b := "tail") rfl (okW _) (okW _) (by decide +kernel) ?_
  refine if_noA (i := 5) (a := "swap") (b := "line") rfl (okW _) (okW _) (by decide +kernel) ?_
  refine if_yes (i := 5) (a := "swap") (b := "swap") rfl (okW _) (okW _) (by decide +kernel) ?_
  refine ⟨trivial, trivial, ?_⟩
  have e1 : cutD ((A ++ B).flatten.map chD) (some ((R : Int) * W)) none = B.flatten.map chD := by
    rw [eh, cut_drop, List.flatten_append, ← List.map_drop, ← fA, List.drop_left]
  have e2 : cutD ((A ++ B).flatten.map chD) none (some ((R : Int) * W)) = A.flatten.map chD := by
    rw [eh, cut_take, List.flatten_append, ← List.map_take, ← fA, List.take_left]
  show (cutD ((A ++ B).flatten.map chD) (some ((R : Int) * W)) none).length + (cutD ((A ++ B).flatten.map chD) none (some ((R : Int) * W))).length ≤ 1000000 ∧ _
  rw [e1, e2]
  refine ⟨by rw [List.length_map, List.length_map]; omega, ?_⟩
  have e3 : outM (B, A) = .tuple (B.flatten.map chD ++ A.flatten.map chD) := by
    show cellsD (B ++ A).flatten = _
    unfold cellsD
    rw [List.flatten_append, List.map_append]
  rw [e3] at h
  exact h
theorem bl_flat (n w : Nat) : (List.replicate n (blRow w)).flatten = List.replicate (n * w) 32 := by
  unfold blRow
  induction n with
  | zero => simp
  | succ k ih => rw [List.replicate_succ, List.flatten_cons, ih, Nat.succ_mul, Nat.add_comm, ← List.replicate_append_replicate]
theorem kb_wipe (o : OkS (R : Int) (W : Int)) (gA : Mem (R : Int) (W : Int) A) (gB : Mem (R : Int) (W : Int) B) (h : E.rt (outM (List.replicate R (blRow W), B)) (cbE R W s i j (cellsD (A ++ B).flatten) (coD (.lone "wipe")) (.str ("wipe" : Str)) (place R W i j s))) :
    cbRest E (cbE R W s i j (cellsD (A ++ B).flatten) (coD (.lone "wipe")) (.str ("wipe" : Str)) (place R W i j s)) := by
  obtain ⟨b1, b2, b3, b4, b5, b6, b7⟩ := okb o
  have na : A.length = R := gA.n
  have nb : B.length = R := gB.n
  have wA : ∀ l ∈ A, l.length = W := fun l hl => (gA.a l hl).1
  have wB : ∀ l ∈ B, l.length = W := fun l hl => (gB.a l hl).1
  have fA : A.flatten.length = R * W := by rw [flat_len A wA, na]
  have fB : B.flatten.length = R * W := by rw [flat_len B wB, nb]
  have eh : (R : Int) * W = ((R * W : Nat) : Int) := by push_cast; rfl
  refine if_no (i := 5) (a := "wipe") (b := "put") rfl (okW _) (okW _) (by decide +kernel) ?_
  refine if_noA (i := 5) (a := "wipe") (b := "rub") rfl (okW _) (okW _) (by decide +kernel) ?_
  refine if_no (i := 5) (a := "wipe") (b := "tail") rfl (okW _) (okW _) (by decide +kernel) ?_
  refine if_noA (i := 5) (a := "wipe") (b := "line") rfl (okW _) (okW _) (by decide +kernel) ?_
  refine if_no (i := 5) (a := "wipe") (b := "swap") rfl (okW _) (okW _) (by decide +kernel) ?_
  refine if_yes (i := 5) (a := "wipe") (b := "wipe") rfl (okW _) (okW _) (by decide +kernel) ?_
  refine ⟨by show 1 ≤ 1000000; omega, trivial, ?_⟩
  show ((1 : Int) ≤ (R : Int) * (W : Int) ∧ (R : Int) * (W : Int) ≤ 1000) ∧ _
  refine ⟨by rw [eh]; omega, by simp, by show 1 ≤ 1000; omega, rfl, rfl, ?_⟩
  show r_with_cells [.d (cellsD (A ++ B).flatten), .d (.int 0), .d (.tuple (List.replicate ((R : Int) * (W : Int)).toNat [PyData.str (" " : Str)]).flatten)] 0 _
  have et : ((R : Int) * (W : Int)).toNat = R * W := by rw [eh, Int.toNat_natCast]
  rw [et, bl_rep, List.flatten_append]
  refine d_head (by rw [List.length_replicate, fA]) (by rw [List.length_append]; omega) ?_
  have e3 : outM (List.replicate R (blRow W), B) = cellsD (List.replicate (R * W) 32 ++ B.flatten) := by
    show cellsD (List.replicate R (blRow W) ++ B).flatten = _
    rw [List.flatten_append, bl_flat]
  rw [e3] at h
  rw [List.flatten_append] at h
  exact h
theorem kb_clear (o : OkS (R : Int) (W : Int)) (gA : Mem (R : Int) (W : Int) A) (gB : Mem (R : Int) (W : Int) B) (h : E.rt (outM (A, List.replicate R (blRow W))) (cbE R W s i j (cellsD (A ++ B).flatten) (coD (.lone "clear")) (.str ("clear" : Str)) (place R W i j s))) :
    cbRest E (cbE R W s i j (cellsD (A ++ B).flatten) (coD (.lone "clear")) (.str ("clear" : Str)) (place R W i j s)) := by
  obtain ⟨b1, b2, b3, b4, b5, b6, b7⟩ := okb o
  have na : A.length = R := gA.n
  have nb : B.length = R := gB.n
  have wA : ∀ l ∈ A, l.length = W := fun l hl => (gA.a l hl).1
  have wB : ∀ l ∈ B, l.length = W := fun l hl => (gB.a l hl).1
  have fA : A.flatten.length = R * W := by rw [flat_len A wA, na]
  have fB : B.flatten.length = R * W := by rw [flat_len B wB, nb]
  have eh : (R : Int) * W = ((R * W : Nat) : Int) := by push_cast; rfl
  refine if_no (i := 5) (a := "clear") (b := "put") rfl (okW _) (okW _) (by decide +kernel) ?_
  refine if_noA (i := 5) (a := "clear") (b := "rub") rfl (okW _) (okW _) (by decide +kernel) ?_
  refine if_no (i := 5) (a := "clear") (b := "tail") rfl (okW _) (okW _) (by decide +kernel) ?_
  refine if_noA (i := 5) (a := "clear") (b := "line") rfl (okW _) (okW _) (by decide +kernel) ?_
  refine if_no (i := 5) (a := "clear") (b := "swap") rfl (okW _) (okW _) (by decide +kernel) ?_
  refine if_no (i := 5) (a := "clear") (b := "wipe") rfl (okW _) (okW _) (by decide +kernel) ?_
  refine if_yes (i := 5) (a := "clear") (b := "clear") rfl (okW _) (okW _) (by decide +kernel) ?_
  refine ⟨by show 1 ≤ 1000000; omega, trivial, ?_⟩
  show ((1 : Int) ≤ (R : Int) * (W : Int) ∧ (R : Int) * (W : Int) ≤ 1000) ∧ _
  refine ⟨by rw [eh]; omega, by simp, by show 1 ≤ 1000; omega, rfl, rfl, ?_⟩
  show r_with_cells [.d (cellsD (A ++ B).flatten), .d (.int ((R : Int) * (W : Int))), .d (.tuple (List.replicate ((R : Int) * (W : Int)).toNat [PyData.str (" " : Str)]).flatten)] 0 _
  have e3 : outM (A, List.replicate R (blRow W)) = cellsD (A.flatten ++ List.replicate (R * W) 32) := by
    show cellsD (A ++ List.replicate R (blRow W)).flatten = _
    rw [List.flatten_append, bl_flat]
  have et : ((R : Int) * (W : Int)).toNat = R * W := by rw [eh, Int.toNat_natCast]
  rw [e3] at h
  rw [et, bl_rep, List.flatten_append]
  rw [List.flatten_append] at h
  exact d_tail (by rw [fA, eh]) (by rw [List.length_replicate, fB]) (by rw [List.length_append]; omega) h
theorem kb_at {cs : D} {a b : Nat} (h : E.rt cs (cbE R W s i j cs (coD (.at a b)) (.str ("at" : Str)) (place R W i j s))) : cbRest E (cbE R W s i j cs (coD (.at a b)) (.str ("at" : Str)) (place R W i j s)) := by
  refine if_no (i := 5) (a := "at") (b := "put") rfl (okW _) (okW _) (by decide +kernel) ?_
  refine if_noA (i := 5) (a := "at") (b := "rub") rfl (okW _) (okW _) (by decide +kernel) ?_
  refine if_no (i := 5) (a := "at") (b := "tail") rfl (okW _) (okW _) (by decide +kernel) ?_
  refine if_noA (i := 5) (a := "at") (b := "line") rfl (okW _) (okW _) (by decide +kernel) ?_
  refine if_no (i := 5) (a := "at") (b := "swap") rfl (okW _) (okW _) (by decide +kernel) ?_
  refine if_no (i := 5) (a := "at") (b := "wipe") rfl (okW _) (okW _) (by decide +kernel) ?_
  refine if_no (i := 5) (a := "at") (b := "clear") rfl (okW _) (okW _) (by decide +kernel) ?_
  exact h
theorem kb_roll {cs : D} {a b : Nat} (h : E.rt cs (cbE R W s i j cs (coD (.roll a)) (.str ("roll" : Str)) (place R W i j s))) : cbRest E (cbE R W s i j cs (coD (.roll a)) (.str ("roll" : Str)) (place R W i j s)) := by
  refine if_no (i := 5) (a := "roll") (b := "put") rfl (okW _) (okW _) (by decide +kernel) ?_
  refine if_noA (i := 5) (a := "roll") (b := "rub") rfl (okW _) (okW _) (by decide +kernel) ?_
  refine if_no (i := 5) (a := "roll") (b := "tail") rfl (okW _) (okW _) (by decide +kernel) ?_
  refine if_noA (i := 5) (a := "roll") (b := "line") rfl (okW _) (okW _) (by decide +kernel) ?_
  refine if_no (i := 5) (a := "roll") (b := "swap") rfl (okW _) (okW _) (by decide +kernel) ?_
  refine if_no (i := 5) (a := "roll") (b := "wipe") rfl (okW _) (okW _) (by decide +kernel) ?_
  refine if_no (i := 5) (a := "roll") (b := "clear") rfl (okW _) (okW _) (by decide +kernel) ?_
  exact h
theorem kb_hide {cs : D} (h : E.rt cs (cbE R W s i j cs (coD (.lone "hide")) (.str ("hide" : Str)) (place R W i j s))) : cbRest E (cbE R W s i j cs (coD (.lone "hide")) (.str ("hide" : Str)) (place R W i j s)) := by
  refine if_no (i := 5) (a := "hide") (b := "put") rfl (okW _) (okW _) (by decide +kernel) ?_
  refine if_noA (i := 5) (a := "hide") (b := "rub") rfl (okW _) (okW _) (by decide +kernel) ?_
  refine if_no (i := 5) (a := "hide") (b := "tail") rfl (okW _) (okW _) (by decide +kernel) ?_
  refine if_noA (i := 5) (a := "hide") (b := "line") rfl (okW _) (okW _) (by decide +kernel) ?_
  refine if_no (i := 5) (a := "hide") (b := "swap") rfl (okW _) (okW _) (by decide +kernel) ?_
  refine if_no (i := 5) (a := "hide") (b := "wipe") rfl (okW _) (okW _) (by decide +kernel) ?_
  refine if_no (i := 5) (a := "hide") (b := "clear") rfl (okW _) (okW _) (by decide +kernel) ?_
  exact h
theorem kb_paint {cs : D} (h : E.rt cs (cbE R W s i j cs (coD (.lone "paint")) (.str ("paint" : Str)) (place R W i j s))) : cbRest E (cbE R W s i j cs (coD (.lone "paint")) (.str ("paint" : Str)) (place R W i j s)) := by
  refine if_no (i := 5) (a := "paint") (b := "put") rfl (okW _) (okW _) (by decide +kernel) ?_
  refine if_noA (i := 5) (a := "paint") (b := "rub") rfl (okW _) (okW _) (by decide +kernel) ?_
  refine if_no (i := 5) (a := "paint") (b := "tail") rfl (okW _) (okW _) (by decide +kernel) ?_
  refine if_noA (i := 5) (a := "paint") (b := "line") rfl (okW _) (okW _) (by decide +kernel) ?_
  refine if_no (i := 5) (a := "paint") (b := "swap") rfl (okW _) (okW _) (by decide +kernel) ?_
  refine if_no (i := 5) (a := "paint") (b := "wipe") rfl (okW _) (okW _) (by decide +kernel) ?_
  refine if_no (i := 5) (a := "paint") (b := "clear") rfl (okW _) (okW _) (by decide +kernel) ?_
  exact h
theorem kb_idle {cs : D} (h : E.rt cs (cbE R W s i j cs (coD (.lone "idle")) (.str ("idle" : Str)) (place R W i j s))) : cbRest E (cbE R W s i j cs (coD (.lone "idle")) (.str ("idle" : Str)) (place R W i j s)) := by
  refine if_no (i := 5) (a := "idle") (b := "put") rfl (okW _) (okW _) (by decide +kernel) ?_
  refine if_noA (i := 5) (a := "idle") (b := "rub") rfl (okW _) (okW _) (by decide +kernel) ?_
  refine if_no (i := 5) (a := "idle") (b := "tail") rfl (okW _) (okW _) (by decide +kernel) ?_
  refine if_noA (i := 5) (a := "idle") (b := "line") rfl (okW _) (okW _) (by decide +kernel) ?_
  refine if_no (i := 5) (a := "idle") (b := "swap") rfl (okW _) (okW _) (by decide +kernel) ?_
  refine if_no (i := 5) (a := "idle") (b := "wipe") rfl (okW _) (okW _) (by decide +kernel) ?_
  refine if_no (i := 5) (a := "idle") (b := "clear") rfl (okW _) (okW _) (by decide +kernel) ?_
  exact h
theorem d_cells_behind {m : Nat} {P : D → Nat → Prop} {co : Co} (o : OkS (R : Int) (W : Int)) (hs : s ∈ modes R) (hc : OkC R W co) (gA : Mem (R : Int) (W : Int) A) (gB : Mem (R : Int) (W : Int) B) (hi : i < R) (hj : j < W) (h : P (outM (memF R W s i j A B co)) 0) : r_cells_behind [.d (scr R W), .d (ctlD s i j), .d (cellsD (A ++ B).flatten), .d (coD co)] m P := by
  have os : okD (.str s) := okS' ((modes_fn o).2 s hs)
  obtain ⟨b1, b2, _⟩ := okb o
  have h100 : i < 100 := by omega
  cases co with
  | put c => exact cb_pro o os h100 fun E k => kb_put o gA gB hi hj (k _ rfl _ h)
  | «at» a b => exact cb_pro o os h100 fun E k => kb_at (k _ rfl _ h)
  | roll q => exact cb_pro o os h100 fun E k => kb_roll (a := q) (b := 0) (k _ rfl _ h)
  | lone w =>
    have hw : w ∈ loneWs := hc.ok
    simp only [loneWs, List.mem_cons, List.not_mem_nil, or_false] at hw
    rcases hw with rfl | rfl | rfl | rfl | rfl | rfl | rfl | rfl | rfl
    · have e : memF R W s i j A B (.lone "hide") = (A, B) := by
        have h0 : ¬ ("hide" : Str) = "rub" := by decide +kernel
        have h1 : ¬ ("hide" : Str) = "tail" := by decide +kernel
        have h2 : ¬ ("hide" : Str) = "line" := by decide +kernel
        have h3 : ¬ ("hide" : Str) = "swap" := by decide +kernel
        have h4 : ¬ ("hide" : Str) = "wipe" := by decide +kernel
        have h5 : ¬ ("hide" : Str) = "clear" := by decide +kernel
        simp only [memF, h0, h1, h2, h3, h4, h5, if_true, if_false]
      rw [e] at h
      exact cb_pro o os h100 fun E k => kb_hide (k _ rfl _ h)
    · have e : memF R W s i j A B (.lone "paint") = (A, B) := by
        have h0 : ¬ ("paint" : Str) = "rub" := by decide +kernel
        have h1 : ¬ ("paint" : Str) = "tail" := by decide +kernel
        have h2 : ¬ ("paint" : Str) = "line" := by decide +kernel
        have h3 : ¬ ("paint" : Str) = "swap" := by decide +kernel
        have h4 : ¬ ("paint" : Str) = "wipe" := by decide +kernel
        have h5 : ¬ ("paint" : Str) = "clear" := by decide +kernel
        simp only [memF, h0, h1, h2, h3, h4, h5, if_true, if_false]
      rw [e] at h
      exact cb_pro o os h100 fun E k => kb_paint (k _ rfl _ h)
    · have e : memF R W s i j A B (.lone "line") = (if 0 < rollN s then (A.take (R - rollN s) ++ A.drop (R - rollN s + 1) ++ [blRow W], B) else (A, B)) := by
        have h0 : ¬ ("line" : Str) = "rub" := by decide +kernel
        have h1 : ¬ ("line" : Str) = "tail" := by decide +kernel
        simp only [memF, h0, h1, if_true, if_false]
      rw [e] at h
      exact cb_pro o os h100 fun E k => kb_line o hs gA gB (k _ rfl _ h)
    · have e : memF R W s i j A B (.lone "swap") = (B, A) := by
        have h0 : ¬ ("swap" : Str) = "rub" := by decide +kernel
        have h1 : ¬ ("swap" : Str) = "tail" := by decide +kernel
        have h2 : ¬ ("swap" : Str) = "line" := by decide +kernel
        simp only [memF, h0, h1, h2, if_true, if_false]
      rw [e] at h
      exact cb_pro o os h100 fun E k => kb_swap o gA gB (k _ rfl _ h)
    · have e : memF R W s i j A B (.lone "wipe") = (List.replicate R (blRow W), B) := by
        have h0 : ¬ ("wipe" : Str) = "rub" := by decide +kernel
        have h1 : ¬ ("wipe" : Str) = "tail" := by decide +kernel
        have h2 : ¬ ("wipe" : Str) = "line" := by decide +kernel
        have h3 : ¬ ("wipe" : Str) = "swap" := by decide +kernel
        simp only [memF, h0, h1, h2, h3, if_true, if_false]
      rw [e] at h
      exact cb_pro o os h100 fun E k => kb_wipe o gA gB (k _ rfl _ h)
    · have e : memF R W s i j A B (.lone "clear") = (A, List.replicate R (blRow W)) := by
        have h0 : ¬ ("clear" : Str) = "rub" := by decide +kernel
        have h1 : ¬ ("clear" : Str) = "tail" := by decide +kernel
        have h2 : ¬ ("clear" : Str) = "line" := by decide +kernel
        have h3 : ¬ ("clear" : Str) = "swap" := by decide +kernel
        have h4 : ¬ ("clear" : Str) = "wipe" := by decide +kernel
        simp only [memF, h0, h1, h2, h3, h4, if_true, if_false]
      rw [e] at h
      exact cb_pro o os h100 fun E k => kb_clear o gA gB (k _ rfl _ h)
    · have e : memF R W s i j A B (.lone "rub") = (if 0 < j then inRow s (fun l => l.set (j - 1) 32) i A B else (A, B)) := by
        simp only [memF, if_true, if_false]
      rw [e] at h
      exact cb_pro o os h100 fun E k => kb_rub o gA gB hi hj (k _ rfl _ h)
    · have e : memF R W s i j A B (.lone "tail") = inRow s (fun l => l.take j ++ List.replicate (l.length - j) 32) i A B := by
        have h0 : ¬ ("tail" : Str) = "rub" := by decide +kernel
        simp only [memF, h0, if_true, if_false]
      rw [e] at h
      exact cb_pro o os h100 fun E k => kb_tail o gA gB hi hj (k _ rfl _ h)
    · have e : memF R W s i j A B (.lone "idle") = (A, B) := by
        have h0 : ¬ ("idle" : Str) = "rub" := by decide +kernel
        have h1 : ¬ ("idle" : Str) = "tail" := by decide +kernel
        have h2 : ¬ ("idle" : Str) = "line" := by decide +kernel
        have h3 : ¬ ("idle" : Str) = "swap" := by decide +kernel
        have h4 : ¬ ("idle" : Str) = "wipe" := by decide +kernel
        have h5 : ¬ ("idle" : Str) = "clear" := by decide +kernel
        simp only [memF, h0, h1, h2, h3, h4, h5, if_true, if_false]
      rw [e] at h
      exact cb_pro o os h100 fun E k => kb_idle (k _ rfl _ h)
end
end Q23
namespace Q23
open PySem L2 DL
def enF : Nat → List D → List D
  | _, [] => []
  | k, d :: ds => .tuple [.int (k : Nat), d] :: enF (k + 1) ds
theorem enF_map : ∀ (ds : List D) (k : Nat), (ds.mapIdx fun i d => PyData.tuple [.int ((i + k : Nat) : Int), d]) = enF k ds
  | [], _ => rfl
  | d :: ds, k => by
    rw [List.mapIdx_cons]
    show _ :: _ = _ :: _
    rw [← enF_map ds (k + 1)]
    have e : ∀ i : Nat, i + 1 + k = i + (k + 1) := fun i => by omega
    simp only [Nat.zero_add, e]
theorem en_eq (ds : List D) : enD ds = enF 0 ds := enF_map ds 0
structure De where
  s : Str
  i : Nat
  j : Nat
  A : List (List Nat)
  B : List (List Nat)
def De.step (R W : Nat) (x : De) (c : Co) : De := ⟨(ctlF R W x.s x.i x.j c).1, (ctlF R W x.s x.i x.j c).2.1, (ctlF R W x.s x.i x.j c).2.2, (memF R W x.s x.i x.j x.A x.B c).1, (memF R W x.s x.i x.j x.A x.B c).2⟩
structure De.Ok (R W : Nat) (x : De) : Prop where
  s : x.s ∈ modes R
  i : x.i < R
  j : x.j < W
  A : Mem (R : Int) (W : Int) x.A
  B : Mem (R : Int) (W : Int) x.B
/-- as the program tells it -/
def De.d (x : De) : D := .tuple [.str x.s, .int (x.i : Int), .int (x.j : Int), textD x.A, textD x.B]
/-- as the law leads it -/
def De.l (x : De) : D := .tuple [.str x.s, .int (x.i : Int), .int (x.j : Int), memL x.A, memL x.B]
section
variable {R W : Nat}
theorem mode_in (o : OkS (R : Int) (W : Int)) : (∀ s ∈ (["hide", "paint"] : List Str), s ∈ modes R) ∧ ∀ k, 1 ≤ k → k ≤ R → rollS k ∈ modes R := by
  obtain ⟨b1, b2, _⟩ := okb o
  have : ∀ r, r = 1 ∨ r = 2 ∨ r = 3 ∨ r = 4 → (∀ s ∈ (["hide", "paint"] : List Str), s ∈ modes (r : Nat)) ∧ ∀ k, k < 5 → 1 ≤ k → k ≤ r → rollS k ∈ modes (r : Nat) := by
    rintro r (rfl | rfl | rfl | rfl) <;> decide +kernel
  obtain ⟨h1, h2⟩ := this R (by omega)
  exact ⟨h1, fun k k1 k2 => h2 k (by omega) k1 k2⟩
theorem mem_bl : Mem (R : Int) (W : Int) (List.replicate R (blRow W)) := by
  refine ⟨by rw [List.length_replicate]; rfl, fun l hl => ?_⟩
  rw [List.eq_of_mem_replicate hl]
  refine ⟨by unfold blRow; rw [List.length_replicate]; rfl, fun c hc => ?_⟩
  rw [List.eq_of_mem_replicate hc]
  decide
theorem mem_set {A : List (List Nat)} {i : Nat} {r : List Nat} (h : Mem (R : Int) (W : Int) A) (hr : Row (W : Int) r) : Mem (R : Int) (W : Int) (A.set i r) := by
  refine ⟨by rw [List.length_set]; exact h.n, fun l hl => ?_⟩
  rcases List.mem_or_eq_of_mem_set hl with z | z
  · exact h.a l z
  · rw [z]
    exact hr
theorem row_get {A : List (List Nat)} {i : Nat} (h : Mem (R : Int) (W : Int) A) (hi : i < R) : Row (W : Int) (A.getD i []) := by
  have hn : A.length = R := h.n
  rw [List.getD_eq_getElem?_getD, List.getElem?_eq_getElem (by omega)]
  exact h.a _ (List.getElem_mem _)
theorem row_set {l : List Nat} {k c : Nat} (h : Row (W : Int) l) (hc : sgC c = true) : Row (W : Int) (l.set k c) := by
  refine ⟨by rw [List.length_set]; exact h.1, fun x hx => ?_⟩
  rcases List.mem_or_eq_of_mem_set hx with z | z
  · exact h.2 x z
  · rw [z]
    exact hc
theorem inRow_ok {s : Str} {i : Nat} {A B : List (List Nat)} {f : List Nat → List Nat} (hA : Mem (R : Int) (W : Int) A) (hB : Mem (R : Int) (W : Int) B) (hi : i < R) (hf : ∀ l, Row (W : Int) l → Row (W : Int) (f l)) : Mem (R : Int) (W : Int) (inRow s f i A B).1 ∧ Mem (R : Int) (W : Int) (inRow s f i A B).2 := by
  unfold inRow
  by_cases z : s = "hide"
  · rw [if_pos z]
    exact ⟨hA, mem_set hB (hf _ (row_get hB hi))⟩
  · rw [if_neg z]
    exact ⟨mem_set hA (hf _ (row_get hA hi)), hB⟩
theorem mem_ok {x : De} {c : Co} (o : OkS (R : Int) (W : Int)) (h : x.Ok R W) (hc : OkC R W c) : Mem (R : Int) (W : Int) (memF R W x.s x.i x.j x.A x.B c).1 ∧ Mem (R : Int) (W : Int) (memF R W x.s x.i x.j x.A x.B c).2 := by
  cases c with
  | put c => exact inRow_ok h.A h.B h.i fun l hl => row_set hl hc.ok
  | «at» a b => exact ⟨h.A, h.B⟩
  | roll k => exact ⟨h.A, h.B⟩
  | lone w =>
    unfold memF
    dsimp only
    split
    · split
      · exact inRow_ok h.A h.B h.i fun l hl => row_set hl (by decide)
      · exact ⟨h.A, h.B⟩
    · split
      · refine inRow_ok h.A h.B h.i fun l hl => ⟨?_, fun c hc => ?_⟩
        · have h1 : l.length = W := hl.1
          have h2 := h.j
          rw [List.length_append, List.length_take, List.length_replicate, h1]
          show min x.j W + (W - x.j) = W
          omega
        · rcases List.mem_append.mp hc with z | z
          · exact hl.2 c (List.mem_of_mem_take z)
          · rw [List.eq_of_mem_replicate z]
            decide
      · split
        · split
          · rename_i z
            obtain ⟨rl, _⟩ := roll_le o h.s
            have na : x.A.length = R := h.A.n
            refine ⟨⟨?_, fun l hl => ?_⟩, h.B⟩
            · show (x.A.take (R - rollN x.s) ++ x.A.drop (R - rollN x.s + 1) ++ [blRow W]).length = R
              rw [List.length_append, List.length_append, List.length_take, List.length_drop, na]
              simp
              omega
            · have hl : l ∈ x.A.take (R - rollN x.s) ++ x.A.drop (R - rollN x.s + 1) ++ [blRow W] := hl
              rcases List.mem_append.mp hl with z | z
              · rcases List.mem_append.mp z with z | z
                · exact h.A.a l (List.mem_of_mem_take z)
                · exact h.A.a l (List.mem_of_mem_drop z)
              · (rw [List.mem_singleton.mp z])
                exact (mem_bl (R := 1)).a _ (by simp)
          · exact ⟨h.A, h.B⟩
        · split
          · exact ⟨h.B, h.A⟩
          · split
            · exact ⟨mem_bl, h.B⟩
            · split
              · exact ⟨h.A, mem_bl⟩
              · exact ⟨h.A, h.B⟩
theorem De.Ok.step {x : De} {c : Co} (o : OkS (R : Int) (W : Int)) (h : x.Ok R W) (hc : OkC R W c) : (x.step R W c).Ok R W := by
  obtain ⟨m1, m2⟩ := mem_ok o h hc
  obtain ⟨b1, b2, b3, _⟩ := okb o
  obtain ⟨mi, mr⟩ := mode_in o
  have hi := h.i
  have hj := h.j
  have cases : (ctlF R W x.s x.i x.j c).1 ∈ modes R ∧ (ctlF R W x.s x.i x.j c).2.1 < R ∧ (ctlF R W x.s x.i x.j c).2.2 < W := by
    cases c with
    | put c => exact ⟨h.s, hi, by show min (x.j + 1) (W - 1) < W; omega⟩
    | «at» a b => exact ⟨h.s, hc.ok.1, hc.ok.2⟩
    | roll k => exact ⟨mr k hc.ok.1 hc.ok.2, by show R - 1 < R; omega, by show 0 < W; omega⟩
    | lone w =>
      unfold ctlF
      dsimp only
      split
      · rename_i z
        refine ⟨mi w ?_, hi, hj⟩
        rcases z with rfl | rfl <;> simp
      · split
        · split
          · exact ⟨h.s, by show R - 1 < R; omega, by show 0 < W; omega⟩
          · exact ⟨h.s, by show min (x.i + 1) (R - 1) < R; omega, by show 0 < W; omega⟩
        · split
          · exact ⟨mi _ (by simp), hi, hj⟩
          · split
            · exact ⟨h.s, hi, by show x.j - 1 < W; omega⟩
            · exact ⟨h.s, hi, hj⟩
  exact ⟨cases.1, cases.2.1, cases.2.2, m1, m2⟩
def CodeOK (R W : Nat) (d : D) : Prop := Fn 1 d ∧ codeB R W d = true
theorem fW (s : Str) (h1 : s.length ≤ 1000 := by decide +kernel) (h2 : PyData.strOk s = true := by decide +kernel) : Fn 0 (.str s) := .str 0 s h1 h2
theorem co_ok {c : Co} (o : OkS (R : Int) (W : Int)) (h : OkC R W c) : CodeOK R W (coD c) := by
  cases c with
  | put c =>
    have hc : sgC c = true := h.ok
    refine ⟨.tup 0 _ (fun d hd => ?_) (by show 2 ≤ 1000; omega), ?_⟩
    · simp at hd
      rcases hd with rfl | rfl
      · exact fW _
      · exact ch_fn (sg_lt hc).1
    · show ((("put" : Str) == ("put" : Str)) && sgC c || _) = true
      rw [show (("put" : Str) == ("put" : Str)) = true by decide +kernel, hc]
      rfl
  | «at» a b =>
    have hc : a < R ∧ b < W := h.ok
    refine ⟨.tup 0 _ (fun d hd => ?_) (by show 3 ≤ 1000; omega), ?_⟩
    · simp at hd
      rcases hd with rfl | rfl | rfl
      · exact fW _
      · exact .int _ _
      · exact .int _ _
    · show ((("at" : Str) == ("at" : Str)) && (within (.int (a : Int)) 0 ((R : Int) - 1) && within (.int (b : Int)) 0 ((W : Int) - 1))) = true
      rw [show (("at" : Str) == ("at" : Str)) = true by decide +kernel, w_in (by omega) (by omega), w_in (by omega) (by omega)]
      rfl
  | roll k =>
    have hc : 1 ≤ k ∧ k ≤ R := h.ok
    refine ⟨.tup 0 _ (fun d hd => ?_) (by show 2 ≤ 1000; omega), ?_⟩
    · simp at hd
      rcases hd with rfl | rfl
      · exact fW _
      · exact .int _ _
    · show ((("roll" : Str) == ("put" : Str)) && sgB (.int (k : Int)) || (("roll" : Str) == ("roll" : Str)) && within (.int (k : Int)) 1 (R : Int)) = true
      rw [show (("roll" : Str) == ("put" : Str)) = false by decide +kernel, show (("roll" : Str) == ("roll" : Str)) = true by decide +kernel, w_in (by omega) (by omega)]
      rfl
  | lone w =>
    have hw : w ∈ loneWs := h.ok
    have : ∀ w ∈ loneWs, w.length ≤ 1000 ∧ PyData.strOk w = true := by decide +kernel
    obtain ⟨q1, q2⟩ := this w hw
    refine ⟨.tup 0 _ (fun d hd => ?_) (by show 1 ≤ 1000; omega), ?_⟩
    · rw [List.mem_singleton.mp hd]
      exact .str 0 w q1 q2
    · show (loneWs.any (· == w)) = true
      rw [List.any_eq_true]
      exact ⟨w, hw, by simp⟩
variable {m : Nat} {P : D → Nat → Prop}
def ncBody : SM := (sIf (bNot (bTruth (hV (dCall 2 r_is_code_of (aCons (dV 0) (aCons (dV 5) (aNil))))))) (sNever) (sNo))
theorem nc_loop {E : DE} {s1 s2 s3 : Sl} : ∀ (ds : List D) (k : Nat) (s4 s5 : Sl), (∀ d ∈ ds, CodeOK R W d) → (∀ s4 s5, E.nx [.im (scr R W), s1, s2, s3, s4, s5]) → forL (gTupT 2 (gConsT (gN 4) (gConsT (gN 5) (gNoT)))) ncBody E (enF k ds) [.im (scr R W), s1, s2, s3, s4, s5]
  | [], k, s4, s5, _, h => h s4 s5
  | d :: ds, k, s4, s5, hd, h => by
    obtain ⟨f, c⟩ := hd d (List.mem_cons_self ..)
    refine ⟨rfl, rfl, ?_⟩
    refine ⟨rfl, rfl, d_code_of f ?_⟩
    rw [c]
    exact nc_loop ds (k + 1) _ _ (fun x hx => hd x (List.mem_cons_of_mem _ hx)) h
theorem d_need_codes {ds : List D} (hl : ds.length ≤ 2000) (hd : ∀ d ∈ ds, CodeOK R W d) (h : P .none 0) : r_need_codes [.d (scr R W), .d (.tuple ds), .d (.int 0), .d (.int 2000)] m P := by
  refine ⟨rfl, rfl, d_is_tuple ?_⟩
  have e : tupB (.tuple ds) 0 2000 = true := by
    show (decide ((0 : Int) ≤ (ds.length : Int)) && decide ((ds.length : Int) ≤ 2000)) = true
    rw [decide_eq_true (show (0 : Int) ≤ (ds.length : Int) by omega), decide_eq_true (show (ds.length : Int) ≤ 2000 by omega)]
    rfl
  rw [e]
  show forL _ ncBody _ (enD ds) _
  rw [en_eq]
  exact nc_loop ds 0 _ _ hd fun s4 s5 => ⟨hd_d, h⟩
theorem d_cells_of {s : Str} {i j : Int} {a b : List (List Nat)} (hl : (a ++ b).flatten.length ≤ 100000) (hn : (a ++ b).length ≤ 1000) (h : P (cellsD (a ++ b).flatten) 0) : r_cells_of [.d (.tuple [.str s, .int i, .int j, textD a, textD b])] m P := by
  rw [List.length_append] at hn
  refine ⟨⟨_, rfl⟩, trivial, _, rfl, trivial, _, rfl, ?_⟩
  show (a.map lineD).length + (b.map lineD).length ≤ 1000000 ∧ _
  have e : a.map lineD ++ b.map lineD = ((a ++ b).map S).map PyData.str := by
    rw [← List.map_append, List.map_map]
    rfl
  rw [List.length_map, List.length_map, e]
  refine ⟨by omega, ("" : Str), ((a ++ b).map S).map PyData.str, (a ++ b).map S, rfl, .inr rfl, ofStrs_map _, ?_, ?_⟩
  · have h0 : ("" : Str).length = 0 := by decide +kernel
    rw [sum_len, h0]
    omega
  · rw [T_join]
    refine ⟨by rw [S_len]; omega, ?_⟩
    rw [signs_S]
    exact ⟨hd_d, h⟩
def rowAt (cs : List Nat) (W k : Nat) : List Nat := (cs.drop (k * W)).take W
theorem cut_mid (xs : List D) {p q : Nat} (h1 : p ≤ q) (h2 : q ≤ xs.length) : cutD xs (some (p : Int)) (some (q : Int)) = (xs.drop p).take (q - p) := by
  unfold cutD
  rw [HT.sIx_nat, HT.sIx_nat, Nat.min_eq_left h2, Nat.min_eq_left (Nat.le_trans h1 h2)]
def rowD (cs : List Nat) (W : Nat) (d : D) : D := match d with
  | .int k => lineD (rowAt cs W k.toNat)
  | _ => d
theorem d_rows {cs : List Nat} {f : Nat} (o : OkS (R : Int) (W : Int)) (hf : f ≤ 4) (hc : (f + R) * W ≤ cs.length) (h : P (.tuple ((rgD f ((f : Int) + R)).map (rowD cs W))) 0) : r_memory_of [.d (scr R W), .d (cellsD cs), .d (.int f)] m P := by
  have r4 := o.r4
  have w40 := o.w40
  have rl : (rgD f ((f : Int) + R)).length = R := by simp [rgD]; omega
  refine ⟨rfl, rfl, trivial, trivial, ⟨by omega, by omega, by omega, by omega⟩, by rw [rl]; omega, ⟨by simp, fun j hj => by simp at hj; subst hj; rfl⟩, ?_⟩
  refine lcL_map (ρ := [.im (scr R W), .im (cellsD cs), .im (.int f), .im (.int R), .im (.int W), .no]) (rowD cs W) (rgD f ((f : Int) + R)) [] ?_ ?_
  · intro d hd Q hQ
    obtain ⟨k, rfl, k0⟩ : ∃ k : Nat, d = .int (k : Int) ∧ k < f + R := by
      unfold rgD at hd
      obtain ⟨i, hi, rfl⟩ := List.mem_map.mp hd
      have := List.mem_range.mp hi
      exact ⟨f + i, by push_cast; rfl, by omega⟩
    have km : (k + 1) * W ≤ (f + R) * W := Nat.mul_le_mul (by omega) (Nat.le_refl _)
    have k2 : k * W ≤ (k + 1) * W := Nat.mul_le_mul (by omega) (Nat.le_refl _)
    refine ⟨⟨_, rfl⟩, trivial, trivial, trivial, .inl ⟨by omega, by omega⟩, trivial, trivial, .inl ⟨by omega, by omega⟩, ?_⟩
    have e1 : (k : Int) * (W : Int) = ((k * W : Nat) : Int) := by push_cast; rfl
    have e2 : ((k : Int) + 1) * (W : Int) = (((k + 1) * W : Nat) : Int) := by push_cast; rfl
    have e3 : cutD (cs.map chD) (some ((k : Int) * (W : Int))) (some (((k : Int) + 1) * (W : Int))) = (rowAt cs W k).map chD := by
      rw [e1, e2, cut_mid _ k2 (by rw [List.length_map]; omega), ← List.map_drop, ← List.map_take]
      unfold rowAt
      rw [Nat.succ_mul, Nat.add_sub_cancel_left]
    show ∃ z ds ys, PyData.str ("" : Str) = .str z ∧ (PyData.tuple (cutD (cs.map chD) (some ((k : Int) * (W : Int))) (some (((k : Int) + 1) * (W : Int)))) = .list ds ∨ _) ∧ _
    rw [e3]
    have ll : (rowAt cs W k).length ≤ W := by
      unfold rowAt
      rw [List.length_take]
      omega
    refine ⟨("" : Str), _, _, rfl, .inr rfl, strs_ch _, ?_, ?_⟩
    · rw [sum_ch]
      have h0 : ("" : Str).length = 0 := by decide +kernel
      rw [h0]
      omega
    · rw [T_joinC]
      exact hQ _ rfl
  · rw [List.nil_append]
    exact ⟨hd_d, h⟩
theorem rows_flat (W : Nat) (A : List Nat) : ∀ (C : List (List Nat)) (k : Nat), (∀ l ∈ C, l.length = W) → k < C.length → rowAt (C.flatten ++ A) W k = C.getD k []
  | [], k, _, hk => by simp at hk
  | l :: C, 0, h, _ => by
    have := h l (List.mem_cons_self ..)
    unfold rowAt
    rw [Nat.zero_mul, List.drop_zero, List.flatten_cons, List.append_assoc, ← this, List.take_left]
    rfl
  | l :: C, k + 1, h, hk => by
    have e := h l (List.mem_cons_self ..)
    have ih := rows_flat W A C k (fun x hx => h x (List.mem_cons_of_mem _ hx)) (by simp at hk; omega)
    unfold rowAt at ih ⊢
    rw [List.flatten_cons, List.append_assoc, Nat.succ_mul, Nat.add_comm, ← List.drop_drop]
    have e2 : List.drop W (l ++ (C.flatten ++ A)) = C.flatten ++ A := by
      rw [← e, List.drop_left]
    rw [e2, ih]
    rfl
theorem rows_at (W : Nat) (X : List (List Nat)) (f n : Nat) (hX : ∀ l ∈ X, l.length = W) (hn : f + n ≤ X.length) : (rgD ((f : Nat) : Int) (((f : Nat) : Int) + n)).map (rowD X.flatten W) = ((X.drop f).take n).map lineD := by
  unfold rgD
  have e : (((f : Nat) : Int) + n - ((f : Nat) : Int)).toNat = n := by omega
  rw [e, List.map_map]
  apply List.ext_getElem
  · simp
    omega
  · intro k h1 h2
    have hk : k < n := by simpa using h1
    have := rows_flat W [] X (f + k) hX (by omega)
    rw [List.append_nil] at this
    simp only [List.getElem_map, List.getElem_range, Function.comp]
    have ek : (((f : Nat) : Int) + (k : Int)).toNat = f + k := by omega
    show lineD (rowAt X.flatten W (((f : Nat) : Int) + (k : Int)).toNat) = _
    rw [ek, this]
    congr 1
    rw [List.getD_eq_getElem?_getD, List.getElem?_eq_getElem (by omega), List.getElem_take, List.getElem_drop]
    rfl
theorem d_stepped {x : De} {c : Co} (o : OkS (R : Int) (W : Int)) (h : x.Ok R W) (hc : OkC R W c) (k : P (.tuple [ctlD (x.step R W c).s (x.step R W c).i (x.step R W c).j, cellsD ((x.step R W c).A ++ (x.step R W c).B).flatten]) 0) : r_stepped [.d (scr R W), .d (ctlD x.s x.i x.j), .d (cellsD (x.A ++ x.B).flatten), .d (coD c)] m P := by
  refine ⟨rfl, rfl, d_control_behind o (roll_le o h.s).2 hc ?_⟩
  refine ⟨rfl, rfl, d_cells_behind o h.s hc h.A h.B h.i h.j ?_⟩
  exact ⟨by show 2 ≤ 1000000; omega, hd_d, k⟩
theorem d_cells {x : De} (o : OkS (R : Int) (W : Int)) (h : x.Ok R W) (k : P (cellsD (x.A ++ x.B).flatten) 0) : r_cells_of [.d x.d] m P := by
  obtain ⟨b1, b2, b3, b4, b5, b6, b7⟩ := okb o
  obtain ⟨x1, x2⟩ := X_all (c := 0) h.A h.B
  exact d_cells_of (by rw [flat_len _ x1, x2]; omega) (by rw [x2]; omega) k
def De.run (R W : Nat) (x : De) (cs : List Co) : De := cs.foldl (De.step R W) x
theorem De.Ok.run (o : OkS (R : Int) (W : Int)) : ∀ {cs : List Co} {x : De}, x.Ok R W → (∀ c ∈ cs, OkC R W c) → (x.run R W cs).Ok R W
  | [], _, h, _ => h
  | c :: cs, x, h, hc => De.Ok.run o (cs := cs) (h.step o (hc c (List.mem_cons_self ..))) fun c hc' => hc c (List.mem_cons_of_mem _ hc')
end
end Q23
namespace Q23
open PySem L2 DL
def lcRest : SM := sSeq (sIf (bD (d2 gEq (hS 5) (hV (dC (.str ("at" : Str)))))) (sRet (dTup (lCons (dV 1) (lCons (d2 gIx (hS 4) (hV (dC (.int 1)))) (lCons (d2 gIx (hS 4) (hV (dC (.int 2)))) (lNil)))))) (sNo)) (sSeq (sIf (bD (d2 gEq (hS 5) (hV (dC (.str ("roll" : Str)))))) (sRet (dTup (lCons (d2 gAdd (hV (dC (.str ("roll" : Str)))) (hV (dCB gStrI (DL.gCons (hV (d2 gIx (hS 4) (hV (dC (.int 1))))) (DL.gNil))))) (lCons (d2 DL.gSub (hV (d2 gIx (hS 0) (hV (dC (.int 0))))) (hV (dC (.int 1)))) (lCons (dC (.int 0)) (lNil)))))) (sNo)) (sSeq (sIf (bD (d2 gEq (hS 5) (hV (dC (.str ("line" : Str)))))) (sSeq (sSet 6 (dIf (bD (d2 gEq (hV (dSl (hS 1) (oNo) (oI (dC (.int 4))))) (hV (dC (.str ("roll" : Str)))))) (d2 DL.gSub (hV (d2 gIx (hS 0) (hV (dC (.int 0))))) (hV (dC (.int 1)))) (dCB gMin (DL.gCons (hV (d2 gAdd (hS 2) (hV (dC (.int 1))))) (DL.gCons (hV (d2 DL.gSub (hV (d2 gIx (hS 0) (hV (dC (.int 0))))) (hV (dC (.int 1))))) (DL.gNil)))))) (sRet (dTup (lCons (dV 1) (lCons (dV 6) (lCons (dC (.int 0)) (lNil))))))) (sNo)) (sSeq (sIf (bD (d2 gEq (hS 5) (hV (dC (.str ("put" : Str)))))) (sRet (dTup (lCons (dV 1) (lCons (dV 2) (lCons (dCB gMin (DL.gCons (hV (d2 gAdd (hS 3) (hV (dC (.int 1))))) (DL.gCons (hV (d2 DL.gSub (hV (d2 gIx (hS 0) (hV (dC (.int 1))))) (hV (dC (.int 1))))) (DL.gNil)))) (lNil)))))) (sNo)) (sSeq (sIf (bD (d2 gEq (hS 5) (hV (dC (.str ("rub" : Str)))))) (sRet (dTup (lCons (dV 1) (lCons (dV 2) (lCons (dCB gMax (DL.gCons (hV (d2 DL.gSub (hS 3) (hV (dC (.int 1))))) (DL.gCons (hV (dC (.int 0))) (DL.gNil)))) (lNil)))))) (sNo)) (sSeq (sIf (bD (d2 gEq (hS 5) (hV (dC (.str ("swap" : Str)))))) (sRet (dTup (lCons (dC (.str ("hide" : Str))) (lCons (dV 2) (lCons (dV 3) (lNil)))))) (sNo)) (sRet (dTup (lCons (dIf (bD (d2 gInU (hS 5) (hV (dTup (lCons (dC (.str ("hide" : Str))) (lCons (dC (.str ("paint" : Str))) (lNil))))))) (dV 5) (dV 1)) (lCons (dV 2) (lCons (dV 3) (lNil)))))))))))
def lcE (R W : Nat) (s : Str) (i j : Nat) (c w : D) : DL.Env := [.im (scr R W), .im (.str s), .im (.int i), .im (.int j), .im c, .im w, .no]
section
variable {m : Nat} {P : D → Nat → Prop} {E : DE} {R W i j : Nat} {s : Str} {c : D} {w : Str} {rest : List D}
theorem lc_pro (h : ∀ E : DE, (∀ ρ : DL.Env, ρ[0]? = some (.im (scr R W)) → ∀ d, P d 0 → E.rt d ρ) → lcRest E (lcE R W s i j (.tuple (.str w :: rest)) (.str w))) : r__law_cursor [.d (scr R W), .d (.str s), .d (.int i), .d (.int j), .d (.tuple (.str w :: rest))] m P := by
  refine ⟨trivial, _, at0', h _ fun ρ e d q => ?_⟩
  show (match ρ[0]? with
    | some (Sl.ora m') => P d m'
    | _ => ([Ar.d (scr R W), Ar.d (.str s), Ar.d (.int i), Ar.d (.int j), Ar.d (.tuple (.str w :: rest))]).head?.map isD ≠ some false ∧ P d 0)
  rw [e]
  exact ⟨hd_d, q⟩
theorem rolls4 (h : s ∈ allModes) : (cutS s none (some 4) == ("roll" : Str)) = decide (0 < rollN s) ∧ s.length ≤ 1000000 ∧ PyData.strOk (cutS s none (some 4)) = true := by
  have : ∀ s ∈ allModes, (cutS s none (some 4) == ("roll" : Str)) = decide (0 < rollN s) ∧ s.length ≤ 1000000 ∧ PyData.strOk (cutS s none (some 4)) = true := by decide +kernel
  exact this s h
theorem rolls5 (h : s ∈ allModes) (hr : 0 < rollN s) : PySem.intText? (cutS s (some 4) none) = some (rollN s : Int) ∧ (cutS s (some 4) none).length ≤ 640 := by
  have : ∀ s ∈ allModes, 0 < rollN s → PySem.intText? (cutS s (some 4) none) = some (rollN s : Int) ∧ (cutS s (some 4) none).length ≤ 640 := by decide +kernel
  exact this s h hr
theorem roll_str2 {k : Nat} (h1 : 1 ≤ k) (h2 : k ≤ 4) : ("roll" : Str) ++ ((toString (k : Int) : String) : Str) = rollS k ∧ (k : Int).natAbs.log2 < 1920 ∧ ("roll" : Str).length + ((toString (k : Int) : String) : Str).length ≤ 1000000 := by
  have : k = 1 ∨ k = 2 ∨ k = 3 ∨ k = 4 := by omega
  rcases this with rfl | rfl | rfl | rfl <;> exact ⟨by decide +kernel, by decide +kernel, by decide +kernel⟩
theorem lc_at {a b : Nat} (h : ∀ ρ : DL.Env, ρ[0]? = some (.im (scr R W)) → E.rt (ctlD s a b) ρ) : lcRest E (lcE R W s i j (coD (.at a b)) (.str ("at" : Str))) := by
  refine if_yes (i := 5) (a := "at") (b := "at") rfl (okW _) (okW _) (by decide +kernel) ?_
  exact ⟨trivial, _, rfl, trivial, _, rfl, by show 3 ≤ 1000000; omega, h _ rfl⟩
theorem lc_roll {k : Nat} (r1 : 1 ≤ R) (k1 : 1 ≤ k) (k4 : k ≤ 4) (h : ∀ ρ : DL.Env, ρ[0]? = some (.im (scr R W)) → E.rt (ctlD (rollS k) ((R - 1 : Nat) : Int) 0) ρ) : lcRest E (lcE R W s i j (coD (.roll k)) (.str ("roll" : Str))) := by
  have e : ((R - 1 : Nat) : Int) = (R : Int) - 1 := by omega
  obtain ⟨e1, e2, e3⟩ := roll_str2 k1 k4
  rw [e, ← e1] at h
  refine if_no (i := 5) (a := "roll") (b := "at") rfl (okW _) (okW _) (by decide +kernel) ?_
  refine if_yes (i := 5) (a := "roll") (b := "roll") rfl (okW _) (okW _) (by decide +kernel) ?_
  exact ⟨trivial, _, rfl, e2, e3, trivial, _, rfl, by show 3 ≤ 1000000; omega, h _ rfl⟩
theorem lc_line (r1 : 1 ≤ R) (hs : s ∈ allModes) (h : ∀ ρ : DL.Env, ρ[0]? = some (.im (scr R W)) → E.rt (if 0 < rollN s then ctlD s ((R - 1 : Nat) : Int) 0 else ctlD s ((min (i + 1) (R - 1) : Nat) : Int) 0) ρ) : lcRest E (lcE R W s i j (coD (.lone "line")) (.str ("line" : Str))) := by
  have e : ((R - 1 : Nat) : Int) = (R : Int) - 1 := by omega
  have e2 : ((min (i + 1) (R - 1) : Nat) : Int) = min ((i : Int) + 1) ((R : Int) - 1) := by omega
  rw [e, e2] at h
  obtain ⟨q1, q2, q3⟩ := rolls4 hs
  refine if_no (i := 5) (a := "line") (b := "at") rfl (okW _) (okW _) (by decide +kernel) ?_
  refine if_no (i := 5) (a := "line") (b := "roll") rfl (okW _) (okW _) (by decide +kernel) ?_
  refine if_yes (i := 5) (a := "line") (b := "line") rfl (okW _) (okW _) (by decide +kernel) ?_
  refine ⟨trivial, q2, okW _ q3, okW _, ?_⟩
  rw [eqS, q1]
  by_cases z : 0 < rollN s
  · rw [if_pos z] at h
    rw [decide_eq_true z]
    exact ⟨trivial, _, rfl, by show 3 ≤ 1000000; omega, h _ rfl⟩
  · rw [if_neg z] at h
    rw [decide_eq_false z]
    exact ⟨trivial, trivial, _, rfl, by show 3 ≤ 1000000; omega, h _ rfl⟩
theorem lc_put {c : Nat} (w1 : 1 ≤ W) (h : ∀ ρ : DL.Env, ρ[0]? = some (.im (scr R W)) → E.rt (ctlD s i ((min (j + 1) (W - 1) : Nat) : Int)) ρ) : lcRest E (lcE R W s i j (coD (.put c)) (.str ("put" : Str))) := by
  have e : ((min (j + 1) (W - 1) : Nat) : Int) = min ((j : Int) + 1) ((W : Int) - 1) := by omega
  rw [e] at h
  refine if_no (i := 5) (a := "put") (b := "at") rfl (okW _) (okW _) (by decide +kernel) ?_
  refine if_no (i := 5) (a := "put") (b := "roll") rfl (okW _) (okW _) (by decide +kernel) ?_
  refine if_no (i := 5) (a := "put") (b := "line") rfl (okW _) (okW _) (by decide +kernel) ?_
  refine if_yes (i := 5) (a := "put") (b := "put") rfl (okW _) (okW _) (by decide +kernel) ?_
  exact ⟨trivial, trivial, _, rfl, by show 3 ≤ 1000000; omega, h _ rfl⟩
theorem lc_rub (h : ∀ ρ : DL.Env, ρ[0]? = some (.im (scr R W)) → E.rt (ctlD s i ((j - 1 : Nat) : Int)) ρ) : lcRest E (lcE R W s i j (coD (.lone "rub")) (.str ("rub" : Str))) := by
  have e : ((j - 1 : Nat) : Int) = max ((j : Int) - 1) 0 := by omega
  rw [e] at h
  refine if_no (i := 5) (a := "rub") (b := "at") rfl (okW _) (okW _) (by decide +kernel) ?_
  refine if_no (i := 5) (a := "rub") (b := "roll") rfl (okW _) (okW _) (by decide +kernel) ?_
  refine if_no (i := 5) (a := "rub") (b := "line") rfl (okW _) (okW _) (by decide +kernel) ?_
  refine if_no (i := 5) (a := "rub") (b := "put") rfl (okW _) (okW _) (by decide +kernel) ?_
  refine if_yes (i := 5) (a := "rub") (b := "rub") rfl (okW _) (okW _) (by decide +kernel) ?_
  exact ⟨trivial, by show 3 ≤ 1000000; omega, h _ rfl⟩
theorem lc_swap (h : ∀ ρ : DL.Env, ρ[0]? = some (.im (scr R W)) → E.rt (ctlD "hide" i j) ρ) : lcRest E (lcE R W s i j (coD (.lone "swap")) (.str ("swap" : Str))) := by
  refine if_no (i := 5) (a := "swap") (b := "at") rfl (okW _) (okW _) (by decide +kernel) ?_
  refine if_no (i := 5) (a := "swap") (b := "roll") rfl (okW _) (okW _) (by decide +kernel) ?_
  refine if_no (i := 5) (a := "swap") (b := "line") rfl (okW _) (okW _) (by decide +kernel) ?_
  refine if_no (i := 5) (a := "swap") (b := "put") rfl (okW _) (okW _) (by decide +kernel) ?_
  refine if_no (i := 5) (a := "swap") (b := "rub") rfl (okW _) (okW _) (by decide +kernel) ?_
  refine if_yes (i := 5) (a := "swap") (b := "swap") rfl (okW _) (okW _) (by decide +kernel) ?_
  exact ⟨by show 3 ≤ 1000000; omega, h _ rfl⟩
theorem lc_hide (h : ∀ ρ : DL.Env, ρ[0]? = some (.im (scr R W)) → E.rt (ctlD "hide" i j) ρ) : lcRest E (lcE R W s i j (coD (.lone "hide")) (.str ("hide" : Str))) := by
  refine if_no (i := 5) (a := "hide") (b := "at") rfl (okW _) (okW _) (by decide +kernel) ?_
  refine if_no (i := 5) (a := "hide") (b := "roll") rfl (okW _) (okW _) (by decide +kernel) ?_
  refine if_no (i := 5) (a := "hide") (b := "line") rfl (okW _) (okW _) (by decide +kernel) ?_
  refine if_no (i := 5) (a := "hide") (b := "put") rfl (okW _) (okW _) (by decide +kernel) ?_
  refine if_no (i := 5) (a := "hide") (b := "rub") rfl (okW _) (okW _) (by decide +kernel) ?_
  refine if_no (i := 5) (a := "hide") (b := "swap") rfl (okW _) (okW _) (by decide +kernel) ?_
  refine ⟨trivial, by show 2 ≤ 1000000; omega, ["hide", "paint"], rfl, ?_⟩
  rw [show (["hide", "paint"] : List Str).any (fun z => z == ("hide" : Str)) = true by decide +kernel]
  exact ⟨by show 3 ≤ 1000000; omega, h _ rfl⟩
theorem lc_paint (h : ∀ ρ : DL.Env, ρ[0]? = some (.im (scr R W)) → E.rt (ctlD "paint" i j) ρ) : lcRest E (lcE R W s i j (coD (.lone "paint")) (.str ("paint" : Str))) := by
  refine if_no (i := 5) (a := "paint") (b := "at") rfl (okW _) (okW _) (by decide +kernel) ?_
  refine if_no (i := 5) (a := "paint") (b := "roll") rfl (okW _) (okW _) (by decide +kernel) ?_
  refine if_no (i := 5) (a := "paint") (b := "line") rfl (okW _) (okW _) (by decide +kernel) ?_
  refine if_no (i := 5) (a := "paint") (b := "put") rfl (okW _) (okW _) (by decide +kernel) ?_
  refine if_no (i := 5) (a := "paint") (b := "rub") rfl (okW _) (okW _) (by decide +kernel) ?_
  refine if_no (i := 5) (a := "paint") (b := "swap") rfl (okW _) (okW _) (by decide +kernel) ?_
  refine ⟨trivial, by show 2 ≤ 1000000; omega, ["hide", "paint"], rfl, ?_⟩
  rw [show (["hide", "paint"] : List Str).any (fun z => z == ("paint" : Str)) = true by decide +kernel]
  exact ⟨by show 3 ≤ 1000000; omega, h _ rfl⟩
theorem lc_wipe (h : ∀ ρ : DL.Env, ρ[0]? = some (.im (scr R W)) → E.rt (ctlD s i j) ρ) : lcRest E (lcE R W s i j (coD (.lone "wipe")) (.str ("wipe" : Str))) := by
  refine if_no (i := 5) (a := "wipe") (b := "at") rfl (okW _) (okW _) (by decide +kernel) ?_
  refine if_no (i := 5) (a := "wipe") (b := "roll") rfl (okW _) (okW _) (by decide +kernel) ?_
  refine if_no (i := 5) (a := "wipe") (b := "line") rfl (okW _) (okW _) (by decide +kernel) ?_
  refine if_no (i := 5) (a := "wipe") (b := "put") rfl (okW _) (okW _) (by decide +kernel) ?_
  refine if_no (i := 5) (a := "wipe") (b := "rub") rfl (okW _) (okW _) (by decide +kernel) ?_
  refine if_no (i := 5) (a := "wipe") (b := "swap") rfl (okW _) (okW _) (by decide +kernel) ?_
  refine ⟨trivial, by show 2 ≤ 1000000; omega, ["hide", "paint"], rfl, ?_⟩
  rw [show (["hide", "paint"] : List Str).any (fun z => z == ("wipe" : Str)) = false by decide +kernel]
  exact ⟨by show 3 ≤ 1000000; omega, h _ rfl⟩
theorem lc_clear (h : ∀ ρ : DL.Env, ρ[0]? = some (.im (scr R W)) → E.rt (ctlD s i j) ρ) : lcRest E (lcE R W s i j (coD (.lone "clear")) (.str ("clear" : Str))) := by
  refine if_no (i := 5) (a := "clear") (b := "at") rfl (okW _) (okW _) (by decide +kernel) ?_
  refine if_no (i := 5) (a := "clear") (b := "roll") rfl (okW _) (okW _) (by decide +kernel) ?_
  refine if_no (i := 5) (a := "clear") (b := "line") rfl (okW _) (okW _) (by decide +kernel) ?_
  refine if_no (i := 5) (a := "clear") (b := "put") rfl (okW _) (okW _) (by decide +kernel) ?_
  refine if_no (i := 5) (a := "clear") (b := "rub") rfl (okW _) (okW _) (by decide +kernel) ?_
  refine if_no (i := 5) (a := "clear") (b := "swap") rfl (okW _) (okW _) (by decide +kernel) ?_
  refine ⟨trivial, by show 2 ≤ 1000000; omega, ["hide", "paint"], rfl, ?_⟩
  rw [show (["hide", "paint"] : List Str).any (fun z => z == ("clear" : Str)) = false by decide +kernel]
  exact ⟨by show 3 ≤ 1000000; omega, h _ rfl⟩
theorem lc_tail (h : ∀ ρ : DL.Env, ρ[0]? = some (.im (scr R W)) → E.rt (ctlD s i j) ρ) : lcRest E (lcE R W s i j (coD (.lone "tail")) (.str ("tail" : Str))) := by
  refine if_no (i := 5) (a := "tail") (b := "at") rfl (okW _) (okW _) (by decide +kernel) ?_
  refine if_no (i := 5) (a := "tail") (b := "roll") rfl (okW _) (okW _) (by decide +kernel) ?_
  refine if_no (i := 5) (a := "tail") (b := "line") rfl (okW _) (okW _) (by decide +kernel) ?_
  refine if_no (i := 5) (a := "tail") (b := "put") rfl (okW _) (okW _) (by decide +kernel) ?_
  refine if_no (i := 5) (a := "tail") (b := "rub") rfl (okW _) (okW _) (by decide +kernel) ?_
  refine if_no (i := 5) (a := "tail") (b := "swap") rfl (okW _) (okW _) (by decide +kernel) ?_
  refine ⟨trivial, by show 2 ≤ 1000000; omega, ["hide", "paint"], rfl, ?_⟩
  rw [show (["hide", "paint"] : List Str).any (fun z => z == ("tail" : Str)) = false by decide +kernel]
  exact ⟨by show 3 ≤ 1000000; omega, h _ rfl⟩
theorem lc_idle (h : ∀ ρ : DL.Env, ρ[0]? = some (.im (scr R W)) → E.rt (ctlD s i j) ρ) : lcRest E (lcE R W s i j (coD (.lone "idle")) (.str ("idle" : Str))) := by
  refine if_no (i := 5) (a := "idle") (b := "at") rfl (okW _) (okW _) (by decide +kernel) ?_
  refine if_no (i := 5) (a := "idle") (b := "roll") rfl (okW _) (okW _) (by decide +kernel) ?_
  refine if_no (i := 5) (a := "idle") (b := "line") rfl (okW _) (okW _) (by decide +kernel) ?_
  refine if_no (i := 5) (a := "idle") (b := "put") rfl (okW _) (okW _) (by decide +kernel) ?_
  refine if_no (i := 5) (a := "idle") (b := "rub") rfl (okW _) (okW _) (by decide +kernel) ?_
  refine if_no (i := 5) (a := "idle") (b := "swap") rfl (okW _) (okW _) (by decide +kernel) ?_
  refine ⟨trivial, by show 2 ≤ 1000000; omega, ["hide", "paint"], rfl, ?_⟩
  rw [show (["hide", "paint"] : List Str).any (fun z => z == ("idle" : Str)) = false by decide +kernel]
  exact ⟨by show 3 ≤ 1000000; omega, h _ rfl⟩
theorem d_lcursor {co : Co} (o : OkS (R : Int) (W : Int)) (hs : s ∈ allModes) (hc : OkC R W co) (h : P (ctlO (ctlF R W s i j co)) 0) : r__law_cursor [.d (scr R W), .d (.str s), .d (.int i), .d (.int j), .d (coD co)] m P := by
  have r1 := o.r1
  have r4 := o.r4
  have w1 := o.w1
  cases co with
  | put c => exact lc_pro fun E k => lc_put (by omega) fun ρ e => k _ e _ h
  | «at» a b => exact lc_pro fun E k => lc_at fun ρ e => k _ e _ h
  | roll q =>
    have hq : 1 ≤ q ∧ q ≤ R := hc.ok
    exact lc_pro fun E k => lc_roll (by omega) hq.1 (by omega) fun ρ e => k _ e _ h
  | lone w =>
    have hw : w ∈ loneWs := hc.ok
    simp only [loneWs, List.mem_cons, List.not_mem_nil, or_false] at hw
    rcases hw with rfl | rfl | rfl | rfl | rfl | rfl | rfl | rfl | rfl
    · exact lc_pro fun E k => lc_hide fun ρ e => k _ e _ h
    · exact lc_pro fun E k => lc_paint fun ρ e => k _ e _ h
    · refine lc_pro fun E k => lc_line (by omega) hs fun ρ e0 => k _ e0 _ ?_
      have e : ctlF R W s i j (.lone "line") = if 0 < rollN s then (s, R - 1, 0) else (s, min (i + 1) (R - 1), 0) := by
        have h1 : ¬ (("line" : Str) = "hide" ∨ ("line" : Str) = "paint") := by decide +kernel
        simp only [ctlF, h1, if_true, if_false]
      rw [e] at h
      by_cases z : 0 < rollN s
      · rw [if_pos z] at h ⊢
        exact h
      · rw [if_neg z] at h ⊢
        exact h
    · refine lc_pro fun E k => lc_swap fun ρ e0 => k _ e0 _ ?_
      have e : ctlF R W s i j (.lone "swap") = (("hide" : Str), i, j) := by
        have h1 : ¬ (("swap" : Str) = "hide" ∨ ("swap" : Str) = "paint") := by decide +kernel
        have h2 : ¬ ("swap" : Str) = "line" := by decide +kernel
        simp only [ctlF, h1, h2, if_true, if_false]
      rw [e] at h
      exact h
    · refine lc_pro fun E k => lc_wipe fun ρ e0 => k _ e0 _ ?_
      have e : ctlF R W s i j (.lone "wipe") = (s, i, j) := by
        have h1 : ¬ (("wipe" : Str) = "hide" ∨ ("wipe" : Str) = "paint") := by decide +kernel
        have h2 : ¬ ("wipe" : Str) = "line" := by decide +kernel
        have h3 : ¬ ("wipe" : Str) = "swap" := by decide +kernel
        have h4 : ¬ ("wipe" : Str) = "rub" := by decide +kernel
        simp only [ctlF, h1, h2, h3, h4, if_true, if_false]
      rw [e] at h
      exact h
    · refine lc_pro fun E k => lc_clear fun ρ e0 => k _ e0 _ ?_
      have e : ctlF R W s i j (.lone "clear") = (s, i, j) := by
        have h1 : ¬ (("clear" : Str) = "hide" ∨ ("clear" : Str) = "paint") := by decide +kernel
        have h2 : ¬ ("clear" : Str) = "line" := by decide +kernel
        have h3 : ¬ ("clear" : Str) = "swap" := by decide +kernel
        have h4 : ¬ ("clear" : Str) = "rub" := by decide +kernel
        simp only [ctlF, h1, h2, h3, h4, if_true, if_false]
      rw [e] at h
      exact h
    · refine lc_pro fun E k => lc_rub fun ρ e0 => k _ e0 _ ?_
      have e : ctlF R W s i j (.lone "rub") = (s, i, j - 1) := by
        have h1 : ¬ (("rub" : Str) = "hide" ∨ ("rub" : Str) = "paint") := by decide +kernel
        have h2 : ¬ ("rub" : Str) = "line" := by decide +kernel
        have h3 : ¬ ("rub" : Str) = "swap" := by decide +kernel
        simp only [ctlF, h1, h2, h3, if_true, if_false]
      rw [e] at h
      exact h
    · refine lc_pro fun E k => lc_tail fun ρ e0 => k _ e0 _ ?_
      have e : ctlF R W s i j (.lone "tail") = (s, i, j) := by
        have h1 : ¬ (("tail" : Str) = "hide" ∨ ("tail" : Str) = "paint") := by decide +kernel
        have h2 : ¬ ("tail" : Str) = "line" := by decide +kernel
        have h3 : ¬ ("tail" : Str) = "swap" := by decide +kernel
        have h4 : ¬ ("tail" : Str) = "rub" := by decide +kernel
        simp only [ctlF, h1, h2, h3, h4, if_true, if_false]
      rw [e] at h
      exact h
    · refine lc_pro fun E k => lc_idle fun ρ e0 => k _ e0 _ ?_
      have e : ctlF R W s i j (.lone "idle") = (s, i, j) := by
        have h1 : ¬ (("idle" : Str) = "hide" ∨ ("idle" : Str) = "paint") := by decide +kernel
        have h2 : ¬ ("idle" : Str) = "line" := by decide +kernel
        have h3 : ¬ ("idle" : Str) = "swap" := by decide +kernel
        have h4 : ¬ ("idle" : Str) = "rub" := by decide +kernel
        simp only [ctlF, h1, h2, h3, h4, if_true, if_false]
      rw [e] at h
      exact h
end
def chS (c : Nat) : Str := ⟨#[c]⟩
def strsR (A : List (List Nat)) : List (List Str) := A.map fun l => l.map chS
theorem memL_rows (A : List (List Nat)) : memL A = rowsD (strsR A) := by
  unfold memL rowsD strsR
  (rw [List.map_map, List.map_map])
  congr 1
  refine List.map_congr_left fun l _ => ?_
  show PyData.list (l.map chD) = PyData.list ((l.map chS).map PyData.str)
  rw [List.map_map]
  rfl
section
variable {R W : Nat} {P : D → Nat → Prop} {m : Nat} {E : DE} {G Rr : SM} {st X Y : D} {s w : Str} {rest : List D} {i j : Int} {scr0 : D} {a b : Sl}
theorem ls_n {k : Str} (ow : okD (.str w)) (ok : okD (.str k)) (hn : (w == k) = false) (h : Rr E (lsE scr0 st (.tuple (.str w :: rest)) s i j X Y a b)) : sSeq (sIf (lsT k) G sNo) Rr E (lsE scr0 st (.tuple (.str w :: rest)) s i j X Y a b) := by
  refine ⟨trivial, _, at0', ow, ok, ?_⟩
  rw [eqS, hn]
  exact h
theorem ls_y {k : Str} (ow : okD (.str w)) (ok : okD (.str k)) (hn : (w == k) = true) (h : G { E with nx := Rr E } (lsE scr0 st (.tuple (.str w :: rest)) s i j X Y a b)) : sSeq (sIf (lsT k) G sNo) Rr E (lsE scr0 st (.tuple (.str w :: rest)) s i j X Y a b) := by
  refine ⟨trivial, _, at0', ow, ok, ?_⟩
  rw [eqS, hn]
  exact h
theorem ls_n4 {t : BM} (ow : okD (.str w)) (hn : (w == ("line" : Str)) = false) (h : Rr E (lsE scr0 st (.tuple (.str w :: rest)) s i j X Y a b)) : sSeq (sIf (bAnd (lsT "line") t) G sNo) Rr E (lsE scr0 st (.tuple (.str w :: rest)) s i j X Y a b) := by
  refine ⟨trivial, _, at0', ow, okW _, ?_⟩
  rw [eqS, hn]
  exact h
theorem ls_y4 {t : BM} (ow : okD (.str w)) (hn : (w == ("line" : Str)) = true) (h : t (lsE scr0 st (.tuple (.str w :: rest)) s i j X Y a b) fun x ρ1 => if x = true then G { E with nx := Rr E } ρ1 else Rr E ρ1) : sSeq (sIf (bAnd (lsT "line") t) G sNo) Rr E (lsE scr0 st (.tuple (.str w :: rest)) s i j X Y a b) := by
  refine ⟨trivial, _, at0', ow, okW _, ?_⟩
  rw [eqS, hn]
  exact h
theorem ls_fin {co : Co} {i j : Nat} (o : OkS (R : Int) (W : Int)) (hs : s ∈ allModes) (hc : OkC R W co) (k : P (.tuple [.str (ctlF R W s i j co).1, .int (((ctlF R W s i j co).2.1 : Nat) : Int), .int (((ctlF R W s i j co).2.2 : Nat) : Int), X, Y]) 0) : ls_ret (retE P) (lsE (scr R W) st (coD co) s i j X Y a b) := by
  refine ⟨rfl, rfl, d_lcursor o hs hc ?_⟩
  exact ⟨by show 2 ≤ 1000000; omega, by show 3 + 2 ≤ 1000000; omega, k⟩
theorem ls_now {r' w' : Int} {st : D} {w : Str} {rest : List D} {s : Str} {i j : Int} (om : okD (.str s)) (os : okD (.str w)) (hw : isWr w = false) (h : ls_ret E (lsE (.tuple [.int r', .int w']) st (.tuple (.str w :: rest)) s i j X Y a b)) : sSeq sNoW ls_ret E (lsE (.tuple [.int r', .int w']) st (.tuple (.str w :: rest)) s i j X Y a b) :=
  ⟨⟨_, _, _, _, _, _, _, _, _, _, _, _, rfl, om, os, hw⟩, h⟩
def chain : SM := sSeq (sIf (lsT "swap") ls_b1 sNo) (sSeq (sIf (lsT "wipe") ls_b2 sNo) (sSeq (sIf (lsT "clear") ls_b3 sNo) (sSeq (sIf (bAnd (lsT "line") ls_t4) ls_b4 sNo) (sSeq sNoW ls_ret))))
theorem d_rolled {x : De} {n : Nat} (o : OkS (R : Int) (W : Int)) (h : x.Ok R W) (hn : n ≤ R) (k : P (memL (x.A.take (R - n) ++ x.A.drop (R - n + 1) ++ [blRow W])) 0) : r__law_rolled [.d (scr R W), .d (memL x.A), .d (.int n)] m P := by
  obtain ⟨b1, b2, b3, b4, _⟩ := okb o
  have na : x.A.length = R := h.A.n
  refine ⟨trivial, _, rfl, trivial, trivial, trivial, trivial, ?_⟩
  have e0 : (R : Int) - (n : Int) = ((R - n : Nat) : Int) := by omega
  have e1 : (R : Int) - (n : Int) + 1 = ((R - n + 1 : Nat) : Int) := by omega
  have c1 : cutD (x.A.map rowL) none (some ((R : Int) - (n : Int))) = (x.A.take (R - n)).map rowL := by rw [e0, cut_take, List.map_take]
  have c2 : cutD (x.A.map rowL) (some ((R : Int) - (n : Int) + 1)) none = (x.A.drop (R - n + 1)).map rowL := by rw [e1, cut_drop, List.map_drop]
  show (cutD (x.A.map rowL) none (some ((R : Int) - (n : Int)))).length + (cutD (x.A.map rowL) (some ((R : Int) - (n : Int) + 1)) none).length ≤ 1000000 ∧ _
  rw [c1, c2]
  refine ⟨by simp only [List.length_map, List.length_take, List.length_drop]; omega, by show 1 ≤ 1000000; omega, trivial, _, rfl, ⟨by omega, by omega⟩, by show 1 * ((W : Int)).toNat ≤ 1000000; omega, by show 1 ≤ 1000000; omega, ?_⟩
  show ((x.A.take (R - n)).map rowL ++ (x.A.drop (R - n + 1)).map rowL).length + 1 ≤ 1000000 ∧ _
  refine ⟨by simp only [List.length_append, List.length_map, List.length_take, List.length_drop]; omega, hd_d, ?_⟩
  have e2 : memL (x.A.take (R - n) ++ x.A.drop (R - n + 1) ++ [blRow W]) = .list (((x.A.take (R - n)).map rowL ++ (x.A.drop (R - n + 1)).map rowL) ++ [.list (List.replicate ((W : Int)).toNat [PyData.str (" " : Str)]).flatten]) := by
    unfold memL
    rw [List.map_append, List.map_append, Int.toNat_natCast, bl_rep]
    rfl
  rw [e2] at k
  exact k
end
end Q23
namespace Q23
open PySem L2 DL
section
variable {R W : Nat} {P : D → Nat → Prop} {m : Nat} {x : De}
def coW : Co → Str
  | .put _ => "put"
  | .at _ _ => "at"
  | .roll _ => "roll"
  | .lone w => w
def coR : Co → List D
  | .put c => [.str ⟨#[c]⟩]
  | .at i j => [.int (i : Int), .int (j : Int)]
  | .roll k => [.int (k : Int)]
  | .lone _ => []
theorem co_eq (c : Co) : coD c = .tuple (.str (coW c) :: coR c) := by cases c <;> rfl
theorem okWo {co : Co} (hc : OkC R W co) : okD (.str (coW co)) := by
  cases co with
  | put c => exact okW ("put" : Str)
  | «at» a b => exact okW ("at" : Str)
  | roll k => exact okW ("roll" : Str)
  | lone w =>
    have hw : w ∈ loneWs := hc.ok
    have : ∀ w ∈ loneWs, PyData.strOk w = true := by decide +kernel
    exact okW _ (this w hw)
/-- told of the words that do not write -/
theorem ls_plain {co : Co} (o : OkS (R : Int) (W : Int)) (h : x.Ok R W) (hc : OkC R W co) (hw : isWr (coW co) = false) (h1 : (coW co == ("swap" : Str)) = false) (h2 : (coW co == ("wipe" : Str)) = false) (h3 : (coW co == ("clear" : Str)) = false) (h4 : (coW co == ("line" : Str)) = false)
    (k : P (.tuple [.str (ctlF R W x.s x.i x.j co).1, .int (((ctlF R W x.s x.i x.j co).2.1 : Nat) : Int), .int (((ctlF R W x.s x.i x.j co).2.2 : Nat) : Int), memL x.A, memL x.B]) 0) : chain (retE P) (lsE (scr R W) x.l (.tuple (.str (coW co) :: coR co)) x.s x.i x.j (memL x.A) (memL x.B) .no .no) := by
  have ow := okWo hc
  have om : okD (.str x.s) := okS' ((modes_fn o).2 x.s h.s)
  refine ls_n ow (okW _) h1 ?_
  refine ls_n ow (okW _) h2 ?_
  refine ls_n ow (okW _) h3 ?_
  refine ls_n4 ow h4 ?_
  refine ls_now om ow hw ?_
  rw [← co_eq]
  exact ls_fin o (roll_le o h.s).2 hc k
theorem blM (W R : Nat) (hR : R ≤ 4) (hW : W ≤ 40) {K : List D → DL.Env → Prop} {st c X Y : D} {s : Str} {i j : Int} (k : K ((List.replicate R (blRow W)).map rowL) (lsE (scr R W) st c s i j X Y .no .no)) :
    lcL (gN 9) bYes (d2 gMul (hV (dLst (lCons (dC (.str (" " : Str))) (lNil)))) (hV (d2 gIx (hS 0) (hV (dC (.int 1)))))) [9] K (rgD 0 R) [] (lsE (scr R W) st c s i j X Y .no .no) := by
  refine lcL_map (ρ := lsE (scr R W) st c s i j X Y .no .no) (fun _ => rowL (blRow W)) (rgD 0 R) [] ?_ ?_
  · intro d hd Q hQ
    refine ⟨by show 1 ≤ 1000000; omega, trivial, _, rfl, ⟨by omega, by omega⟩, by show 1 * ((W : Int)).toNat ≤ 1000000; omega, ?_⟩
    have e : (PyData.list (List.replicate ((W : Int)).toNat [PyData.str (" " : Str)]).flatten) = rowL (blRow W) := by
      rw [Int.toNat_natCast, bl_rep]
      rfl
    rw [e]
    exact hQ _ rfl
  · rw [List.nil_append, List.map_const']
    have rl : (rgD 0 R).length = R := by simp [rgD]
    rw [rl, ← List.map_replicate]
    exact k
theorem wrote_map {w : Str} {rest : List D} {i j : Nat} {A : List (List Nat)} {f : List Nat → List Nat} (hf : ∀ l, wrote w rest j (l.map chD) = (f l).map chD) : PyData.list ((wroteR w rest i j (strsR A)).map PyData.list) = memL (A.set i (f (A.getD i []))) := by
  have e0 : ∀ l : List Nat, (l.map chS).map PyData.str = l.map chD := fun l => by
    rw [List.map_map]
    rfl
  have e1 : ((strsR A).map fun l => l.map PyData.str) = A.map fun l => l.map chD := by
    unfold strsR
    rw [List.map_map]
    exact List.map_congr_left fun l _ => e0 l
  have e2 : ((strsR A).getD i []).map PyData.str = (A.getD i []).map chD := by
    unfold strsR
    (rw [List.getD_eq_getElem?_getD, List.getD_eq_getElem?_getD, List.getElem?_map])
    cases A[i]? with
    | none => rfl
    | some l => exact e0 l
  unfold wroteR memL
  rw [e1, e2, hf, ← List.map_set (f := fun l : List Nat => l.map chD), List.map_map]
  rfl
theorem lsOut_in {w : Str} {rest : List D} {f : List Nat → List Nat} (hf : ∀ l, wrote w rest x.j (l.map chD) = (f l).map chD) : lsOut x.s w rest (x.i : Int) (x.j : Int) (strsR x.A) (strsR x.B) = (memL (inRow x.s f x.i x.A x.B).1, memL (inRow x.s f x.i x.A x.B).2) := by
  unfold lsOut inRow
  by_cases z : x.s = "hide"
  · rw [if_pos (beq_iff_eq.mpr z), if_pos z, Int.toNat_natCast, Int.toNat_natCast, wrote_map hf, memL_rows x.A]
  · rw [if_neg (fun e => z (beq_iff_eq.mp e)), if_neg z, Int.toNat_natCast, Int.toNat_natCast, wrote_map hf, memL_rows x.B]
def De.lstep (x : De) (R W : Nat) (co : Co) : D := .tuple [.str (ctlF R W x.s x.i x.j co).1, .int (((ctlF R W x.s x.i x.j co).2.1 : Nat) : Int), .int (((ctlF R W x.s x.i x.j co).2.2 : Nat) : Int), memL (memF R W x.s x.i x.j x.A x.B co).1, memL (memF R W x.s x.i x.j x.A x.B co).2]
theorem d_lstep {co : Co} (o : OkS (R : Int) (W : Int)) (h : x.Ok R W) (hc : OkC R W co) (k : P (x.step R W co).l 0) : s__law_stepped [.d (scr R W), .d x.l, .d (coD co)] m P := by
  have k : P (x.lstep R W co) 0 := k
  obtain ⟨b1, b2, b3, b4, b5, b6, b7⟩ := okb o
  have ow := okWo hc
  have om : okD (.str x.s) := okS' ((modes_fn o).2 x.s h.s)
  have na : x.A.length = R := h.A.n
  have nb : x.B.length = R := h.B.n
  have hi := h.i
  have hj := h.j
  have sa := (roll_le o h.s).2
  have la : (strsR x.A).length = R := by unfold strsR; rw [List.length_map, na]
  have lb : (strsR x.B).length = R := by unfold strsR; rw [List.length_map, nb]
  have ea : x.l = .tuple [.str x.s, .int (x.i : Int), .int (x.j : Int), rowsD (strsR x.A), rowsD (strsR x.B)] := by
    unfold De.l
    rw [memL_rows, memL_rows]
  refine ⟨R, W, x.i, x.j, x.s, coW co, coR co, strsR x.A, strsR x.B, by rw [ea, co_eq]; rfl, om, ow, by omega, by omega, ?_⟩
  rw [← ea, ← memL_rows, ← memL_rows]
  have wr : isWr (coW co) = true → ∀ f : List Nat → List Nat, (∀ l, wrote (coW co) (coR co) x.j (l.map chD) = (f l).map chD) → (memF R W x.s x.i x.j x.A x.B co) = inRow x.s f x.i x.A x.B → (coW co = "put" → ∃ z : Str, coR co = [.str z]) →
      (isWr (coW co) = true ∧ (0 ≤ (x.i : Int) ∧ ((x.i : Int)).toNat < (strsR x.A).length ∧ ((x.i : Int)).toNat < (strsR x.B).length) ∧ (∀ l ∈ strsR x.A, (l.length : Int) = (W : Int)) ∧ (∀ l ∈ strsR x.B, (l.length : Int) = (W : Int)) ∧ (0 ≤ (x.j : Int) ∧ (x.j : Int) < (W : Int) ∧ (W : Int) ≤ 1000) ∧ (coW co = "put" → ∃ z : Str, coR co = [.str z]) ∧
        ls_ret (retE P) (lsE (.tuple [.int (R : Int), .int (W : Int)]) x.l (.tuple (.str (coW co) :: coR co)) x.s x.i x.j (lsOut x.s (coW co) (coR co) x.i x.j (strsR x.A) (strsR x.B)).1 (lsOut x.s (coW co) (coR co) x.i x.j (strsR x.A) (strsR x.B)).2 .no .no)) := by
    intro hw f hf em hp
    refine ⟨hw, ⟨by omega, by rw [la]; omega, by rw [lb]; omega⟩, fun l hl => ?_, fun l hl => ?_, ⟨by omega, by omega, by omega⟩, hp, ?_⟩
    · obtain ⟨y, hy, rfl⟩ := List.mem_map.mp hl
      have : y.length = W := (h.A.a y hy).1
      rw [List.length_map, this]
    · obtain ⟨y, hy, rfl⟩ := List.mem_map.mp hl
      have : y.length = W := (h.B.a y hy).1
      rw [List.length_map, this]
    · rw [lsOut_in hf, ← co_eq]
      refine ls_fin o sa hc ?_
      unfold De.lstep at k
      rw [em] at k
      exact k
  cases co with
  | put c =>
    refine .inr (wr (by decide +kernel : isWr ("put" : Str) = true) (fun l => l.set x.j c) (fun l => ?_) rfl fun _ => ⟨_, rfl⟩)
    show (if (("put" : Str) == ("put" : Str)) = true then _ else _) = _
    rw [if_pos (by decide +kernel), List.map_set]
    rfl
  | «at» a b => exact .inl ⟨(by decide +kernel : isWr ("at" : Str) = false), ls_plain o h hc (by decide +kernel : isWr ("at" : Str) = false) (by decide +kernel : (("at" : Str) == ("swap" : Str)) = false) (by decide +kernel : (("at" : Str) == ("wipe" : Str)) = false) (by decide +kernel : (("at" : Str) == ("clear" : Str)) = false) (by decide +kernel : (("at" : Str) == ("line" : Str)) = false) k⟩
  | roll q => exact .inl ⟨(by decide +kernel : isWr ("roll" : Str) = false), ls_plain o h hc (by decide +kernel : isWr ("roll" : Str) = false) (by decide +kernel : (("roll" : Str) == ("swap" : Str)) = false) (by decide +kernel : (("roll" : Str) == ("wipe" : Str)) = false) (by decide +kernel : (("roll" : Str) == ("clear" : Str)) = false) (by decide +kernel : (("roll" : Str) == ("line" : Str)) = false) k⟩
  | lone w =>
    have hw : w ∈ loneWs := hc.ok
    have nm : ∀ {v : Str}, ¬ v = "rub" → ¬ v = "tail" → ¬ v = "line" → ¬ v = "swap" → ¬ v = "wipe" → ¬ v = "clear" → memF R W x.s x.i x.j x.A x.B (.lone v) = (x.A, x.B) := fun h1 h2 h3 h4 h5 h6 => by simp only [memF, h1, h2, h3, h4, h5, h6, if_false]
    simp only [loneWs, List.mem_cons, List.not_mem_nil, or_false] at hw
    rcases hw with rfl | rfl | rfl | rfl | rfl | rfl | rfl | rfl | rfl
    · unfold De.lstep at k
      rw [nm (by decide +kernel) (by decide +kernel) (by decide +kernel) (by decide +kernel) (by decide +kernel) (by decide +kernel)] at k
      exact .inl ⟨by decide +kernel, ls_plain o h hc (by decide +kernel) (by decide +kernel) (by decide +kernel) (by decide +kernel) (by decide +kernel) k⟩
    · unfold De.lstep at k
      rw [nm (by decide +kernel) (by decide +kernel) (by decide +kernel) (by decide +kernel) (by decide +kernel) (by decide +kernel)] at k
      exact .inl ⟨by decide +kernel, ls_plain o h hc (by decide +kernel) (by decide +kernel) (by decide +kernel) (by decide +kernel) (by decide +kernel) k⟩
    · -- line
      refine .inl ⟨by decide +kernel, ?_⟩
      have em : memF R W x.s x.i x.j x.A x.B (.lone "line") = if 0 < rollN x.s then (x.A.take (R - rollN x.s) ++ x.A.drop (R - rollN x.s + 1) ++ [blRow W], x.B) else (x.A, x.B) := by
        have h1 : ¬ ("line" : Str) = "rub" := by decide +kernel
        have h2 : ¬ ("line" : Str) = "tail" := by decide +kernel
        simp only [memF, h1, h2, if_true, if_false]
      unfold De.lstep at k
      rw [em] at k
      refine ls_n ow (okW _) (by decide +kernel) ?_
      refine ls_n ow (okW _) (by decide +kernel) ?_
      refine ls_n ow (okW _) (by decide +kernel) ?_
      refine ls_y4 ow (by decide +kernel) ?_
      obtain ⟨q1, q2, q3⟩ := rolls4 sa
      refine ⟨trivial, q2, okW _ q3, okW _, ?_⟩
      rw [eqS, q1]
      by_cases z : 0 < rollN x.s
      · rw [decide_eq_true z]
        rw [if_pos z] at k
        obtain ⟨p1, p2⟩ := rolls5 sa z
        refine ⟨trivial, q2, _, p1, p2, rfl, rfl, d_rolled o h (roll_le o h.s).1 ?_⟩
        refine ls_now om ow (by decide +kernel) ?_
        exact ls_fin o sa hc k
      · rw [decide_eq_false z]
        rw [if_neg z] at k
        refine ls_now om ow (by decide +kernel) ?_
        exact ls_fin o sa hc k
    · -- swap
      refine .inl ⟨by decide +kernel, ?_⟩
      have em : memF R W x.s x.i x.j x.A x.B (.lone "swap") = (x.B, x.A) := by
        have h1 : ¬ ("swap" : Str) = "rub" := by decide +kernel
        have h2 : ¬ ("swap" : Str) = "tail" := by decide +kernel
        have h3 : ¬ ("swap" : Str) = "line" := by decide +kernel
        simp only [memF, h1, h2, h3, if_true, if_false]
      unfold De.lstep at k
      rw [em] at k
      refine ls_y ow (okW _) (by decide +kernel) ?_
      refine ls_n (scr0 := scr R W) (st := x.l) (w := "swap") (rest := []) (s := x.s) (i := x.i) (j := x.j) (X := memL x.B) (Y := memL x.A) (a := .no) (b := .no) ow (okW _) (by decide +kernel) ?_
      refine ls_n ow (okW _) (by decide +kernel) ?_
      refine ls_n4 ow (by decide +kernel) ?_
      refine ls_now om ow (by decide +kernel) ?_
      exact ls_fin o sa hc k
    · -- wipe
      refine .inl ⟨by decide +kernel, ?_⟩
      have em : memF R W x.s x.i x.j x.A x.B (.lone "wipe") = (List.replicate R (blRow W), x.B) := by
        have h1 : ¬ ("wipe" : Str) = "rub" := by decide +kernel
        have h2 : ¬ ("wipe" : Str) = "tail" := by decide +kernel
        have h3 : ¬ ("wipe" : Str) = "line" := by decide +kernel
        have h4 : ¬ ("wipe" : Str) = "swap" := by decide +kernel
        simp only [memF, h1, h2, h3, h4, if_true, if_false]
      unfold De.lstep at k
      rw [em] at k
      refine ls_n ow (okW _) (by decide +kernel) ?_
      refine ls_y ow (okW _) (by decide +kernel) ?_
      have rl : (rgD 0 R).length = R := by simp [rgD]
      refine ⟨trivial, _, rfl, ⟨by omega, by omega⟩, by rw [rl]; omega, ⟨by simp, fun j hj => by simp at hj; subst hj; rfl⟩, ?_⟩
      refine blM W R b2 b4 ?_
      refine ls_n (scr0 := scr R W) (st := x.l) (w := "wipe") (rest := []) (s := x.s) (i := x.i) (j := x.j) (X := memL (List.replicate R (blRow W))) (Y := memL x.B) (a := .no) (b := .no) ow (okW _) (by decide +kernel) ?_
      refine ls_n4 ow (by decide +kernel) ?_
      refine ls_now om ow (by decide +kernel) ?_
      exact ls_fin o sa hc k
    · -- clear
      refine .inl ⟨by decide +kernel, ?_⟩
      have em : memF R W x.s x.i x.j x.A x.B (.lone "clear") = (x.A, List.replicate R (blRow W)) := by
        have h1 : ¬ ("clear" : Str) = "rub" := by decide +kernel
        have h2 : ¬ ("clear" : Str) = "tail" := by decide +kernel
        have h3 : ¬ ("clear" : Str) = "line" := by decide +kernel
        have h4 : ¬ ("clear" : Str) = "swap" := by decide +kernel
        have h5 : ¬ ("clear" : Str) = "wipe" := by decide +kernel
        simp only [memF, h1, h2, h3, h4, h5, if_true, if_false]
      unfold De.lstep at k
      rw [em] at k
      refine ls_n ow (okW _) (by decide +kernel) ?_
      refine ls_n ow (okW _) (by decide +kernel) ?_
      refine ls_y ow (okW _) (by decide +kernel) ?_
      have rl : (rgD 0 R).length = R := by simp [rgD]
      refine ⟨trivial, _, rfl, ⟨by omega, by omega⟩, by rw [rl]; omega, ⟨by simp, fun j hj => by simp at hj; subst hj; rfl⟩, ?_⟩
      refine blM W R b2 b4 ?_
      refine ls_n4 (scr0 := scr R W) (st := x.l) (w := "clear") (rest := []) (s := x.s) (i := x.i) (j := x.j) (X := memL x.A) (Y := memL (List.replicate R (blRow W))) (a := .no) (b := .no) ow (by decide +kernel) ?_
      refine ls_now om ow (by decide +kernel) ?_
      exact ls_fin o sa hc k
    · -- rub
      by_cases z : 0 < x.j
      · refine .inr (wr (by decide +kernel) (fun l => l.set (x.j - 1) 32) (fun l => ?_) ?_ fun e => absurd e (by decide +kernel))
        · show (if (("rub" : Str) == ("put" : Str)) = true then _ else if (("rub" : Str) == ("rub" : Str)) = true then _ else _) = _
          rw [if_neg (by decide +kernel), if_pos (by decide +kernel), if_pos z, List.map_set]
          show (l.map chD).set (x.j - 1) (.str (" " : Str)) = _
          rw [sp_ch]
        · simp only [memF, if_true, z]
      · refine .inr (wr (by decide +kernel) (fun l => l) (fun l => ?_) ?_ fun e => absurd e (by decide +kernel))
        · show (if (("rub" : Str) == ("put" : Str)) = true then _ else if (("rub" : Str) == ("rub" : Str)) = true then _ else _) = _
          rw [if_neg (by decide +kernel), if_pos (by decide +kernel), if_neg z]
        · have sg : ∀ (L : List (List Nat)) (n : Nat), L.set n (L.getD n []) = L := fun L n => by
            by_cases hn : n < L.length
            · rw [List.getD_eq_getElem?_getD, List.getElem?_eq_getElem hn]
              exact List.set_getElem_self hn
            · rw [List.set_eq_of_length_le (by omega)]
          simp only [memF, if_true, z, if_false]
          unfold inRow
          split
          · rw [sg]
          · rw [sg]
    · -- tail
      refine .inr (wr (by decide +kernel) (fun l => l.take x.j ++ List.replicate (l.length - x.j) 32) (fun l => ?_) ?_ fun e => absurd e (by decide +kernel))
      · show (if (("tail" : Str) == ("put" : Str)) = true then _ else if (("tail" : Str) == ("rub" : Str)) = true then _ else _) = _
        rw [if_neg (by decide +kernel), if_neg (by decide +kernel), List.map_append, List.map_take, List.length_map, List.map_replicate]
        show _ ++ List.replicate _ (PyData.str (" " : Str)) = _
        rw [sp_ch]
      · have h1 : ¬ ("tail" : Str) = "rub" := by decide +kernel
        simp only [memF, h1, if_true, if_false]
    · unfold De.lstep at k
      rw [nm (by decide +kernel) (by decide +kernel) (by decide +kernel) (by decide +kernel) (by decide +kernel) (by decide +kernel)] at k
      exact .inl ⟨by decide +kernel, ls_plain o h hc (by decide +kernel) (by decide +kernel) (by decide +kernel) (by decide +kernel) (by decide +kernel) k⟩
end
end Q23
namespace Q23
open PySem L2 DL
structure Sh (k n : Nat) (d : D) : Prop where
  nd : nod d = true
  sh : d.showable = true
  lv : d.leavesShort 13 = true
  la : d.canLay0 = true
  dp : d.depth ≤ k
  bk : d.bulk ≤ n
structure ShA (k n : Nat) (ds : List D) : Prop where
  nd : nodAll ds = true
  sh : PyData.showableAll ds = true
  lv : PyData.leavesShortAll 13 ds = true
  la : PyData.canLayAll0 ds = true
  dp : PyData.depthAll ds ≤ k
  bk : PyData.bulkAll ds ≤ n * ds.length
theorem sha {k n : Nat} : ∀ ds : List D, (∀ d ∈ ds, Sh k n d) → ShA k (n + 1) ds
  | [], _ => ⟨rfl, rfl, rfl, rfl, by simp [PyData.depthAll], by simp [PyData.bulkAll]⟩
  | d :: ds, h => by
    have a := h d (List.mem_cons_self ..)
    have b := sha ds fun x hx => h x (List.mem_cons_of_mem _ hx)
    refine ⟨?_, ?_, ?_, ?_, ?_, ?_⟩
    · exact Bool.and_eq_true_iff.mpr ⟨a.nd, b.nd⟩
    · exact Bool.and_eq_true_iff.mpr ⟨a.sh, b.sh⟩
    · exact Bool.and_eq_true_iff.mpr ⟨a.lv, b.lv⟩
    · exact Bool.and_eq_true_iff.mpr ⟨a.la, b.la⟩
    · simp only [PyData.depthAll]
      have := a.dp
      have := b.dp
      omega
    · simp only [PyData.bulkAll, List.length_cons]
      have h1 := a.bk
      have h2 := b.bk
      rw [Nat.mul_succ]
      omega
theorem sh_tup {k n : Nat} {ds : List D} (h : ∀ d ∈ ds, Sh k n d) : Sh (k + 1) ((n + 1) * ds.length) (.tuple ds) := by
  have a := sha ds h
  refine ⟨a.nd, a.sh, a.lv, a.la, ?_, a.bk⟩
  simp only [PyData.depth]
  have := a.dp
  omega
theorem Sh.mono {k n k' n' : Nat} {d : D} (h : Sh k n d) (hk : k ≤ k') (hn : n ≤ n') : Sh k' n' d := ⟨h.nd, h.sh, h.lv, h.la, Nat.le_trans h.dp hk, Nat.le_trans h.bk hn⟩
theorem sh_int {i : Int} (h0 : 0 ≤ i) (h1 : i ≤ 9999) : Sh 0 0 (.int i) := by
  refine ⟨rfl, ?_, ?_, rfl, Nat.le_refl _, Nat.le_refl _⟩
  · show decide (i.natAbs.log2 < 1920) = true
    refine decide_eq_true ?_
    by_cases z : i.natAbs = 0
    · rw [z]
      decide
    · have : i.natAbs.log2 < 14 := (Nat.log2_lt z).mpr (by omega)
      omega
  · show decide ((PyData.shown (.int i)).length ≤ 13) = true
    exact decide_eq_true (PyData.shown_int_le2 (by omega) (by omega))
theorem sh_S {l : List Nat} (h : ∀ c ∈ l, sgC c = true) : Sh 0 l.length (.str (S l)) := by
  refine ⟨rfl, rfl, ?_, ok_S h, Nat.le_refl _, ?_⟩
  · show ((S l).cps.toList.all fun c => decide (c < 16 ^ 8)) = true
    rw [S_list, List.all_eq_true]
    intro c hc
    have := sg_lt (h c hc)
    refine decide_eq_true ?_
    have e : 16 ^ 8 = 4294967296 := by decide
    omega
  · show (S l).length ≤ _
    rw [S_len]
    exact Nat.le_refl _
theorem sh_W (s : Str) (h1 : (s.cps.toList.all fun c => decide (c < 16 ^ 8)) = true := by decide +kernel) (h2 : PyData.strOk s = true := by decide +kernel) (h3 : s.length ≤ 8 := by decide +kernel) : Sh 0 8 (.str s) := ⟨rfl, rfl, h1, h2, Nat.le_refl _, h3⟩
theorem sh_okR {k n : Nat} {xs : List D} (h : Sh k n (.tuple xs)) (hk : k ≤ 60) (hn : n ≤ 66000) : okR (.tuple xs) := by
  refine ⟨h.nd, h.sh, Nat.le_trans h.dp hk, ?_⟩
  have := PyData.shown_le_bulk 13 (by omega) _ h.lv
  have := h.bk
  omega
section
variable {R W : Nat} {P : D → Nat → Prop} {m : Nat} {x : De}
theorem d_told' (o : OkS (R : Int) (W : Int)) (h : x.Ok R W) (k : P x.d 0) : r__law_told [.d x.l] m P := d_told o h.A h.B k
theorem ch_sg2 {i : Int} (h0 : 0 ≤ i) (h1 : i < 4) : ∃ c, atI ("abx " : Str).cps.toList i = some c ∧ sgC c = true := by
  have : i = 0 ∨ i = 1 ∨ i = 2 ∨ i = 3 := by omega
  rcases this with rfl | rfl | rfl | rfl
  · exact ⟨97, by decide +kernel, by decide⟩
  · exact ⟨98, by decide +kernel, by decide⟩
  · exact ⟨120, by decide +kernel, by decide⟩
  · exact ⟨32, by decide +kernel, by decide⟩
def someW : List Str := ["hide", "paint", "line", "swap", "wipe", "clear", "rub", "tail", "idle"]
theorem some_at {i : Int} (h0 : 0 ≤ i) (h1 : i < 9) : ∃ w, atI (someW.map PyData.str) i = some (.str w) ∧ w ∈ loneWs := by
  have : i = 0 ∨ i = 1 ∨ i = 2 ∨ i = 3 ∨ i = 4 ∨ i = 5 ∨ i = 6 ∨ i = 7 ∨ i = 8 := by omega
  rcases this with rfl | rfl | rfl | rfl | rfl | rfl | rfl | rfl | rfl
  · exact ⟨"hide", rfl, by decide +kernel⟩
  · exact ⟨"paint", rfl, by decide +kernel⟩
  · exact ⟨"line", rfl, by decide +kernel⟩
  · exact ⟨"swap", rfl, by decide +kernel⟩
  · exact ⟨"wipe", rfl, by decide +kernel⟩
  · exact ⟨"clear", rfl, by decide +kernel⟩
  · exact ⟨"rub", rfl, by decide +kernel⟩
  · exact ⟨"tail", rfl, by decide +kernel⟩
  · exact ⟨"idle", rfl, by decide +kernel⟩
theorem d_law_code (o : OkS (R : Int) (W : Int)) (hm : m < 1048000) (k : ∀ co m', OkC R W co → m' ≤ m + 3 → P (coD co) m') : r__law_code [.ora, .d (scr R W)] m P := by
  obtain ⟨b1, b2, b3, b4, _⟩ := okb o
  refine ⟨trivial, rfl, rfl, rfl, 15, rfl, by omega, by omega, by omega, fun i i0 i1 => ?_⟩
  refine ⟨trivial, ?_⟩
  show (if decide (i < 5) = true then _ else _)
  by_cases z1 : i < 5
  · rw [if_pos (decide_eq_true z1)]
    refine ⟨trivial, rfl, rfl, rfl, 4, rfl, by omega, by omega, by omega, fun a a0 a1 => ?_⟩
    obtain ⟨c, ec, hc⟩ := ch_sg2 a0 a1
    refine ⟨(by decide +kernel : ("abx " : Str).length ≤ 1000000), c, ec, by show 2 ≤ 1000000; omega, ?_⟩
    exact k (.put c) _ ⟨hc⟩ (by omega)
  · rw [if_neg (by simpa using z1)]
    refine ⟨trivial, ?_⟩
    show (if decide (i < 7) = true then _ else _)
    by_cases z2 : i < 7
    · rw [if_pos (decide_eq_true z2)]
      refine ⟨trivial, trivial, _, rfl, rfl, rfl, rfl, (R : Int), rfl, by omega, by omega, by omega, fun a a0 a1 => ?_⟩
      refine ⟨trivial, trivial, _, rfl, rfl, rfl, rfl, (W : Int), rfl, by omega, by omega, by omega, fun b b0 b1 => ?_⟩
      obtain ⟨a', rfl⟩ : ∃ n : Nat, a = n := ⟨a.toNat, by omega⟩
      obtain ⟨b', rfl⟩ : ∃ n : Nat, b = n := ⟨b.toNat, by omega⟩
      refine ⟨by show 3 ≤ 1000000; omega, ?_⟩
      exact k (.at a' b') _ ⟨⟨by omega, by omega⟩⟩ (by omega)
    · rw [if_neg (by simpa using z2)]
      refine ⟨trivial, okI _, okI _, ?_⟩
      rw [eqI]
      by_cases z3 : i = 7
      · rw [decide_eq_true z3]
        refine ⟨trivial, trivial, _, rfl, rfl, rfl, rfl, (R : Int), rfl, by omega, by omega, by omega, fun a a0 a1 => ?_⟩
        obtain ⟨a', rfl⟩ : ∃ n : Nat, a = n := ⟨a.toNat, by omega⟩
        refine ⟨by show 2 ≤ 1000000; omega, ?_⟩
        have e : (1 : Int) + (a' : Int) = ((1 + a' : Nat) : Int) := by omega
        show P (.tuple [.str ("roll" : Str), .int (1 + (a' : Int))]) _
        rw [e]
        exact k (.roll (1 + a')) _ ⟨⟨by omega, by omega⟩⟩ (by omega)
      · rw [decide_eq_false z3]
        refine ⟨by show 9 ≤ 1000000; omega, trivial, trivial, rfl, rfl, rfl, 9, rfl, by omega, by omega, by omega, fun a a0 a1 => ?_⟩
        obtain ⟨w, ew, hw⟩ := some_at a0 a1
        refine ⟨_, ew, by show 1 ≤ 1000000; omega, ?_⟩
        exact k (.lone w) _ ⟨hw⟩ (by omega)
end
end Q23
namespace Q23
open PySem L2 DL
section
variable {R W : Nat} {P : D → Nat → Prop} {m : Nat} {x : De}
def bl0 (R W : Nat) : De := ⟨"hide", 0, 0, List.replicate R (blRow W), List.replicate R (blRow W)⟩
theorem bl0_ok (o : OkS (R : Int) (W : Int)) : (bl0 R W).Ok R W := by
  obtain ⟨b1, b2, b3, b4, _⟩ := okb o
  exact ⟨(mode_in o).1 "hide" (by simp), by show 0 < R; omega, by show 0 < W; omega, mem_bl, mem_bl⟩
theorem mul_bl (n W : Nat) : (List.replicate n [PyData.str (mulT (" " : Str) (W : Int))]).flatten = (List.replicate n (blRow W)).map lineD := by
  rw [mul_S, Int.toNat_natCast, List.map_replicate]
  induction n with
  | zero => rfl
  | succ k ih => rw [List.replicate_succ, List.replicate_succ, List.flatten_cons, ih]; rfl
theorem d_blank (o : OkS (R : Int) (W : Int)) (k : P (textD (List.replicate R (blRow W))) 0) : r_blank [.d (scr R W)] m P := by
  obtain ⟨b1, b2, b3, b4, _⟩ := okb o
  have l1 : (" " : Str).length = 1 := by decide +kernel
  refine ⟨rfl, rfl, d_need_screen o ?_⟩
  refine ⟨rfl, rfl, trivial, ⟨by omega, by omega⟩, by rw [l1]; omega, by show 1 ≤ 1000000; omega, trivial, ⟨by omega, by omega⟩, by simp, by show 1 ≤ 1000; omega, ?_⟩
  refine ⟨hd_d, ?_⟩
  show P (.tuple (List.replicate ((R : Int)).toNat [PyData.str (mulT (" " : Str) (W : Int))]).flatten) 0
  rw [Int.toNat_natCast, mul_bl]
  exact k
theorem d_first (o : OkS (R : Int) (W : Int)) (k : P (bl0 R W).d 0) : r_first_state [.d (scr R W)] m P := by
  refine ⟨rfl, rfl, d_blank o ?_⟩
  exact ⟨by show 5 ≤ 1000000; omega, hd_d, k⟩
theorem d_law_first (o : OkS (R : Int) (W : Int)) (k : P (bl0 R W).l 0) : r__law_first [.d (scr R W)] m P := by
  obtain ⟨b1, b2, b3, b4, _⟩ := okb o
  have rl : (rgD 0 R).length = R := by simp [rgD]
  refine ⟨trivial, _, rfl, ⟨by omega, by omega⟩, by rw [rl]; omega, ⟨by simp, fun j hj => by simp at hj; subst hj; rfl⟩, ?_⟩
  refine lcL_map (ρ := [.im (scr R W), .no, .no]) (fun _ => rowL (blRow W)) (rgD 0 R) [] ?_ ?_
  · intro d hd Q hQ
    refine ⟨by show 1 ≤ 1000000; omega, trivial, _, rfl, ⟨by omega, by omega⟩, by show 1 * ((W : Int)).toNat ≤ 1000000; omega, ?_⟩
    have e : (PyData.list (List.replicate ((W : Int)).toNat [PyData.str (" " : Str)]).flatten) = rowL (blRow W) := by
      rw [Int.toNat_natCast, bl_rep]
      rfl
    rw [e]
    exact hQ _ rfl
  · rw [List.nil_append, List.map_const', rl, ← List.map_replicate]
    exact ⟨by show 5 ≤ 1000000; omega, hd_d, k⟩
def pics (R W : Nat) : De → List Co → List D
  | _, [] => []
  | x, c :: cs => textD (x.step R W c).A :: pics R W (x.step R W c) cs
theorem d_shown {x : De} (o : OkS (R : Int) (W : Int)) (h : x.Ok R W) (k : P (textD x.A) 0) : r_memory_of [.d (scr R W), .d (cellsD (x.A ++ x.B).flatten), .d (.int 0)] m P := by
  obtain ⟨b1, b2, b3, b4, b5, b6, b7⟩ := okb o
  obtain ⟨x1, x2⟩ := X_all (c := 0) h.A h.B
  have na : x.A.length = R := h.A.n
  have fl : (x.A ++ x.B).flatten.length = (R + R) * W := by rw [flat_len _ x1, x2]
  refine d_rows (f := 0) o (by omega) (by rw [Nat.zero_add, fl, Nat.add_mul]; omega) ?_
  have e1 := rows_at W (x.A ++ x.B) 0 R x1 (by rw [x2]; omega)
  rw [e1]
  have e3 : ((x.A ++ x.B).drop 0).take R = x.A := by rw [List.drop_zero, ← na, List.take_left]
  rw [e3]
  exact k
def pcBody : SM := (sSeq (sAsg (dCall 4 r_stepped (aCons (dV 0) (aCons (dV 3) (aCons (dV 4) (aCons (dV 6) (aNil)))))) (gTupT 2 (gConsT (gN 3) (gConsT (gN 4) (gNoT))))) (sApp 5 (dCall 3 r_memory_of (aCons (dV 0) (aCons (dV 4) (aCons (dC (.int 0)) (aNil)))))))
theorem pc_loop {E : DE} {s1 s2 : Sl} (o : OkS (R : Int) (W : Int)) : ∀ (cs : List Co) (x : De) (acc : List D) (s6 : Sl), x.Ok R W → (∀ c ∈ cs, OkC R W c) → acc.length + cs.length ≤ 100000 → (∀ s3 s4 s6, E.nx [.im (scr R W), s1, s2, s3, s4, .ow (.list (acc ++ pics R W x cs)), s6]) →
    forL (gN 6) pcBody E (cs.map coD) [.im (scr R W), s1, s2, .im (ctlD x.s x.i x.j), .im (cellsD (x.A ++ x.B).flatten), .ow (.list acc), s6]
  | [], x, acc, s6, _, _, _, k => by
    have := k (.im (ctlD x.s x.i x.j)) (.im (cellsD (x.A ++ x.B).flatten)) s6
    rw [show pics R W x [] = [] from rfl, List.append_nil] at this
    exact this
  | c :: cs, x, acc, s6, h, hc, hl, k => by
    have h1 := hc c (List.mem_cons_self ..)
    rw [List.length_cons] at hl
    refine ⟨rfl, rfl, d_stepped o h h1 ?_⟩
    refine ⟨rfl, rfl, ?_⟩
    refine ⟨trivial, rfl, rfl, d_shown (x := x.step R W c) o (h.step o h1) ?_⟩
    refine ⟨by omega, ?_⟩
    refine pc_loop o cs (x.step R W c) (acc ++ [textD (x.step R W c).A]) _ (h.step o h1) (fun c hc' => hc c (List.mem_cons_of_mem _ hc')) (by rw [List.length_append]; simp; omega) fun s3 s4 s6 => ?_
    have := k s3 s4 s6
    rw [List.append_assoc]
    exact this
theorem d_pictures {cs : List Co} (o : OkS (R : Int) (W : Int)) (hc : ∀ c ∈ cs, OkC R W c) (hl : cs.length ≤ 2000) (k : P (.tuple (pics R W (bl0 R W) cs)) 0) : r_pictures [.d (scr R W), .d (.tuple (cs.map coD))] m P := by
  refine ⟨rfl, rfl, d_first o ?_⟩
  refine ⟨rfl, rfl, d_need_codes (by rw [List.length_map]; exact hl) (fun d hd => ?_) ?_⟩
  · obtain ⟨c, mc, rfl⟩ := List.mem_map.mp hd
    exact co_ok o (hc c mc)
  refine ⟨trivial, rfl, rfl, d_cells o (bl0_ok o) ?_⟩
  refine ⟨by show 0 ≤ 1000000; omega, ?_⟩
  show forL (gN 6) pcBody _ (cs.map coD) [.im (scr R W), _, _, .im (ctlD (bl0 R W).s (bl0 R W).i (bl0 R W).j), .im (cellsD ((bl0 R W).A ++ (bl0 R W).B).flatten), .ow (.list []), .no]
  refine pc_loop o cs (bl0 R W) [] _ (bl0_ok o) hc (by simp; omega) fun s3 s4 s6 => ?_
  refine ⟨trivial, ?_⟩
  exact ⟨hd_d, k⟩
end
end Q23
namespace Q23
open PySem L2 DL
structure Line (w : Nat) (l : List Nat) : Prop where
  ne : l ≠ []
  le : l.length ≤ w
  sg : ∀ c ∈ l, sgC c = true
  hd : l.head? ≠ some 32
  tl : l.getLast? ≠ some 32
structure Text (r w : Int) (ls : List (List Nat)) : Prop where
  n1 : 1 ≤ ls.length
  nr : ls.length ≤ r.toNat
  a : ∀ l ∈ ls, Line w.toNat l
theorem line_x {w : Nat} (h : 1 ≤ w) : Line w [120] := ⟨by simp, h, by decide, by decide, by decide⟩
theorem line_of {w : Nat} {l : List Nat} (hl : l.length ≤ w) (hs : ∀ c ∈ l, sgC c = true) (ne : rs (l.dropWhile sp) ≠ []) : Line w (rs (l.dropWhile sp)) := by
  obtain ⟨k, e, tl⟩ := rs_split (l.dropWhile sp)
  have sub : ∀ c ∈ l.dropWhile sp, c ∈ l := fun c hc => by
    rw [dw] at hc
    exact List.mem_of_mem_drop hc
  refine ⟨ne, ?_, fun c hc => hs c (sub c (rs_mem hc)), ?_, tl⟩
  · have h1 := rs_len (l.dropWhile sp)
    have h2 : (l.dropWhile sp).length ≤ l.length := by
      rw [dw, List.length_drop]
      omega
    omega
  · rw [rs_head ne]
    exact dw_head l
def tlD : DM := (d2 gIx (hV (dC (.str ("ab x" : Str)))) (hV (dCallO 0 2 s_next (aOra 0 (aCons (dC (.int 4)) (aNil))))))
theorem tl_lc {K : List D → DL.Env → Prop} {a b c d : Sl} : ∀ (ds : List D) (acc : List Nat) (m : Nat), m + ds.length < 1048000 → (∀ x ∈ acc, sgC x = true) →
    (∀ acc' : List Nat, acc'.length = acc.length + ds.length → (∀ x ∈ acc', sgC x = true) → K (acc'.map chD) [.ora (m + ds.length), a, b, c, d, .no]) → lcL (gN 5) bYes tlD [5] K ds (acc.map chD) [.ora m, a, b, c, d, .no]
  | [], acc, m, _, ha, h => h acc (by simp) ha
  | x :: ds, acc, m, hm, ha, h => by
    rw [List.length_cons] at hm h
    refine ⟨trivial, rfl, rfl, rfl, 4, rfl, by omega, by omega, by omega, fun i i0 i1 => ?_⟩
    obtain ⟨z, ez, hz⟩ := ch_sg i0 i1
    refine ⟨(by decide +kernel : ("ab x" : Str).length ≤ 1000000), z, ez, ?_⟩
    have em : acc.map chD ++ [PyData.str ⟨#[z]⟩] = (acc ++ [z]).map chD := by
      rw [List.map_append]
      rfl
    show lcL (gN 5) bYes tlD [5] K ds (acc.map chD ++ [PyData.str ⟨#[z]⟩]) _
    rw [em]
    refine tl_lc ds (acc ++ [z]) (m + 1) (by omega) (fun y hy => ?_) fun acc' e' ha' => ?_
    · rcases List.mem_append.mp hy with q | q
      · exact ha y q
      · rw [List.mem_singleton.mp q]
        exact hz
    · have := h acc' (by rw [e', List.length_append]; simp; omega) ha'
      have em : m + (ds.length + 1) = m + 1 + ds.length := by omega
      rw [em] at this
      exact this
def txBody : SM := (sSeq (sSet 4 (dStrip Txt.stripChars (dJoin (dC (.str ("" : Str))) (dLc (iRange1 (lCons (d2 gAdd (hV (dC (.int 1))) (hV (dCallO 0 2 s_next (aOra 0 (aCons (d2 gIx (hS 1) (hV (dC (.int 1)))) (aNil)))))) (lNil))) (gN 5) (bYes) tlD [5])) (dC (.str (" " : Str))))) (sApp 2 (dIf (bD (d2 gNe (hS 4) (hV (dC (.str ("" : Str)))))) (dV 4) (dC (.str ("x" : Str))))))
section
variable {E : DE} {r w : Int}
theorem tx_turn {acc : List (List Nat)} {s3 s4 : Sl} {m : Nat} (o : OkS r w) (hm : m < 1047000) (hl : acc.length ≤ 1000) (h : ∀ (l : List Nat) (m' : Nat) (s4 : Sl), Line w.toNat l → m' ≤ m + 41 → E.nx [.ora m', .im (scr r w), .ow (.list ((acc ++ [l]).map lineD)), s3, s4, .no]) :
    txBody E [.ora m, .im (scr r w), .ow (.list (acc.map lineD)), s3, s4, .no] := by
  have w1 := o.w1
  have w40 := o.w40
  refine ⟨⟨_, rfl⟩, ?_⟩
  refine ⟨trivial, trivial, _, rfl, rfl, rfl, rfl, w, rfl, by omega, by omega, by omega, fun j j0 j1 => ?_⟩
  have rl : (rgD 0 (1 + j)).length = (1 + j).toNat := by simp [rgD]
  refine ⟨⟨by omega, by omega⟩, by omega, ⟨by simp, fun j hj => by simp at hj; subst hj; rfl⟩, ?_⟩
  refine tl_lc (rgD 0 (1 + j)) [] (m + 1) (by omega) (fun x hx => nomatch hx) fun cs e hcs => ?_
  rw [List.length_nil, Nat.zero_add, rl] at e
  have h0 : ("" : Str).length = 0 := by decide +kernel
  refine ⟨_, cs.map chD, _, rfl, .inl rfl, strs_ch cs, by rw [sum_ch, h0]; omega, ⟨_, rfl⟩, _, _, rfl, rfl, ?_, ?_⟩
  · rw [T_joinC, S_len]
    omega
  · have eS : PyData.str (Txt.stripChars (Txt.join ("" : Str) (cs.map fun c => (⟨#[c]⟩ : Str))) (" " : Str)) = .str (S (rs (cs.dropWhile sp))) := by rw [T_joinC, strip_eq]
    rw [eS]
    have sgs : ∀ c ∈ rs (cs.dropWhile sp), sgC c = true := fun c hc => by
      have hc := rs_mem hc
      rw [dw] at hc
      exact hcs c (List.mem_of_mem_drop hc)
    refine ⟨trivial, trivial, okD_S sgs, okW _, ?_⟩
    show (if (!PyData.eqv (.str (S (rs (cs.dropWhile sp)))) (.str ("" : Str))) = true then _ else _)
    rw [eqS, S_nil, S_eqb]
    have hln : (acc.map lineD).length < 1000000 := by rw [List.length_map]; omega
    by_cases z : rs (cs.dropWhile sp) = []
    · rw [decide_eq_true z, if_neg (show ¬ (!true) = true from Bool.false_ne_true)]
      refine ⟨hln, ?_⟩
      have em : acc.map lineD ++ [PyData.str ("x" : Str)] = (acc ++ [[120]]).map lineD := by
        rw [List.map_append]
        rfl
      show E.nx [_, _, .ow (.list (acc.map lineD ++ [PyData.str ("x" : Str)])), _, _, _]
      rw [em]
      exact h _ _ _ (line_x (by omega)) (by omega)
    · rw [decide_eq_false z, if_pos (show (!false) = true from rfl)]
      refine ⟨hln, ?_⟩
      have em : acc.map lineD ++ [PyData.str (S (rs (cs.dropWhile sp)))] = (acc ++ [rs (cs.dropWhile sp)]).map lineD := by
        rw [List.map_append]
        rfl
      show E.nx [_, _, .ow (.list (acc.map lineD ++ [PyData.str (S (rs (cs.dropWhile sp)))])), _, _, _]
      rw [em]
      exact h _ _ _ (line_of (by omega) hcs z) (by omega)
theorem tx_loop (o : OkS r w) : ∀ (ks : List D) (acc : List (List Nat)) (s3 s4 : Sl) (m : Nat), m + ks.length * 41 < 1047000 → acc.length + ks.length ≤ 1000 → (∀ l ∈ acc, Line w.toNat l) →
    (∀ (acc' : List (List Nat)) (s3 s4 : Sl) (m' : Nat), acc'.length = acc.length + ks.length → (∀ l ∈ acc', Line w.toNat l) → m' ≤ m + ks.length * 41 → E.nx [.ora m', .im (scr r w), .ow (.list (acc'.map lineD)), s3, s4, .no]) →
    forL (gN 3) txBody E ks [.ora m, .im (scr r w), .ow (.list (acc.map lineD)), s3, s4, .no]
  | [], acc, s3, s4, m, _, _, ha, h => h acc s3 s4 m (by simp) ha (by simp)
  | k :: ks, acc, s3, s4, m, hm, hl, ha, h => by
    rw [List.length_cons] at hm hl h
    refine tx_turn o (by omega) (by omega) fun l m1 s4 ln h1 => ?_
    refine tx_loop o ks (acc ++ [l]) _ _ m1 (by omega) (by simp; omega) (fun y hy => ?_) fun acc' s3 s4 m' e ha' hm' => ?_
    · rcases List.mem_append.mp hy with q | q
      · exact ha y q
      · rw [List.mem_singleton.mp q]
        exact ln
    · refine h acc' s3 s4 m' ?_ ha' (by omega)
      rw [e, List.length_append, List.length_singleton]
      omega
end
theorem d_law_text {r w : Int} {m : Nat} {P : D → Nat → Prop} (o : OkS r w) (hm : m < 1046000) (h : ∀ ls m', Text r w ls → m' ≤ m + 200 → P (textD ls) m') : r__law_text [.ora, .d (scr r w)] m P := by
  have r1 := o.r1
  have r4 := o.r4
  refine ⟨by show 0 ≤ 1000000; omega, ?_⟩
  refine ⟨trivial, trivial, _, rfl, rfl, rfl, rfl, r, rfl, by omega, by omega, by omega, fun j j0 j1 => ?_⟩
  have rl : (rgD 0 (1 + j)).length = (1 + j).toNat := by simp [rgD]
  refine ⟨⟨by omega, by omega⟩, ?_⟩
  refine tx_loop o (rgD 0 (1 + j)) [] _ _ (m + 1) (by omega) (by rw [rl, List.length_nil]; omega) (fun y hy => nomatch hy) fun acc s3 s4 m' e ha hm' => ?_
  rw [List.length_nil, Nat.zero_add, rl] at e
  refine ⟨trivial, ?_⟩
  exact h acc m' ⟨by omega, by omega, ha⟩ (by omega)
end Q23
namespace Q23
open PySem L2 DL
def lnB (l : List Nat) : Bool := !l.isEmpty && !decide (l.head? = some 32)
theorem okC {c : Nat} (h : sgC c = true) : okD (.str ⟨#[c]⟩) := (ch_fn (sg_lt h).1).ok (by omega)
theorem one_S (c : Nat) : (⟨#[c]⟩ : Str) = S [c] := rfl
section
variable {m : Nat} {P : D → Nat → Prop}
theorem d_has_signs {l : List Nat} (hl : l.length ≤ 40) (hs : ∀ c ∈ l, sgC c = true) (h : P (.bool (!l.isEmpty)) 0) : r_has_signs [.d (lineD l), .d (.int 32)] m P := by
  have e3 : (S l).length ≤ 1000000 := by rw [S_len]; omega
  cases l with
  | nil =>
    show sIf _ _ _ _ _
    have l0 : (S []).length = 0 := rfl
    simp [raw, startE, arSl, sSeq, sIf, sRet, sRetN, sNo, sSet, sSetN, sExpr, sAsg, dCall, dCallO, aCons, aNil, aOra, dV, hS, hV, dC, d2, see, seeAll, dCB, DL.gCons, DL.gNil, dChain, bD, bAnd, bOr, bNot, dAnd, dOr, dNot, dNeg, dIf, dIsi, bTruth, truD, lCons, lNil, dTup, dLst, isD, gCmp, gAdd, DL.gSub, gIs, gIsNot, gLen, gN, gTupT, gConsT, gNoT, ownL, dSl, oI, oNo, k_ss, tyN, gLen, lineD, l0]
    exact h
  | cons c t =>
    have g1 : (1 : Int) ≤ ((S (c :: t)).length : Int) := by rw [S_len, List.length_cons]; omega
    have g2 : ((S (c :: t)).length : Int) ≤ 40 := by rw [S_len]; omega
    show sIf _ _ _ _ _
    simp [raw, startE, arSl, sSeq, sIf, sRet, sRetN, sNo, sSet, sSetN, sExpr, sAsg, dCall, dCallO, aCons, aNil, aOra, dV, hS, hV, dC, d2, see, seeAll, dCB, DL.gCons, DL.gNil, dChain, bD, bAnd, bOr, bNot, dAnd, dOr, dNot, dNeg, dIf, dIsi, bTruth, truD, lCons, lNil, dTup, dLst, isD, gCmp, gAdd, DL.gSub, gIs, gIsNot, gLen, gN, gTupT, gConsT, gNoT, ownL, dSl, oI, oNo, k_ss, tyN, gLen, lineD, g1, g2, e3]
    refine ⟨by rw [signs_S, List.length_map]; omega, ⟨by simp, fun j hj => by simp at hj; subst hj; rfl⟩, ?_⟩
    refine lcL_map (ρ := [.im (lineD (c :: t)), .im (.int 32), .no]) (fun d => .bool (chB d)) (signs (S (c :: t))) [] ?_ ?_
    · intro d hd Q hQ
      rw [signs_S] at hd
      obtain ⟨c', hc, rfl⟩ := List.mem_map.mp hd
      refine ⟨rfl, rfl, d_is_sign ?_⟩
      exact hQ _ rfl
    · rw [List.nil_append]
      refine ⟨_, bools_map chB _, ?_⟩
      rw [List.all_map]
      have e2 : (signs (S (c :: t))).all (id ∘ chB) = (S (c :: t)).cps.toList.all sgC := all_signs _
      rw [e2, S_list, all_sg hs]
      exact h
theorem atI_last {l : List Nat} {z : Nat} (h : l.getLast? = some z) : atI l (-1) = some z := by
  have ne : l ≠ [] := fun e => by rw [e] at h; cases h
  have hp : 0 < l.length := List.length_pos_iff.mpr ne
  have hj : ixN l.length (-1) = some (l.length - 1) := by
    unfold ixN
    rw [if_neg (by decide), if_pos (by omega)]
    congr 1
    omega
  unfold atI
  rw [hj]
  rw [List.getLast?_eq_getElem?] at h
  exact h
theorem d_line {l : List Nat} (hl : l.length ≤ 40) (hs : ∀ c ∈ l, sgC c = true) (tl : l.getLast? ≠ some 32) (h : P (.bool (lnB l)) 0) : r__is_line [.d (lineD l)] m P := by
  have e3 : (S l).length ≤ 1000000 := by rw [S_len]; omega
  refine ⟨rfl, rfl, d_has_signs hl hs ?_⟩
  have osp : okD (.str (" " : Str)) := okW _
  have esp : (" " : Str) = S [32] := by decide +kernel
  cases l with
  | nil => exact ⟨hd_d, h⟩
  | cons c t =>
    have hc := hs c (List.mem_cons_self ..)
    refine ⟨trivial, e3, c, by rw [S_list]; simp [atI, ixN], okC hc, osp, ?_⟩
    rw [eqS, one_S, esp, S_eqb]
    have e0 : lnB (c :: t) = !decide ([c] = [32]) := by
      show (true && !decide (some c = some 32)) = _
      rw [Bool.true_and]
      congr 1
      exact decide_eq_decide.mpr (by simp)
    by_cases z : [c] = [32]
    · rw [decide_eq_true z] at e0 ⊢
      rw [e0] at h
      exact ⟨hd_d, h⟩
    · rw [decide_eq_false z] at e0 ⊢
      rw [e0] at h
      obtain ⟨y, hy⟩ : ∃ y, (c :: t).getLast? = some y := ⟨_, List.getLast?_eq_some_getLast (by simp)⟩
      have my : y ∈ c :: t := List.mem_of_getLast? hy
      have ny : [y] ≠ [32] := fun e => tl (by rw [hy]; simpa using e)
      refine ⟨trivial, e3, y, by rw [S_list]; exact atI_last hy, okC (hs y my), osp, ?_⟩
      rw [eqS, one_S, S_eqb, decide_eq_false ny]
      exact ⟨hd_d, h⟩
theorem d_is_text {ls : List (List Nat)} (hn : ls.length ≤ 4) (hl : ∀ l ∈ ls, l.length ≤ 40 ∧ (∀ c ∈ l, sgC c = true) ∧ l.getLast? ≠ some 32) (h : P (.bool (!ls.isEmpty && ls.all lnB)) 0) : r_is_text [.d (textD ls)] m P := by
  refine ⟨rfl, rfl, d_is_tuple ?_⟩
  have e0 : tupB (textD ls) 1 4 = !ls.isEmpty := by
    show (decide ((1 : Int) ≤ ((ls.map lineD).length : Int)) && decide (((ls.map lineD).length : Int) ≤ 4)) = _
    rw [List.length_map, decide_eq_true (show (ls.length : Int) ≤ 4 by omega), Bool.and_true]
    cases ls with
    | nil => rfl
    | cons a t => exact decide_eq_true (by rw [List.length_cons]; omega)
  rw [e0]
  cases ls with
  | nil => exact ⟨hd_d, h⟩
  | cons a t =>
    refine ⟨by rw [List.length_map]; omega, ⟨by simp, fun j hj => by simp at hj; subst hj; rfl⟩, ?_⟩
    refine lcL_map (ρ := [.im (textD (a :: t)), .no]) (fun d => .bool (match d with
      | .str s => lnB s.cps.toList
      | _ => false)) ((a :: t).map lineD) [] ?_ ?_
    · intro d hd Q hQ
      obtain ⟨l, ml, rfl⟩ := List.mem_map.mp hd
      obtain ⟨g1, g2, g3⟩ := hl l ml
      refine ⟨rfl, rfl, d_line g1 g2 g3 ?_⟩
      have : lnB l = lnB (S l).cps.toList := by rw [S_list]
      rw [this]
      exact hQ _ rfl
    · rw [List.nil_append]
      refine ⟨_, bools_map _ _, ?_⟩
      rw [List.all_map, List.all_map]
      have e2 : ((a :: t).all ((id ∘ fun d => match d with
        | .str s => lnB s.cps.toList
        | _ => false) ∘ lineD)) = (a :: t).all lnB := by
        congr 1
      rw [e2]
      exact ⟨hd_d, h⟩
theorem Line.b {w : Nat} {l : List Nat} (h : Line w l) : lnB l = true := by
  have h1 := h.ne
  have h2 := h.hd
  unfold lnB
  rw [decide_eq_false h2]
  cases l with
  | nil => exact absurd rfl h1
  | cons a t => rfl
def putD (c : Nat) : D := .tuple [.str ("put" : Str), .str ⟨#[c]⟩]
def atD (i : Nat) : D := .tuple [.str ("at" : Str), .int (i : Int), .int 0]
def hideD : D := .tuple [.str ("hide" : Str)]
def clearD : D := .tuple [.str ("clear" : Str)]
def lineC (i : Nat) (l : List Nat) : List D := atD i :: l.map putD
def linesC : Nat → List (List Nat) → List D
  | _, [] => []
  | i, l :: r => lineC i l ++ linesC (i + 1) r
def loadL (ls : List (List Nat)) : List D := hideD :: clearD :: linesC 0 ls
def ldBody : SM := (sSeq (sApp 1 (dTup (lCons (dC (.str ("at" : Str))) (lCons (dV 2) (lCons (dC (.int 0)) (lNil)))))) (sExt 1 (dLc (iSeq (dV 3)) (gN 4) (bYes) (dTup (lCons (dC (.str ("put" : Str))) (lCons (dV 4) (lNil)))) [4])))
theorem ld_turn {E : DE} {t : Sl} {acc : List D} {i : Nat} {l : List Nat} (hl : l.length ≤ 1000) (ha : acc.length ≤ 10000) (h : E.nx [t, .ow (.list (acc ++ lineC i l)), .im (.int (i : Int)), .im (lineD l), .no]) : ldBody E [t, .ow (.list acc), .im (.int (i : Int)), .im (lineD l), .no] := by
  refine ⟨trivial, by show 3 ≤ 1000000; omega, by show acc.length < 1000000; omega, ?_⟩
  refine ⟨trivial, by rw [signs_S, List.length_map]; omega, ⟨by simp, fun j hj => by simp at hj; subst hj; rfl⟩, ?_⟩
  refine lcL_map (ρ := [t, .ow (.list (acc ++ [atD i])), .im (.int (i : Int)), .im (lineD l), .no]) (fun d => .tuple [.str ("put" : Str), d]) (signs (S l)) [] ?_ ?_
  · intro d hd Q hQ
    refine ⟨by show 2 ≤ 1000000; omega, ?_⟩
    exact hQ _ rfl
  · rw [List.nil_append, signs_S, List.map_map]
    refine ⟨by rw [List.length_append, List.length_map]; simp; omega, ?_⟩
    have e : acc ++ lineC i l = acc ++ [atD i] ++ l.map ((fun d => PyData.tuple [.str ("put" : Str), d]) ∘ fun c => PyData.str ⟨#[c]⟩) := by
      rw [List.append_assoc]
      rfl
    rw [e] at h
    exact h
theorem ld_loop {E : DE} {t : Sl} : ∀ (ls : List (List Nat)) (i : Nat) (acc : List D) (s2 s3 : Sl), acc.length + ls.length * 1001 ≤ 10000 → (∀ l ∈ ls, l.length ≤ 1000) →
    (∀ s2 s3, E.nx [t, .ow (.list (acc ++ linesC i ls)), s2, s3, .no]) → forL (gTupT 2 (gConsT (gN 2) (gConsT (gN 3) (gNoT)))) ldBody E (enF i (ls.map lineD)) [t, .ow (.list acc), s2, s3, .no]
  | [], i, acc, s2, s3, _, _, h => by
    have := h s2 s3
    rw [show linesC i [] = [] from rfl, List.append_nil] at this
    exact this
  | l :: ls, i, acc, s2, s3, ha, hl, h => by
    rw [List.length_cons] at ha
    have ll := hl l (List.mem_cons_self ..)
    refine ⟨rfl, rfl, ?_⟩
    refine ld_turn ll (by omega) ?_
    refine ld_loop ls (i + 1) (acc ++ lineC i l) _ _ ?_ (fun x hx => hl x (List.mem_cons_of_mem _ hx)) fun s2 s3 => ?_
    · have : (lineC i l).length = l.length + 1 := by simp [lineC]
      rw [List.length_append, this]
      omega
    · rw [List.append_assoc]
      exact h s2 s3
theorem d_load_of {w : Nat} {ls : List (List Nat)} (hw : w ≤ 1000) (hn : ls.length ≤ 8) (hl : ∀ l ∈ ls, l.length ≤ w) (h : P (.tuple (loadL ls)) 0) : r__load_of [.d (textD ls)] m P := by
  refine ⟨by show 1 ≤ 1000000; omega, by show 1 ≤ 1000000; omega, by show 2 ≤ 1000000; omega, ?_⟩
  show forL _ ldBody _ (enD (ls.map lineD)) _
  rw [en_eq]
  refine ld_loop ls 0 [hideD, clearD] _ _ (by show 2 + _ ≤ 10000; omega) (fun l ml => Nat.le_trans (hl l ml) hw) fun s2 s3 => ?_
  refine ⟨trivial, ?_⟩
  exact ⟨hd_d, h⟩
end
end Q23
namespace Q23
open PySem L2 DL
theorem Text.l {r w : Int} {ls : List (List Nat)} (o : OkS r w) (t : Text r w ls) : ls.length ≤ 4 ∧ ∀ l ∈ ls, l.length ≤ 40 ∧ ∀ c ∈ l, sgC c = true := by
  have r4 := o.r4
  have w40 := o.w40
  have tr := t.nr
  refine ⟨by omega, fun l hl => ?_⟩
  have ln := t.a l hl
  exact ⟨Nat.le_trans ln.le (by omega), ln.sg⟩
theorem lineC_sh {i : Nat} {l : List Nat} (hi : i ≤ 9999) (hs : ∀ c ∈ l, sgC c = true) : ∀ d ∈ lineC i l, Sh 1 27 d := by
  intro d hd
  (rcases List.mem_cons.mp hd with rfl | hd)
  · exact (sh_tup (k := 0) (n := 8) (ds := [.str ("at" : Str), .int (i : Int), .int 0]) fun d hd => by
      simp at hd
      rcases hd with rfl | rfl | rfl
      · exact sh_W _
      · exact (sh_int (by omega) (by omega)).mono (by omega) (by omega)
      · exact (sh_int (by omega) (by omega)).mono (by omega) (by omega)).mono (by omega) (by simp)
  · obtain ⟨c, hc, rfl⟩ := List.mem_map.mp hd
    exact (sh_tup (k := 0) (n := 8) (ds := [.str ("put" : Str), .str ⟨#[c]⟩]) fun d hd => by
      simp at hd
      rcases hd with rfl | rfl
      · exact sh_W _
      · exact (sh_S (l := [c]) (by intro x hx; rw [List.mem_singleton.mp hx]; exact hs c hc)).mono (by omega) (by simp)).mono (by omega) (by simp)
def padL (w : Nat) (l : List Nat) : List Nat := l ++ List.replicate (w - l.length) 32
def pict (r w : Nat) (ls : List (List Nat)) : List (List Nat) := ls.map (padL w) ++ List.replicate (r - ls.length) (List.replicate w 32)
theorem padL_len {w : Nat} {l : List Nat} (h : l.length ≤ w) : (padL w l).length = w := by
  unfold padL
  (rw [List.length_append, List.length_replicate])
  omega
theorem cut_pad {w : Int} {l : List Nat} (h0 : 0 ≤ w) (h : l.length ≤ w.toNat) : cutS (S l ++ S (List.replicate w.toNat 32)) none (some w) = S (padL w.toNat l) := by
  obtain ⟨n, rfl⟩ : ∃ n : Nat, w = (n : Int) := ⟨w.toNat, by omega⟩
  rw [Int.toNat_natCast] at h ⊢
  rw [S_app]
  unfold cutS
  rw [S_list, HT.sIx_none, HT.sIx_nat, S_len, List.drop_zero, Nat.sub_zero, List.length_append, List.length_replicate, Nat.min_eq_left (by omega)]
  show S _ = S _
  congr 1
  rw [List.take_append, List.take_of_length_le h, List.take_replicate, Nat.min_eq_left (by omega)]
  rfl
section
variable {m : Nat} {P : D → Nat → Prop} {r w : Int} {ls : List (List Nat)}
theorem S_bl (n : Nat) (w : Nat) : (List.replicate n [PyData.str (S (List.replicate w 32))]).flatten = (List.replicate n (List.replicate w 32)).map lineD := by
  rw [List.map_replicate]
  induction n with
  | zero => rfl
  | succ k ih => rw [List.replicate_succ, List.replicate_succ, List.flatten_cons, ih]; rfl
theorem pict_map : (pict r.toNat w.toNat ls).map lineD = (ls.map lineD).map (fun d => match d with
      | .str s => .str (S (padL w.toNat s.cps.toList))
      | _ => d) ++ (List.replicate (r.toNat - ls.length) (List.replicate w.toNat 32)).map lineD := by
  unfold pict
  rw [List.map_append, List.map_map, List.map_map]
  congr 1
theorem d_picture_of' (o : OkS r w) (t : Text r w ls) (h : P (textD (pict r.toNat w.toNat ls)) 0) : r__picture_of [.d (scr r w), .d (textD ls)] m P := by
  have r1 := o.r1
  have r4 := o.r4
  have w40 := o.w40
  have w1 := o.w1
  have tr := t.nr
  have l1 : (" " : Str).length = 1 := by decide +kernel
  refine ⟨rfl, rfl, ?_⟩
  refine ⟨trivial, ⟨by omega, by omega⟩, by rw [l1]; omega, ?_⟩
  show sSeq _ _ _ [.im (scr r w), .im (textD ls), .im (.str (mulT " " w)), .no, .im (.int r), .im (.int w), .no]
  rw [mul_S]
  refine ⟨by rw [List.length_map]; omega, ⟨by simp, fun j hj => by simp at hj; subst hj; rfl⟩, ?_⟩
  refine lcL_map (ρ := [.im (scr r w), .im (textD ls), .im (.str (S (List.replicate w.toNat 32))), .no, .im (.int r), .im (.int w), .no]) (fun d => match d with
      | .str s => .str (S (padL w.toNat s.cps.toList))
      | _ => d) (ls.map lineD) [] ?_ ?_
  · intro d hd Q hQ
    obtain ⟨l, ml, rfl⟩ := List.mem_map.mp hd
    have ll := (t.a l ml).le
    have ln : (S l ++ S (List.replicate w.toNat 32)).length ≤ 1000000 := by rw [S_app, S_len, List.length_append, List.length_replicate]; omega
    refine ⟨trivial, trivial, by rw [S_len, S_len, List.length_replicate]; omega, ln, ?_⟩
    rw [cut_pad (by omega) ll]
    have e : PyData.str (S (padL w.toNat l)) = .str (S (padL w.toNat (S l).cps.toList)) := by rw [S_list]
    rw [e]
    exact hQ _ rfl
  · rw [List.nil_append]
    refine ⟨trivial, by show 1 ≤ 1000000; omega, trivial, trivial, ?_⟩
    refine ⟨⟨by rw [List.length_map, List.length_map]; omega, by rw [List.length_map, List.length_map]; omega⟩, ?_, ?_⟩
    · show 1 * (r - (((ls.map lineD).map _).length : Int)).toNat ≤ 1000000
      rw [List.length_map, List.length_map]
      omega
    · show (((ls.map lineD).map _).length + (List.replicate (r - (((ls.map lineD).map _).length : Int)).toNat [PyData.str (S (List.replicate w.toNat 32))]).flatten.length ≤ 1000000) ∧ _
      rw [S_bl, List.length_map, List.length_map, List.length_map, List.length_replicate]
      refine ⟨by omega, hd_d, ?_⟩
      have e : (r - (ls.length : Int)).toNat = r.toNat - ls.length := by omega
      rw [e, ← pict_map]
      exact h
end
end Q23
namespace Q23.C
open PySem L2 DL
structure Cu where
  b : Int
  e : Int
  t : List (List Nat)
def need (t : List (List Nat)) : Nat := 2 + (t.map fun z => 1 + z.length).sum
def fr : Option Cu → Int → Int
  | none, s => s
  | some a, s => if a.e < s then s - a.b - 1 - 1 else s - a.b - 1
def up (a : Option Cu) (n : Int) : Nat → Int → Int
  | 0, s => s
  | k + 1, s => if fr a s < n then up a n k (s + 1) else s
def sAt (a : Option Cu) (c : Cu) : Int := up a (need c.t) (c.e - c.b).toNat c.b
def put (a : Option Cu) (c : Cu) : Option Cu := if sAt a c = c.e then none else some ⟨sAt a c, c.e, c.t⟩
def short : Option Cu → Nat → List Cu → Option Nat
  | _, _, [] => none
  | a, k, c :: cs => if fr a c.b < need c.t then some k else short (some c) (k + 1) cs
/-- the cues stand one behind the other, from lo on -/
def GL : Int → List Cu → Prop
  | _, [] => True
  | lo, c :: cs => lo ≤ c.b ∧ c.b < c.e ∧ GL c.e cs
def nn (cs : List D) (p : Nat) : Bool := match cs[p]? with
  | some d => isN d
  | none => false
def cnt (cs : List D) (lo : Nat) : Nat → Nat
  | 0 => 0
  | f + 1 => cnt cs lo f + (if decide (lo ≤ f) && nn cs f then 1 else 0)
end Q23.C
namespace Q23.C
open PySem L2 DL
structure GT (r w : Int) (t : List (List Nat)) : Prop where
  l4 : t.length ≤ 4
  l6 : ∀ z ∈ t, z.length ≤ 6
  o : OkS r w
  tx : Text r w t
structure GC (r w : Int) (c : Cu) : Prop where
  b0 : 0 ≤ c.b
  be : c.b < c.e
  e1 : c.e ≤ 1999
  t : GT r w c.t
def Cu.d (c : Cu) : D := .tuple [.int c.b, .int c.e, textD c.t]
def cuesD (cs : List Cu) : D := .tuple (cs.map Cu.d)
theorem d_has_room {r w : Int} {ls : List (List Nat)} {m : Nat} {P : D → Nat → Prop} (g : GT r w ls) (h : P (.bool true) 0) : r__has_room [.d (scr r w), .d (textD ls)] m P := by
  have o := g.o
  have t := g.tx
  have r1 := o.r1
  have r4 := o.r4
  have w40 := o.w40
  have w1 := o.w1
  have tn := t.n1
  have tr := t.nr
  refine ⟨rfl, rfl, rfl, rfl, d_is_text (by omega) (fun l hl => ?_) ?_⟩
  · have ln := t.a l hl
    exact ⟨Nat.le_trans ln.le (by omega), ln.sg, ln.tl⟩
  · have e1 : (!ls.isEmpty && ls.all lnB) = true := by
      rw [List.all_eq_true.mpr fun l hl => (t.a l hl).b, Bool.and_true]
      cases ls with
      | nil => cases tn
      | cons a t => rfl
    rw [e1]
    refine ⟨trivial, trivial, ?_⟩
    show (match PyData.bool (decide ((((ls.map lineD).length : Nat) : Int) ≤ r)) with
      | .bool true => _
      | .bool false => _
      | _ => False)
    rw [List.length_map, decide_eq_true (show (ls.length : Int) ≤ r by omega)]
    refine ⟨by rw [List.length_map]; omega, ⟨by simp, fun j hj => by simp at hj; subst hj; rfl⟩, ?_⟩
    refine lcL_map (ρ := [.im (scr r w), .im (textD ls), .im (.int r), .im (.int w), .no]) (fun _ => .bool true) (ls.map lineD) [] ?_ ?_
    · intro d hd Q hQ
      obtain ⟨l, ml, rfl⟩ := List.mem_map.mp hd
      have ll := (t.a l ml).le
      refine ⟨trivial, by rw [S_len]; omega, trivial, ?_⟩
      show Q (.bool (decide (((S l).length : Int) ≤ w))) _
      rw [S_len, decide_eq_true (show (l.length : Int) ≤ w by omega)]
      exact hQ _ rfl
    · rw [List.nil_append, List.map_const']
      refine ⟨_, ofBools_true _, ?_⟩
      have e4 : (List.replicate (ls.map lineD).length true).all id = true := by simp
      rw [e4]
      exact ⟨hd_d, h⟩
theorem d_is_sendable {r w : Int} {c : Cu} {m : Nat} {P : D → Nat → Prop} (g : GC r w c) (h : P (.bool true) 0) : r__is_sendable [.d (scr r w), .d c.d] m P := by
  have b0 := g.b0
  have be := g.be
  have e1 := g.e1
  refine ⟨rfl, rfl, d_is_tuple ?_⟩
  refine ⟨trivial, _, rfl, rfl, rfl, d_is_within ?_⟩
  rw [w_in b0 (show c.b ≤ 1999 by omega)]
  refine ⟨trivial, _, rfl, trivial, _, rfl, rfl, rfl, d_is_within ?_⟩
  rw [w_in (show c.b + 1 ≤ c.e by omega) e1]
  exact ⟨trivial, _, rfl, rfl, rfl, d_has_room g.t ⟨hd_d, h⟩⟩
def enN : Nat → List D → List D
  | _, [] => []
  | k, d :: ds => .tuple [.int (k : Int), d] :: enN (k + 1) ds
theorem enN_eq : ∀ (ds : List D) (k : Nat), enN k ds = ds.mapIdx fun i d => .tuple [.int (((k + i : Nat)) : Int), d]
  | [], _ => rfl
  | d :: ds, k => by
    unfold enN
    rw [List.mapIdx_cons, enN_eq ds (k + 1)]
    have e : (fun (i : Nat) (d : D) => PyData.tuple [.int (((k + 1 + i : Nat)) : Int), d]) = fun i d => PyData.tuple [.int (((k + (i + 1) : Nat)) : Int), d] := by
      funext i d
      rw [Nat.add_assoc, Nat.add_comm 1 i]
    rw [e]
    rfl
theorem enD_N (ds : List D) : enD ds = enN 0 ds := by
  rw [enN_eq]
  unfold enD
  congr 1
  funext i d
  rw [Nat.zero_add]
theorem cix0 {c : Cu} {P : D → Prop} : gIx c.d (.int 0) P ↔ P (.int c.b) := ⟨fun ⟨_, h, p⟩ => by cases h; exact p, fun h => ⟨_, rfl, h⟩⟩
theorem cix1 {c : Cu} {P : D → Prop} : gIx c.d (.int 1) P ↔ P (.int c.e) := ⟨fun ⟨_, h, p⟩ => by cases h; exact p, fun h => ⟨_, rfl, h⟩⟩
theorem lt_no {a b : Int} {P : D → Prop} (h : ¬ a < b) (q : P (.bool false)) : gLt (.int a) (.int b) P := by
  show P (.bool (decide (a < b)))
  rw [decide_eq_false h]
  exact q
theorem lt_yes {a b : Int} {P : D → Prop} (h : a < b) (q : P (.bool true)) : gLt (.int a) (.int b) P := by
  show P (.bool (decide (a < b)))
  rw [decide_eq_true h]
  exact q
theorem d_need_cues {r w : Int} {cs : List Cu} {m : Nat} {P : D → Nat → Prop} (o : OkS r w) (l : cs.length ≤ 200) (g : ∀ c ∈ cs, GC r w c) (gl : GL 0 cs) (h : P .none 0) : r__need_cues [.d (scr r w), .d (cuesD cs)] m P := by
  refine ⟨rfl, rfl, d_need_screen o ?_⟩
  refine ⟨rfl, rfl, d_is_tuple ?_⟩
  have a1 : ((cs.map Cu.d).length : Int) ≤ 200 := by rw [List.length_map]; omega
  have a0 : (0 : Int) ≤ ((cs.map Cu.d).length : Int) := by omega
  rw [show tupB (cuesD cs) 0 200 = true by show (decide ((0 : Int) ≤ ((cs.map Cu.d).length : Int)) && decide (((cs.map Cu.d).length : Int) ≤ 200)) = true; rw [decide_eq_true a0, decide_eq_true a1]; rfl]
  show forL _ _ _ (enD (cs.map Cu.d)) [.im (scr r w), .im (cuesD cs), .im (.int 0), .no, .no]
  rw [enD_N]
  have loop : ∀ (xs : List Cu) (k : Nat) (lo : Int) (E : DE) (s3 s4 : Sl), (∀ c ∈ xs, GC r w c) → GL lo xs → (∀ s2 s3 s4, E.nx [.im (scr r w), .im (cuesD cs), s2, s3, s4]) →
      forL (gTupT 2 (gConsT (gN 3) (gConsT (gN 4) (gNoT)))) (sSeq (sIf (bOr (bNot (bTruth (hV (dCall 2 r__is_sendable (aCons (dV 0) (aCons (dV 4) (aNil))))))) (bD (d2 gLt (hV (d2 gIx (hS 4) (hV (dC (.int 0))))) (hS 2)))) (sNever) (sNo)) (sSet 2 (d2 gIx (hS 4) (hV (dC (.int 1))))))
        E (enN k (xs.map Cu.d)) [.im (scr r w), .im (cuesD cs), .im (.int lo), s3, s4] := by
    intro xs
    induction xs with
    | nil => exact fun k lo E s3 s4 _ _ hE => hE _ _ _
    | cons c xs ih =>
      intro k lo E s3 s4 gc gl hE
      refine ⟨rfl, ?_⟩
      refine ⟨rfl, rfl, rfl, d_is_sendable (gc c (List.mem_cons_self ..)) ?_⟩
      have hb : ¬ c.b < lo := by have := gl.1; omega
      simp [raw, startE, arSl, sSeq, sIf, sRet, sRetN, sNo, sSet, sSetN, sExpr, sAsg, dCall, dCallO, aCons, aNil, aOra, dV, hS, hV, dC, d2, see, seeAll, dCB, DL.gCons, DL.gNil, dChain, bD, bAnd, bOr, bNot, dAnd, dOr, dNot, dNeg, dIf, dIsi, bTruth, truD, lCons, lNil, dTup, dLst, isD, gCmp, gAdd, DL.gSub, gIs, gIsNot, gLen, gN, gTupT, gConsT, gNoT, ownL, dSl, oI, oNo, cix0, cix1, hb]
      exact ih (k + 1) c.e E _ _ (fun x hx => gc x (List.mem_cons_of_mem _ hx)) gl.2.2 hE
  exact loop cs 0 0 _ _ _ g gl fun s2 s3 s4 => ⟨hd_d, h⟩
end Q23.C
namespace Q23.C
open PySem L2 DL
def aD : Option Cu → D
  | none => .none
  | some c => c.d
theorem d_free {a : Option Cu} {s : Int} {m : Nat} {P : D → Nat → Prop} (h : P (.int (fr a s)) 0) : r__free_frames [.d (aD a), .d (.int s)] m P := by
  cases a with
  | none =>
    simp [r__free_frames, g__free_frames, raw, startE, arSl, sSeq, sIf, sRet, sRetN, sNo, sSet, sSetN, sExpr, sAsg, dCall, dCallO, aCons, aNil, aOra, dV, hS, hV, dC, d2, see, seeAll, dCB, DL.gCons, DL.gNil, dChain, bD, bAnd, bOr, bNot, dAnd, dOr, dNot, dNeg, dIf, dIsi, bTruth, truD, lCons, lNil, dTup, dLst, isD, gCmp, gAdd, DL.gSub, gIs, gIsNot, gLen, gN, gTupT, gConsT, gNoT, ownL, dSl, oI, oNo, aD, isN]
    exact h
  | some c =>
    have hn : isN c.d = false := rfl
    have h : P (.int (if c.e < s then s - c.b - 1 - 1 else s - c.b - 1)) 0 := h
    by_cases e : c.e < s
    · rw [if_pos e] at h
      simp [r__free_frames, g__free_frames, raw, startE, arSl, sSeq, sIf, sRet, sRetN, sNo, sSet, sSetN, sExpr, sAsg, dCall, dCallO, aCons, aNil, aOra, dV, hS, hV, dC, d2, see, seeAll, dCB, DL.gCons, DL.gNil, dChain, bD, bAnd, bOr, bNot, dAnd, dOr, dNot, dNeg, dIf, dIsi, bTruth, truD, lCons, lNil, dTup, dLst, isD, gCmp, gAdd, DL.gSub, gIs, gIsNot, gLen, gN, gTupT, gConsT, gNoT, ownL, dSl, oI, oNo, aD, hn, cix0, cix1, e]
      exact h
    · rw [if_neg e] at h
      simp [r__free_frames, g__free_frames, raw, startE, arSl, sSeq, sIf, sRet, sRetN, sNo, sSet, sSetN, sExpr, sAsg, dCall, dCallO, aCons, aNil, aOra, dV, hS, hV, dC, d2, see, seeAll, dCB, DL.gCons, DL.gNil, dChain, bD, bAnd, bOr, bNot, dAnd, dOr, dNot, dNeg, dIf, dIsi, bTruth, truD, lCons, lNil, dTup, dLst, isD, gCmp, gAdd, DL.gSub, gIs, gIsNot, gLen, gN, gTupT, gConsT, gNoT, ownL, dSl, oI, oNo, aD, hn, cix0, cix1, e]
      exact h
theorem sum7 : ∀ t : List (List Nat), (∀ z ∈ t, z.length ≤ 6) → (t.map fun z => 1 + z.length).sum ≤ 7 * t.length
  | [], _ => Nat.le_refl _
  | z :: t, h => by
    have h1 := h z (List.mem_cons_self ..)
    have h2 := sum7 t fun x hx => h x (List.mem_cons_of_mem _ hx)
    rw [List.map_cons, List.sum_cons, List.length_cons]
    omega
theorem lines_len : ∀ (t : List (List Nat)) (i : Nat), (linesC i t).length = (t.map fun z => 1 + z.length).sum
  | [], _ => rfl
  | z :: t, i => by
    show (lineC i z ++ linesC (i + 1) t).length = _
    rw [List.length_append, lines_len t (i + 1), List.map_cons, List.sum_cons]
    congr 1
    simp [lineC]
    omega
theorem load_len (t : List (List Nat)) : (loadL t).length = need t := by
  show (linesC 0 t).length + 1 + 1 = _
  rw [lines_len]
  unfold need
  omega
theorem d_load {t : List (List Nat)} {m : Nat} {P : D → Nat → Prop} (l : t.length ≤ 4) (h6 : ∀ z ∈ t, z.length ≤ 6) (h : P (.tuple (loadL t)) 0) : r__load_of [.d (textD t)] m P :=
  d_load_of (w := 6) (by omega) (by omega) h6 h
theorem need_le {r w : Int} {t : List (List Nat)} (g : GT r w t) : need t ≤ 30 := by
  have := sum7 t g.l6
  have := g.l4
  unfold need
  omega
def shD : Option Nat → D
  | none => .none
  | some k => .int (k : Int)
theorem short_loop {r w : Int} {C : D} {E : DE} : ∀ (cs : List Cu) (a : Option Cu) (k : Nat) (s2 s3 : Sl), (∀ c ∈ cs, GT r w c.t) → (short a k cs = none → ∀ s1 s2 s3, E.nx [.im C, s1, s2, s3]) →
    (∀ j, short a k cs = some j → ∀ ρ, ρ[0]? = some (.im C) → E.rt (.int (j : Int)) ρ) →
    forL (gTupT 2 (gConsT (gN 2) (gConsT (gN 3) (gNoT)))) (sSeq (sIf (bD (d2 gLt (hV (dCall 2 r__free_frames (aCons (dV 1) (aCons (d2 gIx (hS 3) (hV (dC (.int 0)))) (aNil))))) (hV (dCB gLen (DL.gCons (hV (dCall 1 r__load_of (aCons (d2 gIx (hS 3) (hV (dC (.int 2)))) (aNil)))) (DL.gNil)))))) (sRet (dV 2)) (sNo)) (sSet 1 (dV 3)))
      E (enN k (cs.map Cu.d)) [.im C, .im (aD a), s2, s3]
  | [], a, k, s2, s3, _, h, _ => h rfl _ _ _
  | c :: cs, a, k, s2, s3, g, h, hr => by
    have gt := g c (List.mem_cons_self ..)
    have hn := need_le gt
    refine ⟨rfl, rfl, ?_⟩
    refine ⟨trivial, _, rfl, rfl, rfl, d_free ?_⟩
    refine ⟨trivial, _, rfl, rfl, rfl, d_load gt.l4 gt.l6 ?_⟩
    by_cases z : fr a c.b < need c.t
    · have e : short a k (c :: cs) = some k := by
        unfold short
        rw [if_pos z]
      have z' : fr a c.b < ((loadL c.t).length : Int) := by rw [load_len]; exact z
      simp [raw, startE, arSl, sSeq, sIf, sRet, sRetN, sNo, sSet, sSetN, sExpr, sAsg, dCall, dCallO, aCons, aNil, aOra, dV, hS, hV, dC, d2, see, seeAll, dCB, DL.gCons, DL.gNil, dChain, bD, bAnd, bOr, bNot, dAnd, dOr, dNot, dNeg, dIf, dIsi, bTruth, truD, lCons, lNil, dTup, dLst, isD, gCmp, gAdd, DL.gSub, gIs, gIsNot, gLen, gN, gTupT, gConsT, gNoT, ownL, dSl, oI, oNo, z', hd_d]
      exact hr k e _ rfl
    · have e : short a k (c :: cs) = short (some c) (k + 1) cs := by
        show (if _ then _ else _) = _
        rw [if_neg z]
      rw [e] at h hr
      have z' : ¬ fr a c.b < ((loadL c.t).length : Int) := by rw [load_len]; exact z
      simp [raw, startE, arSl, sSeq, sIf, sRet, sRetN, sNo, sSet, sSetN, sExpr, sAsg, dCall, dCallO, aCons, aNil, aOra, dV, hS, hV, dC, d2, see, seeAll, dCB, DL.gCons, DL.gNil, dChain, bD, bAnd, bOr, bNot, dAnd, dOr, dNot, dNeg, dIf, dIsi, bTruth, truD, lCons, lNil, dTup, dLst, isD, gCmp, gAdd, DL.gSub, gIs, gIsNot, gLen, gN, gTupT, gConsT, gNoT, ownL, dSl, oI, oNo, z', hd_d]
      exact short_loop cs (some c) (k + 1) _ _ (fun x hx => g x (List.mem_cons_of_mem _ hx)) h hr
theorem d_short {r w : Int} {cs : List Cu} {m : Nat} {P : D → Nat → Prop} (g : ∀ c ∈ cs, GT r w c.t) (h : P (shD (short none 0 cs)) 0) : r__first_short [.d (cuesD cs)] m P := by
  show forL _ _ _ (enD (cs.map Cu.d)) [.im (cuesD cs), .im (aD none), .no, .no]
  rw [enD_N]
  refine short_loop cs none 0 _ _ g (fun e s1 s2 s3 => ?_) fun j e ρ hρ => ?_
  · rw [e] at h
    exact ⟨hd_d, h⟩
  · rw [e] at h
    show (match ρ[0]? with
      | some (Sl.ora m') => _
      | _ => _)
    rw [hρ]
    exact ⟨hd_d, h⟩
theorem atI_nat {l : List D} {i : Nat} {d : D} (h : l[i]? = some d) : atI l (i : Int) = some d := by
  have hi : i < l.length := (List.getElem?_eq_some_iff.mp h).1
  unfold atI ixN
  (rw [if_pos (by omega), if_pos (by omega)])
  exact h
end Q23.C
namespace Q23
open PySem L2 DL
def linesK : Nat → List (List Nat) → List Co
  | _, [] => []
  | i, l :: r => (.at i 0 :: l.map Co.put) ++ linesK (i + 1) r
def loadK (t : List (List Nat)) : List Co := .lone "hide" :: .lone "clear" :: linesK 0 t
theorem linesK_map : ∀ (t : List (List Nat)) (i : Nat), (linesK i t).map coD = linesC i t
  | [], _ => rfl
  | l :: t, i => by
    show ((Co.at i 0 :: l.map Co.put) ++ linesK (i + 1) t).map coD = lineC i l ++ linesC (i + 1) t
    rw [List.map_append, linesK_map t (i + 1), List.map_cons, List.map_map]
    rfl
theorem loadK_map (t : List (List Nat)) : (loadK t).map coD = loadL t := by
  show coD (.lone "hide") :: coD (.lone "clear") :: (linesK 0 t).map coD = _
  rw [linesK_map]
  rfl
inductive Fi : List (Option Co) → List (Option Co) → List Co → Prop
  | nil : Fi [] [] []
  | keep {o n l} (a : Option Co) : Fi o n l → Fi (a :: o) (a :: n) l
  | code {o n l} (c : Co) : Fi o n l → o.countP Option.isNone = l.length → Fi (none :: o) (some c :: n) (c :: l)
theorem Fi.front : ∀ (p : List (Option Co)) {o n l}, Fi o n l → Fi (p ++ o) (p ++ n) l
  | [], _, _, _, h => h
  | a :: p, _, _, _, h => .keep a (Fi.front p h)
theorem Fi.len : ∀ {o n l}, Fi o n l → n.length = o.length
  | _, _, _, .nil => rfl
  | _, _, _, .keep a h => congrArg (· + 1) h.len
  | _, _, _, .code c h _ => congrArg (· + 1) h.len
theorem Fi.le : ∀ {o n l}, Fi o n l → l.length ≤ o.countP Option.isNone
  | _, _, _, .nil => Nat.le_refl _
  | _, _, _, .keep (l := l) a h => by
    have := h.le
    rw [List.countP_cons]
    omega
  | _, _, _, .code c h e => by
    rw [List.countP_cons, List.length_cons, e]
    exact Nat.le_refl _
theorem Fi.uniq : ∀ {o n n' l}, Fi o n l → Fi o n' l → n = n'
  | _, _, _, _, .nil, h => by cases h; rfl
  | _, _, _, _, .keep a h, h' => by
    cases h' with
    | keep _ h2 => rw [h.uniq h2]
    | code c h2 e =>
      have := h.le
      rw [e, List.length_cons] at this
      omega
  | _, _, _, _, .code c h e, h' => by
    cases h' with
    | keep _ h2 =>
      have := h2.le
      rw [e, List.length_cons] at this
      omega
    | code _ h2 _ => rw [h.uniq h2]
def co (a : Option Co) : Co := a.getD (.lone "idle")
def blA (R W : Nat) : List (List Nat) := List.replicate R (blRow W)
end Q23
namespace Q23.C
open PySem L2 DL
def putAll : SM := sSeq (sIf (bD (d2 gIs (hV (d2 gIx (hS 1) (hS 7))) (hV (dC .none)))) (sPut 1 (dV 7) (dPop 6)) (sNo)) (sAug 7 gIsub (hV (dC (.int 1))))
def fill : SM := sWhile (bTruth (hS 6)) putAll
theorem atI_lt {l : List D} {i : Nat} (h : i < l.length) : ∃ d, l[i]? = some d ∧ atI l (i : Int) = some d := ⟨l[i], List.getElem?_eq_getElem h, atI_nat (List.getElem?_eq_getElem h)⟩
theorem ixN_nat {n i : Nat} (h : i < n) : ixN n (i : Int) = some i := by
  unfold ixN
  (rw [if_pos (by omega), if_pos (by omega)])
  rfl
theorem put_ok {C s2 s3 s4 T s8 : Sl} {E : DE} {cs xs : List D} {x d y : D} {g : Nat} (hg : g < cs.length) (hd : cs[g]? = some d) (hx : atI cs (g : Int) = some d) (hy : (x :: xs)[(x :: xs).length - 1]? = some y)
    (h1 : isN d = true → E.nx [C, .ow (.list (cs.set g y)), s2, s3, s4, T, .ow (.list (x :: xs).dropLast), .im (.int ((g : Int) - 1)), s8])
    (h2 : isN d = false → E.nx [C, .ow (.list cs), s2, s3, s4, T, .ow (.list (x :: xs)), .im (.int ((g : Int) - 1)), s8]) :
    putAll E [C, .ow (.list cs), s2, s3, s4, T, .ow (.list (x :: xs)), .im (.int (g : Int)), s8] := by
  refine ⟨trivial, trivial, d, hx, ?_⟩
  cases z : isN d with
  | true =>
    show (if isN d = true then _ else _)
    rw [if_pos z]
    show (match (x :: xs)[(x :: xs).length - 1]? with
      | some d => _
      | none => False)
    rw [hy]
    refine ⟨trivial, ?_⟩
    refine ⟨g, ixN_nat hg, trivial, ?_⟩
    exact h1 z
  | false =>
    show (if isN d = true then _ else _)
    rw [if_neg (by rw [z]; exact Bool.false_ne_true)]
    refine ⟨trivial, ?_⟩
    exact h2 z
theorem gl_mem : ∀ {xs : List Cu} {lo : Int}, GL lo xs → ∀ x ∈ xs, lo ≤ x.b ∧ x.b < x.e
  | c :: cs, lo, g, x, hx => by
    (rcases List.mem_cons.mp hx with rfl | hx)
    · exact ⟨g.1, g.2.1⟩
    · have := gl_mem g.2.2 x hx
      have := g.1
      have := g.2.1
      omega
theorem gl_last : ∀ {xs : List Cu} {lo : Int} {l : Cu}, GL lo (xs ++ [l]) → ∀ x ∈ xs ++ [l], x.e ≤ l.e
  | [], lo, l, g, x, hx => by
    have : x = l := by simpa using hx
    subst this
    exact Int.le_refl _
  | c :: xs, lo, l, g, x, hx => by
    (rcases List.mem_cons.mp hx with rfl | hx)
    · have := gl_mem (xs := xs ++ [l]) g.2.2 l (by simp)
      omega
    · exact gl_last (xs := xs) g.2.2 x hx
theorem atI_last {l : List D} {d : D} : atI (l ++ [d]) (-1) = some d := by
  unfold atI
  have : ixN (l ++ [d]).length (-1) = some l.length := by
    unfold ixN
    rw [if_neg (by decide), if_pos (by simp; omega)]
    simp
    omega
  rw [this]
  simp
def slD : Option Co → D
  | none => .none
  | some c => coD c
theorem slN (a : Option Co) : isN (slD a) = a.isNone := by
  cases a with
  | none => rfl
  | some c => cases c <;> rfl
theorem fill_ok {C s2 s3 s4 T s8 : Sl} {E : DE} {p o q : List (Option Co)} {l : List Co} (hl : l.length ≤ o.countP Option.isNone)
    (hE : ∀ (n : List (Option Co)) (s7 : Sl), Fi o n l → E.nx [C, .ow (.list ((p ++ n ++ q).map slD)), s2, s3, s4, T, .ow (.list []), s7, s8]) :
    fill E [C, .ow (.list ((p ++ o ++ q).map slD)), s2, s3, s4, T, .ow (.list (l.map coD)), .im (.int (((p.length + o.length : Nat) : Int) - 1)), s8] := by
  refine ⟨fun m ρ => ∃ o1 o2 n2 l1 l2, ρ = [C, .ow (.list ((p ++ o1 ++ n2 ++ q).map slD)), s2, s3, s4, T, .ow (.list (l1.map coD)), .im (.int (((p.length + o1.length : Nat) : Int) - 1)), s8] ∧ m = o1.length ∧ o = o1 ++ o2 ∧ l = l1 ++ l2 ∧ (Fi o2 n2 l2 ∧ o2.countP Option.isNone = l2.length) ∧ l1.length ≤ o1.countP Option.isNone,
    ⟨o.length, o, [], [], l, [], by simp, rfl, by simp, by simp, ⟨.nil, rfl⟩, hl⟩, ?_⟩
  rintro m ρ ⟨o1, o2, n2, l1, l2, rfl, rfl, rfl, rfl, ⟨f, fc⟩, hc⟩
  rcases List.eq_nil_or_concat l1 with rfl | ⟨l1, y, rfl⟩
  · refine ⟨trivial, ?_⟩
    show E.nx [C, .ow (.list ((p ++ o1 ++ n2 ++ q).map slD)), s2, s3, s4, T, .ow (.list []), _, s8]
    have := hE (o1 ++ n2) (.im (.int (((p.length + o1.length : Nat) : Int) - 1))) (Fi.front o1 f)
    rw [← List.append_assoc] at this
    exact this
  · rw [List.concat_eq_append] at hc ⊢
    rcases List.eq_nil_or_concat o1 with rfl | ⟨o1, a, rfl⟩
    · simp at hc
    rw [List.concat_eq_append] at hc ⊢
    obtain ⟨d0, ds, e⟩ : ∃ d0 ds, (l1 ++ [y]).map coD = d0 :: ds := by
      cases l1 with
      | nil => exact ⟨_, _, rfl⟩
      | cons b bs => exact ⟨_, _, rfl⟩
    have hdl : (d0 :: ds).dropLast = l1.map coD := by
      rw [← e, List.map_append]
      simp
    have hy : (d0 :: ds)[(d0 :: ds).length - 1]? = some (coD y) := by
      rw [← e, List.map_append]
      simp
    have hg : (((p.length + (o1 ++ [a]).length : Nat) : Int) - 1) = (((p.length + o1.length : Nat)) : Int) := by
      rw [List.length_append]
      simp
      omega
    rw [e, hg]
    have ec : (p ++ (o1 ++ [a]) ++ n2 ++ q).map slD = ((p ++ o1).map slD) ++ slD a :: ((n2 ++ q).map slD) := by simp
    have hcs : ((p ++ (o1 ++ [a]) ++ n2 ++ q).map slD)[p.length + o1.length]? = some (slD a) := by
      rw [ec, List.getElem?_append_right (by simp)]
      simp
    have hlt : p.length + o1.length < ((p ++ (o1 ++ [a]) ++ n2 ++ q).map slD).length := (List.getElem?_eq_some_iff.mp hcs).1
    refine ⟨trivial, ?_⟩
    refine put_ok (g := p.length + o1.length) hlt hcs (atI_nat hcs) hy (fun z => ?_) fun z => ?_
    · rw [slN] at z
      obtain rfl : a = none := by simpa using z
      refine ⟨o1.length, by simp, o1, none :: o2, some y :: n2, l1, y :: l2, ?_, rfl, by simp, by simp, ⟨.code y f fc, by rw [List.countP_cons, List.length_cons, fc]; rfl⟩, ?_⟩
      · rw [hdl, ec]
        have : ((p ++ o1).map slD ++ slD none :: (n2 ++ q).map slD).set (p.length + o1.length) (coD y) = (p ++ o1 ++ some y :: n2 ++ q).map slD := by
          rw [List.set_append_right _ _ (by simp), show p.length + o1.length - ((p ++ o1).map slD).length = 0 by simp, List.set_cons_zero]
          simp [slD]
        rw [this]
      · simp at hc
        simpa using hc
    · rw [slN] at z
      refine ⟨o1.length, by simp, o1, a :: o2, a :: n2, l1 ++ [y], l2, ?_, rfl, by simp, by simp, ⟨.keep a f, by rw [List.countP_cons, z]; exact fc⟩, ?_⟩
      · rw [e]
        simp
      · rw [List.countP_append, List.countP_singleton, z] at hc
        simpa using hc
def swapK : Co := .lone "swap"
def wipeK : Co := .lone "wipe"
def mset (l : List (Option Co)) (c : Cu) : List (Option Co) := (l.set c.b.toNat (some swapK)).set c.e.toNat (some wipeK)
theorem mark_loop {C s5 s6 s7 s8 : Sl} {E : DE} : ∀ (xs : List Cu) (l : List (Option Co)) (s2 s3 s4 : Sl), (∀ x ∈ xs, 0 ≤ x.b ∧ x.b < l.length ∧ 0 ≤ x.e ∧ x.e < l.length) →
    (∀ (s2 s3 s4 : Sl), E.nx [C, .ow (.list ((xs.foldl mset l).map slD)), s2, s3, s4, s5, s6, s7, s8]) →
    forL (gTupT 3 (gConsT (gN 2) (gConsT (gN 3) (gConsT (gN 4) (gNoT))))) (sSeq (sPut 1 (dV 2) (dTup (lCons (dC (.str ("swap" : Str))) (lNil)))) (sPut 1 (dV 3) (dTup (lCons (dC (.str ("wipe" : Str))) (lNil)))))
      E (xs.map Cu.d) [C, .ow (.list (l.map slD)), s2, s3, s4, s5, s6, s7, s8]
  | [], l, s2, s3, s4, _, h => h s2 s3 s4
  | x :: xs, l, s2, s3, s4, hx, h => by
    obtain ⟨b0, b1, e0, e1⟩ := hx x (List.mem_cons_self ..)
    obtain ⟨b, e, t⟩ := x
    obtain ⟨b, rfl⟩ : ∃ k : Nat, b = (k : Int) := ⟨b.toNat, by have b0 : 0 ≤ b := b0; omega⟩
    obtain ⟨e, rfl⟩ : ∃ k : Nat, e = (k : Int) := ⟨e.toNat, by have e0 : 0 ≤ e := e0; omega⟩
    have b1 : (b : Int) < l.length := b1
    have e1 : (e : Int) < l.length := e1
    refine ⟨rfl, rfl, (by show 1 ≤ 1000000; omega), trivial, b, ixN_nat (by rw [List.length_map]; omega), (by show 1 ≤ 1000000; omega), trivial, e, ixN_nat (by rw [List.length_set, List.length_map]; omega), ?_⟩
    have em : (((l.map slD).set b (coD swapK)).set e (coD wipeK)) = (mset l ⟨(b : Int), (e : Int), t⟩).map slD := by
      unfold mset
      rw [List.map_set, List.map_set]
      rfl
    show forL _ _ _ _ [C, .ow (.list (((l.map slD).set b (coD swapK)).set e (coD wipeK))), _, _, _, s5, s6, s7, s8]
    rw [em]
    refine mark_loop xs _ _ _ _ (fun y hy => ?_) h
    have := hx y (List.mem_cons_of_mem _ hy)
    unfold mset
    rw [List.length_set, List.length_set]
    exact this
end Q23.C
namespace Q23.C
open PySem L2 DL
/-- what stands between the code behind the swap ahead (from lo on, its cue's end at e) and the swap at b -/
def gap (lo : Nat) : Option Nat → Nat → List (Option Co)
  | none, b => List.replicate (b - lo) none
  | some e, b => if e < b then List.replicate (e - lo) none ++ some wipeK :: List.replicate (b - e - 1) none else List.replicate (b - lo) none
theorem gap_some (lo e b : Nat) : gap lo (some e) b = if e < b then List.replicate (e - lo) none ++ some wipeK :: List.replicate (b - e - 1) none else List.replicate (b - lo) none := rfl
def mkE (lo : Nat) : Option Nat → List (Option Co)
  | none => []
  | some e => List.replicate (e - lo) none ++ [some wipeK]
def mkT : Nat → Option Nat → List Cu → List (Option Co)
  | lo, a, [] => mkE lo a
  | lo, a, c :: cs => gap lo a c.b.toNat ++ some swapK :: mkT (c.b.toNat + 1) (some c.e.toNat) cs
theorem set_rep (X : List (Option Co)) (v : Option Co) {K i : Nat} (h : i < K) : (X ++ List.replicate K none).set (X.length + i) v = X ++ List.replicate i none ++ v :: List.replicate (K - i - 1) none := by
  rw [List.set_append_right _ _ (by omega), Nat.add_sub_cancel_left, List.append_assoc]
  congr 1
  obtain ⟨r, rfl⟩ : ∃ r, K = i + (r + 1) := ⟨K - i - 1, by omega⟩
  rw [← List.replicate_append_replicate, List.set_append_right _ _ (by simp)]
  simp [List.replicate_succ]
theorem set_rep' (X : List (Option Co)) (v : Option Co) {K i j : Nat} (hj : j = X.length + i) (h : i < K) : (X ++ List.replicate K none).set j v = X ++ List.replicate i none ++ v :: List.replicate (K - i - 1) none := by
  subst hj
  exact set_rep X v h
theorem set_at' (X Y : List (Option Co)) (u v : Option Co) {j : Nat} (hj : j = X.length) : (X ++ u :: Y).set j v = X ++ v :: Y := by
  subst hj
  rw [List.set_append_right _ _ (Nat.le_refl _), Nat.sub_self, List.set_cons_zero]
theorem marks_go : ∀ (cs : List Cu) (P : List (Option Co)) (d K : Nat), GL ((P.length + d : Nat) : Int) cs → (∀ x ∈ cs, x.e < ((P.length + d + 1 + K : Nat) : Int)) →
    ∃ K', cs.foldl mset (P ++ List.replicate d none ++ some wipeK :: List.replicate K none) = P ++ mkT P.length (some (P.length + d)) cs ++ List.replicate K' none
  | [], P, d, K, _, _ => ⟨K, by
    show _ = P ++ (List.replicate (P.length + d - P.length) none ++ [some wipeK]) ++ _
    rw [Nat.add_sub_cancel_left]
    simp⟩
  | c :: cs, P, d, K, g, hx => by
    obtain ⟨b, e, t⟩ := c
    have g1 : ((P.length + d : Nat) : Int) ≤ b := g.1
    have g2 : b < e := g.2.1
    have g3 : GL e cs := g.2.2
    have hE := hx ⟨b, e, t⟩ (List.mem_cons_self ..)
    have hE : e < ((P.length + d + 1 + K : Nat) : Int) := hE
    obtain ⟨b, rfl⟩ : ∃ k : Nat, b = (k : Int) := ⟨b.toNat, by omega⟩
    obtain ⟨e, rfl⟩ : ∃ k : Nat, e = (k : Int) := ⟨e.toNat, by omega⟩
    have hm : ∀ l, mset l ⟨(b : Int), (e : Int), t⟩ = (l.set b (some swapK)).set e (some wipeK) := fun l => rfl
    have ht : mkT P.length (some (P.length + d)) (⟨(b : Int), (e : Int), t⟩ :: cs) = gap P.length (some (P.length + d)) b ++ some swapK :: mkT (b + 1) (some e) cs := rfl
    show ∃ K', cs.foldl mset (mset _ _) = _
    rw [hm, ht]
    by_cases z : P.length + d < b
    · obtain ⟨q, rfl⟩ : ∃ q, b = P.length + d + 1 + q := ⟨b - (P.length + d) - 1, by omega⟩
      obtain ⟨r, rfl⟩ : ∃ r, e = P.length + d + 1 + q + 1 + r := ⟨e - (P.length + d + 1 + q) - 1, by omega⟩
      have e1 : (P ++ List.replicate d none ++ some wipeK :: List.replicate K none).set (P.length + d + 1 + q) (some swapK) = (P ++ List.replicate d none ++ [some wipeK]) ++ List.replicate q none ++ some swapK :: List.replicate (K - q - 1) none := by
        have := set_rep' (P ++ List.replicate d none ++ [some wipeK]) (some swapK) (K := K) (i := q) (j := P.length + d + 1 + q) (by simp; try omega) (by omega)
        rw [← this]
        simp
      have e2 : ((P ++ List.replicate d none ++ [some wipeK]) ++ List.replicate q none ++ some swapK :: List.replicate (K - q - 1) none).set (P.length + d + 1 + q + 1 + r) (some wipeK) = ((P ++ List.replicate d none ++ [some wipeK]) ++ List.replicate q none ++ [some swapK]) ++ List.replicate r none ++ some wipeK :: List.replicate (K - q - 1 - r - 1) none := by
        have := set_rep' (P ++ List.replicate d none ++ [some wipeK] ++ List.replicate q none ++ [some swapK]) (some wipeK) (K := K - q - 1) (i := r) (j := P.length + d + 1 + q + 1 + r) (by simp; try omega) (by omega)
        rw [← this]
        simp
      have hl : (P ++ List.replicate d none ++ [some wipeK] ++ List.replicate q none ++ [some swapK]).length = P.length + d + 1 + q + 1 := by simp; omega
      rw [e1, e2]
      obtain ⟨K', e3⟩ := marks_go cs (P ++ List.replicate d none ++ [some wipeK] ++ List.replicate q none ++ [some swapK]) r (K - q - 1 - r - 1) (by rw [hl]; exact g3) (fun x hx' => by
        have := hx x (List.mem_cons_of_mem _ hx')
        rw [hl]
        omega)
      refine ⟨K', ?_⟩
      rw [e3, hl]
      rw [gap_some, if_pos (by omega), Nat.add_sub_cancel_left, show P.length + d + 1 + q - (P.length + d) - 1 = q by omega]
      simp
    · have hb : b = P.length + d := by omega
      subst hb
      obtain ⟨r, rfl⟩ : ∃ r, e = P.length + d + 1 + r := ⟨e - (P.length + d) - 1, by omega⟩
      have e1 : (P ++ List.replicate d none ++ some wipeK :: List.replicate K none).set (P.length + d) (some swapK) = P ++ List.replicate d none ++ some swapK :: List.replicate K none := by
        exact set_at' (P ++ List.replicate d none) (List.replicate K none) (some wipeK) (some swapK) (by simp)
      have e2 : (P ++ List.replicate d none ++ some swapK :: List.replicate K none).set (P.length + d + 1 + r) (some wipeK) = (P ++ List.replicate d none ++ [some swapK]) ++ List.replicate r none ++ some wipeK :: List.replicate (K - r - 1) none := by
        have := set_rep' (P ++ List.replicate d none ++ [some swapK]) (some wipeK) (K := K) (i := r) (j := P.length + d + 1 + r) (by simp; try omega) (by omega)
        rw [← this]
        simp
      have hl : (P ++ List.replicate d none ++ [some swapK]).length = P.length + d + 1 := by simp; omega
      rw [e1, e2]
      obtain ⟨K', e3⟩ := marks_go cs (P ++ List.replicate d none ++ [some swapK]) r (K - r - 1) (by rw [hl]; exact g3) (fun x hx' => by
        have := hx x (List.mem_cons_of_mem _ hx')
        rw [hl]
        omega)
      refine ⟨K', ?_⟩
      rw [e3, hl]
      rw [gap_some, if_neg (by omega), Nat.add_sub_cancel_left]
      simp
/-- the end of the last cue -/
def endOf : Nat → List Cu → Nat
  | e, [] => e
  | _, c :: cs => endOf c.e.toNat cs
theorem gap_len {lo b : Nat} {a : Option Nat} (h : ∀ e, a = some e → lo ≤ e ∧ e ≤ b) (hb : lo ≤ b) : (gap lo a b).length = b - lo := by
  cases a with
  | none => simp [gap]
  | some e =>
    have := h e rfl
    rw [gap_some]
    split
    · simp
      omega
    · simp
theorem mkT_len : ∀ (cs : List Cu) (lo e : Nat), lo ≤ e → GL (e : Int) cs → (mkT lo (some e) cs).length = endOf e cs + 1 - lo
  | [], lo, e, h, _ => by
    show (List.replicate (e - lo) none ++ [some wipeK]).length = e + 1 - lo
    simp
    omega
  | c :: cs, lo, e, h, g => by
    have g1 := g.1
    have g2 := g.2.1
    have hb : e ≤ c.b.toNat := by omega
    show (gap lo (some e) c.b.toNat ++ some swapK :: mkT (c.b.toNat + 1) (some c.e.toNat) cs).length = endOf c.e.toNat cs + 1 - lo
    rw [List.length_append, List.length_cons, gap_len (fun x hx => by cases hx; exact ⟨h, hb⟩) (by omega), mkT_len cs _ _ (by omega) (by rw [Int.toNat_of_nonneg (by omega)]; exact g.2.2)]
    have : c.e.toNat ≤ endOf c.e.toNat cs := by
      have : ∀ (cs : List Cu) (e : Nat), GL (e : Int) cs → e ≤ endOf e cs := by
        intro cs
        induction cs with
        | nil => exact fun e _ => Nat.le_refl _
        | cons c cs ih =>
          intro e g
          have h1 := g.1
          have h2 := g.2.1
          have := ih c.e.toNat (by rw [Int.toNat_of_nonneg (by omega)]; exact g.2.2)
          show e ≤ endOf c.e.toNat cs
          omega
      exact this cs _ (by rw [Int.toNat_of_nonneg (by omega)]; exact g.2.2)
    omega
theorem mset_len (l : List (Option Co)) (c : Cu) : (mset l c).length = l.length := by
  unfold mset
  rw [List.length_set, List.length_set]
theorem fold_len : ∀ (cs : List Cu) (l : List (Option Co)), (cs.foldl mset l).length = l.length
  | [], _ => rfl
  | c :: cs, l => by
    rw [List.foldl_cons, fold_len cs, mset_len]
theorem marks_all {cs : List Cu} {c : Cu} {N : Nat} (g : GL 0 (c :: cs)) (hN : N = endOf c.e.toNat cs + 1) (hx : ∀ x ∈ c :: cs, x.e < (N : Int)) : (c :: cs).foldl mset (List.replicate N none) = mkT 0 none (c :: cs) := by
  obtain ⟨b, e, t⟩ := c
  have g1 : 0 ≤ b := g.1
  have g2 : b < e := g.2.1
  have g3 : GL e cs := g.2.2
  have hE : e < (N : Int) := hx ⟨b, e, t⟩ (List.mem_cons_self ..)
  obtain ⟨b, rfl⟩ : ∃ k : Nat, b = (k : Int) := ⟨b.toNat, by omega⟩
  obtain ⟨e, rfl⟩ : ∃ k : Nat, e = (k : Int) := ⟨e.toNat, by omega⟩
  obtain ⟨r, rfl⟩ : ∃ r, e = b + 1 + r := ⟨e - b - 1, by omega⟩
  have e1 : (List.replicate N (none : Option Co)).set b (some swapK) = List.replicate b none ++ some swapK :: List.replicate (N - b - 1) none := by
    have := set_rep [] (some swapK) (K := N) (i := b) (by omega)
    simpa using this
  have e2 : (List.replicate b none ++ some swapK :: List.replicate (N - b - 1) none).set (b + 1 + r) (some wipeK) = (List.replicate b none ++ [some swapK]) ++ List.replicate r none ++ some wipeK :: List.replicate (N - b - 1 - r - 1) none := by
    have := set_rep' (List.replicate b none ++ [some swapK]) (some wipeK) (K := N - b - 1) (i := r) (j := b + 1 + r) (by simp; try omega) (by omega)
    rw [← this]
    simp
  have hl : (List.replicate b none ++ [some swapK]).length = b + 1 := by simp
  obtain ⟨K', e3⟩ := marks_go cs (List.replicate b none ++ [some swapK]) r (N - b - 1 - r - 1) (by rw [hl]; exact g3) (fun x hx' => by
    have := hx x (List.mem_cons_of_mem _ hx')
    rw [hl]
    omega)
  have hf : (⟨(b : Int), ((b + 1 + r : Nat) : Int), t⟩ :: cs).foldl mset (List.replicate N none) = (List.replicate b none ++ [some swapK]) ++ mkT (b + 1) (some (b + 1 + r)) cs ++ List.replicate K' none := by
    rw [List.foldl_cons]
    show cs.foldl mset (((List.replicate N none).set b (some swapK)).set (b + 1 + r) (some wipeK)) = _
    rw [e1, e2, e3, hl]
  have hlen := fold_len (⟨(b : Int), ((b + 1 + r : Nat) : Int), t⟩ :: cs) (List.replicate N none)
  rw [hf, List.length_append, List.length_append, hl, mkT_len cs _ _ (by omega) g3, List.length_replicate, List.length_replicate] at hlen
  have hN : N = endOf (b + 1 + r) cs + 1 := hN
  have hK : K' = 0 := by omega
  rw [hf, hK]
  show _ = List.replicate (b - 0) none ++ some swapK :: mkT (b + 1) (some (b + 1 + r)) cs
  simp
inductive St : Nat → Option Nat → List Cu → List (Option Co) → Prop
  | nil (lo e : Nat) : St lo (some e) [] (List.replicate (e - lo) none ++ [some wipeK])
  | none (lo : Nat) : St lo none [] []
  | cons {lo : Nat} {a : Option Nat} {c : Cu} {cs : List Cu} {n r : List (Option Co)} : Fi (gap lo a c.b.toNat) n (loadK c.t) → St (c.b.toNat + 1) (some c.e.toNat) cs r → St lo a (c :: cs) (n ++ some swapK :: r)
theorem St.uniq : ∀ {lo a cs n n'}, St lo a cs n → St lo a cs n' → n = n'
  | _, _, _, _, _, .nil lo e, h => by cases h; rfl
  | _, _, _, _, _, .none lo, h => by cases h; rfl
  | _, _, _, _, _, .cons f s, h => by
    cases h with
    | cons f' s' => rw [f.uniq f', s.uniq s']
theorem gap_count {lo b : Nat} {a : Option Nat} (h : ∀ e, a = some e → lo ≤ e ∧ e ≤ b) : (gap lo a b).countP Option.isNone = match a with
    | none => b - lo
    | some e => if e < b then b - lo - 1 else b - lo := by
  have hr : ∀ k : Nat, (List.replicate k (none : Option Co)).countP Option.isNone = k := by
    intro k
    rw [List.countP_replicate]
    rfl
  cases a with
  | none => exact hr _
  | some e =>
    have := h e rfl
    rw [gap_some]
    dsimp only
    split
    · rw [List.countP_append, List.countP_cons, hr, hr]
      simp
      omega
    · exact hr _
def lay1 : SM := sSeq (sSetN 6 (dCB gList (DL.gCons (hV (dCall 1 r__load_of (aCons (dV 5) (aNil)))) (DL.gNil)))) (sSeq (sSet 7 (d2 DL.gSub (hS 2) (hV (dC (.int 1))))) fill)
theorem lay_loop {r w : Int} {C : Sl} {E : DE} : ∀ (xs : List Cu) (a : Option Cu) (k : Nat) (p : List (Option Co)) (s2 s3 s4 s5 s6 s7 : Sl),
    (match a with
      | none => p = [] ∧ GL 0 xs
      | some c => (p.length : Int) = c.b + 1 ∧ 0 ≤ c.b ∧ c.b < c.e ∧ GL c.e xs) → (∀ x ∈ xs, GT r w x.t) → short a k xs = none →
    (∀ (n : List (Option Co)) (s2 s3 s4 s5 s6 s7 : Sl), St p.length (a.map fun c => c.e.toNat) xs n → E.nx [C, .ow (.list ((p ++ n).map slD)), s2, s3, s4, s5, s6, s7, .no]) →
    forL (gTupT 3 (gConsT (gN 2) (gConsT (gN 4) (gConsT (gN 5) (gNoT))))) lay1 E (xs.map Cu.d) [C, .ow (.list ((p ++ mkT p.length (a.map fun c => c.e.toNat) xs).map slD)), s2, s3, s4, s5, s6, s7, .no]
  | [], a, k, p, s2, s3, s4, s5, s6, s7, _, _, _, h => by
    cases a with
    | none => exact h _ _ _ _ _ _ _ (.none _)
    | some c => exact h _ _ _ _ _ _ _ (.nil _ _)
  | c :: cs, a, k, p, s2, s3, s4, s5, s6, s7, ha, hx, hs, h => by
    have gt := hx c (List.mem_cons_self ..)
    obtain ⟨b, e, t⟩ := c
    have gt : GT r w t := gt
    have gl : 0 ≤ b ∧ b < e ∧ GL e cs ∧ (p.length : Int) ≤ b ∧ ∀ x, (a.map fun c => c.e.toNat) = some x → p.length ≤ x ∧ (x : Int) ≤ b := by
      cases a with
      | none =>
        obtain ⟨rfl, g⟩ := ha
        exact ⟨g.1, g.2.1, g.2.2, g.1, fun x hx => nomatch hx⟩
      | some c =>
        obtain ⟨a1, a2, a3, g⟩ := ha
        have g1 : c.e ≤ b := g.1
        refine ⟨by omega, g.2.1, g.2.2, by omega, fun x hx => ?_⟩
        have hx : c.e.toNat = x := Option.some.inj hx
        omega
    obtain ⟨b0, be, gl, pb, hb⟩ := gl
    obtain ⟨f, rfl⟩ : ∃ k : Nat, b = (k : Int) := ⟨b.toNat, by omega⟩
    have hgl := gap_len (lo := p.length) (b := f) (a := a.map fun c => c.e.toNat) (fun x hx => by have := hb x hx; omega) (by omega)
    have hgc := gap_count (lo := p.length) (b := f) (a := a.map fun c => c.e.toNat) (fun x hx => by have := hb x hx; omega)
    unfold short at hs
    split at hs
    · cases hs
    · rename_i hfr
      have hfr : ¬ fr a (f : Int) < (need t : Int) := hfr
      refine ⟨rfl, rfl, ?_⟩
      refine ⟨rfl, rfl, d_load gt.l4 gt.l6 ?_⟩
      refine ⟨trivial, ?_⟩
      show fill _ [C, .ow (.list ((p ++ (gap p.length (a.map fun c => c.e.toNat) f ++ some swapK :: mkT (f + 1) (some e.toNat) cs)).map slD)), .im (.int (f : Int)), s3, .im (.int e), .im (textD t), .ow (.list (loadL t)), .im (.int ((f : Int) - 1)), .no]
      rw [← List.append_assoc, ← loadK_map]
      have hf : ((f : Int) - 1) = (((p.length + (gap p.length (a.map fun c => c.e.toNat) f).length : Nat) : Int) - 1) := by
        rw [hgl]
        omega
      rw [hf]
      refine fill_ok ?_ fun n s7 fi => ?_
      · have ll : (loadK t).length = need t := by
          rw [← load_len, ← loadK_map, List.length_map]
        rw [ll, hgc]
        cases a with
        | none =>
          have hfr : ¬ (f : Int) < (need t : Int) := hfr
          obtain ⟨rfl, _⟩ := ha
          show need t ≤ f - 0
          omega
        | some c =>
          obtain ⟨a1, a2, a3, g⟩ := ha
          have hfr : ¬ (if c.e < (f : Int) then (f : Int) - c.b - 1 - 1 else (f : Int) - c.b - 1) < (need t : Int) := hfr
          show need t ≤ if c.e.toNat < f then f - p.length - 1 else f - p.length
          split at hfr
          · rw [if_pos (by omega)]
            omega
          · rw [if_neg (by omega)]
            omega
      · have hn : n.length = f - p.length := by rw [fi.len, hgl]
        have hl : (p ++ n ++ [some swapK]).length = f + 1 := by simp; omega
        have el : p ++ n ++ some swapK :: mkT (f + 1) (some e.toNat) cs = (p ++ n ++ [some swapK]) ++ mkT (p ++ n ++ [some swapK]).length ((some (⟨(f : Int), e, t⟩ : Cu)).map fun c => c.e.toNat) cs := by
          rw [hl]
          simp
        rw [el]
        refine lay_loop cs (some ⟨(f : Int), e, t⟩) (k + 1) (p ++ n ++ [some swapK]) _ _ _ _ _ _ ⟨by rw [hl]; rfl, b0, be, gl⟩ (fun x hx' => hx x (List.mem_cons_of_mem _ hx')) hs fun n2 s2 s3 s4 s5 s6 s7 st => ?_
        rw [hl] at st
        have := h (n ++ some swapK :: n2) s2 s3 s4 s5 s6 s7 (.cons (c := ⟨(f : Int), e, t⟩) fi st)
        have ea : p ++ (n ++ some swapK :: n2) = p ++ n ++ [some swapK] ++ n2 := by simp
        rw [ea] at this
        exact this
end Q23.C
namespace Q23.C
open PySem L2 DL
def idle (d : D) : D := if isN d = true then .tuple [.str ("idle" : Str)] else d
theorem idle_sl (a : Option Co) : idle (slD a) = coD (co a) := by
  unfold idle
  rw [slN]
  cases a <;> rfl
theorem stream_end {C : D} {P : D → Nat → Prop} {n : List (Option Co)} {s2 s3 s4 s5 s6 s7 : Sl} {m : Nat} (hl : n.length ≤ 1000000) (h : P (.tuple ((n.map co).map coD)) 0) :
    sRet (dCB gTuple (DL.gCons (hV (dLc (iSeq (dV 1)) (gN 8) (bYes) (dIf (bD (d2 gIs (hS 8) (hV (dC .none)))) (dTup (lCons (dC (.str ("idle" : Str))) (lNil))) (dV 8)) [8])) (DL.gNil)))
      ⟨fun (ρ : DL.Env) => match ρ[0]? with
    | some (Sl.ora m') => P .none m'
    | _ => [Ar.d C].head?.map isD ≠ some false ∧ P .none 0,
  fun (d : D) (ρ : DL.Env) => match ρ[0]? with
    | some (Sl.ora m') => P d m'
    | _ => [Ar.d C].head?.map isD ≠ some false ∧ P d 0, fun _ => False, fun _ => False⟩ [.im C, .ow (.list (n.map slD)), s2, s3, s4, s5, s6, s7, .no] := by
  refine ⟨by rw [List.length_map]; exact hl, ⟨by simp, fun j hj => by simp at hj; subst hj; rfl⟩, ?_⟩
  refine lcL_map (ρ := [.im C, .im (.list (n.map slD)), s2, s3, s4, s5, s6, s7, .no]) idle (n.map slD) [] ?_ ?_
  · intro d hd Q hQ
    refine ⟨trivial, ?_⟩
    cases z : isN d with
    | true =>
      show (if isN d = true then _ else _)
      rw [if_pos z]
      refine ⟨by show 1 ≤ 1000000; omega, ?_⟩
      have e : idle d = .tuple [.str ("idle" : Str)] := if_pos z
      rw [e] at hQ
      exact hQ _ rfl
    | false =>
      have z' : ¬ isN d = true := by rw [z]; exact Bool.false_ne_true
      show (if isN d = true then _ else _)
      rw [if_neg z']
      have e : idle d = d := if_neg z'
      rw [e] at hQ
      exact hQ _ rfl
  · have e : ([] : List D) ++ (n.map slD).map idle = (n.map co).map coD := by
      rw [List.nil_append, List.map_map, List.map_map]
      exact List.map_congr_left fun a _ => idle_sl a
    rw [e]
    exact ⟨hd_d, h⟩
theorem endOf_last : ∀ (pre : List Cu) (l : Cu) (e : Nat), endOf e (pre ++ [l]) = l.e.toNat
  | [], l, e => rfl
  | c :: pre, l, e => endOf_last pre l _
theorem d_stream {r w : Int} {cs : List Cu} {m : Nat} {P : D → Nat → Prop} (g : ∀ c ∈ cs, GC r w c) (gl : GL 0 cs) (hs : short none 0 cs = none) (h : ∀ n, St 0 none cs n → P (.tuple ((n.map co).map coD)) 0) : r__stream_of [.d (cuesD cs)] m P := by
  rcases List.eq_nil_or_concat cs with rfl | ⟨pre, l, rfl⟩
  · refine ⟨trivial, ?_⟩
    refine ⟨by show 0 ≤ 1000000; omega, hd_d, h [] (.none 0)⟩
  · rw [List.concat_eq_append] at *
    have gL := g l (by simp)
    have be := gL.be
    have b0 := gL.b0
    have e1 := gL.e1
    have hle := gl_last gl
    have hmem := gl_mem gl
    have hlast : atI ((pre ++ [l]).map Cu.d) (-1) = some l.d := by
      rw [List.map_append]
      exact atI_last
    have ht : truD (cuesD (pre ++ [l])) = true := by
      unfold cuesD truD
      simp
    refine ⟨trivial, ?_⟩
    show (if (!truD (cuesD (pre ++ [l]))) = true then _ else _)
    rw [ht, if_neg (by decide)]
    refine ⟨by show 1 ≤ 1000000; omega, trivial, _, hlast, _, rfl, ?_⟩
    obtain ⟨n, hn⟩ : ∃ n : Nat, l.e + 1 = (n : Int) := ⟨(l.e + 1).toNat, by omega⟩
    show -(2 ^ 63) ≤ l.e + 1 ∧ l.e + 1 < 2 ^ 63 ∧ 1 * (l.e + 1).toNat ≤ 1000000 ∧ _
    refine ⟨by omega, by omega, by omega, ?_⟩
    have hrep : (List.replicate (l.e + 1).toNat [PyData.none]).flatten = (List.replicate n (none : Option Co)).map slD := by
      rw [hn, Int.toNat_natCast, List.flatten_replicate_singleton, List.map_replicate]
      rfl
    show forL _ _ _ ((pre ++ [l]).map Cu.d) [.im (cuesD (pre ++ [l])), .ow (.list (List.replicate (l.e + 1).toNat [PyData.none]).flatten), .no, .no, .no, .no, .no, .no, .no]
    rw [hrep]
    refine mark_loop (pre ++ [l]) (List.replicate n none) _ _ _ (fun x hx => by have := hmem x hx; have := hle x hx; rw [List.length_replicate]; omega) fun s2 s3 s4 => ?_
    have hm : (pre ++ [l]).foldl mset (List.replicate n none) = [] ++ mkT ([] : List (Option Co)).length ((none : Option Cu).map fun c => c.e.toNat) (pre ++ [l]) := by
      obtain ⟨c, cs, ec⟩ : ∃ c cs, pre ++ [l] = c :: cs := by
        cases pre with
        | nil => exact ⟨_, _, rfl⟩
        | cons a b => exact ⟨_, _, rfl⟩
      have hel : endOf c.e.toNat cs = l.e.toNat := by
        have := endOf_last pre l 0
        rw [ec] at this
        exact this
      rw [ec] at gl hle ⊢
      exact marks_all gl (by rw [hel]; omega) fun x hx => by have := hle x hx; omega
    rw [hm]
    refine lay_loop (r := r) (w := w) (pre ++ [l]) none 0 [] _ _ _ _ _ _ ⟨rfl, gl⟩ (fun x hx => (g x hx).t) hs fun nn s2 s3 s4 s5 s6 s7 st => ?_
    have hnl : nn.length ≤ 1000000 := by
      have key : ∀ {lo : Nat} {a : Option Nat} {cs : List Cu} {n : List (Option Co)}, St lo a cs n → n.length = (mkT lo a cs).length := by
        intro lo a cs n st
        induction st with
        | nil lo e => rfl
        | none lo => rfl
        | cons f _ ih =>
          show (_ ++ some swapK :: _).length = (_ ++ some swapK :: _).length
          rw [List.length_append, List.length_append, List.length_cons, List.length_cons, f.len, ih]
      rw [key st]
      have := congrArg List.length hm
      rw [fold_len, List.length_replicate] at this
      have e0 : (mkT ([] : List (Option Co)).length ((none : Option Cu).map fun c => c.e.toNat) (pre ++ [l])).length = n := by
        rw [this]
        simp
      rw [e0]
      omega
    exact stream_end (m := m) hnl (h nn st)
section
variable {R W : Nat}
theorem gap_in (lo : Nat) (a : Option Nat) (b : Nat) : ∀ x ∈ gap lo a b, x = none ∨ x = some (.lone "wipe") := by
  intro x hx
  cases a with
  | none => exact .inl (List.eq_of_mem_replicate hx)
  | some e =>
    rw [gap_some] at hx
    split at hx
    · (rcases List.mem_append.mp hx with hx | hx)
      · exact .inl (List.eq_of_mem_replicate hx)
      · rcases List.mem_cons.mp hx with rfl | hx
        · exact .inr rfl
        · exact .inl (List.eq_of_mem_replicate hx)
    · exact .inl (List.eq_of_mem_replicate hx)
theorem mkE_in (lo : Nat) (a : Option Nat) : ∀ x ∈ mkE lo a, x = none ∨ x = some (.lone "wipe") := by
  intro x hx
  cases a with
  | none => cases hx
  | some e =>
    (rcases List.mem_append.mp hx with hx | hx)
    · exact .inl (List.eq_of_mem_replicate hx)
    · exact .inr (List.mem_singleton.mp hx)
theorem linesK_ok (o : OkS (R : Int) (W : Int)) : ∀ (t : List (List Nat)) (i : Nat), i + t.length ≤ R → (∀ l ∈ t, ∀ c ∈ l, sgC c = true) → ∀ c ∈ linesK i t, OkC R W c
  | [], _, _, _, c, h => nomatch h
  | l :: t, i, hi, hl, c, h => by
    rw [List.length_cons] at hi
    have w1 := o.w1
    (rcases List.mem_append.mp h with h | h)
    · (rcases List.mem_cons.mp h with rfl | h)
      · exact ⟨by omega, by omega⟩
      · obtain ⟨k, mk, rfl⟩ := List.mem_map.mp h
        exact ⟨hl l (List.mem_cons_self ..) k mk⟩
    · exact linesK_ok o t (i + 1) (by omega) (fun x hx => hl x (List.mem_cons_of_mem _ hx)) c h
theorem okL {w : Str} (h : w ∈ loneWs) : OkC R W (.lone w) := ⟨h⟩
theorem loadK_ok (o : OkS (R : Int) (W : Int)) {t : List (List Nat)} (g : GT R W t) : ∀ c ∈ loadK t, OkC R W c := by
  intro c h
  (rcases List.mem_cons.mp h with rfl | h)
  · exact okL (by decide +kernel)
  (rcases List.mem_cons.mp h with rfl | h)
  · exact okL (by decide +kernel)
  exact linesK_ok o t 0 (by have := g.tx.nr; simpa using this) (fun l hl => (g.tx.a l hl).sg) c h
theorem fi_mem : ∀ {o n : List (Option Co)} {l : List Co}, Fi o n l → ∀ a ∈ n, a ∈ o ∨ ∃ c ∈ l, a = some c
  | _, _, _, .nil, a, h => nomatch h
  | _, _, _, .keep b f, a, h => by
    (rcases List.mem_cons.mp h with rfl | h)
    · exact .inl (List.mem_cons_self ..)
    · rcases fi_mem f a h with z | z
      · exact .inl (List.mem_cons_of_mem _ z)
      · exact .inr z
  | _, _, _, .code c f _, a, h => by
    (rcases List.mem_cons.mp h with rfl | h)
    · exact .inr ⟨c, List.mem_cons_self .., rfl⟩
    · rcases fi_mem f a h with z | ⟨d, hd, z⟩
      · exact .inl (List.mem_cons_of_mem _ z)
      · exact .inr ⟨d, List.mem_cons_of_mem _ hd, z⟩
theorem co_in {a : Option Co} (h : a = none ∨ a = some (.lone "wipe")) : OkC R W (co a) := by
  rcases h with rfl | rfl
  · exact okL (by decide +kernel)
  · exact okL (by decide +kernel)
theorem st_ok (o : OkS (R : Int) (W : Int)) : ∀ {lo : Nat} {a : Option Nat} {cs : List Cu} {n : List (Option Co)}, St lo a cs n → (∀ c ∈ cs, GT R W c.t) → ∀ c ∈ n.map co, OkC R W c := by
  intro lo a cs n st
  induction st with
  | nil lo e =>
    intro _ c h
    obtain ⟨x, hx, rfl⟩ := List.mem_map.mp h
    exact co_in (mkE_in lo (some e) x hx)
  | none lo => exact fun _ c h => nomatch h
  | cons f _ ih =>
    rename_i lo a c cs n r' st'
    intro hg d h
    obtain ⟨x, hx, rfl⟩ := List.mem_map.mp h
    (rcases List.mem_append.mp hx with hx | hx)
    · rcases fi_mem f x hx with z | ⟨k, hk, rfl⟩
      · exact co_in (gap_in _ _ _ x z)
      · exact loadK_ok o (hg c (List.mem_cons_self ..)) k hk
    · rcases List.mem_cons.mp hx with rfl | hx
      · exact okL (by decide +kernel)
      · exact ih (fun y hy => hg y (List.mem_cons_of_mem _ hy)) _ (List.mem_map_of_mem hx)
end
end Q23.C
namespace Q23.C
open PySem L2 DL
theorem ofInts_map {α : Type} (f : α → Int) : ∀ l : List α, ofInts (l.map fun x => PyData.int (f x)) = some (l.map f)
  | [] => rfl
  | a :: l => by
    show ofInts (.int (f a) :: l.map fun x => PyData.int (f x)) = _
    unfold ofInts
    rw [ofInts_map f l]
    rfl
theorem sum_cast : ∀ t : List (List Nat), (t.map fun l => (1 + (l.length : Int))).sum = (((t.map fun z => 1 + z.length).sum : Nat) : Int)
  | [] => rfl
  | l :: t => by
    rw [List.map_cons, List.sum_cons, List.map_cons, List.sum_cons, sum_cast t]
    omega
theorem d_cost {r w : Int} {t : List (List Nat)} {m : Nat} {P : D → Nat → Prop} (g : GT r w t) (h : P (.int (need t : Int)) 0) : r__law_cost [.d (textD t)] m P := by
  have l4 := g.l4
  refine ⟨by rw [List.length_map]; omega, ⟨by simp, fun j hj => by simp at hj; subst hj; rfl⟩, ?_⟩
  refine lcL_map (ρ := [.im (textD t), .no]) (fun d => match d with
    | .str s => .int (1 + (s.length : Int))
    | _ => d) (t.map lineD) [] ?_ ?_
  · intro d hd Q hQ
    obtain ⟨l, ml, rfl⟩ := List.mem_map.mp hd
    have l6 := g.l6 l ml
    refine ⟨trivial, by rw [S_len]; omega, ?_⟩
    exact hQ _ rfl
  · rw [List.nil_append, List.map_map]
    have e : (t.map ((fun d : D => match d with
      | .str s => PyData.int (1 + (s.length : Int))
      | _ => d) ∘ lineD)) = t.map fun l => PyData.int (1 + (l.length : Int)) := by
      refine List.map_congr_left fun l _ => ?_
      show PyData.int (1 + ((S l).length : Int)) = _
      rw [S_len]
    rw [e]
    refine ⟨_, ofInts_map (fun l : List Nat => 1 + (l.length : Int)) t, ?_⟩
    show _ ∧ P (.int (2 + (t.map fun l => (1 + (l.length : Int))).sum)) 0
    rw [sum_cast]
    have e2 : (2 : Int) + (((t.map fun z => 1 + z.length).sum : Nat) : Int) = (need t : Int) := by
      unfold need
      omega
    rw [e2]
    exact ⟨hd_d, h⟩
def pv (cs : List Cu) (i : Nat) : Option Cu := if i = 0 then none else cs[i - 1]?
theorem at_cues {cs : List Cu} {i : Nat} {c : Cu} (h : cs[i]? = some c) : atI (cs.map Cu.d) (i : Int) = some c.d := atI_nat (by rw [List.getElem?_map, h]; rfl)
theorem d_lfree {cs : List Cu} {i : Nat} {c : Cu} {m : Nat} {P : D → Nat → Prop} (hc : cs[i]? = some c) (h : P (.int (fr (pv cs i) c.b)) 0) : r__law_free [.d (cuesD cs), .d (.int (i : Int))] m P := by
  have ac := at_cues hc
  cases i with
  | zero =>
    have h : P (.int c.b) 0 := h
    simp [r__law_free, g__law_free, raw, startE, arSl, sSeq, sIf, sRet, sRetN, sNo, sSet, sSetN, sExpr, sAsg, dCall, dCallO, aCons, aNil, aOra, dV, hS, hV, dC, d2, see, seeAll, dCB, DL.gCons, DL.gNil, dChain, bD, bAnd, bOr, bNot, dAnd, dOr, dNot, dNeg, dIf, dIsi, bTruth, truD, lCons, lNil, dTup, dLst, isD, gCmp, gAdd, DL.gSub, gIs, gIsNot, gLen, gN, gTupT, gConsT, gNoT, ownL, dSl, oI, oNo]
    refine ⟨_, ac, _, rfl, ?_⟩
    show P (.int (c.b - 0)) 0
    rw [Int.sub_zero]
    exact h
  | succ j =>
    obtain ⟨a, ha⟩ : ∃ a, cs[j]? = some a := ⟨_, List.getElem?_eq_getElem (by have := (List.getElem?_eq_some_iff.mp hc).1; omega)⟩
    have aa := at_cues ha
    have ej : (((j + 1 : Nat) : Int) - 1) = (j : Int) := by omega
    have hp : pv cs (j + 1) = some a := ha
    rw [hp] at h
    have h : P (.int (if a.e < c.b then c.b - a.b - 1 - 1 else c.b - a.b - 1)) 0 := h
    have aa' : atI (cs.map Cu.d) (((j + 1 : Nat) : Int) - 1) = some a.d := by rw [ej]; exact aa
    have ac' : atI (cs.map Cu.d) ((j : Int) + 1) = some c.d := ac
    simp [r__law_free, g__law_free, raw, startE, arSl, sSeq, sIf, sRet, sRetN, sNo, sSet, sSetN, sExpr, sAsg, dCall, dCallO, aCons, aNil, aOra, dV, hS, hV, dC, d2, see, seeAll, dCB, DL.gCons, DL.gNil, dChain, bD, bAnd, bOr, bNot, dAnd, dOr, dNot, dNeg, dIf, dIsi, bTruth, truD, lCons, lNil, dTup, dLst, isD, gCmp, gAdd, DL.gSub, gIs, gIsNot, gLen, gN, gTupT, gConsT, gNoT, ownL, dSl, oI, oNo]
    refine ⟨_, aa, _, rfl, _, ac', _, rfl, _, aa, _, rfl, ?_⟩
    by_cases e : a.e < c.b
    · rw [if_pos e] at h
      refine lt_yes e ?_
      show P (.int (c.b - (a.b + 1) - 1)) 0
      rw [show c.b - (a.b + 1) - 1 = c.b - a.b - 1 - 1 by omega]
      exact h
    · rw [if_neg e] at h
      refine lt_no e ?_
      show P (.int (c.b - (a.b + 1))) 0
      rw [show c.b - (a.b + 1) = c.b - a.b - 1 by omega]
      exact h
/-- cue i has no room -/
def bad (cs : List Cu) (i : Nat) : Bool := match cs[i]? with
  | some c => decide (fr (pv cs i) c.b < (need c.t : Int))
  | none => false
theorem short_bad : ∀ (cs : List Cu) (a : Option Cu) (k : Nat), (short a k cs = none ↔ ∀ i : Nat, ∀ c, cs[i]? = some c → ¬ fr (if i = 0 then a else cs[i - 1]?) c.b < (need c.t : Int))
  | [], a, k => ⟨fun _ i c h => by simp at h, fun _ => rfl⟩
  | c :: cs, a, k => by
    unfold short
    constructor
    · intro h
      split at h
      · cases h
      · rename_i z
        intro i x hx
        cases i with
        | zero =>
          cases hx
          exact z
        | succ i =>
          have := (short_bad cs (some c) (k + 1)).mp h i x (by simpa using hx)
          cases i with
          | zero => exact this
          | succ i => simpa using this
    · intro h
      have h0 := h 0 c rfl
      (rw [if_neg (by simpa using h0)])
      refine (short_bad cs (some c) (k + 1)).mpr fun i x hx => ?_
      have := h (i + 1) x (by simpa using hx)
      cases i with
      | zero => simpa using this
      | succ i => simpa using this
theorem short_all (cs : List Cu) : short none 0 cs = none ↔ ∀ i : Nat, i < cs.length → bad cs i = false := by
  rw [short_bad cs none 0]
  constructor
  · intro h i hi
    unfold bad
    rw [List.getElem?_eq_getElem hi]
    exact decide_eq_false (h i _ (List.getElem?_eq_getElem hi))
  · intro h i c hc
    have := h i (List.getElem?_eq_some_iff.mp hc).1
    unfold bad at this
    rw [hc] at this
    exact of_decide_eq_false this
theorem short_first : ∀ (cs : List Cu) (a : Option Cu) (k i : Nat) (c : Cu), cs[i]? = some c → fr (if i = 0 then a else cs[i - 1]?) c.b < (need c.t : Int) →
    (∀ j : Nat, j < i → ∀ x, cs[j]? = some x → ¬ fr (if j = 0 then a else cs[j - 1]?) x.b < (need x.t : Int)) → short a k cs = some (k + i)
  | [], a, k, i, c, h, _, _ => by simp at h
  | c0 :: cs, a, k, i, c, h, hb, hn => by
    unfold short
    cases i with
    | zero =>
      cases h
      rw [if_pos (by simpa using hb)]
      rfl
    | succ i =>
      have h0 := hn 0 (by omega) c0 rfl
      (rw [if_neg (by simpa using h0)])
      rw [short_first cs (some c0) (k + 1) i c (by simpa using h) ?_ ?_]
      · congr 1
        omega
      · cases i with
        | zero => simpa using hb
        | succ i => simpa using hb
      · intro j hj x hx
        have := hn (j + 1) (by omega) x (by simpa using hx)
        cases j with
        | zero => simpa using this
        | succ j => simpa using this
theorem short_is {cs : List Cu} {i : Nat} (h : bad cs i = true) (hn : ∀ j : Nat, j < i → bad cs j = false) : short none 0 cs = some i := by
  have e : ∀ j, pv cs j = (if j = 0 then none else cs[j - 1]?) := fun j => rfl
  unfold bad at h
  cases hc : cs[i]? with
  | none => (rw [hc] at h; cases h)
  | some c =>
    rw [hc] at h
    have := short_first cs none 0 i c hc (of_decide_eq_true h) fun j hj x hx => by
      have := hn j hj
      unfold bad at this
      rw [hx] at this
      exact of_decide_eq_false this
    rw [this, Nat.zero_add]
theorem okNil : okD (.list []) := rfl
theorem d_lshort {r w : Int} {cs : List Cu} {m : Nat} {P : D → Nat → Prop} (hl : cs.length ≤ 1000) (g : ∀ c ∈ cs, GT r w c.t) (h1 : short none 0 cs = none → P .none 0) (h2 : ∀ j : Nat, short none 0 cs = some j → P (.int (j : Int)) 0) : r__law_short [.d (cuesD cs)] m P := by
  refine ⟨trivial, ⟨by rw [List.length_map]; omega, by rw [List.length_map]; omega⟩, ?_⟩
  refine ⟨by simp [rgD]; omega, ⟨by simp, fun j hj => by simp at hj; subst hj; rfl⟩, ?_⟩
  refine lcL_filt (ρ := [.im (cuesD cs), .no, .no]) (fun d => match d with
    | .int i => bad cs i.toNat
    | _ => false) id (rgD 0 ((cs.map Cu.d).length : Int)) [] ?_ ?_
  · intro d hd Q R hQ hR
    unfold rgD at hd
    obtain ⟨i, hi, rfl⟩ := List.mem_map.mp hd
    have hi : i < cs.length := by
      have := List.mem_range.mp hi
      rw [List.length_map] at this
      omega
    obtain ⟨c, hc⟩ : ∃ c, cs[i]? = some c := ⟨_, List.getElem?_eq_getElem hi⟩
    have gt := g c (List.mem_of_getElem? hc)
    have ei : ((0 : Int) + (i : Nat)) = (i : Int) := by omega
    rw [ei] at hQ hR ⊢
    have hb : bad cs ((i : Nat) : Int).toNat = decide (fr (pv cs i) c.b < (need c.t : Int)) := by
      rw [Int.toNat_natCast]
      unfold bad
      rw [hc]
    refine ⟨rfl, rfl, d_lfree hc ?_⟩
    refine ⟨trivial, trivial, _, at_cues hc, _, rfl, rfl, rfl, d_cost gt ?_⟩
    show (if decide (fr (pv cs i) c.b < (need c.t : Int)) = true then _ else _)
    by_cases z : fr (pv cs i) c.b < (need c.t : Int)
    · rw [if_pos (decide_eq_true z)]
      exact hQ (hb.trans (decide_eq_true z)) _ rfl
    · rw [if_neg (by simpa using z)]
      exact hR (hb.trans (decide_eq_false z)) _ rfl
  · rw [List.nil_append, List.map_id]
    have mem : ∀ d ∈ (rgD 0 ((cs.map Cu.d).length : Int)).filter (fun d : D => match d with
        | .int i => bad cs i.toNat
        | _ => false), ∃ i : Nat, d = .int (i : Int) ∧ i < cs.length ∧ bad cs i = true := by
      intro d hd
      obtain ⟨h3, h4⟩ := List.mem_filter.mp hd
      unfold rgD at h3
      obtain ⟨i, hi, rfl⟩ := List.mem_map.mp h3
      have hi := List.mem_range.mp hi
      rw [List.length_map] at hi
      refine ⟨i, by rw [Int.zero_add], by omega, ?_⟩
      have h4 : bad cs ((0 : Int) + (i : Nat)).toNat = true := h4
      rw [Int.zero_add, Int.toNat_natCast] at h4
      exact h4
    have all : (rgD 0 ((cs.map Cu.d).length : Int)).filter (fun d : D => match d with
        | .int i => bad cs i.toNat
        | _ => false) = [] → short none 0 cs = none := by
      intro e
      refine (short_all cs).mpr fun i hi => ?_
      have h5 : PyData.int (i : Int) ∈ rgD 0 ((cs.map Cu.d).length : Int) := by
        unfold rgD
        refine List.mem_map.mpr ⟨i, List.mem_range.mpr (by rw [List.length_map]; omega), by rw [Int.zero_add]⟩
      have h6 := List.filter_eq_nil_iff.mp e _ h5
      have h6 : ¬ bad cs ((i : Nat) : Int).toNat = true := h6
      rw [Int.toNat_natCast] at h6
      simpa using h6
    have fl : ((rgD 0 ((cs.map Cu.d).length : Int)).filter (fun d : D => match d with
        | .int i => bad cs i.toNat
        | _ => false)).length ≤ 1000 := Nat.le_trans (List.length_filter_le _ _) (by simp [rgD]; omega)
    have fst : ∀ (i : Nat) (rest : List D), (rgD 0 ((cs.map Cu.d).length : Int)).filter (fun d : D => match d with
        | .int i => bad cs i.toNat
        | _ => false) = .int (i : Int) :: rest → ∀ j : Nat, j < i → bad cs j = false := by
      intro i rest e j hj
      obtain ⟨l1, l2, e1, e2, _, _⟩ := List.filter_eq_cons_iff.mp e
      have hg : ∀ k : Nat, k < cs.length → (rgD 0 ((cs.map Cu.d).length : Int))[k]? = some (.int (k : Int)) := by
        intro k hk
        unfold rgD
        rw [List.getElem?_map, List.getElem?_range (by rw [List.length_map]; omega)]
        show some (PyData.int (0 + (k : Int))) = _
        rw [Int.zero_add]
      have hlen : (rgD 0 ((cs.map Cu.d).length : Int)).length = cs.length := by simp [rgD]
      have h1 : l1.length < cs.length := by
        rw [← hlen, e1]
        simp
      have h2 := hg l1.length h1
      rw [e1, List.getElem?_append_right (Nat.le_refl _), Nat.sub_self] at h2
      have h2 : PyData.int (i : Int) = .int (l1.length : Int) := Option.some.inj h2
      have h3 : i = l1.length := by
        injection h2 with h2
        omega
      have h4 := hg j (by omega)
      rw [e1, List.getElem?_append_left (by omega)] at h4
      have h5 := e2 _ (List.mem_of_getElem? h4)
      have h5 : ¬ bad cs ((j : Nat) : Int).toNat = true := h5
      rw [Int.toNat_natCast] at h5
      simpa using h5
    generalize (rgD 0 ((cs.map Cu.d).length : Int)).filter (fun d : D => match d with
        | .int i => bad cs i.toNat
        | _ => false) = fs at mem all fl fst ⊢
    have ok : okD (.list fs) := Fn.ok (.lst 0 _ (fun d hd => by obtain ⟨i, rfl, _⟩ := mem d hd; exact .int _ _) fl) (by omega)
    refine ⟨trivial, by show 0 ≤ 1000000; omega, ok, okNil, ?_⟩
    show (if (!PyData.eqv (.list fs) (.list [])) = true then _ else _)
    rw [parts_eqv]
    cases fs with
    | nil =>
      rw [if_neg (by simp)]
      exact ⟨hd_d, h1 (all rfl)⟩
    | cons d fs =>
      obtain ⟨i, rfl, hi, hb⟩ := mem d (List.mem_cons_self ..)
      rw [if_pos (by simp)]
      refine ⟨trivial, _, atI_nat (i := 0) rfl, ?_⟩
      exact ⟨hd_d, h2 i (short_is hb (fst i fs rfl))⟩
end Q23.C
namespace Q23
open PySem L2 DL
section
variable {m : Nat} {P : D → Nat → Prop} {r w : Int} {ls : List (List Nat)}
theorem mem_pict {ls : List (List Nat)} (o : OkS r w) (t : Text r w ls) : Mem r w (pict r.toNat w.toNat ls) := by
  have tr := t.nr
  refine ⟨?_, fun l hl => ?_⟩
  · unfold pict
    (rw [List.length_append, List.length_map, List.length_replicate])
    omega
  · unfold pict at hl
    rcases List.mem_append.mp hl with z | z
    · obtain ⟨x, hx, rfl⟩ := List.mem_map.mp z
      have lx := t.a x hx
      refine ⟨padL_len lx.le, fun c hc => ?_⟩
      unfold padL at hc
      rcases List.mem_append.mp hc with q | q
      · exact lx.sg c q
      · rw [List.eq_of_mem_replicate q]
        decide
    · rw [List.eq_of_mem_replicate z]
      refine ⟨by simp, fun c hc => ?_⟩
      rw [List.eq_of_mem_replicate hc]
      decide
theorem d_law_pictureG (o : OkS r w) (tr : ls.length ≤ r.toNat) (ta : ∀ l ∈ ls, l.length ≤ w.toNat) (h : P (textD (pict r.toNat w.toNat ls)) 0) : r__law_picture [.d (scr r w), .d (textD ls)] m P := by
  have r1 := o.r1
  have r4 := o.r4
  have w40 := o.w40
  have w1 := o.w1
  have l1 : (" " : Str).length = 1 := by decide +kernel
  refine ⟨by rw [List.length_map]; omega, ⟨by simp, fun j hj => by simp at hj; subst hj; rfl⟩, ?_⟩
  refine lcL_map (ρ := [.im (scr r w), .im (textD ls), .no, .no]) (fun d => match d with
      | .str s => .str (S (padL w.toNat s.cps.toList))
      | _ => d) (ls.map lineD) [] ?_ ?_
  · intro d hd Q hQ
    obtain ⟨l, ml, rfl⟩ := List.mem_map.mp hd
    have ll := ta l ml
    have e : PyData.str (S (padL w.toNat l)) = .str (S (padL w.toNat (S l).cps.toList)) := by rw [S_list]
    have hQ : ∀ ρ3 : DL.Env, wipeE ρ3 [3] = [.im (scr r w), .im (textD ls), .no, .no] → Q (.str (S (padL w.toNat l))) ρ3 := by
      rw [e]
      exact hQ
    refine ⟨trivial, trivial, _, rfl, trivial, by rw [S_len]; omega, ⟨by rw [S_len]; omega, by rw [S_len]; omega⟩, by rw [l1, S_len]; omega, ?_⟩
    have e2 : mulT (" " : Str) (w - ((S l).length : Int)) = S (List.replicate (w.toNat - l.length) 32) := by
      rw [mul_S, S_len]
      congr 2
      omega
    rw [e2]
    refine ⟨by rw [S_len, S_len, List.length_replicate]; omega, ?_⟩
    have e3 : S l ++ S (List.replicate (w.toNat - l.length) 32) = S (padL w.toNat l) := by
      rw [S_app]
      rfl
    show Q (.str (S l ++ S (List.replicate (w.toNat - l.length) 32))) _
    rw [e3]
    exact hQ _ rfl
  · rw [List.nil_append]
    refine ⟨trivial, trivial, _, rfl, ⟨by omega, by omega⟩, by rw [l1]; omega, by show 1 ≤ 1000000; omega, trivial, _, rfl, trivial, by rw [List.length_map, List.length_map]; omega, ?_⟩
    refine ⟨?_, ?_⟩
    · show 1 * (r - (((ls.map lineD).map _).length : Int)).toNat ≤ 1000000
      rw [List.length_map, List.length_map]
      omega
    · show (((ls.map lineD).map _).length + (List.replicate (r - (((ls.map lineD).map _).length : Int)).toNat [PyData.str (mulT (" " : Str) w)]).flatten.length ≤ 1000000) ∧ _
      rw [mul_S, S_bl, List.length_map, List.length_map, List.length_map, List.length_replicate]
      refine ⟨by omega, hd_d, ?_⟩
      have e : (r - (ls.length : Int)).toNat = r.toNat - ls.length := by omega
      rw [e]
      unfold textD at h
      rw [pict_map] at h
      exact h
theorem d_law_picture (o : OkS r w) (t : Text r w ls) (h : P (textD (pict r.toNat w.toNat ls)) 0) : r__law_picture [.d (scr r w), .d (textD ls)] m P :=
  d_law_pictureG o t.nr (fun l hl => (t.a l hl).le) h
end
end Q23
namespace Q23.C
open PySem L2 DL
theorem cu_fn {r w : Int} {c : Cu} (g : GC r w c) : Fn 2 c.d := by
  refine .tup 1 _ (fun d hd => ?_) (by show 3 ≤ 1000; omega)
  simp at hd
  rcases hd with rfl | rfl | rfl
  · exact .int _ _
  · exact .int _ _
  · refine .tup 0 _ (fun d hd => ?_) (by rw [List.length_map]; have := g.t.l4; omega)
    obtain ⟨l, hl, rfl⟩ := List.mem_map.mp hd
    have := g.t.l6 l hl
    exact fnL (by omega) (g.t.tx.a l hl).sg
theorem cues_fn {r w : Int} {cs : List Cu} (g : ∀ c ∈ cs, GC r w c) (hl : cs.length ≤ 1000) : Fn 3 (cuesD cs) := .tup 2 _ (fun d hd => by
  obtain ⟨c, hc, rfl⟩ := List.mem_map.mp hd
  exact cu_fn (g c hc)) (by rw [List.length_map]; exact hl)
theorem tup_nil (l : List D) : PyData.eqv (.tuple l) (.tuple []) = decide (l = []) := by
  cases l <;> simp [PyData.eqv, PyData.eqvAll]
theorem d_send_any {r w : Int} {cs : List Cu} {m : Nat} {P : D → Nat → Prop} (o : OkS r w) (l : cs.length ≤ 200) (g : ∀ c ∈ cs, GC r w c) (gl : GL 0 cs)
    (h1 : short none 0 cs = none → ∀ n, St 0 none cs n → P (.tuple [.str ("stream" : Str), .tuple ((n.map co).map coD)]) 0)
    (h2 : ∀ j : Nat, short none 0 cs = some j → P (.tuple [.str ("short" : Str), .int (j : Int)]) 0) : r_send_paper [.d (scr r w), .d (cuesD cs)] m P := by
  refine ⟨rfl, rfl, d_need_cues o l g gl ?_⟩
  refine ⟨rfl, rfl, d_short (r := r) (w := w) (fun c hc => (g c hc).t) ?_⟩
  cases hs : short none 0 cs with
  | none =>
    refine ⟨trivial, ?_⟩
    refine ⟨rfl, rfl, d_stream g gl hs fun n st => ?_⟩
    exact ⟨by show 2 ≤ 1000000; omega, hd_d, h1 hs n st⟩
  | some j =>
    refine ⟨trivial, ?_⟩
    exact ⟨by show 2 ≤ 1000000; omega, hd_d, h2 j hs⟩
end Q23.C
namespace Q23
open PySem L2 DL
theorem d_size {m : Nat} {P : D → Nat → Prop} (hm : m < 1000000) (h : ∀ R W : Nat, OkS (R : Int) (W : Int) → R ≤ 2 → W ≤ 4 → P (scr R W) (m + 2)) : r__law_size [.ora, .d (.int 4)] m P := by
  refine ⟨trivial, rfl, rfl, rfl, 2, rfl, by omega, by omega, by omega, fun i i0 i1 => ?_⟩
  refine ⟨trivial, rfl, rfl, rfl, 4, rfl, by omega, by omega, by omega, fun j j0 j1 => ?_⟩
  obtain ⟨i', rfl⟩ : ∃ n : Nat, i = n := ⟨i.toNat, by omega⟩
  obtain ⟨j', rfl⟩ : ∃ n : Nat, j = n := ⟨j.toNat, by omega⟩
  refine ⟨by show 2 ≤ 1000000; omega, ?_⟩
  have := h (1 + i') (1 + j') ⟨by omega, by omega, by omega, by omega⟩ (by omega) (by omega)
  have es : PyData.tuple [.int (1 + (i' : Int)), .int (1 + (j' : Int))] = scr ((1 + i' : Nat) : Int) ((1 + j' : Nat) : Int) := by
    show PyData.tuple _ = PyData.tuple _
    push_cast
    rfl
  show P (PyData.tuple [.int (1 + (i' : Int)), .int (1 + (j' : Int))]) (m + 2)
  rw [es]
  exact this
end Q23
namespace Q23.C
open PySem L2 DL
theorem gl_app : ∀ {cs : List Cu} {lo : Int} {c : Cu}, GL lo cs → lo ≤ c.b → c.b < c.e → (∀ x ∈ cs, x.e ≤ c.b) → GL lo (cs ++ [c])
  | [], lo, c, _, h1, h2, _ => ⟨h1, h2, trivial⟩
  | d :: cs, lo, c, g, h1, h2, h3 => ⟨g.1, g.2.1, gl_app g.2.2 (h3 d (List.mem_cons_self ..)) h2 fun x hx => h3 x (List.mem_cons_of_mem _ hx)⟩
theorem gt_of {R W : Nat} (o : OkS (R : Int) (W : Int)) (r2 : R ≤ 2) (w5 : W ≤ 6) {t : List (List Nat)} (ht : Text (R : Int) (W : Int) t) : GT (R : Int) (W : Int) t := by
  have h1 := ht.nr
  rw [Int.toNat_natCast] at h1
  refine ⟨by omega, fun z hz => ?_, o, ht⟩
  have := (ht.a z hz).le
  rw [Int.toNat_natCast] at this
  omega
def cuB : SM := (sSeq (sSet 6 (dCallO 0 2 r__law_text (aOra 0 (aCons (dV 1) (aNil))))) (sSeq (sSet 7 (d2 gAdd (hS 5) (hV (d2 gIx (hV (dLst (lCons (dC (.int 0)) (lCons (dCall 1 r__law_cost (aCons (dV 6) (aNil))) (lCons (d2 gAdd (hV (dCall 1 r__law_cost (aCons (dV 6) (aNil)))) (hV (dC (.int 1)))) (lCons (dCallO 0 2 s_next (aOra 0 (aCons (dC (.int 30)) (aNil)))) (lNil))))))) (hV (dCallO 0 2 s_next (aOra 0 (aCons (dC (.int 4)) (aNil))))))))) (sSeq (sSet 5 (d2 gAdd (hV (d2 gAdd (hS 7) (hV (dC (.int 1))))) (hV (dCallO 0 2 s_next (aOra 0 (aCons (dC (.int 20)) (aNil))))))) (sApp 4 (dTup (lCons (dV 7) (lCons (dV 5) (lCons (dV 6) (lNil)))))))))
theorem at4 (n k : Int) {i : Int} (h0 : 0 ≤ i) (h1 : i < 4) (hn : 0 ≤ n) (hk : 0 ≤ k) (n40 : n ≤ 40) (k40 : k ≤ 40) : ∃ v : Int, atI [PyData.int 0, .int n, .int (n + 1), .int k] i = some (.int v) ∧ 0 ≤ v ∧ v ≤ 41 := by
  have : i = 0 ∨ i = 1 ∨ i = 2 ∨ i = 3 := by omega
  rcases this with rfl | rfl | rfl | rfl
  · exact ⟨0, rfl, by omega, by omega⟩
  · exact ⟨n, rfl, by omega, by omega⟩
  · exact ⟨n + 1, rfl, by omega, by omega⟩
  · exact ⟨k, rfl, by omega, by omega⟩
section
variable {E : DE} {R W : Nat} {s2 : Sl}
theorem cu_turn {acc : List Cu} {here : Int} {s3 s6 s7 : Sl} {m : Nat} (o : OkS (R : Int) (W : Int)) (r2 : R ≤ 2) (w5 : W ≤ 6) (hm : m < 1000000) (hl : acc.length ≤ 900)
    (h : ∀ (b e : Int) (t : List (List Nat)) (m' : Nat) (s6 s7 : Sl), here ≤ b → b < e → e ≤ here + 70 → Text (R : Int) (W : Int) t → m' ≤ m + 210 → E.nx [.ora m', .im (scr R W), s2, s3, .ow (.list ((acc ++ [(⟨b, e, t⟩ : Cu)]).map Cu.d)), .im (.int e), s6, s7]) :
    cuB E [.ora m, .im (scr R W), s2, s3, .ow (.list (acc.map Cu.d)), .im (.int here), s6, s7] := by
  refine ⟨trivial, rfl, rfl, rfl, d_law_text o (by omega) fun t m1 ht hm1 => ?_⟩
  have gt := gt_of o r2 w5 ht
  have hn := need_le gt
  refine ⟨trivial, rfl, rfl, d_cost gt ?_⟩
  refine ⟨rfl, rfl, d_cost gt ?_⟩
  refine ⟨trivial, rfl, rfl, rfl, 30, rfl, by omega, by omega, by omega, fun k k0 k1 => ?_⟩
  refine ⟨by show 4 ≤ 1000000; omega, ?_⟩
  refine ⟨trivial, rfl, rfl, rfl, 4, rfl, by omega, by omega, by omega, fun i i0 i1 => ?_⟩
  obtain ⟨v, ev, v0, v1⟩ := at4 (need t : Int) k i0 i1 (by omega) k0 (by omega) (by omega)
  refine ⟨_, ev, ?_⟩
  refine ⟨trivial, trivial, rfl, rfl, rfl, 20, rfl, by omega, by omega, by omega, fun j j0 j1 => ?_⟩
  refine ⟨trivial, by show 3 ≤ 1000000; omega, ?_⟩
  refine ⟨by rw [List.length_map]; omega, ?_⟩
  have := h (here + v) (here + v + 1 + j) t (m1 + 1 + 1 + 1) (.im (textD t)) (.im (.int (here + v))) (by omega) (by omega) (by omega) ht (by omega)
  rw [List.map_append] at this
  exact this
theorem cu_loop (o : OkS (R : Int) (W : Int)) (r2 : R ≤ 2) (w5 : W ≤ 6) : ∀ (ks : List D) (acc : List Cu) (here : Int) (s3 s6 s7 : Sl) (m : Nat), 0 ≤ here → here + 70 * ks.length ≤ 420 → m + ks.length * 210 < 1000000 → acc.length + ks.length ≤ 200 → GL 0 acc → (∀ x ∈ acc, x.e ≤ here) → (∀ x ∈ acc, GC (R : Int) (W : Int) x) →
    (∀ (acc' : List Cu) (m' : Nat) (s3 s5 s6 s7 : Sl), acc'.length ≤ acc.length + ks.length → (∀ x ∈ acc', x.e ≤ 420) → GL 0 acc' → (∀ x ∈ acc', GC (R : Int) (W : Int) x) → m' ≤ m + ks.length * 210 → E.nx [.ora m', .im (scr R W), s2, s3, .ow (.list (acc'.map Cu.d)), s5, s6, s7]) →
    forL (gN 3) cuB E ks [.ora m, .im (scr R W), s2, s3, .ow (.list (acc.map Cu.d)), .im (.int here), s6, s7]
  | [], acc, here, s3, s6, s7, m, _, hh, _, _, gl, he, gc, h => h acc m _ _ _ _ (by simp) (fun x hx => by have := he x hx; simp at hh; omega) gl gc (by simp)
  | k :: ks, acc, here, s3, s6, s7, m, h0, hh, hm, hl, gl, he, gc, h => by
    rw [List.length_cons] at hh hm hl h
    refine cu_turn o r2 w5 (by omega) (by omega) fun b e t m1 s6 s7 b1 b2 b3 ht hm1 => ?_
    have gn : GC (R : Int) (W : Int) ⟨b, e, t⟩ := ⟨by show 0 ≤ b; omega, b2, by show e ≤ 1999; omega, gt_of o r2 w5 ht⟩
    refine cu_loop o r2 w5 ks (acc ++ [(⟨b, e, t⟩ : Cu)]) e _ _ _ m1 (by omega) (by omega) (by omega) (by rw [List.length_append, List.length_singleton]; omega) (gl_app gl (by show 0 ≤ b; omega) b2 fun x hx => Int.le_trans (he x hx) b1) (fun x hx => ?_) (fun x hx => ?_) fun acc' m' s3 s5 s6 s7 q1 qe q2 q3 q4 => ?_
    · rcases List.mem_append.mp hx with q | q
      · have := he x q
        omega
      · rw [List.mem_singleton.mp q]
        exact Int.le_refl _
    · rcases List.mem_append.mp hx with q | q
      · exact gc x q
      · rw [List.mem_singleton.mp q]
        exact gn
    · rw [List.length_append, List.length_singleton] at q1
      exact h acc' m' s3 s5 s6 s7 (by omega) qe q2 q3 (by omega)
end
theorem d_law_cues {R W : Nat} {m : Nat} {P : D → Nat → Prop} (o : OkS (R : Int) (W : Int)) (r2 : R ≤ 2) (w5 : W ≤ 6) (hm : m < 900000) (h : ∀ (cs : List Cu) (m' : Nat), cs.length ≤ 6 → (∀ x ∈ cs, x.e ≤ 420) → GL 0 cs → (∀ x ∈ cs, GC (R : Int) (W : Int) x) → m' ≤ m + 1300 → P (cuesD cs) m') : r__law_cues [.ora, .d (scr R W), .d (.int 4)] m P := by
  refine ⟨by show 0 ≤ 1000000; omega, ?_⟩
  refine ⟨trivial, trivial, rfl, rfl, rfl, 5, rfl, by omega, by omega, by omega, fun n n0 n1 => ?_⟩
  have rl : (rgD 0 n).length = n.toNat := by simp [rgD]
  refine ⟨⟨by omega, by omega⟩, ?_⟩
  refine cu_loop o r2 w5 (rgD 0 n) [] 0 _ _ _ (m + 1) (Int.le_refl _) (by rw [rl]; omega) (by rw [rl]; omega) (by rw [rl]; simp; omega) trivial (fun x hx => nomatch hx) (fun x hx => nomatch hx) fun acc' m' s3 s5 s6 s7 q1 qe q2 q3 q4 => ?_
  rw [rl, List.length_nil] at q1
  rw [rl] at q4
  refine ⟨trivial, ?_⟩
  exact h acc' m' (by omega) qe q2 q3 (by omega)
end Q23.C
namespace Q23.C
open PySem L2 DL
abbrev Pic := List (List Nat)
section
variable {R W : Nat}
/-- the picture of the cue that is shown at frame f -/
def shAt (R W : Nat) : List Cu → Nat → Pic
  | [], _ => blA R W
  | c :: cs, f => if c.b ≤ (f : Int) ∧ (f : Int) < c.e then pict R W c.t else shAt R W cs f
theorem shAt_snoc : ∀ (pre : List Cu) (c : Cu) (f : Nat), (∀ x ∈ pre, x.e ≤ c.b) → c.b < c.e → shAt R W (pre ++ [c]) f = if c.b ≤ (f : Int) ∧ (f : Int) < c.e then pict R W c.t else shAt R W pre f
  | [], c, f, _, _ => rfl
  | x :: pre, c, f, h, hc => by
    have h0 := h x (List.mem_cons_self ..)
    have ih := shAt_snoc pre c f (fun y hy => h y (List.mem_cons_of_mem _ hy)) hc
    show (if x.b ≤ (f : Int) ∧ (f : Int) < x.e then pict R W x.t else shAt R W (pre ++ [c]) f) = if c.b ≤ (f : Int) ∧ (f : Int) < c.e then pict R W c.t else if x.b ≤ (f : Int) ∧ (f : Int) < x.e then pict R W x.t else shAt R W pre f
    rw [ih]
    by_cases z : x.b ≤ (f : Int) ∧ (f : Int) < x.e
    · rw [if_pos z, if_neg (by omega), if_pos z]
    · rw [if_neg z, if_neg z]
/-- a slice of the list, one cue more -/
theorem told_step {pre : List Cu} {c : Cu} {N : Nat} (h : ∀ x ∈ pre, x.e ≤ c.b) (b0 : 0 ≤ c.b) (hc : c.b < c.e) (hN : c.e ≤ (N : Int)) :
    ((List.range N).map (shAt R W pre)).take c.b.toNat ++ List.replicate (c.e - c.b).toNat (pict R W c.t) ++ ((List.range N).map (shAt R W pre)).drop c.e.toNat = (List.range N).map (shAt R W (pre ++ [c])) := by
  obtain ⟨b, hb⟩ : ∃ b : Nat, c.b = (b : Int) := ⟨c.b.toNat, by omega⟩
  obtain ⟨k, hk⟩ : ∃ k : Nat, c.e = ((b + k : Nat) : Int) := ⟨(c.e - c.b).toNat, by omega⟩
  have e1 : (c.e - c.b).toNat = k := by omega
  rw [e1, hb, hk, Int.toNat_natCast, Int.toNat_natCast]
  refine List.ext_getElem? fun i => ?_
  rw [List.getElem?_map]
  have hl1 : (((List.range N).map (shAt R W pre)).take b).length = b := by simp; omega
  have hsn : ∀ f, shAt R W (pre ++ [c]) f = if c.b ≤ (f : Int) ∧ (f : Int) < c.e then pict R W c.t else shAt R W pre f := fun f => shAt_snoc pre c f h hc
  by_cases z : i < b
  · rw [List.append_assoc, List.getElem?_append_left (by rw [hl1]; exact z), List.getElem?_take_of_lt z, List.getElem?_map, List.getElem?_range (by omega)]
    show some _ = some _
    rw [hsn, if_neg (by omega)]
  · by_cases y : i < b + k
    · rw [List.getElem?_append_left (by rw [List.length_append, hl1, List.length_replicate]; exact y), List.getElem?_append_right (by rw [hl1]; omega), hl1, List.getElem?_replicate, if_pos (by omega), List.getElem?_range (by omega)]
      show some _ = some _
      rw [hsn, if_pos (by omega)]
    · rw [List.getElem?_append_right (by rw [List.length_append, hl1, List.length_replicate]; omega), List.length_append, hl1, List.length_replicate, List.getElem?_drop, show b + k + (i - (b + k)) = i by omega, List.getElem?_map]
      by_cases q : i < N
      · rw [List.getElem?_range q]
        show some _ = some _
        rw [hsn, if_neg (by omega)]
      · rw [List.getElem?_eq_none_iff.mpr (by rw [List.length_range]; omega)]
        rfl
end
end Q23.C
namespace Q23
open PySem L2 DL
theorem d_one_of {l : List Str} {z : Str} {m : Nat} {P : D → Nat → Prop} (h : P (.bool (l.any fun x => x == z)) 0) : r_is_one_of [.d (.str z), .d (.tuple (l.map PyData.str))] m P := by
  refine ⟨trivial, _, rfl, ?_⟩
  exact ⟨trivial, trivial, l, ofStrs_map l, hd_d, h⟩
theorem co_sh {R W : Nat} (o : OkS (R : Int) (W : Int)) {c : Co} (h : OkC R W c) : Sh 1 27 (coD c) := by
  have r4 := o.r4
  have w40 := o.w40
  cases c with
  | put c =>
    have hc : sgC c = true := h.ok
    exact lineC_sh (i := 0) (l := [c]) (by omega) (by intro x hx; rw [List.mem_singleton.mp hx]; exact hc) _ (by simp [lineC, putD, coD])
  | «at» a b =>
    have hc : a < R ∧ b < W := h.ok
    exact (sh_tup (k := 0) (n := 8) (ds := [.str ("at" : Str), .int (a : Int), .int (b : Int)]) fun d hd => by
      simp at hd
      rcases hd with rfl | rfl | rfl
      · exact sh_W _
      · exact (sh_int (by omega) (by omega)).mono (by omega) (by omega)
      · exact (sh_int (by omega) (by omega)).mono (by omega) (by omega)).mono (by omega) (by simp)
  | roll k =>
    have hc : 1 ≤ k ∧ k ≤ R := h.ok
    exact (sh_tup (k := 0) (n := 8) (ds := [.str ("roll" : Str), .int (k : Int)]) fun d hd => by
      simp at hd
      rcases hd with rfl | rfl
      · exact sh_W _
      · exact (sh_int (by omega) (by omega)).mono (by omega) (by omega)).mono (by omega) (by simp)
  | lone w =>
    have hw : w ∈ loneWs := h.ok
    have : ∀ w ∈ loneWs, (w.cps.toList.all fun c => decide (c < 16 ^ 8)) = true ∧ PyData.strOk w = true ∧ w.length ≤ 8 := by decide +kernel
    obtain ⟨q1, q2, q3⟩ := this w hw
    exact (sh_tup (k := 0) (n := 8) (ds := [.str w]) fun d hd => by
      rw [List.mem_singleton.mp hd]
      exact sh_W w q1 q2 q3).mono (by omega) (by simp)
end Q23
namespace Q23.C
open PySem L2 DL
theorem st_len : ∀ {lo : Nat} {a : Option Nat} {cs : List Cu} {n : List (Option Co)}, St lo a cs n → n.length = (mkT lo a cs).length := by
  intro lo a cs n st
  induction st with
  | nil lo e => rfl
  | none lo => rfl
  | cons f _ ih =>
    show (_ ++ some swapK :: _).length = (_ ++ some swapK :: _).length
    rw [List.length_append, List.length_append, List.length_cons, List.length_cons, f.len, ih]
/-- many: the frames of a stream -/
theorem st_many {pre : List Cu} {l : Cu} {n : List (Option Co)} (st : St 0 none (pre ++ [l]) n) (g : GL 0 (pre ++ [l])) : (n.length : Int) = l.e + 1 := by
  rw [st_len st]
  have hel := endOf_last pre l 0
  have hle := gl_last g
  obtain ⟨c, cs, ec⟩ : ∃ c cs, pre ++ [l] = c :: cs := by
    cases pre with
    | nil => exact ⟨_, _, rfl⟩
    | cons a b => exact ⟨_, _, rfl⟩
  have hl : l ∈ c :: cs := by rw [← ec]; simp
  rw [ec] at g hel hle ⊢
  have g1 := g.1
  have g2 := g.2.1
  have h1 := hle c (List.mem_cons_self ..)
  have hel : endOf c.e.toNat cs = l.e.toNat := hel
  show ((List.replicate (c.b.toNat - 0) none ++ some swapK :: mkT (c.b.toNat + 1) (some c.e.toNat) cs).length : Int) = l.e + 1
  rw [List.length_append, List.length_cons, List.length_replicate, mkT_len cs _ _ (by omega) (by rw [Int.toNat_of_nonneg (by omega)]; exact g.2.2), hel]
  have : c.b.toNat + 1 ≤ l.e.toNat := by omega
  omega
end Q23.C
namespace Q23.C
open PySem L2 DL
section
variable {R W : Nat} {m : Nat} {P : D → Nat → Prop}
def shnB : SM := (sIf (bD (dChain gLe gLt (hS 3) (hS 2) (hS 4))) (sRet (dCall 2 r__law_picture (aCons (dV 0) (aCons (dV 5) (aNil))))) (sNo))
theorem shn_loop {E : DE} {s1 : Sl} {f : Nat} {Q : D → Prop} (o : OkS (R : Int) (W : Int)) (h1 : ∀ d ρ, ρ[0]? = some (.im (scr R W)) → Q d → E.rt d ρ) (h2 : Q (textD (blA R W)) → ∀ s3 s4 s5, E.nx [.im (scr R W), s1, .im (.int (f : Int)), s3, s4, s5]) :
    ∀ (cs : List Cu) (s3 s4 s5 : Sl), (∀ c ∈ cs, Text (R : Int) (W : Int) c.t) → Q (textD (shAt R W cs f)) →
    forL (gTupT 3 (gConsT (gN 3) (gConsT (gN 4) (gConsT (gN 5) (gNoT))))) shnB E (cs.map Cu.d) [.im (scr R W), s1, .im (.int (f : Int)), s3, s4, s5]
  | [], s3, s4, s5, _, q => h2 q s3 s4 s5
  | c :: cs, s3, s4, s5, ht, q => by
    have ih := shn_loop o h1 h2 cs (.im (.int c.b)) (.im (.int c.e)) (.im (textD c.t)) (fun x hx => ht x (List.mem_cons_of_mem _ hx))
    have q : Q (textD (if c.b ≤ (f : Int) ∧ (f : Int) < c.e then pict R W c.t else shAt R W cs f)) := q
    refine ⟨rfl, rfl, ?_⟩
    refine ⟨trivial, trivial, ?_⟩
    show (match PyData.bool (decide (c.b ≤ (f : Int))) with
      | .bool true => _
      | .bool false => _
      | _ => False)
    by_cases z : c.b ≤ (f : Int)
    · rw [decide_eq_true z]
      refine ⟨trivial, ?_⟩
      show (if decide ((f : Int) < c.e) = true then _ else _)
      by_cases y : (f : Int) < c.e
      · rw [if_pos ⟨z, y⟩] at q
        rw [if_pos (decide_eq_true y)]
        exact ⟨rfl, rfl, d_law_picture o (ht c (List.mem_cons_self ..)) (by rw [Int.toNat_natCast, Int.toNat_natCast]; exact h1 _ _ rfl q)⟩
      · rw [if_neg (fun w => y w.2)] at q
        rw [if_neg (by simpa using y)]
        exact ih q
    · rw [if_neg (fun w => z w.1)] at q
      rw [decide_eq_false z]
      exact ih q
theorem d_law_shown {cs : List Cu} {f : Nat} (o : OkS (R : Int) (W : Int)) (ht : ∀ c ∈ cs, Text (R : Int) (W : Int) c.t) (h : P (textD (shAt R W cs f)) 0) : r__law_shown [.d (scr R W), .d (cuesD cs), .d (.int (f : Int))] m P := by
  refine shn_loop (Q := fun d => P d 0) o (fun d ρ hρ hd => ?_) (fun q s3 s4 s5 => ?_) cs _ _ _ ht h
  · show (match ρ[0]? with
      | some (Sl.ora m') => _
      | _ => _)
    rw [hρ]
    exact ⟨hd_d, hd⟩
  · refine ⟨by show 0 ≤ 1000000; omega, rfl, rfl, ?_⟩
    refine d_law_pictureG (ls := []) o (by simp) (fun l hl => nomatch hl) ?_
    rw [Int.toNat_natCast, Int.toNat_natCast]
    exact ⟨hd_d, q⟩
def tdB : SM := (sCutS 4 (dRep (dLst (lCons (dCall 2 r__picture_of (aCons (dV 0) (aCons (dV 7) (aNil)))) (lNil))) (d2 DL.gSub (hS 6) (hS 5))) (oI (dV 5)) (oI (dV 6)))
theorem td_loop {E : DE} {s1 s2 s3 : Sl} {N : Nat} (o : OkS (R : Int) (W : Int)) (hN : N ≤ 2000) : ∀ (cs pre : List Cu) (lo : Int) (s5 s6 s7 : Sl), 0 ≤ lo → GL lo cs → (∀ x ∈ pre, x.e ≤ lo) → (∀ c ∈ cs, Text (R : Int) (W : Int) c.t ∧ c.e ≤ (N : Int)) →
    (∀ s5 s6 s7, E.nx [.im (scr R W), s1, s2, s3, .ow (.list (((List.range N).map (shAt R W (pre ++ cs))).map textD)), s5, s6, s7]) →
    forL (gTupT 3 (gConsT (gN 5) (gConsT (gN 6) (gConsT (gN 7) (gNoT))))) tdB E (cs.map Cu.d) [.im (scr R W), s1, s2, s3, .ow (.list (((List.range N).map (shAt R W pre)).map textD)), s5, s6, s7]
  | [], pre, lo, s5, s6, s7, _, _, _, _, h => by
    have := h s5 s6 s7
    rw [List.append_nil] at this
    exact this
  | c :: cs, pre, lo, s5, s6, s7, l0, g, hp, ht, h => by
    have g1 := g.1
    have g2 := g.2.1
    obtain ⟨t1, t2⟩ := ht c (List.mem_cons_self ..)
    have st := told_step (R := R) (W := W) (pre := pre) (c := c) (N := N) (fun x hx => Int.le_trans (hp x hx) g1) (by omega) g2 t2
    refine ⟨rfl, rfl, ?_⟩
    refine ⟨rfl, rfl, d_picture_of' o t1 ?_⟩
    refine ⟨by show 1 ≤ 1000000; omega, trivial, trivial, ?_⟩
    show -(2 ^ 63) ≤ c.e - c.b ∧ c.e - c.b < 2 ^ 63 ∧ 1 * (c.e - c.b).toNat ≤ 1000000 ∧ _
    refine ⟨by omega, by omega, by omega, trivial, ?_⟩
    refine ⟨_, c.b, c.e, rfl, rfl, rfl, by omega, by omega, by simp; omega, ?_, ?_⟩
    · rw [List.flatten_replicate_singleton, List.length_replicate]
      simp
      omega
    · have e1 : (((List.range N).map (shAt R W pre)).map textD).take c.b.toNat ++ (List.replicate (c.e - c.b).toNat [textD (pict ((R : Int)).toNat ((W : Int)).toNat c.t)]).flatten ++ (((List.range N).map (shAt R W pre)).map textD).drop c.e.toNat = ((List.range N).map (shAt R W (pre ++ [c]))).map textD := by
        rw [← st, List.flatten_replicate_singleton, List.map_append, List.map_append, List.map_take, List.map_drop, List.map_replicate, Int.toNat_natCast, Int.toNat_natCast]
      have := td_loop (E := E) (s1 := s1) (s2 := s2) (s3 := s3) o hN cs (pre ++ [c]) c.e (.im (.int c.b)) (.im (.int c.e)) (.im (textD c.t)) (by omega) g.2.2 (fun x hx => by
        (rcases List.mem_append.mp hx with q | q)
        · have := hp x q
          omega
        · rw [List.mem_singleton.mp q]
          exact Int.le_refl _) (fun x hx => ht x (List.mem_cons_of_mem _ hx)) (fun s5 s6 s7 => by
        have := h s5 s6 s7
        rw [List.append_assoc]
        exact this)
      rw [← e1] at this
      exact this
end
end Q23.C
namespace Q23.C
open PySem L2 DL
section
variable {R W : Nat} {m : Nat} {P : D → Nat → Prop}
theorem sh_mem (o : OkS (R : Int) (W : Int)) {cs : List Cu} (ht : ∀ c ∈ cs, Text (R : Int) (W : Int) c.t) (f : Nat) : Mem (R : Int) (W : Int) (shAt R W cs f) := by
  induction cs with
  | nil => exact mem_bl
  | cons c cs ih =>
    unfold shAt
    split
    · have := mem_pict o (ht c (List.mem_cons_self ..))
      rw [Int.toNat_natCast, Int.toNat_natCast] at this
      exact this
    · exact ih fun x hx => ht x (List.mem_cons_of_mem _ hx)
def shL (R W : Nat) (cs : List Cu) (N : Nat) : List Pic := (List.range N).map (shAt R W cs)
theorem shL_fn (o : OkS (R : Int) (W : Int)) {cs : List Cu} (ht : ∀ c ∈ cs, Text (R : Int) (W : Int) c.t) (N : Nat) : ∀ d ∈ (shL R W cs N).map textD, Fn 1 d := by
  intro d hd
  obtain ⟨p, hp, rfl⟩ := List.mem_map.mp hd
  obtain ⟨f, _, rfl⟩ := List.mem_map.mp hp
  exact mem_fn o (sh_mem o ht f)
theorem shL_len (cs : List Cu) (N : Nat) : ((shL R W cs N).map textD).length = N := by
  unfold shL
  simp
theorem okL_list (o : OkS (R : Int) (W : Int)) {cs : List Cu} (ht : ∀ c ∈ cs, Text (R : Int) (W : Int) c.t) {N : Nat} (hN : N ≤ 1000) : okD (.list ((shL R W cs N).map textD)) :=
  Fn.ok (.lst 1 _ (shL_fn o ht N) (by rw [shL_len]; exact hN)) (by omega)
theorem okW2 (s : Str) (h : PyData.strOk s = true := by decide +kernel) : okD (.str s) := okW _ h
end
end Q23.C
namespace Q23
open PySem L2 DL
section
variable {R W m n : Nat} {P : D → Nat → Prop} {d : D}
theorem within_nat {x : D} {b : Int} (h : within x 0 b = true) : ∃ k : Nat, x = .int (k : Int) ∧ (k : Int) ≤ b := by
  cases x with
  | int i =>
    have h : (decide ((0 : Int) ≤ i) && decide (i ≤ b)) = true := h
    rw [Bool.and_eq_true, decide_eq_true_eq, decide_eq_true_eq] at h
    exact ⟨i.toNat, by rw [Int.toNat_of_nonneg h.1], by omega⟩
  | _ => cases h
theorem sgB_inv {x : D} (h : sgB x = true) : ∃ c, x = .str ⟨#[c]⟩ ∧ sgC c = true := by
  cases x with
  | str s =>
    by_cases z : s.length = 1
    · obtain ⟨c, rfl⟩ := one_of z
      exact ⟨c, rfl, h⟩
    · rw [sgB_no z] at h
      cases h
  | _ => cases h
theorem code_inv (h : codeB R W d = true) : ∃ c, OkC R W c ∧ d = coD c := by
  unfold codeB at h
  split at h
  · rename_i s
    have h : loneWs.any (· == s) = true := h
    rw [List.any_eq_true] at h
    obtain ⟨w, hw, e⟩ := h
    have e : w = s := by simpa using e
    subst e
    exact ⟨.lone w, ⟨hw⟩, rfl⟩
  · rename_i s x
    rw [Bool.or_eq_true, Bool.and_eq_true, Bool.and_eq_true] at h
    rcases h with ⟨e, h⟩ | ⟨e, h⟩
    · have e : s = "put" := by simpa using e
      subst e
      obtain ⟨c, rfl, hc⟩ := sgB_inv h
      exact ⟨.put c, ⟨hc⟩, rfl⟩
    · have e : s = "roll" := by simpa using e
      subst e
      cases x with
      | int i =>
        have h : (decide ((1 : Int) ≤ i) && decide (i ≤ (R : Int))) = true := h
        rw [Bool.and_eq_true, decide_eq_true_eq, decide_eq_true_eq] at h
        refine ⟨.roll i.toNat, ⟨by show 1 ≤ i.toNat ∧ i.toNat ≤ R; omega⟩, ?_⟩
        show _ = PyData.tuple [.str ("roll" : Str), .int (i.toNat : Int)]
        rw [Int.toNat_of_nonneg (by omega)]
      | _ => cases h
  · rename_i s x y
    rw [Bool.and_eq_true, Bool.and_eq_true] at h
    obtain ⟨e, hx, hy⟩ := h
    have e : s = "at" := by simpa using e
    subst e
    obtain ⟨a, rfl, ha⟩ := within_nat hx
    obtain ⟨b, rfl, hb⟩ := within_nat hy
    exact ⟨.at a b, ⟨by show a < R ∧ b < W; omega⟩, rfl⟩
  · cases h
theorem codes_inv : ∀ {ds : List D}, (∀ d ∈ ds, codeB R W d = true) → ∃ ks : List Co, ds = ks.map coD ∧ ∀ c ∈ ks, OkC R W c
  | [], _ => ⟨[], rfl, fun c h => nomatch h⟩
  | d :: ds, h => by
    obtain ⟨c, hc, e⟩ := code_inv (h d (List.mem_cons_self ..))
    obtain ⟨ks, ek, hk⟩ := codes_inv (ds := ds) fun x hx => h x (List.mem_cons_of_mem _ hx)
    refine ⟨c :: ks, by rw [e, ek]; rfl, fun x hx => ?_⟩
    (rcases List.mem_cons.mp hx with rfl | hx)
    · exact hc
    · exact hk x hx
def picsR (R W : Nat) : De → List Co → List C.Pic
  | _, [] => []
  | x, c :: cs => (x.step R W c).A :: picsR R W (x.step R W c) cs
theorem picsR_map : ∀ (cs : List Co) (x : De), pics R W x cs = (picsR R W x cs).map textD
  | [], _ => rfl
  | c :: cs, x => congrArg (_ :: ·) (picsR_map cs _)
theorem picsR_len : ∀ (cs : List Co) (x : De), (picsR R W x cs).length = cs.length
  | [], _ => rfl
  | c :: cs, x => congrArg (· + 1) (picsR_len cs _)
theorem picsR_mem (o : OkS (R : Int) (W : Int)) : ∀ (cs : List Co) (x : De), x.Ok R W → (∀ c ∈ cs, OkC R W c) → ∀ p ∈ picsR R W x cs, Mem (R : Int) (W : Int) p
  | [], _, _, _, p, hp => nomatch hp
  | c :: cs, x, h, hc, p, hp => by
    have h1 := h.step o (hc c (List.mem_cons_self ..))
    rcases List.mem_cons.mp hp with rfl | z
    · exact h1.A
    · exact picsR_mem o cs _ h1 (fun c hc' => hc c (List.mem_cons_of_mem _ hc')) p z
def allB (R W : Nat) (d : D) : Bool := match d with
  | .tuple ds => ds.all (codeB R W)
  | _ => false
theorem dx_are_codes {N : Nat} (f : Fn n d) (hl : ∀ ds, d = .tuple ds → ds.length ≤ 1000) (h : P (.bool (tupB d N N && allB R W d)) 0) : r_are_codes [.d (scr R W), .d d, .d (.int (N : Int)), .d (.int (N : Int))] m P := by
  refine ⟨rfl, rfl, d_is_tuple ?_⟩
  cases z : tupB d N N with
  | false =>
    rw [z, Bool.false_and] at h
    exact ⟨hd_d, h⟩
  | true =>
    rw [z, Bool.true_and] at h
    cases f with
    | tup n ds hd hl2 =>
      refine ⟨by omega, ⟨by simp, fun j hj => by simp at hj; subst hj; rfl⟩, ?_⟩
      refine lcL_map (ρ := [.im (scr R W), .im (.tuple ds), .im (.int (N : Int)), .im (.int (N : Int)), .no]) (fun d => .bool (codeB R W d)) ds [] ?_ ?_
      · exact fun x mx Q hQ => ⟨rfl, rfl, d_code_of (hd x mx) (hQ _ rfl)⟩
      · rw [List.nil_append]
        refine ⟨_, bools_map _ _, ?_⟩
        rw [List.all_map]
        exact ⟨hd_d, h⟩
    | _ => cases z
theorem eqvText : ∀ a b : List (List Nat), PyData.eqv (textD a) (textD b) = decide (a = b) := by
  intro a b
  unfold textD
  simp only [PyData.eqv]
  induction a generalizing b with
  | nil => cases b <;> simp [PyData.eqvAll]
  | cons x a ih =>
    cases b with
    | nil => simp [PyData.eqvAll]
    | cons y b =>
      show (PyData.eqv (lineD x) (lineD y) && PyData.eqvAll (a.map lineD) (b.map lineD)) = _
      rw [ih b]
      show (PyData.eqv (.str (S x)) (.str (S y)) && _) = _
      rw [eqS, S_eqb]
      by_cases h1 : x = y
      · by_cases h2 : a = b
        · simp [h1, h2]
        · simp [h1, h2]
      · simp [h1]
theorem eqvTexts : ∀ ps qs : List C.Pic, PyData.eqv (.list (ps.map textD)) (.list (qs.map textD)) = decide (ps = qs) := by
  intro ps qs
  simp only [PyData.eqv]
  induction ps generalizing qs with
  | nil => cases qs <;> simp [PyData.eqvAll]
  | cons x a ih =>
    cases qs with
    | nil => simp [PyData.eqvAll]
    | cons y b =>
      show (PyData.eqv (textD x) (textD y) && PyData.eqvAll (a.map textD) (b.map textD)) = _
      rw [ih b, eqvText]
      by_cases h1 : x = y
      · by_cases h2 : a = b
        · simp [h1, h2]
        · simp [h1, h2]
      · simp [h1]
end
end Q23
namespace Q23.C
open PySem L2 DL
section
variable {R W m n : Nat} {P : D → Nat → Prop} {d : D}
/-- the frames that cues ask for -/
def many (cs : List Cu) : Nat := match cs.getLast? with
  | none => 0
  | some l => (l.e + 1).toNat
def sendsP (R W : Nat) (cs : List Cu) (d : D) : Prop := ∃ ks : List Co, d = .tuple (ks.map coD) ∧ (∀ c ∈ ks, OkC R W c) ∧ ks.length = many cs ∧ picsR R W (bl0 R W) ks = shL R W cs (many cs)
theorem many_last {pre : List Cu} {l : Cu} : many (pre ++ [l]) = (l.e + 1).toNat := by
  unfold many
  rw [List.getLast?_concat]
theorem tupB_len {ds : List D} {N : Nat} (h : tupB (.tuple ds) N N = true) : ds.length = N := by
  have h : (decide ((N : Int) ≤ (ds.length : Int)) && decide ((ds.length : Int) ≤ (N : Int))) = true := h
  rw [Bool.and_eq_true, decide_eq_true_eq, decide_eq_true_eq] at h
  omega
theorem sends_B (o : OkS (R : Int) (W : Int)) {cs : List Cu} (h : sendsP R W cs d) : (tupB d (many cs) (many cs) && allB R W d) = true := by
  obtain ⟨ks, rfl, hk, hl, _⟩ := h
  have e1 : tupB (.tuple (ks.map coD)) (many cs) (many cs) = true := by
    show (decide (((many cs : Nat) : Int) ≤ ((ks.map coD).length : Int)) && decide (((ks.map coD).length : Int) ≤ ((many cs : Nat) : Int))) = true
    rw [List.length_map, hl]
    simp
  have e2 : allB R W (.tuple (ks.map coD)) = true := by
    show (ks.map coD).all (codeB R W) = true
    rw [List.all_map, List.all_eq_true]
    exact fun c mc => (co_ok o (hk c mc)).2
  rw [e1, e2]
  rfl
theorem blank_told (n : Nat) : (List.replicate ((n : Int)).toNat [textD (List.replicate R (blRow W))]).flatten = ((List.range n).map (shAt R W [])).map textD := by
  rw [Int.toNat_natCast, List.flatten_replicate_singleton, List.map_map]
  refine List.ext_getElem? fun i => ?_
  rw [List.getElem?_map]
  by_cases z : i < n
  · rw [List.getElem?_replicate, if_pos z, List.getElem?_range z]
    rfl
  · rw [List.getElem?_replicate, if_neg z, List.getElem?_eq_none_iff.mpr (by rw [List.length_range]; omega)]
    rfl
theorem pics_fn (o : OkS (R : Int) (W : Int)) {ks : List Co} (hk : ∀ c ∈ ks, OkC R W c) (hl : ks.length ≤ 1000) : okD (.list ((picsR R W (bl0 R W) ks).map textD)) := by
  refine Fn.ok (.lst 1 _ (fun y hy => ?_) (by rw [List.length_map, picsR_len]; exact hl)) (by omega)
  obtain ⟨p, hp, rfl⟩ := List.mem_map.mp hy
  exact mem_fn o (picsR_mem o ks _ (bl0_ok o) hk p hp)
theorem co_one {a b : Co} (h : coD a = coD b) : a = b := by
  have k1 : ¬ ("put" : Str) = "roll" := by decide +kernel
  cases a <;> cases b <;> simp_all [coD] <;> omega
theorem co_inj : ∀ {a b : List Co}, a.map coD = b.map coD → a = b
  | [], [], _ => rfl
  | [], b :: bs, h => by cases h
  | a :: as, [], h => by cases h
  | a :: as, b :: bs, h => by
    (rw [List.map_cons, List.map_cons] at h)
    injection h with h1 h2
    rw [co_one h1, co_inj h2]
theorem d_sends_g (o : OkS (R : Int) (W : Int)) {cs : List Cu} (gl : GL 0 cs) (hg : ∀ c ∈ cs, GC (R : Int) (W : Int) c) (f : Fn n d) (hm : many cs ≤ 1000) (h1 : sendsP R W cs d → P (.bool true) 0) (h2 : ¬ sendsP R W cs d → P (.bool false) 0) : r__sends [.d (scr R W), .d (cuesD cs), .d d] m P := by
  have tx : ∀ c ∈ cs, Text (R : Int) (W : Int) c.t := fun c hc => (hg c hc).t.tx
  have rest : ∀ E : DE, (∀ ρ : DL.Env, ρ[0]? = some (.im (scr R W)) → ∀ v, P v 0 → E.rt v ρ) → (∀ c ∈ cs, c.e ≤ ((many cs : Nat) : Int)) →
      sSeq (sIf (bNot (bTruth (hV (dCall 4 r_are_codes (aCons (dV 0) (aCons (dV 2) (aCons (dV 3) (aCons (dV 3) (aNil))))))))) (sRet (dC (.bool false))) (sNo)) (sSeq (sSetN 4 (dRep (dLst (lCons (dCall 1 r_blank (aCons (dV 0) (aNil))) (lNil))) (dV 3))) (sSeq (sFor (iSeq (dV 1)) (gTupT 3 (gConsT (gN 5) (gConsT (gN 6) (gConsT (gN 7) (gNoT))))) tdB) (sRet (d2 gEq (hV (dCB gList (DL.gCons (hV (dCall 2 r_pictures (aCons (dV 0) (aCons (dV 2) (aNil))))) (DL.gNil)))) (hS 4)))))
        E [.im (scr R W), .im (cuesD cs), .im d, .im (.int ((many cs : Nat) : Int)), .no, .no, .no, .no] := by
    intro E hE he
    refine ⟨rfl, rfl, dx_are_codes f (fun ds e => by rw [e] at f; exact f.items.2) ?_⟩
    cases z : (tupB d (many cs) (many cs) && allB R W d) with
    | false => exact hE _ rfl _ (h2 fun s => by rw [sends_B o s] at z; cases z)
    | true =>
      rw [Bool.and_eq_true] at z
      obtain ⟨z1, z2⟩ := z
      cases f with
      | tup n ds hd hl =>
        have hN := tupB_len z1
        obtain ⟨ks, rfl, hk⟩ := codes_inv (R := R) (W := W) (ds := ds) (List.all_eq_true.mp z2)
        rw [List.length_map] at hN
        refine ⟨rfl, rfl, d_blank o ?_⟩
        refine ⟨by show 1 ≤ 1000000; omega, ?_⟩
        show -(2 ^ 63) ≤ ((many cs : Nat) : Int) ∧ ((many cs : Nat) : Int) < 2 ^ 63 ∧ 1 * (((many cs : Nat) : Int)).toNat ≤ 1000000 ∧ _
        refine ⟨by omega, by omega, by omega, ?_⟩
        have key := td_loop (R := R) (W := W) (s1 := .im (cuesD cs)) (s2 := .im (.tuple (ks.map coD))) (s3 := .im (.int ((many cs : Nat) : Int))) (N := many cs)
          (E := ⟨sRet (d2 gEq (hV (dCB gList (DL.gCons (hV (dCall 2 r_pictures (aCons (dV 0) (aCons (dV 2) (aNil))))) (DL.gNil)))) (hS 4)) E, E.rt, E.bk, E.ct⟩)
          o (by omega) cs [] 0 .no .no .no (Int.le_refl _) gl (fun x hx => nomatch hx) (fun c hc => ⟨tx c hc, he c hc⟩) (fun s5 s6 s7 => by
            refine ⟨rfl, rfl, d_pictures o hk (by omega) ?_⟩
            rw [picsR_map]
            refine ⟨trivial, pics_fn o hk (by omega), okL_list o tx hm, ?_⟩
            show E.rt (.bool (PyData.eqv (.list ((picsR R W (bl0 R W) ks).map textD)) (.list ((shL R W cs (many cs)).map textD)))) _
            rw [eqvTexts]
            by_cases q : picsR R W (bl0 R W) ks = shL R W cs (many cs)
            · rw [decide_eq_true q]
              exact hE _ rfl _ (h1 ⟨ks, rfl, hk, hN, q⟩)
            · rw [decide_eq_false q]
              refine hE _ rfl _ (h2 ?_)
              rintro ⟨ks', e, _, hl', q'⟩
              have e : ks.map coD = ks'.map coD := by
                injection e
              rw [co_inj e] at q
              exact q q')
        rw [← blank_told] at key
        exact key
      | _ => cases z1
  rcases List.eq_nil_or_concat cs with rfl | ⟨pre, l, rfl⟩
  · refine ⟨trivial, ?_⟩
    exact rest _ (fun ρ hρ v q => by
      show (match ρ[0]? with
        | some (Sl.ora m') => _
        | _ => _)
      rw [hρ]
      exact ⟨hd_d, q⟩) (fun c hc => nomatch hc)
  · rw [List.concat_eq_append] at *
    have hle := gl_last gl
    have gL := hg l (by simp)
    have b0 := gL.b0
    have be := gL.be
    have hm2 : ((many (pre ++ [l]) : Nat) : Int) = l.e + 1 := by
      rw [many_last]
      omega
    have ht : truD (cuesD (pre ++ [l])) = true := by
      unfold cuesD truD
      simp
    have hlast : atI ((pre ++ [l]).map Cu.d) (-1) = some l.d := by
      rw [List.map_append]
      exact atI_last
    refine ⟨trivial, ?_⟩
    show (if truD (cuesD (pre ++ [l])) = true then _ else _)
    rw [ht, if_pos rfl]
    refine ⟨trivial, _, hlast, _, rfl, ?_⟩
    rw [hm2] at rest
    exact rest _ (fun ρ hρ v q => by
      show (match ρ[0]? with
        | some (Sl.ora m') => _
        | _ => _)
      rw [hρ]
      exact ⟨hd_d, q⟩) (fun c hc => by have := hle c hc; omega)
end
end Q23.C
namespace Q23.C
open PySem L2 DL
section
variable {R W m n : Nat} {P : D → Nat → Prop} {PX : Exn → Nat → Prop} {d : D}
def eP (z : Str) : Exn := ⟨"BadPaper", some ("part", .str z)⟩
/-- how a sheet looks -/
inductive Kd : D → Prop
  | stream (b : D) : Kd (.tuple [.str ("stream" : Str), b])
  | short (b : D) : Kd (.tuple [.str ("short" : Str), b])
def wordB (d : D) : Bool := match d with
  | .str w => (["stream", "short"] : List Str).any fun x => x == w
  | _ => false
theorem tup2_no {d : D} (h : ∀ a b, d ≠ .tuple [a, b]) : tupB d 2 2 = false := by
  unfold tupB
  split
  · rename_i ds
    rcases ds with _ | ⟨a, _ | ⟨b, _ | ⟨c, r⟩⟩⟩
    · rfl
    · rfl
    · exact absurd rfl (h a b)
    · simp
      omega
  · rfl
theorem dx_one_of {a : D} (h : P (.bool (wordB a)) 0) : r_is_one_of [.d a, .d (.tuple ((["stream", "short"] : List Str).map PyData.str))] m P := by
  cases a with
  | str s => exact d_one_of h
  | _ => exact ⟨trivial, _, kS _, hd_d, h⟩
theorem word_inv {a : D} (h : wordB a = true) : a = .str ("stream" : Str) ∨ a = .str ("short" : Str) := by
  cases a with
  | str s =>
    have h : ((("stream" : Str) == s) || ((("short" : Str) == s) || false)) = true := h
    rw [Bool.or_false, Bool.or_eq_true] at h
    rcases h with h | h
    · exact .inl (by have : ("stream" : Str) = s := by simpa using h
                     rw [this])
    · exact .inr (by have : ("short" : Str) = s := by simpa using h
                     rw [this])
  | _ => cases h
def shortP (cs : List Cu) (b : D) : Prop := ∃ j : Nat, b = .int (j : Int) ∧ short none 0 cs = some j
theorem x_check (o : OkS (R : Int) (W : Int)) {cs : List Cu} (gl : GL 0 cs) (hg : ∀ c ∈ cs, GC (R : Int) (W : Int) c) (hl : cs.length ≤ 200) (f : Fn n d) (hn : n ≤ 50) (hm : many cs ≤ 1000)
    (hF : ¬ Kd d → PX (eP "form") 0) (hS1 : ∀ b, d = .tuple [.str ("stream" : Str), b] → sendsP R W cs b → P (.str ("stream" : Str)) 0) (hS2 : ∀ b, d = .tuple [.str ("stream" : Str), b] → ¬ sendsP R W cs b → PX (eP "stream") 0)
    (hT1 : ∀ b, d = .tuple [.str ("short" : Str), b] → shortP cs b → P (.str ("short" : Str)) 0) (hT2 : ∀ b, d = .tuple [.str ("short" : Str), b] → ¬ shortP cs b → PX (eP "short") 0) :
    rx_check_send [.d (scr R W), .d (cuesD cs), .d d] m P PX := by
  refine ⟨rfl, rfl, d_need_cues o hl hg gl ?_⟩
  by_cases z : ∃ a b, d = .tuple [a, b]
  · obtain ⟨a, b, rfl⟩ := z
    obtain ⟨it, _⟩ := f.items
    have fb := it b (by simp)
    refine ⟨rfl, rfl, d_is_tuple ?_⟩
    refine ⟨trivial, _, rfl, by show 2 ≤ 1000000; omega, rfl, rfl, dx_one_of ?_⟩
    cases y : wordB a with
    | false =>
      refine ⟨hd_d, hF ?_⟩
      intro k
      cases k with
      | stream => rw [show wordB (.str ("stream" : Str)) = true by decide +kernel] at y; cases y
      | short => rw [show wordB (.str ("short" : Str)) = true by decide +kernel] at y; cases y
    | true =>
      rcases word_inv y with rfl | rfl
      · refine ⟨rfl, rfl, ?_⟩
        refine ⟨trivial, okW2 _, okW2 _, ?_⟩
        show (if PyData.eqv (.str ("stream" : Str)) (.str ("stream" : Str)) = true then _ else _)
        rw [eqS, if_pos (by decide +kernel)]
        refine ⟨rfl, rfl, d_sends_g o gl hg fb hm (fun s => ?_) fun s => ?_⟩
        · refine ⟨trivial, okW2 _, okW2 _, ?_⟩
          show (if PyData.eqv (.str ("stream" : Str)) (.str ("short" : Str)) = true then _ else _)
          rw [eqS, if_neg (by decide +kernel)]
          exact ⟨hd_d, hS1 b rfl s⟩
        · exact ⟨hd_d, hS2 b rfl s⟩
      · refine ⟨rfl, rfl, ?_⟩
        refine ⟨trivial, okW2 _, okW2 _, ?_⟩
        show (if PyData.eqv (.str ("short" : Str)) (.str ("stream" : Str)) = true then _ else _)
        rw [eqS, if_neg (by decide +kernel)]
        refine ⟨trivial, okW2 _, okW2 _, ?_⟩
        show (if PyData.eqv (.str ("short" : Str)) (.str ("short" : Str)) = true then _ else _)
        rw [eqS, if_pos (by decide +kernel)]
        refine ⟨rfl, rfl, d_is_integer ?_⟩
        cases q : isI b with
        | false =>
          refine ⟨hd_d, hT2 b rfl ?_⟩
          rintro ⟨j, rfl, _⟩
          cases q
        | true =>
          cases b with
          | int i =>
            refine ⟨trivial, rfl, rfl, d_short (r := R) (w := W) (fun c hc => (hg c hc).t) ?_⟩
            cases hs : short none 0 cs with
            | none =>
              refine ⟨okI _, rfl, ?_⟩
              show (if (!PyData.eqv (.int i) .none) = true then _ else _)
              rw [show PyData.eqv (.int i) .none = false by simp [PyData.eqv], if_pos (by decide)]
              refine ⟨hd_d, hT2 _ rfl ?_⟩
              rintro ⟨j, _, h⟩
              rw [hs] at h
              cases h
            | some j =>
              refine ⟨okI _, okI _, ?_⟩
              show (if (!PyData.eqv (.int i) (.int (j : Int))) = true then _ else _)
              rw [eqI]
              by_cases e : i = (j : Int)
              · rw [decide_eq_true e, if_neg (by decide)]
                exact ⟨hd_d, hT1 _ rfl ⟨j, by rw [e], hs⟩⟩
              · rw [decide_eq_false e, if_pos (by decide)]
                refine ⟨hd_d, hT2 _ rfl ?_⟩
                rintro ⟨j', e', h⟩
                rw [hs] at h
                cases h
                injection e' with e'
                exact e e'
          | _ => cases q
  · have z : ∀ a b, d ≠ .tuple [a, b] := fun a b e => z ⟨a, b, e⟩
    refine ⟨rfl, rfl, d_is_tuple ?_⟩
    rw [tup2_no z]
    refine ⟨hd_d, hF ?_⟩
    intro k
    cases k with
    | stream b => exact z _ _ rfl
    | short b => exact z _ _ rfl
end
end Q23.C
namespace Q23.C
open PySem L2 DL
section
variable {R W m n : Nat} {P : D → Nat → Prop} {d : D}
def lsB : SM := (sSeq (sSet 4 (dCall 3 s__law_stepped (aCons (dV 0) (aCons (dV 4) (aCons (dV 6) (aNil)))))) (sIf (bD (d2 gNe (hV (d2 gIx (hV (dCall 1 r__law_told (aCons (dV 4) (aNil)))) (hV (dC (.int 3))))) (hV (dCall 3 r__law_shown (aCons (dV 0) (aCons (dV 1) (aCons (dV 5) (aNil)))))))) (sRet (dC (.bool false))) (sNo)))
theorem ls_loop {E : DE} (o : OkS (R : Int) (W : Int)) {cs : List Cu} (tx : ∀ c ∈ cs, Text (R : Int) (W : Int) c.t) {s2 s3 : Sl} {Y N : Prop} (hY : Y → ∀ s4 s5 s6, E.nx [.im (scr R W), .im (cuesD cs), s2, s3, s4, s5, s6]) (hN : N → ∀ ρ : DL.Env, ρ[0]? = some (.im (scr R W)) → E.rt (.bool false) ρ) :
    ∀ (ks : List Co) (x : De) (k : Nat) (s5 s6 : Sl), x.Ok R W → (∀ c ∈ ks, OkC R W c) → (picsR R W x ks = (List.range' k ks.length).map (shAt R W cs) → Y) → (picsR R W x ks ≠ (List.range' k ks.length).map (shAt R W cs) → N) →
    forL (gTupT 2 (gConsT (gN 5) (gConsT (gN 6) (gNoT)))) lsB E (enF k (ks.map coD)) [.im (scr R W), .im (cuesD cs), s2, s3, .im x.l, s5, s6]
  | [], x, k, s5, s6, _, _, y, _ => hY (y rfl) _ _ _
  | c :: ks, x, k, s5, s6, h, hc, y, nn => by
    have h1 := hc c (List.mem_cons_self ..)
    have hs := h.step o h1
    refine ⟨rfl, rfl, ?_⟩
    refine ⟨rfl, rfl, d_lstep o h h1 ?_⟩
    refine ⟨rfl, rfl, d_told' o hs ?_⟩
    refine ⟨_, rfl, rfl, rfl, d_law_shown (f := k) o tx ?_⟩
    have ok1 : okD (textD (x.step R W c).A) := (mem_fn o hs.A).ok (by omega)
    have ok2 : okD (textD (shAt R W cs k)) := (mem_fn o (sh_mem o tx k)).ok (by omega)
    refine ⟨ok1, ok2, ?_⟩
    show (if (!PyData.eqv (textD (x.step R W c).A) (textD (shAt R W cs k))) = true then _ else _)
    rw [eqvText]
    have e0 : picsR R W x (c :: ks) = (x.step R W c).A :: picsR R W (x.step R W c) ks := rfl
    have e1 : (List.range' k (c :: ks).length).map (shAt R W cs) = shAt R W cs k :: (List.range' (k + 1) ks.length).map (shAt R W cs) := by
      rw [List.length_cons, List.range'_succ]
      rfl
    rw [e0, e1] at y nn
    by_cases z : (x.step R W c).A = shAt R W cs k
    · rw [decide_eq_true z, if_neg (by decide)]
      refine ls_loop o tx hY hN ks (x.step R W c) (k + 1) _ _ hs (fun c hc' => hc c (List.mem_cons_of_mem _ hc')) (fun e => y (by rw [z, e])) (fun e => nn fun e' => e ?_)
      injection e'
    · rw [decide_eq_false z, if_pos (by decide)]
      refine hN (nn fun e' => z ?_) _ rfl
      injection e'
theorem d_does_send (o : OkS (R : Int) (W : Int)) {cs : List Cu} (gl : GL 0 cs) (hg : ∀ c ∈ cs, GC (R : Int) (W : Int) c) (hlc : cs.length ≤ 200) (f : Fn n d) (hn : n ≤ 50) (hm : many cs ≤ 1000) (h1 : sendsP R W cs d → P (.bool true) 0) (h2 : ¬ sendsP R W cs d → P (.bool false) 0) : r__law_does_send [.d (scr R W), .d (cuesD cs), .d d] m P := by
  have tx : ∀ c ∈ cs, Text (R : Int) (W : Int) c.t := fun c hc => (hg c hc).t.tx
  have oc : okD (cuesD cs) := (cues_fn hg (by omega)).ok (by omega)
  have on : okD (PyData.tuple []) := rfl
  have rest : ∀ E : DE, (∀ ρ : DL.Env, ρ[0]? = some (.im (scr R W)) → ∀ v, P v 0 → E.rt v ρ) →
      sSeq (sIf (bOr (bNot (bTruth (hV (dIsi "tuple" (hS 2))))) (bD (d2 gNe (hV (dCB gLen (DL.gCons (hS 2) (DL.gNil)))) (hS 3)))) (sRet (dC (.bool false))) (sNo)) (sSeq (sIf (bD (d2 gNe (hV (dLc (iSeq (dV 2)) (gN 6) (bNot (bTruth (hV (dCall 2 r_is_code (aCons (dV 0) (aCons (dV 6) (aNil))))))) (dV 6) [6])) (hV (dLst (lNil))))) (sRet (dC (.bool false))) (sNo)) (sSeq (sSet 4 (dCall 1 r__law_first (aCons (dV 0) (aNil)))) (sSeq (sFor (iEn (lCons (dV 2) (lNil))) (gTupT 2 (gConsT (gN 5) (gConsT (gN 6) (gNoT)))) lsB) (sRet (dC (.bool true))))))
        E [.im (scr R W), .im (cuesD cs), .im d, .im (.int ((many cs : Nat) : Int)), .no, .no, .no] := by
    intro E hE
    cases f with
    | tup n ds hd hl =>
      have hl1 : ds.length ≤ 1000000 := by omega
      refine ⟨trivial, _, kT _, trivial, trivial, okI _, okI _, ?_⟩
      show (if (!PyData.eqv (.int (ds.length : Int)) (.int ((many cs : Nat) : Int))) = true then _ else _)
      rw [eqI]
      by_cases z : (ds.length : Int) = ((many cs : Nat) : Int)
      · rw [decide_eq_true z, if_neg (by decide)]
        have hN : ds.length = many cs := by omega
        refine ⟨by omega, ⟨by simp, fun j hj => by simp at hj; subst hj; rfl⟩, ?_⟩
        refine lcL_filt (ρ := [.im (scr R W), .im (cuesD cs), .im (.tuple ds), .im (.int ((many cs : Nat) : Int)), .no, .no, .no]) (fun y => !codeB R W y) id ds [] ?_ ?_
        · intro y my Q R2 hQ hR
          refine ⟨rfl, rfl, ?_⟩
          refine ⟨rfl, rfl, d_need_screen o ?_⟩
          refine ⟨rfl, rfl, d_code_of (hd y my) ?_⟩
          cases q : codeB R W y with
          | false => exact ⟨hd_d, hQ (by rw [q]; rfl) _ rfl⟩
          | true => exact ⟨hd_d, hR (by rw [q]; rfl) _ rfl⟩
        · rw [List.nil_append, List.map_id]
          have fl : (ds.filter fun y => !codeB R W y).length ≤ 1000 := Nat.le_trans (List.length_filter_le _ _) hl
          have okl : okD (.list (ds.filter fun y => !codeB R W y)) := Fn.ok (.lst n _ (fun y hy => hd y (List.mem_filter.mp hy).1) fl) (by omega)
          refine ⟨by show 0 ≤ 1000000; omega, okl, rfl, ?_⟩
          show (if (!PyData.eqv (.list (ds.filter fun y => !codeB R W y)) (.list [])) = true then _ else _)
          rw [parts_eqv]
          by_cases q : (ds.filter fun y => !codeB R W y) = []
          · rw [decide_eq_true q, if_neg (by decide)]
            have hb : ∀ y ∈ ds, codeB R W y = true := fun y hy => by
              have := List.filter_eq_nil_iff.mp q y hy
              simpa using this
            obtain ⟨ks, rfl, hk⟩ := codes_inv hb
            rw [List.length_map] at hN
            refine ⟨rfl, rfl, d_law_first o ?_⟩
            show forL _ lsB _ (enD (ks.map coD)) _
            rw [en_eq]
            have er : (List.range' 0 ks.length).map (shAt R W cs) = shL R W cs (many cs) := by
              unfold shL
              rw [hN, List.range_eq_range']
            refine ls_loop o tx (Y := sendsP R W cs (.tuple (ks.map coD))) (N := ¬ sendsP R W cs (.tuple (ks.map coD))) ?_ ?_ ks (bl0 R W) 0 _ _ (bl0_ok o) hk (fun e => ⟨ks, rfl, hk, hN, by rw [e, er]⟩) fun e => ?_
            · exact fun y s4 s5 s6 => hE _ rfl _ (h1 y)
            · exact fun nn ρ hρ => hE _ hρ _ (h2 nn)
            rintro ⟨ks', e', _, _, q'⟩
            have e' : ks.map coD = ks'.map coD := by injection e'
            rw [← co_inj e'] at q'
            exact e (by rw [q', er])
          · rw [decide_eq_false q, if_pos (by decide)]
            refine hE _ rfl _ (h2 ?_)
            rintro ⟨ks, e, hk, _, _⟩
            injection e with e
            subst e
            refine q (List.filter_eq_nil_iff.mpr fun y hy => ?_)
            obtain ⟨c, mc, rfl⟩ := List.mem_map.mp hy
            rw [(co_ok o (hk c mc)).2]
            simp
      · rw [decide_eq_false z, if_pos (by decide)]
        refine hE _ rfl _ (h2 ?_)
        rintro ⟨ks, e, hk, hl2, _⟩
        injection e with e
        subst e
        rw [List.length_map, hl2] at z
        exact z rfl
    | _ =>
      refine ⟨trivial, _, kT _, ?_⟩
      refine hE _ rfl _ (h2 ?_)
      rintro ⟨ks, e, _⟩
      cases e
  rcases List.eq_nil_or_concat cs with rfl | ⟨pre, l, rfl⟩
  · refine ⟨trivial, by show 0 ≤ 1000000; omega, oc, on, ?_⟩
    show (if (!PyData.eqv (.tuple []) (.tuple [])) = true then _ else _)
    rw [tup_nil, if_neg (by simp)]
    exact rest _ (fun ρ hρ v q => by
      show (match ρ[0]? with
        | some (Sl.ora m') => _
        | _ => _)
      rw [hρ]
      exact ⟨hd_d, q⟩)
  · rw [List.concat_eq_append] at *
    have gL := hg l (by simp)
    have b0 := gL.b0
    have be := gL.be
    have hm2 : ((many (pre ++ [l]) : Nat) : Int) = l.e + 1 := by
      rw [many_last]
      omega
    have hlast : atI ((pre ++ [l]).map Cu.d) (-1) = some l.d := by
      rw [List.map_append]
      exact atI_last
    refine ⟨trivial, by show 0 ≤ 1000000; omega, oc, on, ?_⟩
    show (if (!PyData.eqv (.tuple ((pre ++ [l]).map Cu.d)) (.tuple [])) = true then _ else _)
    rw [tup_nil, if_pos (by simp)]
    refine ⟨trivial, _, hlast, _, rfl, ?_⟩
    rw [hm2] at rest
    exact rest _ (fun ρ hρ v q => by
      show (match ρ[0]? with
        | some (Sl.ora m') => _
        | _ => _)
      rw [hρ]
      exact ⟨hd_d, q⟩)
end
end Q23.C
namespace Q23.C
open PySem L2 DL
section
variable {R W m n : Nat} {P : D → Nat → Prop} {d : D}
/-- what may stand behind 'short' -/
inductive ShB : D → Prop
  | non : ShB .none
  | int (i : Int) (h0 : -1 ≤ i) (h1 : i ≤ 10) : ShB (.int i)
  | bl : ShB (.bool true)
  | x : ShB (.str ("x" : Str))
  | nil : ShB (.list [])
  | tup (ds : List D) (h : okR (.tuple ds)) : ShB (.tuple ds)
theorem tup_hd (ds : List D) : (PyData.tuple ds).shown.cps.toList.head? = some 40 := by
  rw [PyData.shown_tuple, Str.append_assoc, Str.cps_append, Array.toList_append, List.head?_append]
  rfl
theorem num_hd : ∀ j : Nat, j < 11 → (PyData.shown (.int (j : Int))).cps.toList.head? ≠ some 40 := by decide +kernel
theorem num_inj : ∀ j : Nat, j < 11 → ∀ k : Nat, k < 11 → PyData.shown (.int (j : Int)) = PyData.shown (.int (k : Int)) → j = k := by decide +kernel
theorem num_neg : ∀ j : Nat, j < 11 → PyData.shown (.int (-1)) ≠ PyData.shown (.int (j : Int)) := by decide +kernel
theorem num_tr : ∀ j : Nat, j < 11 → PyData.shown (.bool true) ≠ PyData.shown (.int (j : Int)) ∧ reprText ("x" : Str) ≠ PyData.shown (.int (j : Int)) ∧ PyData.shown (.list []) ≠ PyData.shown (.int (j : Int)) ∧ PyData.shown .none ≠ PyData.shown (.int (j : Int)) := by decide +kernel
def shR (s : Option Nat) : D := match s with
  | none => .none
  | some j => .int (j : Int)
theorem shU_shown : ∀ d : D, shU d = PyData.shown d
  | .none => rfl
  | .bool true => rfl
  | .bool false => rfl
  | .int _ => rfl
  | .str _ => rfl
  | .list _ => rfl
  | .tuple _ => rfl
  | .dict _ => rfl
theorem okU_int {i : Int} (h0 : -1 ≤ i) (h1 : i ≤ 10) : okU (.int i) := by
  show i.natAbs.log2 < 1920
  by_cases z : i.natAbs = 0
  · rw [z]
    decide
  · have : i.natAbs.log2 < 14 := (Nat.log2_lt z).mpr (by omega)
    omega
theorem ShB.ok {b : D} (h : ShB b) : okU b := by
  cases h with
  | non => trivial
  | int i h0 h1 => exact okU_int h0 h1
  | bl => trivial
  | x => show (reprText ("x" : Str)).length ≤ 1000000; decide +kernel
  | nil => exact ⟨by decide +kernel, by decide +kernel, by decide +kernel, by decide +kernel⟩
  | tup ds h => exact h
theorem ShB.rep {b : D} (h : ShB b) (hb : b ≠ .none) {s : Option Nat} (hs : ∀ j, s = some j → j ≤ 10) : (shU b = shU (shR s)) ↔ ∃ j : Nat, b = .int (j : Int) ∧ s = some j := by
  rw [shU_shown, shU_shown]
  have non : ∀ j : Nat, j < 11 → PyData.shown (.int (j : Int)) ≠ PyData.shown .none := fun j hj e => (num_tr j hj).2.2.2 e.symm
  constructor
  · intro e
    cases s with
    | none =>
      exfalso
      have e : PyData.shown b = PyData.shown .none := e
      cases h with
      | non => exact hb rfl
      | int i h0 h1 =>
        by_cases z : i = -1
        · subst z
          revert e
          decide +kernel
        · obtain ⟨k, rfl⟩ : ∃ k : Nat, i = k := ⟨i.toNat, by omega⟩
          exact non k (by omega) e
      | bl => revert e; decide +kernel
      | x => revert e; decide +kernel
      | nil => revert e; decide +kernel
      | tup ds _ =>
        have := tup_hd ds
        rw [e] at this
        revert this
        decide +kernel
    | some j =>
      have hj : j < 11 := by have := hs j rfl; omega
      have e : PyData.shown b = PyData.shown (.int (j : Int)) := e
      cases h with
      | non => exact absurd rfl hb
      | int i h0 h1 =>
        by_cases z : i = -1
        · subst z
          exact absurd e (num_neg j hj)
        · obtain ⟨k, rfl⟩ : ∃ k : Nat, i = k := ⟨i.toNat, by omega⟩
          have := num_inj k (by omega) j hj e
          exact ⟨j, by rw [this], rfl⟩
      | bl => exact absurd e (num_tr j hj).1
      | x => exact absurd e (num_tr j hj).2.1
      | nil => exact absurd e (num_tr j hj).2.2.1
      | tup ds _ =>
        have := tup_hd ds
        rw [e] at this
        exact absurd this (num_hd j hj)
  · rintro ⟨j, rfl, rfl⟩
    rfl
theorem short_le : ∀ (cs : List Cu) (a : Option Cu) (k j : Nat), short a k cs = some j → j < k + cs.length := by
  intro cs
  induction cs with
  | nil => exact fun a k j h => by cases h
  | cons c cs ih =>
    intro a k j h
    unfold short at h
    rw [List.length_cons]
    split at h
    · cases h
      omega
    · have := ih _ _ _ h
      omega
def lst1 (s : Str) : D := .list [.str s]
open Classical in
noncomputable def verd (R W : Nat) (cs : List Cu) (d : D) : D :=
  if (∃ b, d = .tuple [.str ("stream" : Str), b]) then (if (∃ b, d = .tuple [.str ("stream" : Str), b] ∧ sendsP R W cs b) then .str ("stream" : Str) else lst1 "stream")
  else if (∃ b, d = .tuple [.str ("short" : Str), b]) then (if (∃ b, d = .tuple [.str ("short" : Str), b] ∧ shortP cs b) then .str ("short" : Str) else lst1 "short")
  else lst1 "form"
theorem ss_ne : ("stream" : Str) ≠ ("short" : Str) := by decide +kernel
theorem vd_form (h : ¬ Kd d) {cs : List Cu} : verd R W cs d = lst1 "form" := by
  unfold verd
  rw [if_neg (fun ⟨b, e⟩ => h (by rw [e]; exact .stream b)), if_neg (fun ⟨b, e⟩ => h (by rw [e]; exact .short b))]
theorem vd_s1 {b : D} {cs : List Cu} (h : sendsP R W cs b) : verd R W cs (.tuple [.str ("stream" : Str), b]) = .str ("stream" : Str) := by
  unfold verd
  rw [if_pos ⟨b, rfl⟩, if_pos ⟨b, rfl, h⟩]
theorem vd_s2 {b : D} {cs : List Cu} (h : ¬ sendsP R W cs b) : verd R W cs (.tuple [.str ("stream" : Str), b]) = lst1 "stream" := by
  unfold verd
  rw [if_pos ⟨b, rfl⟩, if_neg]
  rintro ⟨b', e, q⟩
  cases e
  exact h q
theorem vd_t0 {b : D} : ¬ ∃ b', PyData.tuple [.str ("short" : Str), b] = .tuple [.str ("stream" : Str), b'] := by
  rintro ⟨b', e⟩
  injection e with e
  injection e with e1 _
  injection e1 with e2
  exact ss_ne e2.symm
theorem vd_t1 {b : D} {cs : List Cu} (h : shortP cs b) : verd R W cs (.tuple [.str ("short" : Str), b]) = .str ("short" : Str) := by
  unfold verd
  rw [if_neg vd_t0, if_pos ⟨b, rfl⟩, if_pos ⟨b, rfl, h⟩]
theorem vd_t2 {b : D} {cs : List Cu} (h : ¬ shortP cs b) : verd R W cs (.tuple [.str ("short" : Str), b]) = lst1 "short" := by
  unfold verd
  rw [if_neg vd_t0, if_pos ⟨b, rfl⟩, if_neg]
  rintro ⟨b', e, q⟩
  cases e
  exact h q
theorem vd_ok {cs : List Cu} : okU (verd R W cs d) := by
  unfold verd
  split
  · split
    · show (reprText ("stream" : Str)).length ≤ 1000000; decide +kernel
    · exact ⟨by decide +kernel, by decide +kernel, by decide +kernel, by decide +kernel⟩
  · split
    · split
      · show (reprText ("short" : Str)).length ≤ 1000000; decide +kernel
      · exact ⟨by decide +kernel, by decide +kernel, by decide +kernel, by decide +kernel⟩
    · exact ⟨by decide +kernel, by decide +kernel, by decide +kernel, by decide +kernel⟩
theorem d_outcome (o : OkS (R : Int) (W : Int)) {cs : List Cu} (gl : GL 0 cs) (hg : ∀ c ∈ cs, GC (R : Int) (W : Int) c) (hl : cs.length ≤ 200) (f : Fn n d) (hn : n ≤ 50) (hm : many cs ≤ 1000) (k : P (verd R W cs d) 0) :
    r__law_outcome [.d (scr R W), .d (cuesD cs), .d d] m P := by
  refine ⟨rfl, rfl, x_check o gl hg hl f hn hm (fun h => ?_) (fun b e h => ?_) (fun b e h => ?_) (fun b e h => ?_) (fun b e h => ?_)⟩
  · rw [vd_form h] at k
    exact ⟨rfl, by show 4 < 5; omega, _, rfl, hd_d, k⟩
  · subst e
    rw [vd_s1 h] at k
    exact ⟨hd_d, k⟩
  · subst e
    rw [vd_s2 h] at k
    exact ⟨rfl, by show 4 < 5; omega, _, rfl, hd_d, k⟩
  · subst e
    rw [vd_t1 h] at k
    exact ⟨hd_d, k⟩
  · subst e
    rw [vd_t2 h] at k
    exact ⟨rfl, by show 4 < 5; omega, _, rfl, hd_d, k⟩
theorem any_w {s : Str} (h : ((["stream", "short"] : List Str).any fun z => z == s) = true) : s = ("stream" : Str) ∨ s = ("short" : Str) := by
  have h : ((("stream" : Str) == s) || ((("short" : Str) == s) || false)) = true := h
  rw [Bool.or_false, Bool.or_eq_true] at h
  rcases h with h | h
  · exact .inl (eq_of_beq h).symm
  · exact .inr (eq_of_beq h).symm
theorem d_due (o : OkS (R : Int) (W : Int)) {cs : List Cu} (gl : GL 0 cs) (hg : ∀ c ∈ cs, GC (R : Int) (W : Int) c) (hl : cs.length ≤ 8) (f : Fn n d) (hn : n ≤ 50) (hm : many cs ≤ 1000) (sb : ∀ b, d = .tuple [.str ("short" : Str), b] → ShB b) (k : P (verd R W cs d) 0) :
    r__law_due [.d (scr R W), .d (cuesD cs), .d d] m P := by
  have form : ¬ Kd d → P (lst1 "form") 0 := fun h => by rw [vd_form h] at k; exact k
  cases f with
  | tup n ds hd hlen =>
    by_cases z : ds.length = 2
    · obtain ⟨a, b, rfl⟩ : ∃ a b, ds = [a, b] := by
        rcases ds with _ | ⟨a, _ | ⟨b, _ | ⟨c, r⟩⟩⟩
        · cases z
        · cases z
        · exact ⟨a, b, rfl⟩
        · simp at z
      have fa := hd a (by simp)
      have fb := hd b (by simp)
      refine ⟨trivial, _, kT _, trivial, okI _, okI _, ?_⟩
      show (if (!PyData.eqv (.int 2) (.int 2)) = true then _ else _)
      rw [eqI, if_neg (by decide)]
      cases fa with
      | str n s hsl hs =>
        refine ⟨trivial, _, rfl, _, kS _, ?_⟩
        refine ⟨trivial, _, rfl, by show 2 ≤ 1000000; omega, _, rfl, ?_⟩
        show (if (!((["stream", "short"] : List Str).any fun z => z == s)) = true then _ else _)
        cases y : (["stream", "short"] : List Str).any fun z => z == s with
        | false =>
          rw [if_pos (by decide)]
          refine ⟨by show 1 ≤ 1000000; omega, hd_d, form ?_⟩
          intro q
          cases q with
          | stream => revert y; decide +kernel
          | short => revert y; decide +kernel
        | true =>
          rw [if_neg (by decide)]
          rcases any_w y with rfl | rfl
          · refine ⟨trivial, _, rfl, okW2 _, okW2 _, ?_⟩
            show (if PyData.eqv (.str ("stream" : Str)) (.str ("stream" : Str)) = true then _ else _)
            rw [eqS, if_pos (by decide +kernel)]
            refine ⟨trivial, _, rfl, rfl, rfl, d_does_send o gl hg (by omega) fb (by omega) hm (fun s => ?_) fun s => ?_⟩
            · rw [vd_s1 s] at k
              exact ⟨hd_d, k⟩
            · rw [vd_s2 s] at k
              exact ⟨by show 1 ≤ 1000000; omega, hd_d, k⟩
          · refine ⟨trivial, _, rfl, okW2 _, okW2 _, ?_⟩
            show (if PyData.eqv (.str ("short" : Str)) (.str ("stream" : Str)) = true then _ else _)
            rw [eqS, if_neg (by decide +kernel)]
            have sB := sb b rfl
            have no : (¬ shortP cs b) → P (lst1 "short") 0 := fun q => by rw [vd_t2 q] at k; exact k
            have h1 : ∀ j, short none 0 cs = some j → j ≤ 10 := fun j e => by have := short_le cs none 0 j e; omega
            by_cases bn : b = .none
            · subst bn
              refine ⟨trivial, _, rfl, ?_⟩
              refine ⟨by show 1 ≤ 1000000; omega, hd_d, no ?_⟩
              rintro ⟨j, e, _⟩
              cases e
            · have rest : ∀ q : Bool, (q = true ↔ shortP cs b) → P (if q = true then .str ("short" : Str) else lst1 "short") 0 := fun q hq => by
                by_cases z : q = true
                · rw [if_pos z]
                  rw [vd_t1 (hq.mp z)] at k
                  exact k
                · rw [if_neg z]
                  exact no fun h => z (hq.mpr h)
              have key : ∀ s, short none 0 cs = s → (shU b = shU (shR s) ↔ shortP cs b) := fun s es => by
                rw [sB.rep bn (fun j e => h1 j (by rw [es, e]))]
                unfold shortP
                rw [es]
              have ib : isN b = false := by
                cases b with
                | none => exact absurd rfl bn
                | _ => rfl
              have fin : ∀ s, short none 0 cs = s → P (if decide (shU b = shU (shR s)) = true then .str ("short" : Str) else lst1 "short") 0 := fun s es => rest _ (by rw [decide_eq_true_iff]; exact key s es)
              have okb := sB.ok
              refine ⟨trivial, _, rfl, ?_⟩
              show (if (!isN b) = true then _ else _)
              rw [ib, if_pos (by decide)]
              refine ⟨trivial, _, rfl, okb, rfl, rfl, d_lshort (r := R) (w := W) (by omega) (fun c hc => (hg c hc).t) (fun hs => ?_) fun j hs => ?_⟩
              · have fin := fin _ hs
                refine ⟨trivial, ?_⟩
                show (if decide (shU b = shU (shR none)) = true then _ else _)
                by_cases z : decide (shU b = shU (shR none)) = true
                · rw [if_pos z] at fin ⊢
                  exact ⟨hd_d, fin⟩
                · rw [if_neg z] at fin ⊢
                  exact ⟨by show 1 ≤ 1000000; omega, hd_d, fin⟩
              · have fin := fin _ hs
                refine ⟨okU_int (by omega) (by have := h1 j hs; omega), ?_⟩
                show (if decide (shU b = shU (shR (some j))) = true then _ else _)
                by_cases z : decide (shU b = shU (shR (some j))) = true
                · rw [if_pos z] at fin ⊢
                  exact ⟨hd_d, fin⟩
                · rw [if_neg z] at fin ⊢
                  exact ⟨by show 1 ≤ 1000000; omega, hd_d, fin⟩
      | _ =>
        refine ⟨trivial, _, rfl, _, kS _, ?_⟩
        refine ⟨by show 1 ≤ 1000000; omega, hd_d, form ?_⟩
        intro q
        cases q
    · refine ⟨trivial, _, kT _, trivial, okI _, okI _, ?_⟩
      show (if (!PyData.eqv (.int (ds.length : Int)) (.int 2)) = true then _ else _)
      rw [eqI, decide_eq_false (by omega), if_pos (by decide)]
      refine ⟨by show 1 ≤ 1000000; omega, hd_d, form ?_⟩
      intro q
      cases q <;> exact z rfl
  | _ =>
    refine ⟨trivial, _, kT _, ?_⟩
    refine ⟨by show 1 ≤ 1000000; omega, hd_d, form ?_⟩
    intro q
    cases q
end
end Q23.C
namespace Q23.C
open PySem L2 DL
section
variable {R W m n : Nat} {P : D → Nat → Prop} {d : D} {E : DE} {s1 s2 s3 s4 s5 s6 s7 s8 : Sl}
/-- a sheet as the law draws them -/
structure Gd (d : D) : Prop where
  f : Fn 10 d
  sb : ∀ b, d = .tuple [.str ("short" : Str), b] → ShB b
structure Od (d : D) : Prop where
  f : Fn 1 d
  sb : ShB d
  ns : d ≠ .str ("short" : Str)
def oddL : List D := [.none, .int 0, .bool true, .tuple [], .str ("x" : Str), .int (-1), .list [], .tuple [.str ("idle" : Str)]]
theorem fIdle (s : Str) (h1 : s.length ≤ 1000 := by decide +kernel) (h2 : PyData.strOk s = true := by decide +kernel) : Fn 1 (.tuple [.str s]) := .tup 0 _ (fun d hd => by rw [List.mem_singleton.mp hd]; exact fW s h1 h2) (by show 1 ≤ 1000; omega)
theorem okR_dec (ds : List D) (h : (nod (.tuple ds) && (PyData.tuple ds).showable && decide ((PyData.tuple ds).depth ≤ 60) && decide ((PyData.tuple ds).shown.length ≤ 1000000)) = true) : okR (.tuple ds) := by
  (simp only [Bool.and_eq_true, decide_eq_true_eq] at h)
  exact ⟨h.1.1.1, h.1.1.2, h.1.2, h.2⟩
theorem odd_all : ∀ d ∈ oddL, Od d := by
  intro d hd
  unfold oddL at hd
  simp only [List.mem_cons, List.not_mem_nil, or_false] at hd
  rcases hd with rfl | rfl | rfl | rfl | rfl | rfl | rfl | rfl
  · exact ⟨.non _, .non, by intro h; cases h⟩
  · exact ⟨.int _ _, .int _ (by omega) (by omega), by intro h; cases h⟩
  · exact ⟨.bl _ _, .bl, by intro h; cases h⟩
  · exact ⟨.tup _ _ (fun y hy => nomatch hy) (Nat.zero_le _), .tup _ (okR_dec _ (by decide +kernel)), by intro h; cases h⟩
  · exact ⟨(fW _).mono (by omega), .x, fun h => by injection h with h; revert h; decide +kernel⟩
  · exact ⟨.int _ _, .int _ (by omega) (by omega), by intro h; cases h⟩
  · exact ⟨.lst _ _ (fun y hy => nomatch hy) (Nat.zero_le _), .nil, by intro h; cases h⟩
  · exact ⟨fIdle _, .tup _ (okR_dec _ (by decide +kernel)), by intro h; cases h⟩
theorem fn2 {a b : D} {k : Nat} (ha : Fn k a) (hb : Fn k b) : Fn (k + 1) (.tuple [a, b]) := .tup k _ (fun d hd => by
  simp at hd
  rcases hd with rfl | rfl
  · exact ha
  · exact hb) (by show 2 ≤ 1000; omega)
theorem gd_stream {b : D} (f : Fn 8 b) : Gd (.tuple [.str ("stream" : Str), b]) := ⟨(fn2 ((fW _).mono (by omega)) f).mono (by omega), fun c e => absurd ⟨b, e.symm⟩ vd_t0⟩
theorem gd_short {b : D} (f : Fn 8 b) (h : ShB b) : Gd (.tuple [.str ("short" : Str), b]) := ⟨(fn2 ((fW _).mono (by omega)) f).mono (by omega), fun c e => by
  injection e with e
  injection e with _ e
  injection e with e _
  rw [← e]
  exact h⟩
theorem gd_odd {a b : D} (ha : Od a) (f : Fn 8 b) : Gd (.tuple [a, b]) := ⟨(fn2 (ha.f.mono (by omega)) f).mono (by omega), fun c e => by
  injection e with e
  injection e with e _
  exact absurd e ha.ns⟩
theorem gd_one {a : D} (f : Fn 8 a) : Gd (.tuple [a]) := ⟨.tup 9 _ (fun y hy => by rw [List.mem_singleton.mp hy]; exact f.mono (by omega)) (by show 1 ≤ 1000; omega), fun c e => by
  injection e with e
  injection e with _ e
  cases e⟩
theorem gd_three {a b c : D} (fa : Fn 8 a) (fb : Fn 8 b) (fc : Fn 8 c) : Gd (.tuple [a, b, c]) := ⟨.tup 9 _ (fun y hy => by
    simp at hy
    rcases hy with rfl | rfl | rfl
    · exact fa.mono (by omega)
    · exact fb.mono (by omega)
    · exact fc.mono (by omega)) (by show 3 ≤ 1000; omega), fun c e => by
  injection e with e
  injection e with _ e
  injection e with _ e
  cases e⟩
theorem gd_list {a b : D} (fa : Fn 8 a) (fb : Fn 8 b) : Gd (.list [a, b]) := ⟨.lst 9 _ (fun y hy => by
    simp at hy
    rcases hy with rfl | rfl
    · exact fa.mono (by omega)
    · exact fb.mono (by omega)) (by show 2 ≤ 1000; omega), fun c e => by cases e⟩
def bentT : SM := sRet (d2 gIx (hS 4) (hV (dCallO 0 2 s_next (aOra 0 (aCons (dCB gLen (DL.gCons (hS 4) (DL.gNil))) (aNil))))))
theorem bent_tail {ds : List D} (hm : m < 1048000) (h0 : ds ≠ []) (hl : ds.length ≤ 20) (hg : ∀ d ∈ ds, Gd d) (hE : ∀ v, Gd v → E.rt v [.ora (m + 1), s1, s2, s3, .ow (.list ds), s5, s6, s7, s8]) : bentT E [.ora m, s1, s2, s3, .ow (.list ds), s5, s6, s7, s8] := by
  have hp : 0 < ds.length := by
    rcases ds with _ | ⟨a, r⟩
    · exact absurd rfl h0
    · simp
  refine ⟨trivial, trivial, trivial, rfl, rfl, rfl, (ds.length : Int), rfl, by omega, by omega, by omega, fun i i0 i1 => ?_⟩
  obtain ⟨i, rfl⟩ : ∃ k : Nat, i = k := ⟨i.toNat, by omega⟩
  obtain ⟨d, e1, e2⟩ := atI_lt (l := ds) (i := i) (by omega)
  exact ⟨_, e2, hE d (hg d (List.mem_of_getElem? e1))⟩
def frB : SM := (sApp 4 (dTup (lCons (dV 5) (lCons (d2 gAdd (hV (d2 gAdd (hV (dSl (hS 6) (oNo) (oI (dV 7)))) (hV (dTup (lCons (dV 8) (lNil)))))) (hV (dSl (hS 6) (oI (d2 gAdd (hS 7) (hV (dC (.int 1))))) (oNo)))) (lNil)))))
theorem fr_loop {ks : List D} {p : Nat} (hk : ∀ d ∈ ks, Fn 1 d) (hkl : ks.length ≤ 421) : ∀ (fs : List D) (ds : List D) (s8 : Sl), (∀ d ∈ fs, Fn 1 d) → ds.length + fs.length ≤ 18 → ds ≠ [] → (∀ d ∈ ds, Gd d) →
    (∀ ds' s8, ds' ≠ [] → ds'.length ≤ ds.length + fs.length → (∀ d ∈ ds', Gd d) → E.nx [.ora m, s1, s2, s3, .ow (.list ds'), .im (.str ("stream" : Str)), .im (.tuple ks), .im (.int (p : Int)), s8]) →
    forL (gN 8) frB E fs [.ora m, s1, s2, s3, .ow (.list ds), .im (.str ("stream" : Str)), .im (.tuple ks), .im (.int (p : Int)), s8]
  | [], ds, s8, _, _, h0, h1, k => k ds s8 h0 (by simp) h1
  | f :: fs, ds, s8, hf, hl, h0, h1, k => by
    rw [List.length_cons] at hl k
    have e1 : cutD ks (some ((p : Int) + 1)) none = ks.drop (p + 1) := cut_drop ks (p + 1)
    refine ⟨trivial, trivial, by show 1 ≤ 1000000; omega, ?_, trivial, trivial, ?_⟩
    · show (cutD ks none (some (p : Int))).length + 1 ≤ 1000000
      have := cut_len ks none (some (p : Int))
      omega
    · have c1 := cut_len ks none (some (p : Int))
      have c2 := cut_len ks (some ((p : Int) + 1)) none
      have la : (cutD ks none (some (p : Int)) ++ [f]).length = (cutD ks none (some (p : Int))).length + 1 := by simp
      refine ⟨by rw [la]; omega, by show 2 ≤ 1000000; omega, by omega, ?_⟩
      refine fr_loop hk hkl fs _ _ (fun y hy => hf y (List.mem_cons_of_mem _ hy)) (by rw [List.length_append]; simp; omega) (by simp) (fun y hy => ?_) fun ds' s8 q0 q1 q2 => k ds' s8 q0 (by rw [List.length_append] at q1; simp at q1; omega) q2
      (rcases List.mem_append.mp hy with hy | hy)
      · exact h1 y hy
      · rw [List.mem_singleton.mp hy]
        refine gd_stream (.tup 7 _ (fun z hz => ?_) (by rw [List.length_append, la]; omega))
        (rcases List.mem_append.mp hz with hz | hz)
        · rcases List.mem_append.mp hz with hz | hz
          · exact (hk z (cut_mem hz)).mono (by omega)
          · (rw [List.mem_singleton.mp hz])
            exact (hf f (List.mem_cons_self ..)).mono (by omega)
        · exact (hk z (cut_mem hz)).mono (by omega)
theorem pick8 {i : Int} (i0 : 0 ≤ i) (i1 : i < 8) : ∃ d, atI oddL i = some d ∧ Od d := by
  obtain ⟨i, rfl⟩ : ∃ k : Nat, i = k := ⟨i.toNat, by omega⟩
  obtain ⟨d, e1, e2⟩ := atI_lt (l := oddL) (i := i) (by show i < 8; omega)
  exact ⟨d, e2, odd_all d (List.mem_of_getElem? e1)⟩
theorem d_bent_short {j : Nat} (hm : m < 1000000) (hj : j ≤ 10) (k : ∀ v m', Gd v → m' ≤ m + 10 → P v m') : r__law_bent [.ora, .d (scr R W), .d (.tuple [.str ("short" : Str), .int (j : Int)])] m P := by
  refine ⟨rfl, ?_⟩
  refine ⟨rfl, by show 0 ≤ 1000000; omega, by show 0 ≤ 1000000; omega, by show 1 ≤ 1000000; omega, by show 8 ≤ 1000000; omega, trivial, rfl, rfl, rfl, 8, rfl, by omega, by omega, by omega, fun i i0 i1 => ?_⟩
  obtain ⟨x, ex, ox⟩ := pick8 i0 i1
  refine ⟨x, ex, ?_⟩
  have fs : Fn 8 (.str ("short" : Str)) := (fW _).mono (by omega)
  have fj : Fn 8 (.int (j : Int)) := .int _ _
  have fx : Fn 8 x := ox.f.mono (by omega)
  refine ⟨by show 2 ≤ 1000000; omega, by show 2 ≤ 1000000; omega, by show 1 ≤ 1000000; omega, trivial, by show 1 ≤ 1000000; omega, by show 2 + 1 ≤ 1000000; omega, trivial, by show 5 ≤ 1000000; omega, trivial, trivial, okW2 _, okW2 _, ?_⟩
  show (if PyData.eqv (.str ("short" : Str)) (.str ("stream" : Str)) = true then _ else _)
  rw [eqS, if_neg (by decide +kernel)]
  refine ⟨by show 2 ≤ 1000000; omega, by show 5 < 1000000; omega, ?_⟩
  refine ⟨trivial, okW2 _, okW2 _, ?_⟩
  show (if PyData.eqv (.str ("short" : Str)) (.str ("stream" : Str)) = true then _ else _)
  rw [eqS, if_neg (by decide +kernel)]
  refine bent_tail (m := m + 1) (by omega) (by simp) (by simp) (fun y hy => ?_) fun v gv => k v _ gv (by omega)
  simp only [List.cons_append, List.nil_append, List.mem_cons, List.not_mem_nil, or_false] at hy
  rcases hy with rfl | rfl | rfl | rfl | rfl | rfl
  · exact gd_short fx ox.sb
  · exact gd_odd ox fj
  · exact gd_one fs
  · exact gd_three fs fj (.int _ _)
  · exact gd_list fs fj
  · exact gd_stream fj
theorem d_bent_stream (o : OkS (R : Int) (W : Int)) {ks : List D} (hm : m < 1000000) (hk : ∀ d ∈ ks, Fn 1 d) (hkl : ks.length ≤ 421) (hR : okR (.tuple ks)) (k : ∀ v m', Gd v → m' ≤ m + 10 → P v m') : r__law_bent [.ora, .d (scr R W), .d (.tuple [.str ("stream" : Str), .tuple ks])] m P := by
  refine ⟨rfl, ?_⟩
  refine ⟨rfl, by show 0 ≤ 1000000; omega, by show 0 ≤ 1000000; omega, by show 1 ≤ 1000000; omega, by show 8 ≤ 1000000; omega, trivial, rfl, rfl, rfl, 8, rfl, by omega, by omega, by omega, fun i i0 i1 => ?_⟩
  obtain ⟨x, ex, ox⟩ := pick8 i0 i1
  refine ⟨x, ex, ?_⟩
  have fs : Fn 8 (.str ("stream" : Str)) := (fW _).mono (by omega)
  have fj : Fn 8 (.tuple ks) := .tup 7 _ (fun y hy => (hk y hy).mono (by omega)) (by omega)
  have fx : Fn 8 x := ox.f.mono (by omega)
  refine ⟨by show 2 ≤ 1000000; omega, by show 2 ≤ 1000000; omega, by show 1 ≤ 1000000; omega, trivial, by show 1 ≤ 1000000; omega, by show 2 + 1 ≤ 1000000; omega, trivial, by show 5 ≤ 1000000; omega, trivial, trivial, okW2 _, okW2 _, ?_⟩
  show (if PyData.eqv (.str ("stream" : Str)) (.str ("stream" : Str)) = true then _ else _)
  rw [eqS, if_pos (by decide +kernel)]
  refine ⟨by show 2 ≤ 1000000; omega, by show 5 < 1000000; omega, ?_⟩
  refine ⟨trivial, okW2 _, okW2 _, ?_⟩
  show (if PyData.eqv (.str ("stream" : Str)) (.str ("stream" : Str)) = true then _ else _)
  rw [eqS, if_pos (by decide +kernel)]
  have g6 : ∀ d ∈ [PyData.tuple [.str ("stream" : Str), x], .tuple [x, .tuple ks], .tuple [.str ("stream" : Str)], .tuple [.str ("stream" : Str), .tuple ks, .int 0], .list [.str ("stream" : Str), .tuple ks], .tuple [.str ("short" : Str), .tuple ks]], Gd d := by
    intro y hy
    simp only [List.mem_cons, List.not_mem_nil, or_false] at hy
    rcases hy with rfl | rfl | rfl | rfl | rfl | rfl
    · exact gd_stream fx
    · exact gd_odd ox fj
    · exact gd_one fs
    · exact gd_three fs fj (.int _ _)
    · exact gd_list fs fj
    · exact gd_short fj (.tup _ hR)
  have on : okD (PyData.tuple []) := rfl
  have ok : okD (.tuple ks) := fj.ok (by omega)
  refine ⟨trivial, by show 0 ≤ 1000000; omega, ok, on, ?_⟩
  show (if (!PyData.eqv (.tuple ks) (.tuple [])) = true then _ else _)
  rw [tup_nil]
  by_cases z : ks = []
  · rw [if_neg (by simp [z])]
    exact bent_tail (m := m + 1) (by omega) (by simp) (by simp) g6 fun v gv => k v _ gv (by omega)
  · rw [if_pos (by simp [z])]
    have hp : 0 < ks.length := by
      rcases ks with _ | ⟨a, r⟩
      · exact absurd rfl z
      · simp
    refine ⟨trivial, trivial, rfl, rfl, rfl, (ks.length : Int), rfl, by omega, by omega, by omega, fun p p0 p1 => ?_⟩
    obtain ⟨p, rfl⟩ : ∃ k : Nat, p = k := ⟨p.toNat, by omega⟩
    refine ⟨trivial, rfl, rfl, rfl, d_law_code o (by omega) fun c m' hc hm' => ?_⟩
    refine ⟨by show 1 ≤ 1000000; omega, by show 1 ≤ 1000000; omega, by show 1 ≤ 1000000; omega, by show 5 ≤ 1000000; omega, ?_⟩
    refine fr_loop hk hkl _ _ _ (fun y hy => ?_) (by simp) (by simp) g6 fun ds s8 q0 q1 q2 => ?_
    · simp only [List.mem_cons, List.not_mem_nil, or_false] at hy
      rcases hy with rfl | rfl | rfl | rfl | rfl
      · exact (co_ok o hc).1
      · exact fIdle _
      · exact fIdle _
      · exact fIdle _
      · exact ox.f
    · have q1 : ds.length ≤ 11 := q1
      have c1 := cut_len ks none (some (p : Int))
      have c2 := cut_len ks (some (p : Int)) (some ((p : Int) + 2))
      have c3 := cut_len ks (some ((p : Int) + 2)) none
      have e1 : (cutD ks none (some (p : Int))).length ≤ p := by rw [cut_take, List.length_take]; omega
      have e3 : (cutD ks (some ((p : Int) + 2)) none).length ≤ 421 - p := by rw [show ((p : Int) + 2) = ((p + 2 : Nat) : Int) by omega, cut_drop, List.length_drop]; omega
      have lr : (cutD ks (some (p : Int)) (some ((p : Int) + 2))).reverse.length = (cutD ks (some (p : Int)) (some ((p : Int) + 2))).length := List.length_reverse ..
      refine ⟨trivial, trivial, by show 2 ≤ 1000000; omega, trivial, trivial, trivial, ?_, trivial, trivial, ?_⟩
      · rw [lr]
        omega
      refine ⟨by rw [List.length_append, lr]; omega, by show 2 ≤ 1000000; omega, by show 2 ≤ 1000000; omega, by show ds.length + 2 ≤ 1000000; omega, ?_⟩
      refine bent_tail (m := m') (by omega) (by simp) (by rw [List.length_append]; show ds.length + 2 ≤ 20; omega) (fun y hy => ?_) fun v gv => k v _ gv (by omega)
      (rcases List.mem_append.mp hy with hy | hy)
      · exact q2 y hy
      · simp only [List.mem_cons, List.not_mem_nil, or_false] at hy
        rcases hy with rfl | rfl
        · exact gd_stream (.tup 7 _ (fun z hz => (hk z (cut_mem hz)).mono (by omega)) (by omega))
        · refine gd_stream (.tup 7 _ (fun z hz => ?_) (by rw [List.length_append, List.length_append, lr]; omega))
          (rcases List.mem_append.mp hz with hz | hz)
          · rcases List.mem_append.mp hz with hz | hz
            · exact (hk z (cut_mem hz)).mono (by omega)
            · exact (hk z (cut_mem (List.mem_reverse.mp hz))).mono (by omega)
          · exact (hk z (cut_mem hz)).mono (by omega)
end
end Q23.C
namespace Q23.C
open PySem L2 DL
section
variable {R W m n : Nat} {P : D → Nat → Prop} {d : D} {E : DE} {s0 s2 s3 s4 s5 s6 s7 s8 : Sl}
def bdB : SM := (sIf (bD (d2 gNeS (hV (dCB gReprU (DL.gCons (hV (dCall 3 r__law_outcome (aCons (dV 3) (aCons (dV 4) (aCons (dV 7) (aNil)))))) (DL.gNil)))) (hV (dCB gReprU (DL.gCons (hV (dCall 3 r__law_due (aCons (dV 3) (aCons (dV 4) (aCons (dV 7) (aNil)))))) (DL.gNil)))))) (sRet (dC (.bool false))) (sNo))
theorem noNe (z : Str) : (!decide (z = z)) = false := by simp
theorem bd_loop (o : OkS (R : Int) (W : Int)) {cs : List Cu} (gl : GL 0 cs) (hg : ∀ c ∈ cs, GC (R : Int) (W : Int) c) (hl : cs.length ≤ 8) (hm : many cs ≤ 1000) (k : ∀ s7, E.nx [s0, .ora m, s2, .im (scr R W), .im (cuesD cs), s5, s6, s7, .no]) :
    ∀ (ds : List D) (s7 : Sl), (∀ d ∈ ds, Gd d) → forL (gN 7) bdB E ds [s0, .ora m, s2, .im (scr R W), .im (cuesD cs), s5, s6, s7, .no]
  | [], s7, _ => k s7
  | d :: ds, s7, h => by
    have gd := h d (List.mem_cons_self ..)
    have h1 : ∀ (m : Nat) (P : D → Nat → Prop), P (verd R W cs d) 0 → r__law_outcome [.d (scr R W), .d (cuesD cs), .d d] m P := fun m P q => d_outcome o gl hg (by omega) gd.f (by omega) hm q
    have h2 : ∀ (m : Nat) (P : D → Nat → Prop), P (verd R W cs d) 0 → r__law_due [.d (scr R W), .d (cuesD cs), .d d] m P := fun m P q => d_due o gl hg hl gd.f (by omega) hm gd.sb q
    have h3 : okU (verd R W cs d) := vd_ok
    generalize verd R W cs d = v at h1 h2 h3
    refine ⟨rfl, rfl, h1 _ _ ?_⟩
    refine ⟨h3, rfl, rfl, h2 _ _ ?_⟩
    refine ⟨h3, ?_⟩
    generalize shU v = z
    show (if (!decide (z = z)) = true then _ else _)
    rw [noNe, if_neg Bool.false_ne_true]
    exact bd_loop o gl hg hl hm k ds _ fun y hy => h y (List.mem_cons_of_mem _ hy)
def btD : DM := (dCallO 1 3 r__law_bent (aOra 1 (aCons (dV 3) (aCons (dV 5) (aNil)))))
theorem bt_lc {sd : D} {s4 : Sl} {K : List D → DL.Env → Prop} (hb : ∀ (m : Nat) (P : D → Nat → Prop), m < 1000000 → (∀ v m', Gd v → m' ≤ m + 10 → P v m') → r__law_bent [.ora, .d (scr R W), .d sd] m P) :
    ∀ (ds acc : List D) (m : Nat), m + ds.length * 10 < 1000000 → (∀ d ∈ acc, Gd d) → (∀ acc' m', (∀ d ∈ acc', Gd d) → m' ≤ m + ds.length * 10 → acc'.length = acc.length + ds.length → K acc' [s0, .ora m', s2, .im (scr R W), s4, .im sd, s6, s7, .no]) →
    lcL (gN 8) bYes btD [8] K ds acc [s0, .ora m, s2, .im (scr R W), s4, .im sd, s6, s7, .no]
  | [], acc, m, _, ha, k => k acc m ha (by simp) (by simp)
  | d :: ds, acc, m, hm, ha, k => by
    rw [List.length_cons] at hm k
    refine ⟨trivial, rfl, rfl, rfl, hb _ _ (by omega) fun v m' gv hm' => ?_⟩
    show lcL (gN 8) bYes btD [8] K ds (acc ++ [v]) [s0, .ora m', s2, .im (scr R W), s4, .im sd, s6, s7, .no]
    refine bt_lc hb ds (acc ++ [v]) m' (by omega) (fun y hy => ?_) fun acc' m'' q1 q2 q3 => k acc' m'' q1 (by omega) (by rw [q3, List.length_append]; simp; omega)
    (rcases List.mem_append.mp hy with hy | hy)
    · exact ha y hy
    · rw [List.mem_singleton.mp hy]
      exact gv
def lwB : SM := sSeq (sSet 3 (dCallO 1 2 r__law_size (aOra 1 (aCons (dC (.int 4)) (aNil))))) (sSeq (sSet 4 (dCallO 1 3 r__law_cues (aOra 1 (aCons (dV 3) (aCons (dC (.int 4)) (aNil)))))) (sSeq (sSet 5 (dCall 2 r_send_paper (aCons (dV 3) (aCons (dV 4) (aNil))))) (sSeq (sSet 6 (dLst (lCons (dV 5) (lCons (dTup (lCons (dC (.str ("short" : Str))) (lCons (dC (.int 0)) (lNil)))) (lCons (dTup (lCons (dC (.str ("short" : Str))) (lCons (dCB gLen (DL.gCons (hS 4) (DL.gNil))) (lNil)))) (lCons (dTup (lCons (dC (.str ("stream" : Str))) (lCons (dTup (lNil)) (lNil)))) (lCons (dC .none) (lCons (dTup (lCons (dC (.str ("stream" : Str))) (lNil))) (lCons (dC (.int 5)) (lCons (dTup (lCons (dC (.str ("short" : Str))) (lCons (dC .none) (lNil)))) (lNil))))))))))) (sFor (iSeq (d2 gAdd (hS 6) (hV (dLc (iRange1 (lCons (dC (.int 6)) (lNil))) (gN 8) (bYes) btD [8])))) (gN 7) bdB))))
theorem gd_int {i : Int} : Gd (.int i) := ⟨.int _ _, fun b e => by cases e⟩
theorem gd_non : Gd .none := ⟨.non _, fun b e => by cases e⟩
theorem lw_rest (o : OkS (R : Int) (W : Int)) {cs : List Cu} (gl : GL 0 cs) (hg : ∀ c ∈ cs, GC (R : Int) (W : Int) c) (hl : cs.length ≤ 6) (hmc : many cs ≤ 1000) {sd : D} (gs : Gd sd) (hm : m < 900000)
    (hb : ∀ (m : Nat) (P : D → Nat → Prop), m < 1000000 → (∀ v m', Gd v → m' ≤ m + 10 → P v m') → r__law_bent [.ora, .d (scr R W), .d sd] m P)
    (k : ∀ m' s5 s6 s7, m' ≤ m + 60 → E.nx [s0, .ora m', s2, .im (scr R W), .im (cuesD cs), s5, s6, s7, .no]) :
    (sSeq (sSet 6 (dLst (lCons (dV 5) (lCons (dTup (lCons (dC (.str ("short" : Str))) (lCons (dC (.int 0)) (lNil)))) (lCons (dTup (lCons (dC (.str ("short" : Str))) (lCons (dCB gLen (DL.gCons (hS 4) (DL.gNil))) (lNil)))) (lCons (dTup (lCons (dC (.str ("stream" : Str))) (lCons (dTup (lNil)) (lNil)))) (lCons (dC .none) (lCons (dTup (lCons (dC (.str ("stream" : Str))) (lNil))) (lCons (dC (.int 5)) (lCons (dTup (lCons (dC (.str ("short" : Str))) (lCons (dC .none) (lNil)))) (lNil))))))))))) (sFor (iSeq (d2 gAdd (hS 6) (hV (dLc (iRange1 (lCons (dC (.int 6)) (lNil))) (gN 8) (bYes) btD [8])))) (gN 7) bdB)) E [s0, .ora m, s2, .im (scr R W), .im (cuesD cs), .im sd, s6, s7, .no] := by
  have e1 : ((cs.map Cu.d).length : Int) = cs.length := by rw [List.length_map]
  have f0 : Fn 8 (.tuple []) := .tup _ _ (fun y hy => nomatch hy) (Nat.zero_le _)
  have g8 : ∀ d ∈ [sd, .tuple [.str ("short" : Str), .int 0], .tuple [.str ("short" : Str), .int ((cs.map Cu.d).length : Int)], .tuple [.str ("stream" : Str), .tuple []], .none, .tuple [.str ("stream" : Str)], .int 5, .tuple [.str ("short" : Str), .none]], Gd d := by
    intro y hy
    simp only [List.mem_cons, List.not_mem_nil, or_false] at hy
    rcases hy with rfl | rfl | rfl | rfl | rfl | rfl | rfl | rfl
    · exact gs
    · exact gd_short (.int _ _) (.int _ (by omega) (by omega))
    · exact gd_short (.int _ _) (.int _ (by omega) (by omega))
    · exact gd_stream f0
    · exact gd_non
    · exact gd_one ((fW _).mono (by omega))
    · exact gd_int
    · exact gd_short (.non _) .non
  refine ⟨by show 2 ≤ 1000000; omega, trivial, by show 2 ≤ 1000000; omega, by show 0 ≤ 1000000; omega, by show 2 ≤ 1000000; omega, by show 1 ≤ 1000000; omega, by show 2 ≤ 1000000; omega, by show 8 ≤ 1000000; omega, ?_⟩
  refine ⟨trivial, ⟨by omega, by omega⟩, by simp [rgD], ⟨by simp, fun j hj => by simp at hj; subst hj; rfl⟩, ?_⟩
  refine bt_lc hb (rgD 0 6) [] m (by simp [rgD]; omega) (fun y hy => nomatch hy) fun acc m' q1 q2 q3 => ?_
  have q3 : acc.length = 6 := by rw [q3]; simp [rgD]
  refine ⟨by show 8 + acc.length ≤ 1000000; omega, ?_⟩
  refine bd_loop o gl hg (by omega) hmc (fun s7 => k _ _ _ _ ?_) _ _ fun y hy => ?_
  · have : (rgD 0 6).length = 6 := by simp [rgD]
    rw [this] at q2
    exact q2
  · rcases List.mem_append.mp hy with hy | hy
    · exact g8 y hy
    · exact q1 y hy
theorem many_le {cs : List Cu} (h : ∀ c ∈ cs, c.e ≤ 420) (gl : GL 0 cs) (hg : ∀ c ∈ cs, GC (R : Int) (W : Int) c) : many cs ≤ 1000 := by
  rcases List.eq_nil_or_concat cs with rfl | ⟨pre, l, rfl⟩
  · exact Nat.zero_le _
  · rw [List.concat_eq_append] at *
    have gL := hg l (by simp)
    have := h l (by simp)
    rw [many_last]
    omega
theorem lw_turn (hm : m < 800000) (h : ∀ m' s3 s4 s5 s6 s7, m' ≤ m + 1500 → E.nx [s0, .ora m', s2, s3, s4, s5, s6, s7, .no]) : lwB E [s0, .ora m, s2, s3, s4, s5, s6, s7, .no] := by
  refine ⟨trivial, rfl, rfl, rfl, d_size (by omega) fun R W o r2 w4 => ?_⟩
  refine ⟨trivial, rfl, rfl, rfl, d_law_cues o r2 (by omega) (by omega) fun cs m1 hl he gl gc hm1 => ?_⟩
  have gt : ∀ c ∈ cs, GT (R : Int) (W : Int) c.t := fun c hc => (gc c hc).t
  have hmc := many_le he gl gc
  refine ⟨rfl, rfl, d_send_any o (by omega) gc gl (fun hs n st => ?_) fun j hs => ?_⟩
  · have hn : n.length ≤ 421 := by
      rcases List.eq_nil_or_concat cs with rfl | ⟨pre, l, rfl⟩
      · have : n = [] := by cases st; rfl
        rw [this]
        exact Nat.zero_le _
      · rw [List.concat_eq_append] at *
        have h1 := st_many st gl
        have h2 := he l (by simp)
        omega
    have hk : ∀ c ∈ n.map co, OkC (R : Nat) (W : Nat) c := st_ok o st gt
    have hl2 : ((n.map co).map coD).length ≤ 421 := by rw [List.length_map, List.length_map]; exact hn
    have hf : ∀ d ∈ (n.map co).map coD, Fn 1 d := fun d hd => by
      obtain ⟨c, mc, rfl⟩ := List.mem_map.mp hd
      exact (co_ok o (hk c mc)).1
    have hR : okR (.tuple ((n.map co).map coD)) := by
      refine sh_okR (sh_tup (k := 1) (n := 27) fun d hd => ?_) (by omega) (by omega)
      obtain ⟨c, mc, rfl⟩ := List.mem_map.mp hd
      exact co_sh o (hk c mc)
    exact lw_rest o gl gc hl hmc (gd_stream (.tup 7 _ (fun y hy => (hf y hy).mono (by omega)) (by omega))) (by omega) (fun m P hm k => d_bent_stream o hm hf hl2 hR k) fun m' s5 s6 s7 hm' => h _ _ _ _ _ _ (by omega)
  · have hj : j ≤ 10 := by have := short_le cs none 0 j hs; omega
    exact lw_rest o gl gc hl hmc (gd_short (.int _ _) (.int _ (by omega) (by omega))) (by omega) (fun m P hm k => d_bent_short hm hj k) fun m' s5 s6 s7 hm' => h _ _ _ _ _ _ (by omega)
theorem lw_loop : ∀ (ds : List D) (m : Nat) (s2 s3 s4 s5 s6 s7 : Sl), m + ds.length * 1500 < 800000 → (∀ m' s2 s3 s4 s5 s6 s7, E.nx [s0, .ora m', s2, s3, s4, s5, s6, s7, .no]) → forL (gN 2) lwB E ds [s0, .ora m, s2, s3, s4, s5, s6, s7, .no]
  | [], m, s2, s3, s4, s5, s6, s7, _, k => k m s2 s3 s4 s5 s6 s7
  | d :: ds, m, s2, s3, s4, s5, s6, s7, hm, k => by
    rw [List.length_cons] at hm
    exact lw_turn (by omega) fun m' s3 s4 s5 s6 s7 hm' => lw_loop ds m' _ s3 s4 s5 s6 s7 (by omega) k
end
end Q23.C
namespace Q23
open PySem L2 DL
theorem law_says (ns : List Int) (hn : ns.length ≤ 63) : lawSays ns := by
  have ll : ((ns.map PyData.int).length : Int) = ns.length := by rw [List.length_map]
  refine ⟨trivial, ?_⟩
  have rl : ∀ k : Int, (rgD 0 k).length = k.toNat := fun k => by simp [rgD]
  refine ⟨⟨by omega, by omega⟩, ?_⟩
  have key := C.lw_loop (E := ⟨sRet (dC (.bool true)) ⟨fun _ => False, fun d _ => d = .bool true, fun _ => False, fun _ => False⟩, fun d _ => d = .bool true, fun _ => False, fun _ => False⟩)
    (s0 := .im (.list (ns.map PyData.int))) (rgD 0 (2 + min ((ns.map PyData.int).length : Int) 4)) 0 .no .no .no .no .no .no (by rw [rl]; omega) (fun m' s2 s3 s4 s5 s6 s7 => rfl)
  exact key
end Q23
open PySem PyProof.Rows PySem.W in
set_option maxRecDepth 100100 in
set_option maxHeartbeats 0 in
theorem PySem.Challenge.cw_captionhouse_k23_whole_sending_judged_holds : PySem.Challenge.rw_captionhouse_k23_whole_sending_judged.Holds := by
  w_on
  o_law
  refine HandSHeadRun.head_any (r := Q23.hdR) (q := Q23.hdQ) (H := Q23.hdH) (ob := fun s => Q23.hdA.map (HandSHeadRun.getT s)) (M := 20000) (loose := Q23.hdN) (kwd := []) (fun s => congrArg (fun g => Q23.hdA.map g) (funext fun b => HandSHeadRun.getT_eq s b)) (by kernel_rfl) (fun s => by kernel_rfl) Q23.hdRun (by rfl) (by rfl) (by rfl) (by rfl) (by first | assumption | decide +kernel) (by decide +kernel) ⟨rfl, rfl, rfl, rfl, rfl, by decide +kernel⟩ ?hw ?hc
  (case hw => w_witness2)
  k_fill
  refine DL.walkG (l := PySem.Challenge.rw_captionhouse_k23_whole_sending_judged) (n := 63) (k := 11) (x := "_law_script") (sp := fun w => Q23.spLawG (_)) rfl (by decide) rfl ⟨rfl, by decide, by decide⟩ (fun w h Y => PySem.W.kIn_of Y) ?F (fun w H a ns hl sq => ⟨a, ns, rfl, sq, hl, fun _ => rfl⟩)
  case F =>
    intro w gl fa h KX G hgl
    refine' Q23.all_mk KX G hgl ?a0 ?l0 ?c0 ?k0 ?a1 ?l1 ?c1 ?k1 ?a2 ?l2 ?c2 ?k2 ?a3 ?l3 ?c3 ?k3 ?a4 ?l4 ?c4 ?k4 ?a5 ?l5 ?c5 ?k5 ?a6 ?l6 ?c6 ?k6 ?a7 ?l7 ?c7 ?k7 ?a8 ?l8 ?c8 ?k8 ?a9 ?l9 ?c9 ?k9 ?a10 ?l10 ?c10 ?k10 ?a11 ?l11 ?c11 ?k11 ?a12 ?l12 ?c12 ?k12 ?a13 ?l13 ?c13 ?k13 ?a14 ?l14 ?c14 ?k14 ?a15 ?l15 ?c15 ?k15 ?a16 ?l16 ?c16 ?k16 ?a17 ?l17 ?c17 ?k17 ?a18 ?l18 ?c18 ?k18 ?d18 ?a19 ?l19 ?c19 ?k19 ?a20 ?l20 ?c20 ?k20 ?a21 ?l21 ?c21 ?k21 ?a22 ?l22 ?c22 ?k22 ?d22 ?a23 ?l23 ?c23 ?k23 ?a24 ?l24 ?c24 ?k24 ?a25 ?l25 ?c25 ?k25 ?a26 ?l26 ?c26 ?k26 ?a27 ?l27 ?c27 ?k27 ?a28 ?l28 ?c28 ?k28 ?a29 ?l29 ?c29 ?k29 ?a30 ?l30 ?c30 ?k30 ?a31 ?l31 ?c31 ?k31 ?a32 ?l32 ?c32 ?k32 ?a33 ?l33 ?c33 ?k33 ?a34 ?l34 ?c34 ?k34 ?a35 ?l35 ?c35 ?k35 ?a36 ?l36 ?c36 ?k36 ?a37 ?l37 ?c37 ?k37 ?a38 ?l38 ?c38 ?k38 ?a39 ?l39 ?c39 ?k39 ?a40 ?l40 ?c40 ?k40 ?a41 ?l41 ?c41 ?k41 ?a42 ?l42 ?c42 ?k42 ?a43 ?l43 ?c43 ?k43 ?a44 ?l44 ?c44 ?k44 ?a45 ?l45 ?c45 ?k45 ?a46 ?l46 ?c46 ?k46 ?a47 ?l47 ?c47 ?k47 ?a48 ?l48 ?c48 ?k48 ?a49 ?l49 ?c49 ?k49 ?a50 ?l50 ?c50 ?k50 ?a51 ?l51 ?c51 ?k51 ?a52 ?l52 ?c52 ?k52 ?a53 ?l53 ?c53 ?k53 ?a54 ?l54 ?c54 ?k54 ?a55 ?l55 ?c55 ?k55 ?a56 ?l56 ?c56 ?k56 ?a57 ?l57 ?c57 ?k57 ?xa0 ?xl0 ?xs0 ?xe0 ?xt0 ?xk0 ?xc0 ?xb0 ?xi0 ?xy0 ?xf0 ?xd0 ?xg0 ?xn0 ?xp0 ?xq0 ?xr0 ?xvV ?z_ValueError ?z_all ?z_bool ?z_enumerate ?z_int ?z_isinstance ?z_len ?z_list ?z_max ?z_min ?z_ord ?z_range ?z_repr ?z_str ?z_sum ?z_tuple ?v_BLANK_SIGN ?v_HIDE ?v_LAST_FRAME ?v_LONE_WORDS ?w_LONE_WORDS ?v_LOWEST_OF_CELLS ?v_LOWEST_OF_LINES ?v_MOST_COLUMNS ?v_MOST_LINES ?v_MOST_ROWS ?v_MOST_SENDABLE ?v_MOST_SIGNS ?v_PERCENT ?v_ROLL ?v_TILDE Q23.law_says
    (case a0 => k_is)
    (case l0 => k_is)
    (case c0 => k_is)
    (case k0 => k_is)
    (case a1 => k_is)
    (case l1 => k_is)
    (case c1 => k_is)
    (case k1 => k_is)
    (case a2 => k_is)
    (case l2 => k_is)
    (case c2 => k_is)
    (case k2 => k_is)
    (case a3 => k_is)
    (case l3 => k_is)
    (case c3 => k_is)
    (case k3 => k_is)
    (case a4 => k_is)
    (case l4 => k_is)
    (case c4 => k_is)
    (case k4 => k_is)
    (case a5 => k_is)
    (case l5 => k_is)
    (case c5 => k_is)
    (case k5 => k_is)
    (case a6 => k_is)
    (case l6 => k_is)
    (case c6 => k_is)
    (case k6 => k_is)
    (case a7 => k_is)
    (case l7 => k_is)
    (case c7 => k_is)
    (case k7 => k_is)
    (case a8 => k_is)
    (case l8 => k_is)
    (case c8 => k_is)
    (case k8 => k_is)
    (case a9 => k_is)
    (case l9 => k_is)
    (case c9 => k_is)
    (case k9 => k_is)
    (case a10 => k_is)
    (case l10 => k_is)
    (case c10 => k_is)
    (case k10 => k_is)
    (case a11 => k_is)
    (case l11 => k_is)
    (case c11 => k_is)
    (case k11 => k_is)
    (case a12 => k_is)
    (case l12 => k_is)
    (case c12 => k_is)
    (case k12 => k_is)
    (case a13 => k_is)
    (case l13 => k_is)
    (case c13 => k_is)
    (case k13 => k_is)
    (case a14 => k_is)
    (case l14 => k_is)
    (case c14 => k_is)
    (case k14 => k_is)
    (case a15 => k_is)
    (case l15 => k_is)
    (case c15 => k_is)
    (case k15 => k_is)
    (case a16 => k_is)
    (case l16 => k_is)
    (case c16 => k_is)
    (case k16 => k_is)
    (case a17 => k_is)
    (case l17 => k_is)
    (case c17 => k_is)
    (case k17 => k_is)
    (case a18 => k_is)
    (case l18 => k_is)
    (case c18 => k_is)
    (case k18 => k_is)
    (case d18 => k_is)
    (case a19 => k_is)
    (case l19 => k_is)
    (case c19 => k_is)
    (case k19 => k_is)
    (case a20 => k_is)
    (case l20 => k_is)
    (case c20 => k_is)
    (case k20 => k_is)
    (case a21 => k_is)
    (case l21 => k_is)
    (case c21 => k_is)
    (case k21 => k_is)
    (case a22 => k_is)
    (case l22 => k_is)
    (case c22 => k_is)
    (case k22 => k_is)
    (case d22 => k_is)
    (case a23 => k_is)
    (case l23 => k_is)
    (case c23 => k_is)
    (case k23 => k_is)
    (case a24 => k_is)
    (case l24 => k_is)
    (case c24 => k_is)
    (case k24 => k_is)
    (case a25 => k_is)
    (case l25 => k_is)
    (case c25 => k_is)
    (case k25 => k_is)
    (case a26 => k_is)
    (case l26 => k_is)
    (case c26 => k_is)
    (case k26 => k_is)
    (case a27 => k_is)
    (case l27 => k_is)
    (case c27 => k_is)
    (case k27 => k_is)
    (case a28 => k_is)
    (case l28 => k_is)
    (case c28 => k_is)
    (case k28 => k_is)
    (case a29 => k_is)
    (case l29 => k_is)
    (case c29 => k_is)
    (case k29 => k_is)
    (case a30 => k_is)
    (case l30 => k_is)
    (case c30 => k_is)
    (case k30 => k_is)
    (case a31 => k_is)
    (case l31 => k_is)
    (case c31 => k_is)
    (case k31 => k_is)
    (case a32 => k_is)
    (case l32 => k_is)
    (case c32 => k_is)
    (case k32 => k_is)
    (case a33 => k_is)
    (case l33 => k_is)
    (case c33 => k_is)
    (case k33 => k_is)
    (case a34 => k_is)
    (case l34 => k_is)
    (case c34 => k_is)
    (case k34 => k_is)
    (case a35 => k_is)
    (case l35 => k_is)
    (case c35 => k_is)
    (case k35 => k_is)
    (case a36 => k_is)
    (case l36 => k_is)
    (case c36 => k_is)
    (case k36 => k_is)
    (case a37 => k_is)
    (case l37 => k_is)
    (case c37 => k_is)
    (case k37 => k_is)
    (case a38 => k_is)
    (case l38 => k_is)
    (case c38 => k_is)
    (case k38 => k_is)
    (case a39 => k_is)
    (case l39 => k_is)
    (case c39 => k_is)
    (case k39 => k_is)
    (case a40 => k_is)
    (case l40 => k_is)
    (case c40 => k_is)
    (case k40 => k_is)
    (case a41 => k_is)
    (case l41 => k_is)
    (case c41 => k_is)
    (case k41 => k_is)
    (case a42 => k_is)
    (case l42 => k_is)
    (case c42 => k_is)
    (case k42 => k_is)
    (case a43 => k_is)
    (case l43 => k_is)
    (case c43 => k_is)
    (case k43 => k_is)
    (case a44 => k_is)
    (case l44 => k_is)
    (case c44 => k_is)
    (case k44 => k_is)
    (case a45 => k_is)
    (case l45 => k_is)
    (case c45 => k_is)
    (case k45 => k_is)
    (case a46 => k_is)
    (case l46 => k_is)
    (case c46 => k_is)
    (case k46 => k_is)
    (case a47 => k_is)
    (case l47 => k_is)
    (case c47 => k_is)
    (case k47 => k_is)
    (case a48 => k_is)
    (case l48 => k_is)
    (case c48 => k_is)
    (case k48 => k_is)
    (case a49 => k_is)
    (case l49 => k_is)
    (case c49 => k_is)
    (case k49 => k_is)
    (case a50 => k_is)
    (case l50 => k_is)
    (case c50 => k_is)
    (case k50 => k_is)
    (case a51 => k_is)
    (case l51 => k_is)
    (case c51 => k_is)
    (case k51 => k_is)
    (case a52 => k_is)
    (case l52 => k_is)
    (case c52 => k_is)
    (case k52 => k_is)
    (case a53 => k_is)
    (case l53 => k_is)
    (case c53 => k_is)
    (case k53 => k_is)
    (case a54 => k_is)
    (case l54 => k_is)
    (case c54 => k_is)
    (case k54 => k_is)
    (case a55 => k_is)
    (case l55 => k_is)
    (case c55 => k_is)
    (case k55 => k_is)
    (case a56 => k_is)
    (case l56 => k_is)
    (case c56 => k_is)
    (case k56 => k_is)
    (case a57 => k_is)
    (case l57 => k_is)
    (case c57 => k_is)
    (case k57 => k_is)
    (case xa0 => k_is)
    (case xl0 => k_is)
    (case xs0 => k_is)
    (case xe0 => k_is)
    (case xt0 => k_is)
    (case xk0 => k_is)
    (case xc0 => k_is)
    (case xb0 => k_is)
    (case xi0 => k_is)
    (case xy0 => k_is)
    (case xf0 => k_is)
    (case xd0 => k_is)
    (case xg0 => k_is)
    (case xn0 => k_is)
    (case xp0 => k_is)
    (case xq0 => k_is)
    (case xr0 => k_is)
    (case xvV => k_is)
    (case z_ValueError => k_is)
    (case z_all => k_is)
    (case z_bool => k_is)
    (case z_enumerate => k_is)
    (case z_int => k_is)
    (case z_isinstance => k_is)
    (case z_len => k_is)
    (case z_list => k_is)
    (case z_max => k_is)
    (case z_min => k_is)
    (case z_ord => k_is)
    (case z_range => k_is)
    (case z_repr => k_is)
    (case z_str => k_is)
    (case z_sum => k_is)
    (case z_tuple => k_is)
    (case v_BLANK_SIGN => k_is)
    (case v_HIDE => k_is)
    (case v_LAST_FRAME => k_is)
    (case v_LONE_WORDS => k_is)
    (case w_LONE_WORDS => k_is)
    (case v_LOWEST_OF_CELLS => k_is)
    (case v_LOWEST_OF_LINES => k_is)
    (case v_MOST_COLUMNS => k_is)
    (case v_MOST_LINES => k_is)
    (case v_MOST_ROWS => k_is)
    (case v_MOST_SENDABLE => k_is)
    (case v_MOST_SIGNS => k_is)
    (case v_PERCENT => k_is)
    (case v_ROLL => k_is)
    (case v_TILDE => k_is)

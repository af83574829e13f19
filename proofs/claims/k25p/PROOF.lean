import PyProof.Rows.All
import Wide.All
import OpenK.AllK
import Wide.FinOn
import HandS.ForMost
import HandS.Flow
import HandS.IsInst
import HandS.Walk
import HandS.Zip
import HandS.Conv
import HandS.Wide
import HandS.TupAny
import HandS.Style
import HandS.SortInts
import KE.GoesMore
import HandS.Deep
import HandS.Text
import HandS.Strs
import HandS.SetBool
import HandS.Comp
import HandS.Gcd
import KE.DataMinMax
import KE.KTupSum
import KE.KMathGC
import HandS.EndBits
import HandS.ExcInit
import HandS.TryOnly
import HandS.WordsExc
import KE.GoesEnum
import HandS.ExcField
import HandS.StrMore
import HandS.TupMul
import HandS.Star
import HandS.Defaults
import PyProof.TupleOfStr
import HandS.FStr
import HandS.TryMany
import KE.KDictKeyed
import PyProof.ListStr
import KE.KDictZip
import KE.GoesZip
import HandS.ListItems
import PyProof.Rows.SetFrom
import HandS.SetKeys
import HandS.DictComp
import HandS.NoneIn
import HandS.Dict
import HandS.Flt
import KE.SortData
import HandS.TupSets
import PyProof.Rows.StrClose
import PyProof.Rows.StrCut
import HandS.Head0
import HandS.Head1
import HandS.Head2
import KE.KStateDown
import PySem.Challenge.RW_captionhouse_k25_sending_refused
set_option Elab.async false
set_option linter.all false
set_option maxRecDepth 100000
set_option maxHeartbeats 3900000
namespace Q25
open PySem.Calls PySem PyProof.Rows PySem.W
abbrev hdR : OpenRow := OpenLaw.row PySem.Challenge.rw_captionhouse_k25_sending_refused
def hdQ : Program := view hdR.prog [76]
def hdN0 : List PySem.Str := [Str.ofString "BLANK_SIGN", Str.ofString "HIDE", Str.ofString "ROLL", Str.ofString "stepped", Str.ofString "control_behind", Str.ofString "cells_behind", Str.ofString "cursor_cell", Str.ofString "rolling_rows", Str.ofString "with_cells", Str.ofString "MOST_SIGNS", Str.ofString "TILDE", Str.ofString "PERCENT", Str.ofString "is_integer", Str.ofString "is_within", Str.ofString "is_tuple", Str.ofString "is_one_of", Str.ofString "is_sign", Str.ofString "has_signs", Str.ofString "BadSize", Str.ofString "BadPaper", Str.ofString "BadCode", Str.ofString "BadCues", Str.ofString "OutOfPlace", Str.ofString "MOST_ROWS", Str.ofString "MOST_COLUMNS", Str.ofString "MOST_CODES", Str.ofString "LOWEST_OF_CELLS", Str.ofString "LONE_WORDS", Str.ofString "need_screen", Str.ofString "blank", Str.ofString "first_state", Str.ofString "pictures", Str.ofString "need_codes", Str.ofString "are_codes", Str.ofString "is_code_of", Str.ofString "is_memory_of"]
def hdN1 : List PySem.Str := [Str.ofString "is_cell_sign", Str.ofString "cells_of", Str.ofString "memory_of", Str.ofString "_is_row", Str.ofString "MOST_LINES", Str.ofString "LOWEST_OF_LINES", Str.ofString "is_text", Str.ofString "_is_line", Str.ofString "MOST_SENDABLE", Str.ofString "LAST_FRAME", Str.ofString "load", Str.ofString "picture_of", Str.ofString "text_of", Str.ofString "send_paper", Str.ofString "check_send", Str.ofString "put_off", Str.ofString "shows", Str.ofString "_need_text", Str.ofString "_need_cues", Str.ofString "_is_sendable", Str.ofString "_has_room", Str.ofString "_load_of", Str.ofString "_picture_of", Str.ofString "_free_frames", Str.ofString "_first_short", Str.ofString "_stream_of", Str.ofString "_sends", Str.ofString "_law_begun", Str.ofString "_law_next", Str.ofString "_law_size", Str.ofString "_law_text", Str.ofString "_law_outcome", Str.ofString "_law_cues_right"]
def hdN : List PySem.Str := hdN0 ++ (hdN1)
section
local macro_rules
  | `(tactic| o_head $t:term) => `(tactic| (have hk := $t; assumption))
set_option maxRecDepth 100001 in
set_option maxHeartbeats 0 in
theorem hd0 (h : hdR.Holds) : hdR.Holds := by k_head
end
def hdP : Params := by constructor <;> exact default
noncomputable def hdA : List Addr := (hd0.heap_1 hdP).map (·.1)
theorem hdE : ∀ P, hdA = (hd0.heap_1 P).map (·.1) := fun _ => by kernel_rfl
noncomputable abbrev hdH : Hook := kHook hd0.heap_1 hdA hdE
set_option maxRecDepth 100001 in
set_option maxHeartbeats 0 in
theorem hdRun (w : World) : HandSHeadRun.RunEq hdR hdQ hdH (fun s => hdA.map (HandSHeadRun.getT s)) 20000 hdN w := by
  intro os
  kernel_rfl
end Q25
namespace DL
open PySem L2
abbrev D := PyData
def KD : Key → D
  | .inl i => .int i
  | .inr x => .str x
mutual
/-- the value v is the datum d, in what stands at H -/
inductive At (K : PySem.W.Frag) (H : Hp) : V → D → Prop
  | non : At K H .non .none
  | bl (b : Bool) : At K H (.bl b) (.bool b)
  | int (i : Int) : At K H (.int i) (.int i)
  | str (x : Str) : At K H (.str x) (.str x)
  | lst {a : Addr} {xs : List V} {ds : List D} : SqL K H a xs → AtAll K H xs ds → At K H (.ref a) (.list ds)
  | tup {a : Addr} {xs : List V} {ds : List D} : SqT K H a xs → AtAll K H xs ds → At K H (.ref a) (.tuple ds)
  | dk {a : Addr} {ks : List Key} {xs : List V} {ds : List D} : Rd H a (.dK (ks.zip xs)) → ks ≠ [] → ks.length = xs.length → AtAll K H xs ds → At K H (.ref a) (.dict ((ks.map KD).zip ds))
  | dt {a : Addr} {ks : List (List Key)} {xs : List V} {ds : List D} : H a = some (.dT (ks.zip xs)) → ks.length = xs.length → AtAll K H xs ds → At K H (.ref a) (.dict ((ks.map fun k => PyData.tuple (k.map KD)).zip ds))
inductive AtAll (K : PySem.W.Frag) (H : Hp) : List V → List D → Prop
  | nil : AtAll K H [] []
  | cons {v : V} {vs : List V} {d : D} {ds : List D} : At K H v d → AtAll K H vs ds → AtAll K H (v :: vs) (d :: ds)
end
def Ex (G G' : Hp) : Prop := ∀ a o, G a = some o → G' a = some o
theorem Ex.refl (G : Hp) : Ex G G := fun _ _ h => h
theorem Ex.trans {G G1 G2 : Hp} (a : Ex G G1) (b : Ex G1 G2) : Ex G G2 := fun x o h => b x o (a x o h)
theorem Ex.new {G : Hp} {p : Addr} {o : HO} (h : G p = none) : Ex G (upd G p o) := fun a u e => by
  rw [upd_ne (ne_of_none e h)]
  exact e
theorem Ex.rd {H H' : Hp} {a : Addr} {u : HO} (e : Ex H H') (h : Rd H a u) : Rd H' a u := by
  rcases h with h | ⟨o, h⟩
  · exact Or.inl (e a _ h)
  · exact Or.inr ⟨o, e a _ h⟩
theorem Ex.sl {K : PySem.W.Frag} {H H' : Hp} {a : Addr} {xs : List V} (e : Ex H H') (h : SqL K H a xs) : SqL K H' a xs := by
  rcases h with h | h
  · exact Or.inl (e.rd h)
  · exact Or.inr h
theorem Ex.st {K : PySem.W.Frag} {H H' : Hp} {a : Addr} {xs : List V} (e : Ex H H') (h : SqT K H a xs) : SqT K H' a xs := by
  rcases h with h | h
  · exact Or.inl (e.rd h)
  · exact Or.inr h
theorem At.mono {K : PySem.W.Frag} {H H' : Hp} (e : Ex H H') {v : V} {d : D} (h : At K H v d) : At K H' v d := by
  refine At.rec (motive_1 := fun v d _ => At K H' v d) (motive_2 := fun vs ds _ => AtAll K H' vs ds) ?_ ?_ ?_ ?_ ?_ ?_ ?_ ?_ ?_ ?_ h
  · exact .non
  · exact fun b => .bl b
  · exact fun i => .int i
  · exact fun x => .str x
  · exact fun s _ i => .lst (e.sl s) i
  · exact fun s _ i => .tup (e.st s) i
  · exact fun s n l _ i => .dk (e.rd s) n l i
  · exact fun s l _ i => .dt (e _ _ s) l i
  · exact .nil
  · exact fun _ _ i j => .cons i j
theorem AtAll.mono {K : PySem.W.Frag} {H H' : Hp} (e : Ex H H') : ∀ {vs : List V} {ds : List D}, AtAll K H vs ds → AtAll K H' vs ds
  | _, _, .nil => .nil
  | _, _, .cons h t => .cons (h.mono e) (AtAll.mono e t)
section
variable {K : PySem.W.Frag} {H : Hp}
theorem AtAll.length : ∀ {vs : List V} {ds : List D}, AtAll K H vs ds → vs.length = ds.length
  | _, _, .nil => rfl
  | _, _, .cons _ t => congrArg (· + 1) t.length
theorem AtAll.append : ∀ {vs ws : List V} {ds es : List D}, AtAll K H vs ds → AtAll K H ws es → AtAll K H (vs ++ ws) (ds ++ es)
  | _, _, _, _, .nil, s => s
  | _, _, _, _, .cons r t, s => .cons r (t.append s)
theorem AtAll.take : ∀ {vs : List V} {ds : List D} (n : Nat), AtAll K H vs ds → AtAll K H (vs.take n) (ds.take n)
  | _, _, 0, _ => by simpa using AtAll.nil
  | _, _, _ + 1, .nil => .nil
  | _, _, n + 1, .cons r t => .cons r (t.take n)
theorem AtAll.drop : ∀ {vs : List V} {ds : List D} (n : Nat), AtAll K H vs ds → AtAll K H (vs.drop n) (ds.drop n)
  | _, _, 0, r => r
  | _, _, _ + 1, .nil => .nil
  | _, _, n + 1, .cons _ t => t.drop n
theorem AtAll.get : ∀ {vs : List V} {ds : List D} {i : Nat} {d : D}, AtAll K H vs ds → ds[i]? = some d → ∃ v, vs[i]? = some v ∧ At K H v d
  | _, _, _, _, .nil, e => (by simp at e)
  | _, _, 0, _, .cons r _, e => (by simp at e; subst e; exact ⟨_, rfl, r⟩)
  | _, _, i + 1, d, .cons _ t, e => by
    obtain ⟨v, h1, h2⟩ := t.get (i := i) (d := d) (by simpa using e)
    exact ⟨v, by simpa using h1, h2⟩
theorem AtAll.set {x : V} {d : D} (r : At K H x d) : ∀ {vs : List V} {ds : List D} (i : Nat), AtAll K H vs ds → AtAll K H (vs.set i x) (ds.set i d)
  | _, _, _, .nil => .nil
  | _, _, 0, .cons _ t => (.cons r t)
  | _, _, i + 1, .cons q t => .cons q (AtAll.set r i t)
theorem AtAll.reverse : ∀ {vs : List V} {ds : List D}, AtAll K H vs ds → AtAll K H vs.reverse ds.reverse
  | _, _, .nil => .nil
  | _, _, .cons r t => by
    (rw [List.reverse_cons, List.reverse_cons])
    exact t.reverse.append (.cons r .nil)
theorem AtAll.dropLast {vs : List V} {ds : List D} (h : AtAll K H vs ds) : AtAll K H vs.dropLast ds.dropLast := by
  rw [List.dropLast_eq_take, List.dropLast_eq_take, h.length]
  exact h.take _
theorem AtAll.ints : ∀ {vs : List V} {ns : List Int}, AtAll K H vs (ns.map PyData.int) → vs = ns.map V.int
  | _, [], .nil => rfl
  | _, n :: ns, .cons r t => by cases r; rw [t.ints]; rfl
theorem AtAll.bools : ∀ {vs : List V} {ns : List Bool}, AtAll K H vs (ns.map PyData.bool) → vs = ns.map V.bl
  | _, [], .nil => rfl
  | _, n :: ns, .cons r t => by cases r; rw [t.bools]; rfl
theorem AtAll.strs : ∀ {vs : List V} {ns : List Str}, AtAll K H vs (ns.map PyData.str) → vs = ns.map V.str
  | _, [], .nil => rfl
  | _, n :: ns, .cons r t => by cases r; rw [t.strs]; rfl
theorem AtAll.ofInts : ∀ (ns : List Int), AtAll K H (ns.map V.int) (ns.map PyData.int)
  | [] => .nil
  | n :: ns => .cons (.int n) (AtAll.ofInts ns)
end
mutual
def nod : D → Bool
  | .list xs => nodAll xs
  | .tuple xs => nodAll xs
  | .dict _ => false
  | _ => true
def nodAll : List D → Bool
  | [] => true
  | x :: xs => nod x && nodAll xs
end
theorem At.dp {K : PySem.W.Frag} {H : Hp} {v : V} {d : D} (h : At K H v d) : nod d = true → Dp K H v d := by
  refine At.rec (motive_1 := fun v d _ => nod d = true → Dp K H v d) (motive_2 := fun vs ds _ => nodAll ds = true → DpAll K H vs ds) ?_ ?_ ?_ ?_ ?_ ?_ ?_ ?_ ?_ ?_ h
  · exact fun _ => .non
  · exact fun b _ => .bl b
  · exact fun i _ => .int i
  · exact fun x _ => .str x
  · exact fun s _ i e => .lst s (i (by simpa [nod] using e))
  · exact fun s _ i e => .tup s (i (by simpa [nod] using e))
  · exact fun _ _ _ _ _ e => by simp [nod] at e
  · exact fun _ _ _ _ e => by simp [nod] at e
  · exact fun _ => .nil
  · exact fun _ _ i j e => by
      simp only [nodAll, Bool.and_eq_true] at e
      exact .cons (i e.1) (j e.2)
end DL
namespace DL
open PySem L2
def Foot : Option Addr → Hp → Addr → Prop
  | none, _, _ => False
  | some q, H, a => a = q ∨ ∃ kvs k, H q = some (.dK kvs) ∧ (k, V.ref a) ∈ kvs
theorem Foot.eqv {p : Option Addr} {H H' : Hp} (h : ∀ q, p = some q → H' q = H q) (a : Addr) : Foot p H' a ↔ Foot p H a := by
  cases p with
  | none => exact Iff.rfl
  | some q =>
    have e := h q rfl
    show (a = q ∨ ∃ kvs k, H' q = some (.dK kvs) ∧ (k, V.ref a) ∈ kvs) ↔ (a = q ∨ ∃ kvs k, H q = some (.dK kvs) ∧ (k, V.ref a) ∈ kvs)
    rw [e]
structure Orc where
  I : Addr → Hp → Prop
  cnt : Addr → Hp → Nat
  al : ∀ q H a, I q H → Foot (some q) H a → H a ≠ none
  st : ∀ q H H', I q H → (∀ a, Foot (some q) H a → H' a = H a) → I q H'
  sc : ∀ q H H', I q H → (∀ a, Foot (some q) H a → H' a = H a) → cnt q H' = cnt q H
/-- no source of numbers -/
def Orc.nil : Orc := ⟨fun _ _ => False, fun _ _ => 0, fun _ _ _ h => h.elim, fun _ _ _ h => h.elim, fun _ _ _ h => h.elim⟩
/-- from F0 (known to stay) and H0 (all) to F and H -/
structure World (R : Orc) (p : Option Addr) (F0 H0 F H : Hp) : Prop where
  ff : Ex F0 F
  fh : Ex F H
  kp : ∀ a o, H0 a = some o → ¬ Foot p H0 a → H a = some o ∧ ¬ Foot p H a
  dom : ∀ a, H0 a ≠ none → H a ≠ none
  fn : ∀ a, H0 a ≠ none → F0 a = none → F a = none
  ft : ∀ a, F a ≠ none → ¬ Foot p H a
  or : ∀ q, p = some q → R.I q H
theorem World.start {R : Orc} {p : Option Addr} {F H : Hp} (fh : Ex F H) (ft : ∀ a, F a ≠ none → ¬ Foot p H a) (or : ∀ q, p = some q → R.I q H) : World R p F H F H :=
  ⟨Ex.refl F, fh, fun _ _ h f => ⟨h, f⟩, fun _ h => h, fun _ _ h => h, ft, or⟩
theorem World.here {R : Orc} {p : Option Addr} {F0 H0 F H : Hp} (w : World R p F0 H0 F H) : World R p F H F H := World.start w.fh w.ft w.or
theorem World.trans {R : Orc} {p : Option Addr} {F0 H0 F H F' H' : Hp} (w : World R p F0 H0 F H) (v : World R p F H F' H') : World R p F0 H0 F' H' := by
  refine ⟨w.ff.trans v.ff, v.fh, fun a o h f => ?_, fun a h => v.dom a (w.dom a h), fun a h f => v.fn a (w.dom a h) (w.fn a h f), v.ft, v.or⟩
  obtain ⟨h1, f1⟩ := w.kp a o h f
  exact v.kp a o h1 f1
theorem World.ofNone {R : Orc} {p : Option Addr} {F0 H0 F H F' H' : Hp} (w : World R p F0 H0 F H) (v : World R none F H F' H') : World R p F H F' H' := by
  have all : ∀ a, H a ≠ none → H' a = H a := fun a h => by
    cases e : H a with
    | none => exact absurd e h
    | some o => exact (v.kp a o e (fun z => z)).1
  have al : ∀ a, Foot p H a → H a ≠ none := fun a h => by
    cases p with
    | none => exact h.elim
    | some q => exact R.al q H a (w.or q rfl) h
  have hq : ∀ q, p = some q → H' q = H q := fun q e => all q (al q (by subst e; exact .inl rfl))
  have ff : ∀ a, Foot p H' a ↔ Foot p H a := Foot.eqv hq
  refine ⟨v.ff, v.fh, fun a o h f => ⟨(v.kp a o h (fun z => z)).1, fun z => f ((ff a).mp z)⟩, v.dom, v.fn, fun a h z => ?_, fun q e => ?_⟩
  · have z' := (ff a).mp z
    cases e : F a with
    | some o => exact w.ft a (by rw [e]; exact Option.some_ne_none o) z'
    | none => exact h (v.fn a (al a z') e)
  · subst e
    exact R.st q H H' (w.or q rfl) fun a h => all a (al a h)
theorem World.foot_al {R : Orc} {p : Option Addr} {F0 H0 F H : Hp} (w : World R p F0 H0 F H) {a : Addr} (h : Foot p H a) : H a ≠ none := by
  cases p with
  | none => exact h.elim
  | some q => exact R.al q H a (w.or q rfl) h
/-- a new object that is known from then on -/
theorem World.newF {R : Orc} {p : Option Addr} {F0 H0 F H : Hp} (w : World R p F0 H0 F H) {q : Addr} (o : HO) (hq : H q = none) : World R none F H (upd F q o) (upd H q o) := by
  refine ⟨?_, ?_, ?_, ?_, ?_, fun _ _ z => z, fun _ e => nomatch e⟩
  · intro a u e
    have : a ≠ q := fun z => by
      have := w.fh a u e
      rw [z, hq] at this
      cases this
    rw [upd_ne this]
    exact e
  · intro a u e
    by_cases h : a = q
    · subst h
      rw [upd_same] at e ⊢
      exact e
    · rw [upd_ne h] at e ⊢
      exact w.fh a u e
  · exact fun a u e _ => ⟨Ex.new hq a u e, fun z => z⟩
  · intro a h
    by_cases e : a = q
    · subst e
      exact absurd hq h
    · rw [upd_ne e]
      exact h
  · intro a h e
    by_cases z : a = q
    · subst z
      exact absurd hq h
    · rw [upd_ne z]
      exact e
/-- a new object that may change -/
theorem World.newO {R : Orc} {p : Option Addr} {F0 H0 F H : Hp} (w : World R p F0 H0 F H) {q : Addr} (o : HO) (hq : H q = none) : World R none F H F (upd H q o) := by
  refine ⟨Ex.refl F, fun a u e => Ex.new hq a u (w.fh a u e), fun a u e _ => ⟨Ex.new hq a u e, fun z => z⟩, fun a h => ?_, fun _ _ e => e, fun _ _ z => z, fun _ e => nomatch e⟩
  by_cases e : a = q
  · subst e
    exact absurd hq h
  · rw [upd_ne e]
    exact h
inductive Sl where
  | no | im (d : D) | ow (d : D) | ora (n : Nat)
structure Cn where
  K : PySem.W.Frag
  R : Orc
  p : Option Addr
  F0 : Hp
  H0 : Hp
/-- an object on the side: a datum's, or just this one -/
inductive XO where
  | d (d : D) | o (o : HO)
instance : Coe D XO := ⟨XO.d⟩
abbrev XX := List (Addr × XO)
/-- a list or dict that nobody else holds -/
def OwnO (K : PySem.W.Frag) (F H : Hp) (a : Addr) : D → Prop
  | .list ds => ∃ vs, H a = some (.lst vs) ∧ AtAll K F vs ds
  | .dict kd => (∃ (ks : List Key) (vs : List V) (ds : List D), kd = (ks.map KD).zip ds ∧ ks ≠ [] ∧ ks.length = vs.length ∧ H a = some (.dK (ks.zip vs)) ∧ AtAll K F vs ds) ∨
      ∃ (ks : List (List Key)) (vs : List V) (ds : List D), kd = (ks.map fun k => PyData.tuple (k.map KD)).zip ds ∧ ks.length = vs.length ∧ H a = some (.dT (ks.zip vs)) ∧ AtAll K F vs ds
  | _ => False
def OwnO.mono {K : PySem.W.Frag} {F F' H H' : Hp} {a : Addr} (e : Ex F F') (h : H' a = H a) : ∀ {d : D}, OwnO K F H a d → OwnO K F' H' a d
  | .list ds, ⟨vs, h1, h2⟩ => ⟨vs, h.trans h1, h2.mono e⟩
  | .dict kd, .inl ⟨ks, vs, ds, h0, hn, hl, h1, h2⟩ => .inl ⟨ks, vs, ds, h0, hn, hl, h.trans h1, h2.mono e⟩
  | .dict kd, .inr ⟨ks, vs, ds, h0, hl, h1, h2⟩ => .inr ⟨ks, vs, ds, h0, hl, h.trans h1, h2.mono e⟩
theorem OwnO.at {K : PySem.W.Frag} {F H : Hp} {a : Addr} : ∀ {d : D}, OwnO K F H a d → ∃ o, H a = some o ∧ ∀ F', Ex F F' → F' a = some o → At K F' (.ref a) d
  | .list ds, ⟨vs, h1, h2⟩ => ⟨_, h1, fun F' e h => .lst (.inl (.inl h)) (h2.mono e)⟩
  | .dict kd, .inl ⟨ks, vs, ds, h0, hn, hl, h1, h2⟩ => ⟨_, h1, fun F' e h => by subst h0; exact .dk (.inl h) hn hl (h2.mono e)⟩
  | .dict kd, .inr ⟨ks, vs, ds, h0, hl, h1, h2⟩ => ⟨_, h1, fun F' e h => by subst h0; exact .dt h hl (h2.mono e)⟩
def OwnX (K : PySem.W.Frag) (F H : Hp) (a : Addr) : XO → Prop
  | .d d => OwnO K F H a d
  | .o o => H a = some o
theorem OwnX.mono {K : PySem.W.Frag} {F F' H H' : Hp} {a : Addr} (e : Ex F F') (h : H' a = H a) : ∀ {x : XO}, OwnX K F H a x → OwnX K F' H' a x
  | .d _, z => OwnO.mono e h z
  | .o _, z => h.trans z
theorem OwnX.some {K : PySem.W.Frag} {F H : Hp} {a : Addr} : ∀ {x : XO}, OwnX K F H a x → ∃ o, H a = some o
  | .d _, z => let ⟨o, h, _⟩ := OwnO.at z; ⟨o, h⟩
  | .o o, z => ⟨o, z⟩
theorem OwnX.at {K : PySem.W.Frag} {F H : Hp} {a : Addr} {d : D} (h : OwnX K F H a (.d d)) : ∃ o, H a = Option.some o ∧ ∀ F', Ex F F' → F' a = Option.some o → At K F' (.ref a) d := OwnO.at h
/-- as it stands at a, the address being younger than the entry -/
structure Own (c : Cn) (F H : Hp) (a : Addr) (d : XO) : Prop where
  o : OwnX c.K F H a d
  f : F a = none
  y : c.H0 a = none
  n : ¬ Foot c.p H a
structure Slots (c : Cn) (F H : Hp) (σ : L2.St) (ρ : List Sl) (xx : XX) : Prop where
  len : ρ.length = σ.length
  im : ∀ (i : Nat) (d : D), ρ[i]? = some (.im d) → ∃ v, σ[i]? = some (some v) ∧ At c.K F v d
  ow : ∀ (i : Nat) (d : D), ρ[i]? = some (.ow d) → ∃ a, σ[i]? = some (some (.ref a)) ∧ Own c F H a d
  dj : ∀ (i j : Nat) (d e : D) (a : Addr), ρ[i]? = some (.ow d) → ρ[j]? = some (.ow e) → σ[i]? = some (some (.ref a)) → σ[j]? = some (some (.ref a)) → i = j
  or : ∀ (i n : Nat), ρ[i]? = some (.ora n) → ∃ q, c.p = some q ∧ σ[i]? = some (some (.ref q)) ∧ c.R.cnt q H ≤ n
  ou : ∀ (i j m n : Nat), ρ[i]? = some (.ora m) → ρ[j]? = some (.ora n) → i = j
  ex : ∀ p ∈ xx, Own c F H p.1 p.2 ∧ ∀ (i : Nat) (e : D), ρ[i]? = some (.ow e) → σ[i]? ≠ some (some (.ref p.1))
  xd : (xx.map (·.1)).Nodup
structure Rel (c : Cn) (F H : Hp) (σ : L2.St) (ρ : List Sl) (xx : XX) : Prop where
  w : World c.R c.p c.F0 c.H0 F H
  s : Slots c F H σ ρ xx
theorem Own.step {c : Cn} {F H F' H' : Hp} {a : Addr} {d : XO} (h : Own c F H a d) (v : World c.R c.p F H F' H') : Own c F' H' a d := by
  obtain ⟨o, ho⟩ := h.o.some
  obtain ⟨h1, h2⟩ := v.kp a o ho h.n
  exact ⟨h.o.mono v.ff (h1.trans ho.symm), v.fn a (by rw [ho]; exact Option.some_ne_none o) h.f, h.y, h2⟩
theorem Slots.step {c : Cn} {F H F' H' : Hp} {σ : L2.St} {ρ : List Sl} {xx : XX} (s : Slots c F H σ ρ xx) (v : World c.R c.p F H F' H') (hq : ∀ q, c.p = some q → c.R.cnt q H' ≤ c.R.cnt q H) : Slots c F' H' σ ρ xx := by
  refine ⟨s.len, fun i d e => ?_, fun i d e => ?_, s.dj, fun i n e => ?_, s.ou, fun p hp => ⟨(s.ex p hp).1.step v, (s.ex p hp).2⟩, s.xd⟩
  · obtain ⟨u, h1, h2⟩ := s.im i d e
    exact ⟨u, h1, h2.mono v.ff⟩
  · obtain ⟨a, h1, h2⟩ := s.ow i d e
    exact ⟨a, h1, h2.step v⟩
  · obtain ⟨q, h1, h2, h3⟩ := s.or i n e
    exact ⟨q, h1, h2, Nat.le_trans (hq q h1) h3⟩
theorem Rel.step {c : Cn} {F H F' H' : Hp} {σ : L2.St} {ρ : List Sl} {xx : XX} (r : Rel c F H σ ρ xx) (v : World c.R c.p F H F' H') (hq : ∀ q, c.p = some q → c.R.cnt q H' ≤ c.R.cnt q H) : Rel c F' H' σ ρ xx := ⟨r.w.trans v, r.s.step v hq⟩
theorem Rel.stepN {c : Cn} {F H F' H' : Hp} {σ : L2.St} {ρ : List Sl} {xx : XX} (r : Rel c F H σ ρ xx) (v : World c.R none F H F' H') : Rel c F' H' σ ρ xx := r.step (r.w.ofNone v) fun q e => by
  refine Nat.le_of_eq (c.R.sc q H H' (r.w.or q e) fun a ha => ?_)
  have al := c.R.al q H a (r.w.or q e) ha
  cases z : H a with
  | none => exact absurd z al
  | some o => exact (v.kp a o z fun y => y).1
theorem ora_back {ρ : List Sl} {k : Nat} {x : Sl} (hx : ∀ m, x ≠ .ora m) {i m : Nat} (q : (ρ.set k x)[i]? = some (.ora m)) : ρ[i]? = some (.ora m) := by
  rw [List.getElem?_set] at q
  by_cases z : k = i
  · rw [if_pos z] at q
    split at q
    · exact absurd (Option.some.inj q) (hx m)
    · cases q
  · rw [if_neg z] at q
    exact q
theorem ou_set {ρ : List Sl} {k : Nat} {x : Sl} (hx : ∀ m, x ≠ .ora m) (h : ∀ (i j m n : Nat), ρ[i]? = some (.ora m) → ρ[j]? = some (.ora n) → i = j) : ∀ (i j m n : Nat), (ρ.set k x)[i]? = some (.ora m) → (ρ.set k x)[j]? = some (.ora n) → i = j :=
  fun i j m n a b => h i j m n (ora_back hx a) (ora_back hx b)
theorem Rel.apart {c : Cn} {F H : Hp} {σ : L2.St} {ρ : List Sl} {xx : XX} (r : Rel c F H σ ρ xx) {a : Addr} {o : HO} (n : ¬ Foot c.p H a) : ∀ (i n : Nat), ρ[i]? = some (.ora n) → ∃ q, c.p = some q ∧ σ[i]? = some (some (.ref q)) ∧ c.R.cnt q (upd H a o) ≤ n := by
  intro i m e
  obtain ⟨q, h1, h2, h3⟩ := r.s.or i m e
  refine ⟨q, h1, h2, ?_⟩
  rw [c.R.sc q H _ (r.w.or q h1) fun b hb => ?_]
  · exact h3
  · rw [upd_ne]
    intro z
    subst z
    exact n (by rw [h1]; exact hb)
/-- an own object becomes known -/
theorem Rel.freeze {c : Cn} {F H : Hp} {σ : L2.St} {ρ : List Sl} {xx : XX} (r : Rel c F H σ ρ xx) {i : Nat} {d : D} (e : ρ[i]? = some (.ow d)) :
    ∃ F' v, σ[i]? = some (some v) ∧ Ex F F' ∧ At c.K F' v d ∧ Rel c F' H σ (ρ.set i (.im d)) xx := by
  obtain ⟨a, h1, h2⟩ := r.s.ow i d e
  obtain ⟨o, ho, at_⟩ := h2.o.at
  have ef : Ex F (upd F a o) := Ex.new h2.f
  have hi : i < ρ.length := (List.getElem?_eq_some_iff.mp e).1
  refine ⟨upd F a o, .ref a, h1, ef, at_ _ ef upd_same, ⟨?_, ?_⟩⟩
  · refine ⟨r.w.ff.trans ef, fun b u q => ?_, r.w.kp, r.w.dom, fun b h f => ?_, fun b h => ?_, r.w.or⟩
    · by_cases z : b = a
      · subst z
        rw [upd_same] at q
        cases q
        exact ho
      · rw [upd_ne z] at q
        exact r.w.fh b u q
    · by_cases z : b = a
      · subst z
        exact absurd h2.y h
      · rw [upd_ne z]
        exact r.w.fn b h f
    · by_cases z : b = a
      · subst z
        exact h2.n
      · rw [upd_ne z] at h
        exact r.w.ft b h
  · refine ⟨by simpa using r.s.len, fun j x q => ?_, fun j x q => ?_, fun j k x y b q1 q2 s1 s2 => ?_, fun j n q => r.s.or j n (ora_back (by intro m z; cases z) q), ou_set (by intro m z; cases z) r.s.ou, fun p hp => ?_, r.s.xd⟩
    · rw [List.getElem?_set] at q
      by_cases z : i = j
      · subst z
        rw [if_pos rfl, if_pos hi] at q
        cases q
        exact ⟨.ref a, h1, at_ _ ef upd_same⟩
      · rw [if_neg z] at q
        obtain ⟨v, g1, g2⟩ := r.s.im j x q
        exact ⟨v, g1, g2.mono ef⟩
    · rw [List.getElem?_set] at q
      by_cases z : i = j
      · subst z
        rw [if_pos rfl, if_pos hi] at q
        cases q
      · rw [if_neg z] at q
        obtain ⟨b, g1, g2⟩ := r.s.ow j x q
        have hb : b ≠ a := fun zz => by
          subst zz
          exact z (r.s.dj i j d x b e q h1 g1)
        exact ⟨b, g1, ⟨g2.o.mono ef rfl, by rw [upd_ne hb]; exact g2.f, g2.y, g2.n⟩⟩
    · rw [List.getElem?_set] at q1 q2
      by_cases z : i = j
      · subst z
        rw [if_pos rfl, if_pos hi] at q1
        cases q1
      · rw [if_neg z] at q1
        by_cases z2 : i = k
        · subst z2
          rw [if_pos rfl, if_pos hi] at q2
          cases q2
        · rw [if_neg z2] at q2
          exact r.s.dj j k x y b q1 q2 s1 s2
    · obtain ⟨g2, gn⟩ := r.s.ex p hp
      have hb : p.1 ≠ a := fun zz => gn i d e (by rw [zz]; exact h1)
      refine ⟨⟨g2.o.mono ef rfl, by rw [upd_ne hb]; exact g2.f, g2.y, g2.n⟩, fun j x q => ?_⟩
      rw [List.getElem?_set] at q
      by_cases z : i = j
      · subst z
        rw [if_pos rfl, if_pos hi] at q
        cases q
      · rw [if_neg z] at q
        exact gn j x q
/-- an own object changes -/
theorem Rel.mut {c : Cn} {F H : Hp} {σ : L2.St} {ρ : List Sl} {xx : XX} (r : Rel c F H σ ρ xx) {i : Nat} {d d' : D} {a : Addr} {o : HO} (e : ρ[i]? = some (.ow d)) (h1 : σ[i]? = some (some (.ref a)))
    (hn : OwnO c.K F (upd H a o) a d') : Rel c F (upd H a o) σ (ρ.set i (.ow d')) xx := by
  obtain ⟨a', h1', h2⟩ := r.s.ow i d e
  rw [h1] at h1'
  cases h1'
  obtain ⟨o0, ho, _⟩ := h2.o.at
  have hi : i < ρ.length := (List.getElem?_eq_some_iff.mp e).1
  have hq : ∀ q, c.p = some q → upd H a o q = H q := fun q ep => by
    rw [upd_ne]
    intro z
    subst z
    exact h2.n (by rw [ep]; exact .inl rfl)
  have ff : ∀ b, Foot c.p (upd H a o) b ↔ Foot c.p H b := Foot.eqv hq
  refine ⟨⟨r.w.ff, fun b u q => ?_, fun b u q f => ?_, fun b h => ?_, r.w.fn, fun b h z => r.w.ft b h ((ff b).mp z), fun q ep => ?_⟩, ?_⟩
  · rw [upd_ne (fun z => by subst z; rw [h2.f] at q; cases q)]
    exact r.w.fh b u q
  · obtain ⟨g1, g2⟩ := r.w.kp b u q f
    refine ⟨?_, fun z => g2 ((ff b).mp z)⟩
    rw [upd_ne (fun z => by subst z; rw [h2.y] at q; cases q)]
    exact g1
  · by_cases z : b = a
    · subst z
      rw [upd_same]
      exact Option.some_ne_none o
    · rw [upd_ne z]
      exact r.w.dom b h
  · refine c.R.st q H _ (r.w.or q ep) fun b hb => ?_
    rw [upd_ne]
    intro z
    subst z
    exact h2.n (by rw [ep]; exact hb)
  · refine ⟨by simpa using r.s.len, fun j x q => ?_, fun j x q => ?_, fun j k x y b q1 q2 s1 s2 => ?_, fun j n q => r.apart h2.n j n (ora_back (by intro m z; cases z) q), ou_set (by intro m z; cases z) r.s.ou, fun p hp => ?_, r.s.xd⟩
    · rw [List.getElem?_set] at q
      by_cases z : i = j
      · subst z
        rw [if_pos rfl, if_pos hi] at q
        cases q
      · rw [if_neg z] at q
        exact r.s.im j x q
    · rw [List.getElem?_set] at q
      by_cases z : i = j
      · subst z
        rw [if_pos rfl, if_pos hi] at q
        cases q
        exact ⟨a, h1, ⟨hn, h2.f, h2.y, fun z => h2.n ((ff a).mp z)⟩⟩
      · rw [if_neg z] at q
        obtain ⟨b, g1, g2⟩ := r.s.ow j x q
        have hb : b ≠ a := fun zz => by
          subst zz
          exact z (r.s.dj i j d x b e q h1 g1)
        exact ⟨b, g1, ⟨g2.o.mono (Ex.refl F) (upd_ne hb), g2.f, g2.y, fun z => g2.n ((ff b).mp z)⟩⟩
    · have back : ∀ (k : Nat) (y : D), (ρ.set i (.ow d'))[k]? = some (.ow y) → ∃ y', ρ[k]? = some (.ow y') := fun k y q => by
        rw [List.getElem?_set] at q
        by_cases z : i = k
        · subst z
          exact ⟨d, e⟩
        · rw [if_neg z] at q
          exact ⟨y, q⟩
      obtain ⟨x', q1'⟩ := back j x q1
      obtain ⟨y', q2'⟩ := back k y q2
      exact r.s.dj j k x' y' b q1' q2' s1 s2
    · obtain ⟨g2, gn⟩ := r.s.ex p hp
      have hb : p.1 ≠ a := fun zz => gn i d e (by rw [zz]; exact h1)
      refine ⟨⟨g2.o.mono (Ex.refl F) (upd_ne hb), g2.f, g2.y, fun z => g2.n ((ff p.1).mp z)⟩, fun j x q => ?_⟩
      rw [List.getElem?_set] at q
      by_cases z : i = j
      · subst z
        exact gn i d e
      · rw [if_neg z] at q
        exact gn j x q
/-- a new object, held by nobody -/
structure Fresh (c : Cn) (F H : Hp) (σ : L2.St) (ρ : List Sl) (xx : XX) (a : Addr) (d : XO) : Prop where
  own : Own c F H a d
  ne : ∀ (i : Nat) (e : D), ρ[i]? = some (.ow e) → σ[i]? ≠ some (some (.ref a))
  nx : ∀ p ∈ xx, p.1 ≠ a
theorem set_lt {α : Type} {ρ : List α} {i j : Nat} {x y : α} (h : (ρ.set i x)[j]? = some y) : (i = j ∧ i < ρ.length ∧ x = y) ∨ (i ≠ j ∧ ρ[j]? = some y) := by
  rw [List.getElem?_set] at h
  by_cases z : i = j
  · rw [if_pos z] at h
    by_cases hl : i < ρ.length
    · rw [if_pos hl] at h
      exact .inl ⟨z, hl, Option.some.inj h⟩
    · rw [if_neg hl] at h
      cases h
  · rw [if_neg z] at h
    exact .inr ⟨z, h⟩
theorem get_set_ne {α : Type} {ρ : List α} {i j : Nat} {x : α} (h : i ≠ j) : (ρ.set i x)[j]? = ρ[j]? := by rw [List.getElem?_set, if_neg h]
theorem get_set_eq {α : Type} {ρ : List α} {i : Nat} {x : α} (h : i < ρ.length) : (ρ.set i x)[i]? = some x := by rw [List.getElem?_set, if_pos rfl, if_pos h]
theorem Slots.put {c : Cn} {F H : Hp} {σ : L2.St} {ρ : List Sl} {xx : XX} (s : Slots c F H σ ρ xx) {v : V} {x : Sl} (i : Nat)
    (him : ∀ d, x = .im d → At c.K F v d) (how : ∀ d, x = .ow d → ∃ a, v = .ref a ∧ Fresh c F H σ ρ xx a d) (hor : ∀ n, x ≠ .ora n) : Slots c F H (σ.set i (some v)) (ρ.set i x) xx := by
  refine ⟨by simpa using s.len, fun j d q => ?_, fun j d q => ?_, fun j k d e b q1 q2 s1 s2 => ?_, fun j n q => ?_, ou_set hor s.ou, fun p hp => ⟨(s.ex p hp).1, fun j d q => ?_⟩, s.xd⟩
  · rcases set_lt q with ⟨rfl, hl, e⟩ | ⟨z, q⟩
    · exact ⟨v, get_set_eq (by rw [← s.len]; exact hl), him d e⟩
    · obtain ⟨u, g1, g2⟩ := s.im j d q
      exact ⟨u, by rw [get_set_ne z]; exact g1, g2⟩
  · rcases set_lt q with ⟨rfl, hl, e⟩ | ⟨z, q⟩
    · obtain ⟨a, ev, fr⟩ := how d e
      subst ev
      exact ⟨a, get_set_eq (by rw [← s.len]; exact hl), fr.own⟩
    · obtain ⟨u, g1, g2⟩ := s.ow j d q
      exact ⟨u, by rw [get_set_ne z]; exact g1, g2⟩
  · rcases set_lt q1 with ⟨rfl, hl, e1⟩ | ⟨z, q1⟩
    · rcases set_lt q2 with ⟨rfl, _, _⟩ | ⟨z2, q2⟩
      · rfl
      · exfalso
        obtain ⟨a, ev, fr⟩ := how d e1
        rw [get_set_eq (by rw [← s.len]; exact hl)] at s1
        rw [get_set_ne z2] at s2
        cases s1
        cases ev
        exact fr.ne k e q2 s2
    · rcases set_lt q2 with ⟨rfl, hl, e2⟩ | ⟨z2, q2⟩
      · exfalso
        obtain ⟨a, ev, fr⟩ := how e e2
        rw [get_set_eq (by rw [← s.len]; exact hl)] at s2
        rw [get_set_ne z] at s1
        cases s2
        cases ev
        exact fr.ne j d q1 s1
      · rw [get_set_ne z] at s1
        rw [get_set_ne z2] at s2
        exact s.dj j k d e b q1 q2 s1 s2
  · rcases set_lt q with ⟨rfl, hl, e⟩ | ⟨z, q⟩
    · exact absurd e (hor n)
    · obtain ⟨u, g1, g2, g3⟩ := s.or j n q
      exact ⟨u, g1, by rw [get_set_ne z]; exact g2, g3⟩
  · rcases set_lt q with ⟨rfl, hl, e⟩ | ⟨z, q⟩
    · obtain ⟨a, ev, fr⟩ := how d e
      subst ev
      rw [get_set_eq (by rw [← s.len]; exact hl)]
      intro zz
      cases zz
      exact fr.nx p hp rfl
    · rw [get_set_ne z]
      exact (s.ex p hp).2 j d q
theorem Rel.putI {c : Cn} {F H : Hp} {σ : L2.St} {ρ : List Sl} {xx : XX} (r : Rel c F H σ ρ xx) {v : V} {d : D} (i : Nat) (h : At c.K F v d) : Rel c F H (σ.set i (some v)) (ρ.set i (.im d)) xx :=
  ⟨r.w, r.s.put i (fun _ e => by cases e; exact h) (fun _ e => by cases e) (by intro m z; cases z)⟩
theorem Rel.putO {c : Cn} {F H : Hp} {σ : L2.St} {ρ : List Sl} {xx : XX} (r : Rel c F H σ ρ xx) {a : Addr} {d : D} (i : Nat) (h : Fresh c F H σ ρ xx a d) : Rel c F H (σ.set i (some (.ref a))) (ρ.set i (.ow d)) xx :=
  ⟨r.w, r.s.put i (fun _ e => by cases e) (fun _ e => by cases e; exact ⟨a, rfl, h⟩) (by intro m z; cases z)⟩
/-- what an own slot holds becomes known, as a value -/
theorem Fresh.freeze {c : Cn} {F H : Hp} {σ : L2.St} {ρ : List Sl} {xx : XX} {a : Addr} {d : D} (r : Rel c F H σ ρ xx) (h : Fresh c F H σ ρ xx a d) : ∃ F', Ex F F' ∧ At c.K F' (.ref a) d ∧ Rel c F' H σ ρ xx := by
  obtain ⟨o, ho, at_⟩ := h.own.o.at
  have ef : Ex F (upd F a o) := Ex.new h.own.f
  refine ⟨upd F a o, ef, at_ _ ef upd_same, ⟨⟨r.w.ff.trans ef, fun b u q => ?_, r.w.kp, r.w.dom, fun b g f => ?_, fun b g => ?_, r.w.or⟩, ⟨r.s.len, fun j x q => ?_, fun j x q => ?_, r.s.dj, r.s.or, r.s.ou, fun p hp => ?_, r.s.xd⟩⟩⟩
  · by_cases z : b = a
    · subst z
      rw [upd_same] at q
      cases q
      exact ho
    · rw [upd_ne z] at q
      exact r.w.fh b u q
  · by_cases z : b = a
    · subst z
      exact absurd h.own.y g
    · rw [upd_ne z]
      exact r.w.fn b g f
  · by_cases z : b = a
    · subst z
      exact h.own.n
    · rw [upd_ne z] at g
      exact r.w.ft b g
  · obtain ⟨v, g1, g2⟩ := r.s.im j x q
    exact ⟨v, g1, g2.mono ef⟩
  · obtain ⟨b, g1, g2⟩ := r.s.ow j x q
    have hb : b ≠ a := fun zz => by
      subst zz
      exact h.ne j x q g1
    exact ⟨b, g1, ⟨g2.o.mono ef rfl, by rw [upd_ne hb]; exact g2.f, g2.y, g2.n⟩⟩
  · obtain ⟨g2, gn⟩ := r.s.ex p hp
    exact ⟨⟨g2.o.mono ef rfl, by rw [upd_ne (h.nx p hp)]; exact g2.f, g2.y, g2.n⟩, gn⟩
theorem Fresh.new {c : Cn} {F H : Hp} {σ : L2.St} {ρ : List Sl} {xx : XX} (r : Rel c F H σ ρ xx) {q : Addr} {o : HO} {d : XO} (hq : H q = none) (h : OwnX c.K F (upd H q o) q d) :
    Rel c F (upd H q o) σ ρ xx ∧ Fresh c F (upd H q o) σ ρ xx q d := by
  have w := r.w.newO o hq
  refine ⟨r.stepN w, ⟨⟨h, ?_, ?_, fun z => ?_⟩, fun i e q1 q2 => ?_, fun p hp z => ?_⟩⟩
  · cases e : F q with
    | none => rfl
    | some u =>
      have := r.w.fh q u e
      rw [hq] at this
      cases this
  · cases e : c.H0 q with
    | none => rfl
    | some u => exact absurd hq (r.w.dom q (by rw [e]; exact Option.some_ne_none u))
  · have e : ∀ u, c.p = some u → upd H q o u = H u := fun u ep => by
      rw [upd_ne]
      intro zz
      subst zz
      exact r.w.foot_al (a := u) (by rw [ep]; exact .inl rfl) hq
    exact r.w.foot_al ((Foot.eqv e q).mp z) hq
  · obtain ⟨a, g1, g2⟩ := r.s.ow i e q1
    rw [q2] at g1
    cases g1
    obtain ⟨u, hu⟩ := g2.o.some
    rw [hq] at hu
    cases hu
  · obtain ⟨u, hu⟩ := (r.s.ex p hp).1.o.some
    rw [z, hq] at hu
    cases hu
/-- one more object on the side, and off again -/
theorem Rel.pushX {c : Cn} {F H : Hp} {σ : L2.St} {ρ : List Sl} {xx : XX} {a : Addr} {d : XO} (r : Rel c F H σ ρ xx) (h : Fresh c F H σ ρ xx a d) : Rel c F H σ ρ ((a, d) :: xx) := by
  refine ⟨r.w, ⟨r.s.len, r.s.im, r.s.ow, r.s.dj, r.s.or, r.s.ou, fun p hp => ?_, ?_⟩⟩
  · (rcases List.mem_cons.mp hp with rfl | hp)
    · exact ⟨h.own, h.ne⟩
    · exact r.s.ex p hp
  · rw [List.map_cons, List.nodup_cons]
    refine ⟨fun z => ?_, r.s.xd⟩
    obtain ⟨p, hp, e⟩ := List.mem_map.mp z
    exact h.nx p hp e
theorem Rel.popX {c : Cn} {F H : Hp} {σ : L2.St} {ρ : List Sl} {xx : XX} {a : Addr} {d : XO} (r : Rel c F H σ ρ ((a, d) :: xx)) : Rel c F H σ ρ xx ∧ Fresh c F H σ ρ xx a d := by
  have hx := r.s.xd
  rw [List.map_cons, List.nodup_cons] at hx
  have h0 := r.s.ex (a, d) (List.mem_cons_self ..)
  exact ⟨⟨r.w, ⟨r.s.len, r.s.im, r.s.ow, r.s.dj, r.s.or, r.s.ou, fun p hp => r.s.ex p (List.mem_cons_of_mem _ hp), hx.2⟩⟩, ⟨h0.1, h0.2, fun p hp e => hx.1 (List.mem_map.mpr ⟨p, hp, e⟩)⟩⟩
theorem Rel.mutX {c : Cn} {F H : Hp} {σ : L2.St} {ρ : List Sl} {xx : XX} {a : Addr} {d d' : XO} {o : HO} (r : Rel c F H σ ρ ((a, d) :: xx)) (hn : OwnX c.K F (upd H a o) a d') : Rel c F (upd H a o) σ ρ ((a, d') :: xx) := by
  obtain ⟨r0, h2⟩ := r.popX
  have hq : ∀ q, c.p = some q → upd H a o q = H q := fun q ep => by
    rw [upd_ne]
    intro z
    subst z
    exact h2.own.n (by rw [ep]; exact .inl rfl)
  have ff : ∀ b, Foot c.p (upd H a o) b ↔ Foot c.p H b := Foot.eqv hq
  have r1 : Rel c F (upd H a o) σ ρ xx := by
    refine ⟨⟨r0.w.ff, fun b u q => ?_, fun b u q f => ?_, fun b h => ?_, r0.w.fn, fun b h z => r0.w.ft b h ((ff b).mp z), fun q ep => ?_⟩, ⟨r0.s.len, r0.s.im, fun i x q => ?_, r0.s.dj, r0.apart h2.own.n, r0.s.ou, fun p hp => ?_, r0.s.xd⟩⟩
    · rw [upd_ne (fun z => by subst z; rw [h2.own.f] at q; cases q)]
      exact r0.w.fh b u q
    · obtain ⟨g1, g2⟩ := r0.w.kp b u q f
      refine ⟨?_, fun z => g2 ((ff b).mp z)⟩
      rw [upd_ne (fun z => by subst z; rw [h2.own.y] at q; cases q)]
      exact g1
    · by_cases z : b = a
      · subst z
        rw [upd_same]
        exact Option.some_ne_none o
      · rw [upd_ne z]
        exact r0.w.dom b h
    · refine c.R.st q H _ (r0.w.or q ep) fun b hb => ?_
      rw [upd_ne]
      intro z
      subst z
      exact h2.own.n (by rw [ep]; exact hb)
    · obtain ⟨b, g1, g2⟩ := r0.s.ow i x q
      have hb : b ≠ a := fun zz => by
        subst zz
        exact h2.ne i x q g1
      exact ⟨b, g1, ⟨g2.o.mono (Ex.refl F) (upd_ne hb), g2.f, g2.y, fun z => g2.n ((ff b).mp z)⟩⟩
    · obtain ⟨g2, gn⟩ := r0.s.ex p hp
      exact ⟨⟨g2.o.mono (Ex.refl F) (upd_ne (h2.nx p hp)), g2.f, g2.y, fun z => g2.n ((ff p.1).mp z)⟩, gn⟩
  exact r1.pushX ⟨⟨hn, h2.own.f, h2.own.y, fun z => h2.own.n ((ff a).mp z)⟩, h2.ne, h2.nx⟩
theorem Rel.newF {c : Cn} {F H : Hp} {σ : L2.St} {ρ : List Sl} {xx : XX} (r : Rel c F H σ ρ xx) {q : Addr} (o : HO) (hq : H q = none) : Rel c (upd F q o) (upd H q o) σ ρ xx := r.stepN (r.w.newF o hq)
theorem Rel.efF {c : Cn} {F H : Hp} {σ : L2.St} {ρ : List Sl} {xx : XX} (r : Rel c F H σ ρ xx) {q : Addr} (o : HO) (hq : H q = none) : Ex F (upd F q o) := (r.w.newF o hq).ff
end DL
namespace DL
open PySem L2
/-- the count of a source behind a call of a def that draws -/
theorem Rel.drew {c : Cn} {F H F' H' : Hp} {σ : L2.St} {ρ : List Sl} {xx : XX} (r : Rel c F H σ ρ xx) (v : World c.R c.p F H F' H') {i m n : Nat} (e : ρ[i]? = some (.ora m)) (hn : ∀ q, c.p = some q → c.R.cnt q H' ≤ n) : Rel c F' H' σ (ρ.set i (.ora n)) xx := by
  have nr : ∀ {j : Nat} {x : Sl}, (ρ.set i (.ora n))[j]? = some x → (∀ k, x ≠ .ora k) → ρ[j]? = some x := by
    intro j x q hx
    rcases set_lt q with ⟨_, _, z⟩ | ⟨_, q⟩
    · exact absurd z.symm (hx n)
    · exact q
  refine ⟨r.w.trans v, ⟨by simpa using r.s.len, fun j d q => ?_, fun j d q => ?_, fun j k d e' b q1 q2 => ?_, fun j k q => ?_, fun j k a b q1 q2 => ?_, fun p hp => ⟨(r.s.ex p hp).1.step v, fun j d q => (r.s.ex p hp).2 j d (nr q fun _ z => by cases z)⟩, r.s.xd⟩⟩
  · obtain ⟨u, h1, h2⟩ := r.s.im j d (nr q fun _ z => by cases z)
    exact ⟨u, h1, h2.mono v.ff⟩
  · obtain ⟨a, h1, h2⟩ := r.s.ow j d (nr q fun _ z => by cases z)
    exact ⟨a, h1, h2.step v⟩
  · exact r.s.dj j k d e' b (nr q1 fun _ z => by cases z) (nr q2 fun _ z => by cases z)
  · rcases set_lt q with ⟨z, _, y⟩ | ⟨z, q⟩
    · subst z
      cases y
      obtain ⟨p, h1, h2, _⟩ := r.s.or i m e
      exact ⟨p, h1, h2, hn p h1⟩
    · exact absurd (r.s.ou i j m k e q) z
  · have one : ∀ {j a : Nat}, (ρ.set i (.ora n))[j]? = some (.ora a) → i = j := by
      intro j a q
      rcases set_lt q with ⟨z, _, _⟩ | ⟨_, q⟩
      · exact z
      · exact r.s.ou i j m a e q
    exact (one q1).symm.trans (one q2)
end DL
namespace DL
open PySem L2
abbrev Env := List Sl
abbrev DM := Env → (D → Env → Prop) → Prop
abbrev BM := Env → (Bool → Env → Prop) → Prop
inductive Ar where
  | d (x : D) | ora
abbrev LM := Env → (List D → Env → Prop) → Prop
abbrev AM := Env → (List Ar → Env → Prop) → Prop
/-- a value, or what stands in a slot by the time it is wanted -/
inductive Hd where
  | val (d : D) | slot (i : Nat)
abbrev HM := Env → (Hd → Env → Prop) → Prop
def see (ρ : Env) (h : Hd) (k : D → Prop) : Prop := match h with
  | .val d => k d
  | .slot i => match ρ[i]? with
    | some (.im d) => k d
    | some (.ow d) => k d
    | _ => False
def HdAt (c : Cn) (F : Hp) (σ : L2.St) : Hd → V → Prop
  | .val d, v => At c.K F v d
  | .slot i, v => σ[i]? = some (some v)
def tD (c : Cn) (f : DM) : TE := fun σ H Q => ∃ F ρ xx P, Rel c F H σ ρ xx ∧ f ρ P ∧ ∀ d ρ' v F' H', P d ρ' → Ex F F' → Rel c F' H' σ ρ' xx → At c.K F' v d → Q v H'
/-- a new object, held by nobody -/
def tN (c : Cn) (f : DM) : TE := fun σ H Q => ∃ F ρ xx P, Rel c F H σ ρ xx ∧ f ρ P ∧ ∀ d ρ' a F' H', P d ρ' → Ex F F' → Rel c F' H' σ ρ' xx → Fresh c F' H' σ ρ' xx a d → Q (.ref a) H'
def tH (c : Cn) (f : HM) : TE := fun σ H Q => ∃ F ρ xx P, Rel c F H σ ρ xx ∧ f ρ P ∧ ∀ d ρ' v F' H', P d ρ' → Ex F F' → Rel c F' H' σ ρ' xx → HdAt c F' σ d v → Q v H'
def tT (c : Cn) (f : BM) : TT := fun σ H Q => ∃ F ρ xx P, Rel c F H σ ρ xx ∧ f ρ P ∧ ∀ b ρ' F' H', P b ρ' → Ex F F' → Rel c F' H' σ ρ' xx → Q b H'
def tL (c : Cn) (f : LM) : TA := fun σ H Q => ∃ F ρ xx P, Rel c F H σ ρ xx ∧ f ρ P ∧ ∀ ds ρ' vs F' H', P ds ρ' → Ex F F' → Rel c F' H' σ ρ' xx → AtAll c.K F' vs ds → Q vs H'
def ArAt (c : Cn) (F : Hp) : V → Ar → Prop
  | v, .d x => At c.K F v x
  | v, .ora => ∃ q, c.p = some q ∧ v = .ref q
def tAr (c : Cn) (f : AM) : TA := fun σ H Q => ∃ F ρ xx P, Rel c F H σ ρ xx ∧ f ρ P ∧ ∀ ds ρ' vs F' H', P ds ρ' → Ex F F' → Rel c F' H' σ ρ' xx → Paired (ArAt c F') vs ds → Q vs H'
theorem PE.to {X : Cx} {e : Expr} {t t' : TE} (h : PE X e t) (w : ∀ σ H Q, t' σ H Q → t σ H Q) : PE X e t' := ⟨fun pins s σ H Q I q => h.run pins s σ H Q I (w σ H Q q)⟩
theorem PT.to {X : Cx} {e : Expr} {t t' : TT} (h : PT X e t) (w : ∀ σ H Q, t' σ H Q → t σ H Q) : PT X e t' := ⟨fun pins s σ H Q I q => h.run pins s σ H Q I (w σ H Q q)⟩
theorem PA.to {X : Cx} {e : List Expr} {t t' : TA} (h : PA X e t) (w : ∀ σ H Q, t' σ H Q → t σ H Q) : PA X e t' := ⟨fun pos pins s σ H Q I q => h.run pos pins s σ H Q I (w σ H Q q)⟩
/-- what is to be read of a value: known, or the own object of a slot -/
def Bo (c : Cn) (F H : Hp) (v : V) (d : D) : Prop := At c.K F v d ∨ ∃ a, v = .ref a ∧ OwnO c.K F H a d
theorem Bo.at {c : Cn} {F H : Hp} {v : V} {d : D} (e : Ex F H) (h : Bo c F H v d) : At c.K H v d := by
  rcases h with h | ⟨a, rfl, h⟩
  · exact h.mono e
  · obtain ⟨o, ho, k⟩ := h.at
    exact k H e ho
theorem see_bo {c : Cn} {F H : Hp} {σ : L2.St} {ρ : Env} {xx : XX} (r : Rel c F H σ ρ xx) {h : Hd} {v : V} (hv : HdAt c F σ h v) {k : D → Prop} (hs : see ρ h k) : ∃ d, Bo c F H v d ∧ k d := by
  cases h with
  | val d => exact ⟨d, .inl hv, hs⟩
  | slot i =>
    unfold see at hs
    have hv' : σ[i]? = some (some v) := hv
    simp only at hs
    split at hs
    · rename_i d e
      obtain ⟨u, g1, g2⟩ := r.s.im i d e
      rw [hv'] at g1
      cases g1
      exact ⟨d, .inl g2, hs⟩
    · rename_i d e
      obtain ⟨u, g1, g2⟩ := r.s.ow i d e
      rw [hv'] at g1
      cases g1
      exact ⟨d, .inr ⟨u, rfl, g2.o⟩, hs⟩
    · exact hs.elim
theorem HdAt.mono {c : Cn} {F F' : Hp} (e : Ex F F') {σ : L2.St} {h : Hd} {v : V} (x : HdAt c F σ h v) : HdAt c F' σ h v := by
  cases h with
  | val d => exact At.mono e x
  | slot i => exact x
section
variable {X : Cx} {c : Cn} {e a b : Expr} {pos : Pos}
def dC (d : D) : DM := fun ρ P => P d ρ
theorem de_c {t : V} {d : D} (h : PE X e (tC t)) (hd : ∀ F, At c.K F t d) : PE X e (tD c (dC d)) := PE.to h fun σ H Q ⟨F, ρ, xx, P, r, q, k⟩ => k d ρ t F H q (Ex.refl F) r (hd F)
theorem de_int {i : Int} {j : Nat} : PE X (.Constant (.int i) j pos) (tD c (dC (.int i))) := de_c pe_int fun _ => .int i
theorem de_bl {i : Bool} {j : Nat} : PE X (.Constant (.bool i) j pos) (tD c (dC (.bool i))) := de_c pe_bl fun _ => .bl i
theorem de_non {j : Nat} : PE X (.Constant .none j pos) (tD c (dC .none)) := de_c pe_non fun _ => .non
theorem de_str {x : Str} {j : Nat} : PE X (.Constant (.str x) j pos) (tD c (dC (.str x))) := de_c pe_str fun _ => .str x
/-- a name of the module that holds a number, a text -/
theorem de_gint {x : Str} {i : Int} (hg : Gl X x) (hm : ∃ t, X.mg x = some (.int i t)) (hd : (x == ("__debug__" : Str)) = false := by decide) : PE X (.Name x pos) (tD c (dC (.int i))) := by
  obtain ⟨t, hm⟩ := hm
  exact de_c (pe_glob (v := .int i) hg hm ⟨t, rfl⟩ hd) fun _ => .int i
/-- a name of the module that holds a tuple of the top -/
theorem de_gref {x : Str} {u : Addr} {d : D} (hg : Gl X x) (hm : X.mg x = some (.ref u)) (ha : ∀ F, At c.K F (.ref u) d) (hd : (x == ("__debug__" : Str)) = false := by decide) : PE X (.Name x pos) (tD c (dC d)) :=
  de_c (pe_glob (v := .ref u) hg hm rfl hd) ha
/-- the slot's value, which is known from then on -/
def dV (i : Nat) : DM := fun ρ P => match ρ[i]? with
  | some (.im d) => P d ρ
  | some (.ow d) => P d (ρ.set i (.im d))
  | _ => False
theorem de_v {i : Nat} (h : PE X e (tVar i)) : PE X e (tD c (dV i)) := PE.to h fun σ H Q ⟨F, ρ, xx, P, r, q, k⟩ => by
  unfold dV at q
  split at q
  · rename_i d e
    obtain ⟨v, g1, g2⟩ := r.s.im i d e
    exact ⟨v, g1, k d ρ v F H q (Ex.refl F) r g2⟩
  · rename_i d e
    obtain ⟨F', v, g1, g2, g3, g4⟩ := r.freeze e
    exact ⟨v, g1, k d _ v F' H q g2 g4 g3⟩
  · exact q.elim
def hS (i : Nat) : HM := fun ρ P => (match ρ[i]? with
  | some (.im _) => True
  | some (.ow _) => True
  | _ => False) ∧ P (.slot i) ρ
theorem dh_v {i : Nat} (h : PE X e (tVar i)) : PE X e (tH c (hS i)) := PE.to h fun σ H Q ⟨F, ρ, xx, P, r, ⟨q0, q⟩, k⟩ => by
  split at q0
  · rename_i d e
    obtain ⟨v, g1, g2⟩ := r.s.im i d e
    exact ⟨v, g1, k _ ρ v F H q (Ex.refl F) r g1⟩
  · rename_i d e
    obtain ⟨v, g1, g2⟩ := r.s.ow i d e
    exact ⟨.ref v, g1, k _ ρ _ F H q (Ex.refl F) r g1⟩
  · exact q0.elim
def hV (f : DM) : HM := fun ρ P => f ρ fun d ρ' => P (.val d) ρ'
theorem dh_of {f : DM} (h : PE X e (tD c f)) : PE X e (tH c (hV f)) := PE.to h fun σ H Q ⟨F, ρ, xx, P, r, q, k⟩ => ⟨F, ρ, xx, _, r, q, fun d ρ' v F' H' p e r' at_ => k (.val d) ρ' v F' H' p e r' at_⟩
theorem de_n {f : DM} (h : PE X e (tN c f)) : PE X e (tD c f) := PE.to h fun σ H Q ⟨F, ρ, xx, P, r, q, k⟩ => ⟨F, ρ, xx, P, r, q, fun d ρ' a F' H' p e r' fr => by
  obtain ⟨F2, e2, at_, r2⟩ := fr.freeze r'
  exact k d ρ' (.ref a) F2 H' p (e.trans e2) r2 at_⟩
abbrev G2 := D → D → (D → Prop) → Prop
/-- f does on values what g tells of data -/
def Sem2 (X : Cx) (c : Cn) (f : Value → Value → Sem Value) (g : G2) : Prop := ∃ r : R2, OpR X f r ∧ ∀ (F H : Hp) (σ : L2.St) (ρ : Env) (xx : XX) (x y : D) (vx vy : V) (P : D → Prop) (Q : VK), Rel c F H σ ρ xx → Bo c F H vx x → Bo c F H vy y → g x y P →
  (∀ z v F' H', P z → Ex F F' → Rel c F' H' σ ρ xx → At c.K F' v z → Q v H') → r vx vy H Q
def d2 (g : G2) (fa fb : HM) : DM := fun ρ P => fa ρ fun x ρ1 => fb ρ1 fun y ρ2 => see ρ2 x fun dx => see ρ2 y fun dy => g dx dy fun z => P z ρ2
theorem d2_use {r : R2} {g : G2} {fa fb : HM} {ta tb : TE} (hr : ∀ (F H : Hp) (σ : L2.St) (ρ : Env) (xx : XX) (x y : D) (vx vy : V) (P : D → Prop) (Q : VK), Rel c F H σ ρ xx → Bo c F H vx x → Bo c F H vy y → g x y P →
    (∀ z v F' H', P z → Ex F F' → Rel c F' H' σ ρ xx → At c.K F' v z → Q v H') → r vx vy H Q) (ea : ta = tH c fa) (eb : tb = tH c fb) : ∀ σ H Q, tD c (d2 g fa fb) σ H Q → tOp r ta tb σ H Q := by
  rintro σ H Q ⟨F, ρ, xx, P, rel, q, k⟩
  subst ea eb
  refine ⟨F, ρ, xx, _, rel, q, fun x ρ1 v F1 H1 q1 e1 r1 h1 => ?_⟩
  refine ⟨F1, ρ1, xx, _, r1, q1, fun y ρ2 u F2 H2 q2 e2 r2 h2 => ?_⟩
  obtain ⟨dx, bx, q2⟩ := see_bo r2 (h1.mono e2) q2
  obtain ⟨dy, by_, q2⟩ := see_bo r2 h2 q2
  exact hr F2 H2 σ ρ2 xx dx dy v u _ Q r2 bx by_ q2 fun z w F' H' pz ez rz az => k z ρ2 w F' H' pz ((e1.trans e2).trans ez) rz az
theorem de_bin {op : Operator} {g : G2} {fa fb : HM} (hs : Sem2 X c (binaryOp op) g) (ha : PE X a (tH c fa)) (hb : PE X b (tH c fb)) : PE X (.BinOp a op b pos) (tD c (d2 g fa fb)) := by
  obtain ⟨r, ho, hr⟩ := hs
  exact PE.to (pe_op ho ha hb) (d2_use hr rfl rfl)
theorem de_cmp {op : CmpOp} {g : G2} {fa fb : HM} (hs : Sem2 X c (compareOp op) g) (ha : PE X a (tH c fa)) (hb : PE X b (tH c fb)) (hm : behindInMarks op b = false) : PE X (.Compare a [op] [b] pos) (tD c (d2 g fa fb)) := by
  obtain ⟨r, ho, hr⟩ := hs
  exact PE.to (pe_cmpR ho ha hb hm) (d2_use hr rfl rfl)
/-- a test: what is a bool -/
def bD (f : DM) : BM := fun ρ P => f ρ fun d ρ' => match d with
  | .bool b => P b ρ'
  | _ => False
theorem bD_use {f : DM} {t : TE} (et : t = tD c f) : ∀ σ H Q, tT c (bD f) σ H Q → (t σ H fun x H' => ∃ k, x = .bl k ∧ Q k H') := by
  rintro σ H Q ⟨F, ρ, xx, P, rel, q, k⟩
  subst et
  refine ⟨F, ρ, xx, _, rel, q, fun d ρ' v F' H' p e r at_ => ?_⟩
  cases d <;> first | exact p.elim | (cases at_; exact ⟨_, rfl, k _ ρ' F' H' p e r⟩)
theorem dt_cmp {op : CmpOp} {g : G2} {fa fb : HM} (hs : Sem2 X c (compareOp op) g) (ha : PE X a (tH c fa)) (hb : PE X b (tH c fb)) (hm : behindInMarks op b = false) : PT X (.Compare a [op] [b] pos) (tT c (bD (d2 g fa fb))) := by
  obtain ⟨r, ho, hr⟩ := hs
  refine PT.to (pt_cmpR ho ha hb hm) fun σ H Q h => d2_use hr rfl rfl σ H _ ?_
  exact bD_use rfl σ H Q h
/-- a < b < e -/
def dChain (g g' : G2) (fa fb fc : HM) : DM := fun ρ P => fa ρ fun x ρ1 => fb ρ1 fun y ρ2 => see ρ2 x fun dx => see ρ2 y fun dy => g dx dy fun z => match z with
  | .bool true => fc ρ2 fun w ρ3 => see ρ3 y fun dy' => see ρ3 w fun dw => g' dy' dw fun z' => P z' ρ3
  | .bool false => P (.bool false) ρ2
  | _ => False
theorem dChain_use {r r' : R2} {g g' : G2} {fa fb fc : HM} {ta tb tc : TE} (hr : ∀ (F H : Hp) (σ : L2.St) (ρ : Env) (xx : XX) (x y : D) (vx vy : V) (P : D → Prop) (Q : VK), Rel c F H σ ρ xx → Bo c F H vx x → Bo c F H vy y → g x y P →
    (∀ z v F' H', P z → Ex F F' → Rel c F' H' σ ρ xx → At c.K F' v z → Q v H') → r vx vy H Q)
    (hr' : ∀ (F H : Hp) (σ : L2.St) (ρ : Env) (xx : XX) (x y : D) (vx vy : V) (P : D → Prop) (Q : VK), Rel c F H σ ρ xx → Bo c F H vx x → Bo c F H vy y → g' x y P →
    (∀ z v F' H', P z → Ex F F' → Rel c F' H' σ ρ xx → At c.K F' v z → Q v H') → r' vx vy H Q) (ea : ta = tH c fa) (eb : tb = tH c fb) (ec : tc = tH c fc) : ∀ σ H Q, tD c (dChain g g' fa fb fc) σ H Q → tChain r r' ta tb tc σ H Q := by
  rintro σ H Q ⟨F, ρ, xx, P, rel, q, k⟩
  subst ea eb ec
  refine ⟨F, ρ, xx, _, rel, q, fun x ρ1 v F1 H1 q1 e1 r1 h1 => ?_⟩
  refine ⟨F1, ρ1, xx, _, r1, q1, fun y ρ2 u F2 H2 q2 e2 r2 h2 => ?_⟩
  obtain ⟨dx, bx, q2⟩ := see_bo r2 (h1.mono e2) q2
  obtain ⟨dy, by_, q2⟩ := see_bo r2 h2 q2
  refine hr F2 H2 σ ρ2 xx dx dy v u _ _ r2 bx by_ q2 fun z w F' H' pz ez rz az => ?_
  split at pz
  · cases az
    refine ⟨true, rfl, ?_⟩
    rw [if_pos rfl]
    refine ⟨F', ρ2, xx, _, rz, pz, fun t ρ3 s F3 H3 q3 e3 r3 h3 => ?_⟩
    obtain ⟨dy', by', q3⟩ := see_bo r3 (h2.mono (ez.trans e3)) q3
    obtain ⟨dw, bw, q3⟩ := see_bo r3 h3 q3
    exact hr' F3 H3 σ ρ3 xx dy' dw u s _ Q r3 by' bw q3 fun z' w' F4 H4 p4 e4 r4 a4 => k z' ρ3 w' F4 H4 p4 ((((e1.trans e2).trans ez).trans e3).trans e4) r4 a4
  · cases az
    refine ⟨false, rfl, ?_⟩
    (rw [if_neg Bool.false_ne_true])
    exact k _ ρ2 _ F' H' pz ((e1.trans e2).trans ez) rz (.bl false)
  · exact pz.elim
theorem de_chain {e3 : Expr} {op op' : CmpOp} {g g' : G2} {fa fb fc : HM} (hs : Sem2 X c (compareOp op) g) (hs' : Sem2 X c (compareOp op') g') (ha : PE X a (tH c fa)) (hb : PE X b (tH c fb)) (hc : PE X e3 (tH c fc)) (hm : lastMarks [op, op'] [b, e3] = false) :
    PE X (.Compare a [op, op'] [b, e3] pos) (tD c (dChain g g' fa fb fc)) := by
  obtain ⟨r, ho, hr⟩ := hs
  obtain ⟨r', ho', hr'⟩ := hs'
  exact PE.to (pe_chain ho ho' ha hb hc hm) (dChain_use hr hr' rfl rfl rfl)
theorem dt_chain {e3 : Expr} {op op' : CmpOp} {g g' : G2} {fa fb fc : HM} (hs : Sem2 X c (compareOp op) g) (hs' : Sem2 X c (compareOp op') g') (ha : PE X a (tH c fa)) (hb : PE X b (tH c fb)) (hc : PE X e3 (tH c fc)) (hm : lastMarks [op, op'] [b, e3] = false) :
    PT X (.Compare a [op, op'] [b, e3] pos) (tT c (bD (dChain g g' fa fb fc))) := by
  obtain ⟨r, ho, hr⟩ := hs
  obtain ⟨r', ho', hr'⟩ := hs'
  refine PT.to (pt_chain ho ho' ha hb hc hm) fun σ H Q h => dChain_use hr hr' rfl rfl rfl σ H _ (bD_use rfl σ H Q h)
def bAnd (f g : BM) : BM := fun ρ P => f ρ fun b ρ1 => if b = true then g ρ1 P else P false ρ1
def bOr (f g : BM) : BM := fun ρ P => f ρ fun b ρ1 => if b = true then P true ρ1 else g ρ1 P
def bNot (f : BM) : BM := fun ρ P => f ρ fun b ρ1 => P (!b) ρ1
variable {rest : List Expr}
theorem dw_and {f g : BM} (ha : PT X a (tT c f)) (hb : PW X (.BoolOp .And (b :: rest) pos) (tT c g)) : PW X (.BoolOp .And (a :: b :: rest) pos) (tT c (bAnd f g)) := by
  have h := pw_and ha hb
  refine ⟨fun wh pins s σ H Q I q => h.run wh pins s σ H Q I ?_⟩
  obtain ⟨F, ρ, xx, P, rel, q, k⟩ := q
  refine ⟨F, ρ, xx, _, rel, q, fun t ρ1 F1 H1 q1 e1 r1 => ?_⟩
  cases t with
  | true => exact ⟨F1, ρ1, xx, P, r1, q1, fun t' ρ2 F2 H2 q2 e2 r2 => k t' ρ2 F2 H2 q2 (e1.trans e2) r2⟩
  | false => exact k false ρ1 F1 H1 q1 e1 r1
theorem dw_or {f g : BM} (ha : PT X a (tT c f)) (hb : PW X (.BoolOp .Or (b :: rest) pos) (tT c g)) : PW X (.BoolOp .Or (a :: b :: rest) pos) (tT c (bOr f g)) := by
  have h := pw_or ha hb
  refine ⟨fun wh pins s σ H Q I q => h.run wh pins s σ H Q I ?_⟩
  obtain ⟨F, ρ, xx, P, rel, q, k⟩ := q
  refine ⟨F, ρ, xx, _, rel, q, fun t ρ1 F1 H1 q1 e1 r1 => ?_⟩
  cases t with
  | true => exact k true ρ1 F1 H1 q1 e1 r1
  | false => exact ⟨F1, ρ1, xx, P, r1, q1, fun t' ρ2 F2 H2 q2 e2 r2 => k t' ρ2 F2 H2 q2 (e1.trans e2) r2⟩
theorem dt_not {f : BM} (ha : PT X a (tT c f)) : PT X (.UnaryOp .Not a pos) (tT c (bNot f)) :=
  PT.to (pt_not ha) fun σ H Q ⟨F, ρ, xx, P, rel, q, k⟩ => ⟨F, ρ, xx, _, rel, q, fun t ρ1 F1 H1 q1 e1 r1 => k _ ρ1 F1 H1 q1 e1 r1⟩
/-- the same as values, of bools -/
def dAnd (f g : DM) : DM := fun ρ P => f ρ fun d ρ1 => match d with
  | .bool true => g ρ1 P
  | .bool false => P (.bool false) ρ1
  | _ => False
def dOr (f g : DM) : DM := fun ρ P => f ρ fun d ρ1 => match d with
  | .bool true => P (.bool true) ρ1
  | .bool false => g ρ1 P
  | _ => False
def dNot (f : DM) : DM := fun ρ P => f ρ fun d ρ1 => match d with
  | .bool b => P (.bool (!b)) ρ1
  | _ => False
theorem de_and {f g : DM} (ha : PE X a (tD c f)) (hb : PE X (.BoolOp .And (b :: rest) pos) (tD c g)) : PE X (.BoolOp .And (a :: b :: rest) pos) (tD c (dAnd f g)) :=
  PE.to (pe_and ha hb) fun σ H Q ⟨F, ρ, xx, P, rel, q, k⟩ => ⟨F, ρ, xx, _, rel, q, fun d ρ1 v F1 H1 q1 e1 r1 a1 => by
    split at q1
    · cases a1
      exact ⟨true, rfl, F1, ρ1, xx, P, r1, q1, fun t' ρ2 v2 F2 H2 q2 e2 r2 a2 => k t' ρ2 v2 F2 H2 q2 (e1.trans e2) r2 a2⟩
    · cases a1
      exact ⟨false, rfl, k _ ρ1 _ F1 H1 q1 e1 r1 (.bl false)⟩
    · exact q1.elim⟩
theorem de_or {f g : DM} (ha : PE X a (tD c f)) (hb : PE X (.BoolOp .Or (b :: rest) pos) (tD c g)) : PE X (.BoolOp .Or (a :: b :: rest) pos) (tD c (dOr f g)) :=
  PE.to (pe_or ha hb) fun σ H Q ⟨F, ρ, xx, P, rel, q, k⟩ => ⟨F, ρ, xx, _, rel, q, fun d ρ1 v F1 H1 q1 e1 r1 a1 => by
    split at q1
    · cases a1
      exact ⟨true, rfl, k _ ρ1 _ F1 H1 q1 e1 r1 (.bl true)⟩
    · cases a1
      exact ⟨false, rfl, F1, ρ1, xx, P, r1, q1, fun t' ρ2 v2 F2 H2 q2 e2 r2 a2 => k t' ρ2 v2 F2 H2 q2 (e1.trans e2) r2 a2⟩
    · exact q1.elim⟩
theorem de_not {f : DM} (ha : PE X a (tD c f)) : PE X (.UnaryOp .Not a pos) (tD c (dNot f)) :=
  PE.to (pe_not ha) fun σ H Q ⟨F, ρ, xx, P, rel, q, k⟩ => ⟨F, ρ, xx, _, rel, q, fun d ρ1 v F1 H1 q1 e1 r1 a1 => by
    cases d <;> first | exact q1.elim | (cases a1; exact ⟨_, rfl, k _ ρ1 _ F1 H1 q1 e1 r1 (.bl _)⟩)⟩
def dIf (t : BM) (f g : DM) : DM := fun ρ P => t ρ fun b ρ1 => if b = true then f ρ1 P else g ρ1 P
theorem de_if {e3 : Expr} {t : BM} {f g : DM} (hc : PT X e3 (tT c t)) (ha : PE X a (tD c f)) (hb : PE X b (tD c g)) : PE X (.IfExp e3 a b pos) (tD c (dIf t f g)) :=
  PE.to (pe_ifExp hc ha hb) fun σ H Q ⟨F, ρ, xx, P, rel, q, k⟩ => ⟨F, ρ, xx, _, rel, q, fun d ρ1 F1 H1 q1 e1 r1 => by
    cases d with
    | true => exact ⟨F1, ρ1, xx, P, r1, q1, fun t' ρ2 v2 F2 H2 q2 e2 r2 a2 => k t' ρ2 v2 F2 H2 q2 (e1.trans e2) r2 a2⟩
    | false => exact ⟨F1, ρ1, xx, P, r1, q1, fun t' ρ2 v2 F2 H2 q2 e2 r2 a2 => k t' ρ2 v2 F2 H2 q2 (e1.trans e2) r2 a2⟩⟩
/-- by truth -/
def truD : D → Bool
  | .none => false
  | .bool b => b
  | .int i => i != 0
  | .str x => x.length != 0
  | .list xs => !xs.isEmpty
  | .tuple xs => !xs.isEmpty
  | .dict xs => !xs.isEmpty
def lNil : LM := fun ρ P => P [] ρ
def lCons (f : DM) (g : LM) : LM := fun ρ P => f ρ fun d ρ1 => g ρ1 fun ds ρ2 => P (d :: ds) ρ2
theorem dl_nil : PA X [] (tL c lNil) := PA.to pa_nil fun σ H Q ⟨F, ρ, xx, P, rel, q, k⟩ => k [] ρ [] F H q (Ex.refl F) rel .nil
theorem dl_cons {es : List Expr} {f : DM} {g : LM} (ha : PE X e (tD c f)) (hr : PA X es (tL c g)) (hs : starEach (e :: es) X.env = (false, eval e X.env) :: starEach es X.env := by rfl) : PA X (e :: es) (tL c (lCons f g)) :=
  PA.to (pa_cons ha hr hs) fun σ H Q ⟨F, ρ, xx, P, rel, q, k⟩ => ⟨F, ρ, xx, _, rel, q, fun d ρ1 v F1 H1 q1 e1 r1 a1 => ⟨F1, ρ1, xx, _, r1, q1, fun ds ρ2 vs F2 H2 q2 e2 r2 a2 =>
    k (d :: ds) ρ2 (v :: vs) F2 H2 q2 (e1.trans e2) r2 (.cons (a1.mono e2) a2)⟩⟩
def dTup (f : LM) : DM := fun ρ P => f ρ fun ds ρ1 => ds.length ≤ 1000000 ∧ P (.tuple ds) ρ1
def dLst (f : LM) : DM := fun ρ P => f ρ fun ds ρ1 => ds.length ≤ 1000000 ∧ P (.list ds) ρ1
theorem sz {n : Nat} (h : n ≤ 1000000) : n ≤ sizeLine := Nat.le_trans h (by rw [sizeLine_eq]; decide)
theorem szl {n : Nat} (h : n ≤ 1000000) : n < sizeLine := Nat.lt_of_le_of_lt h (by rw [sizeLine_eq]; decide)
theorem de_tup {es : List Expr} {x1 : Nat} {f : LM} (h : PA X es (tL c f)) : PE X (.Tuple es x1 pos) (tD c (dTup f)) :=
  PE.to (pe_tup h) fun σ H Q ⟨F, ρ, xx, P, rel, q, k⟩ => ⟨F, ρ, xx, _, rel, q, fun ds ρ1 vs F1 H1 q1 e1 r1 a1 => ⟨sz (by rw [a1.length]; exact q1.1), fun p hp => by
    have e2 := r1.efF (.tup vs) hp
    exact k _ ρ1 _ _ _ q1.2 (e1.trans e2) (r1.newF _ hp) (.tup (.inl (.inl upd_same)) (a1.mono e2))⟩⟩
theorem dn_lst {es : List Expr} {f : LM} (h : PA X es (tL c f)) : PE X (.List es pos) (tN c (dLst f)) :=
  PE.to (pe_lst h) fun σ H Q ⟨F, ρ, xx, P, rel, q, k⟩ => ⟨F, ρ, xx, _, rel, q, fun ds ρ1 vs F1 H1 q1 e1 r1 a1 => ⟨sz (by rw [a1.length]; exact q1.1), fun p hp => by
    obtain ⟨r2, fr⟩ := Fresh.new (o := .lst vs) (d := .d <| .list ds) r1 hp ⟨vs, upd_same, a1⟩
    exact k _ ρ1 _ _ _ q1.2 e1 r2 fr⟩⟩
/-- arguments of a call of an own def: the source of numbers may be among them -/
def aNil : AM := fun ρ P => P [] ρ
def aCons (f : DM) (g : AM) : AM := fun ρ P => f ρ fun d ρ1 => g ρ1 fun ds ρ2 => P (.d d :: ds) ρ2
def aOra (i : Nat) (g : AM) : AM := fun ρ P => (match ρ[i]? with
  | some (.ora _) => True
  | _ => False) ∧ g ρ fun ds ρ2 => P (.ora :: ds) ρ2
theorem ArAt.mono {F F' : Hp} (e : Ex F F') {v : V} {x : Ar} (h : ArAt c F v x) : ArAt c F' v x := by
  cases x with
  | d x => exact At.mono e h
  | ora => exact h
theorem da_nil : PA X [] (tAr c aNil) := PA.to pa_nil fun σ H Q ⟨F, ρ, xx, P, rel, q, k⟩ => k [] ρ [] F H q (Ex.refl F) rel .nil
theorem da_cons {es : List Expr} {f : DM} {g : AM} (ha : PE X e (tD c f)) (hr : PA X es (tAr c g)) (hs : starEach (e :: es) X.env = (false, eval e X.env) :: starEach es X.env := by rfl) : PA X (e :: es) (tAr c (aCons f g)) :=
  PA.to (pa_cons ha hr hs) fun σ H Q ⟨F, ρ, xx, P, rel, q, k⟩ => ⟨F, ρ, xx, _, rel, q, fun d ρ1 v F1 H1 q1 e1 r1 a1 => ⟨F1, ρ1, xx, _, r1, q1, fun ds ρ2 vs F2 H2 q2 e2 r2 a2 =>
    k (.d d :: ds) ρ2 (v :: vs) F2 H2 q2 (e1.trans e2) r2 (.cons (show ArAt c F2 v (.d d) from a1.mono e2) a2)⟩⟩
theorem da_ora {es : List Expr} {i : Nat} {g : AM} (ha : PE X e (tVar i)) (hr : PA X es (tAr c g)) (hs : starEach (e :: es) X.env = (false, eval e X.env) :: starEach es X.env := by rfl) : PA X (e :: es) (tAr c (aOra i g)) :=
  PA.to (pa_cons ha hr hs) fun σ H Q ⟨F, ρ, xx, P, rel, ⟨q0, q⟩, k⟩ => by
    split at q0
    · rename_i e0
      obtain ⟨p, h1, h2, _⟩ := rel.s.or i _ e0
      exact ⟨.ref p, h2, F, ρ, xx, _, rel, q, fun ds ρ2 vs F2 H2 q2 e2 r2 a2 => k (.ora :: ds) ρ2 (.ref p :: vs) F2 H2 q2 e2 r2 (.cons (show ArAt c F2 (.ref p) .ora from ⟨p, h1, rfl⟩) a2)⟩
    · exact q0.elim
end
end DL
namespace DL
open PySem L2
open PyProof.Rows in
theorem op_catLL {X : Cx} : OpR X (binaryOp .Add) (fun x y H Q => ∃ l b xs zs, x = .ref l ∧ y = .ref b ∧ SqL X.K H l xs ∧ SqL X.K H b zs ∧ xs.length + zs.length ≤ sizeLine ∧ ∀ p, H p = none → Q (.ref p) (upd H p (.lst (xs ++ zs)))) := by
  (intro pins s σ H x y v u Q I rx ry h)
  (obtain ⟨l, b, xs, zs, rfl, rfl, hH, hB, hz, q⟩ := h)
  cases rx
  cases ry
  obtain ⟨its, r, pl, _⟩ := I.list hH
  obtain ⟨its2, r2, pl2, _⟩ := I.list hB
  obtain ⟨⟨cls, dd, data, sl⟩, n, ho, hc, hd0, hd⟩ := id pl
  obtain ⟨⟨cls2, dd2, data2, sl2⟩, n2, ho2, hc2, hd02, hd2⟩ := id pl2
  simp only at hc hd hc2 hd2 hd0 hd02
  subst hc hd hc2 hd2
  have e : its.toArray ++ its2.toArray = (its ++ its2).toArray := by simp
  have h1 := r.length
  have h2 := r2.length
  refine concat_meets ⟨_, ho, rfl⟩ ⟨_, ho2, rfl⟩ noFill_list_add seq_list_add PySem.F.slot_list_add PySem.F.entry_list_add (PySem.F.args_list_add_2 _ _) (list_addW l b its.toArray its2.toArray n n2 dd dd2 sl sl2 (by simp only [List.size_toArray]; omega)) ⟨ho, ho2, ?_⟩
  rw [e]
  (exact ⟨.ref _, _, I.lnew (t' := s.toks) (r.append r2) (by rw [List.length_append]; omega), rfl, q _ I.fresh⟩)
open PyProof.Rows in
theorem op_repA {X : Cx} : OpR X (binaryOp .Mult) (fun x y H Q => ∃ l k xs, x = .ref l ∧ y = .int k ∧ SqL X.K H l xs ∧ -(2 ^ 63) ≤ k ∧ k < 2 ^ 63 ∧ xs.length * k.toNat ≤ sizeLine ∧
    ∀ p, H p = none → Q (.ref p) (upd H p (.lst (List.replicate k.toNat xs).flatten))) := by
  (intro pins s σ H x y v u Q I rx ry h)
  (obtain ⟨l, k, xs, rfl, rfl, hH, h1, h2, hz, q⟩ := h)
  cases rx
  obtain ⟨t, rfl⟩ := ry
  obtain ⟨its, r, pl, _⟩ := I.list hH
  obtain ⟨⟨cls, dd, data, sl⟩, n, ho, hc, hd0, hd⟩ := id pl
  simp only at hc hd hd0
  subst hc hd
  have hl := r.length
  have hsz' : its.toArray.size * k.toNat ≤ 2 ^ 24 := by rw [List.size_toArray, ← hl]; rw [sizeLine_eq] at hz; omega
  refine wpAny_binaryOp_repeat_ref (T := "list") (U := "int") (by decide) ⟨_, ho, rfl⟩ (fun s' => typeIs_int s' k t) noFill_list_mul F.fills_int_mul F.slot_int_rmul repeat_list F.slot_int_index.lookup
    (call_meets F.slot_int_rmul (typeIs_int s k t) F.entry_int_rmul (F.args_int_rmul_2 _ _) (lm_int_rmul_list_any k t l its.toArray n dd sl)
      ⟨ho, rfl, ⟨_, ho, rfl⟩,
        call_meets F.slot_list_mul ⟨_, ho, rfl⟩ F.entry_list_mul (F.args_list_mul_2 _ _)
        (lm_list_mul_any l its.toArray n dd sl k t (by simp [Builtin.List.listFitsIndex]; omega) (by omega) (by simp [Builtin.List.listTooLong, sizeLine]; omega))
        ⟨ho, ?_⟩⟩)
  rw [listMul_foldl_if]
  (exact ⟨.ref _, _, I.lnew (t' := s.toks) (r.rep k.toNat) (by rw [PyProof.Rows.lm_len_rep_flat, Nat.mul_comm]; exact hz), rfl, q _ I.fresh⟩)
section
variable {c : Cn} {F H : Hp} {v : V}
theorem bo_int {i : Int} (h : Bo c F H v (.int i)) : v = .int i := by
  rcases h with h | ⟨a, _, h⟩
  · cases h; rfl
  · exact h.elim
theorem bo_bl {i : Bool} (h : Bo c F H v (.bool i)) : v = .bl i := by
  rcases h with h | ⟨a, _, h⟩
  · cases h; rfl
  · exact h.elim
theorem bo_str {i : Str} (h : Bo c F H v (.str i)) : v = .str i := by
  rcases h with h | ⟨a, _, h⟩
  · cases h; rfl
  · exact h.elim
theorem bo_non (h : Bo c F H v .none) : v = .non := by
  rcases h with h | ⟨a, _, h⟩
  · cases h; rfl
  · exact h.elim
theorem bo_lst {ds : List D} (e : Ex F H) (h : Bo c F H v (.list ds)) : ∃ a xs, v = .ref a ∧ SqL c.K H a xs ∧ AtAll c.K F xs ds := by
  rcases h with h | ⟨a, rfl, vs, h1, h2⟩
  · cases h with
    | lst s t => exact ⟨_, _, rfl, e.sl s, t⟩
  · exact ⟨a, vs, rfl, SqL.of h1, h2⟩
theorem bo_tup {ds : List D} (e : Ex F H) (h : Bo c F H v (.tuple ds)) : ∃ a xs, v = .ref a ∧ SqT c.K F a xs ∧ SqT c.K H a xs ∧ AtAll c.K F xs ds := by
  rcases h with h | ⟨a, rfl, h⟩
  · cases h with
    | tup s t => exact ⟨_, _, rfl, s, e.st s, t⟩
  · exact h.elim
end
def gAdd : G2 := fun x y P => match x, y with
  | .int i, .int j => P (.int (i + j))
  | .str a, .str b => a.length + b.length ≤ 1000000 ∧ P (.str (a ++ b))
  | .list xs, .list ys => xs.length + ys.length ≤ 1000000 ∧ P (.list (xs ++ ys))
  | .tuple xs, .tuple ys => xs.length + ys.length ≤ 1000000 ∧ P (.tuple (xs ++ ys))
  | _, _ => False
def gSub : G2 := fun x y P => match x, y with
  | .int i, .int j => P (.int (i - j))
  | _, _ => False
def gMul : G2 := fun x y P => match x, y with
  | .int i, .int j => ((-(2 ^ 64) < i ∧ i < 2 ^ 64) ∨ (-(2 ^ 64) < j ∧ j < 2 ^ 64)) ∧ P (.int (i * j))
  | .list xs, .int k => (-(2 ^ 63) ≤ k ∧ k < 2 ^ 63) ∧ xs.length * k.toNat ≤ 1000000 ∧ P (.list (List.replicate k.toNat xs).flatten)
  | _, _ => False
def gPow : G2 := fun x y P => match x, y with
  | .int i, .int j => (0 ≤ j ∧ j ≤ 1000000 ∧ i.natAbs < 2 ^ 64) ∧ P (.int (i ^ j.toNat))
  | _, _ => False
theorem AtAll.nil_iff {K : PySem.W.Frag} {H : Hp} {vs : List V} {ds : List D} (h : AtAll K H vs ds) : vs = [] ↔ ds = [] := by cases h <;> simp
section
variable {X : Cx} {c : Cn}
theorem sem_add (hK : X.K = c.K) : Sem2 X c (binaryOp .Add) gAdd := by
  refine ⟨_, (op_add.or op_add_str).or (op_catLL.or L2.op_catA), fun F H σ ρ xx x y vx vy P Q r bx by_ g k => ?_⟩
  have e := r.w.fh
  unfold gAdd at g
  split at g
  · cases bo_int bx; cases bo_int by_
    exact .inl (.inl ⟨_, _, rfl, rfl, k _ _ F H g (Ex.refl F) r (.int _)⟩)
  · cases bo_str bx; cases bo_str by_
    exact .inl (.inr ⟨_, _, rfl, rfl, sz g.1, k _ _ F H g.2 (Ex.refl F) r (.str _)⟩)
  · obtain ⟨a, xs, rfl, s1, t1⟩ := bo_lst e bx
    obtain ⟨b, ys, rfl, s2, t2⟩ := bo_lst e by_
    refine .inr (.inl ⟨a, b, xs, ys, rfl, rfl, by rw [hK]; exact s1, by rw [hK]; exact s2, sz (by rw [t1.length, t2.length]; exact g.1), fun p hp => ?_⟩)
    have e2 := r.efF (.lst (xs ++ ys)) hp
    exact k _ _ _ _ g.2 e2 (r.newF _ hp) (.lst (.inl (.inl upd_same)) ((t1.append t2).mono e2))
  · obtain ⟨a, xs, rfl, f1, s1, t1⟩ := bo_tup e bx
    obtain ⟨b, ys, rfl, f2, s2, t2⟩ := bo_tup e by_
    refine .inr (.inr ⟨a, b, xs, ys, rfl, rfl, by rw [hK]; exact s1, by rw [hK]; exact s2, sz (by rw [t1.length, t2.length]; exact g.1), fun z => ?_, fun _ z => ?_, fun _ _ p hp => ?_⟩)
    · refine k _ _ F H g.2 (Ex.refl F) r ?_
      rw [t1.nil_iff.mp z, List.nil_append]
      exact .tup f2 t2
    · refine k _ _ F H g.2 (Ex.refl F) r ?_
      rw [t2.nil_iff.mp z, List.append_nil]
      exact .tup f1 t1
    · have e2 := r.efF (.tup (xs ++ ys)) hp
      exact k _ _ _ _ g.2 e2 (r.newF _ hp) (.tup (.inl (.inl upd_same)) ((t1.append t2).mono e2))
  · exact g.elim
theorem sem_sub : Sem2 X c (binaryOp .Sub) gSub := by
  refine ⟨_, op_sub, fun F H σ ρ xx x y vx vy P Q r bx by_ g k => ?_⟩
  unfold gSub at g
  split at g
  · cases bo_int bx; cases bo_int by_
    exact ⟨_, _, rfl, rfl, k _ _ F H g (Ex.refl F) r (.int _)⟩
  · exact g.elim
theorem AtAll.rep {K : PySem.W.Frag} {H : Hp} {vs : List V} {ds : List D} (h : AtAll K H vs ds) : ∀ n : Nat, AtAll K H (List.replicate n vs).flatten (List.replicate n ds).flatten
  | 0 => .nil
  | n + 1 => by
    (rw [List.replicate_succ, List.replicate_succ, List.flatten_cons, List.flatten_cons])
    exact h.append (AtAll.rep h n)
theorem sem_mul (hK : X.K = c.K) : Sem2 X c (binaryOp .Mult) gMul := by
  refine ⟨_, op_mul.or op_repA, fun F H σ ρ xx x y vx vy P Q r bx by_ g k => ?_⟩
  have e := r.w.fh
  unfold gMul at g
  split at g
  · cases bo_int bx; cases bo_int by_
    exact .inl ⟨_, _, rfl, rfl, g.1, k _ _ F H g.2 (Ex.refl F) r (.int _)⟩
  · obtain ⟨a, xs, rfl, s1, t1⟩ := bo_lst e bx
    cases bo_int by_
    refine .inr ⟨a, _, xs, rfl, rfl, by rw [hK]; exact s1, g.1.1, g.1.2, sz (by rw [t1.length]; exact g.2.1), fun p hp => ?_⟩
    exact k _ _ _ _ g.2.2 (r.efF _ hp) (r.newF _ hp) (.lst (.inl (.inl upd_same)) ((t1.rep _).mono (r.efF _ hp)))
  · exact g.elim
theorem sem_pow : Sem2 X c (binaryOp .Pow) gPow := by
  refine ⟨_, op_pow, fun F H σ ρ xx x y vx vy P Q r bx by_ g k => ?_⟩
  unfold gPow at g
  split at g
  · cases bo_int bx; cases bo_int by_
    exact ⟨_, _, rfl, rfl, g.1, k _ _ F H g.2 (Ex.refl F) r (.int _)⟩
  · exact g.elim
def gCmp (p : Int → Int → Bool) : G2 := fun x y P => match x, y with
  | .int i, .int j => P (.bool (p i j))
  | _, _ => False
theorem sem_cmp {op : CmpOp} {p : Int → Int → Bool} (h : OpR X (compareOp op) (rI0 fun i j => .bl (p i j))) : Sem2 X c (compareOp op) (gCmp p) := by
  refine ⟨_, h, fun F H σ ρ xx x y vx vy P Q r bx by_ g k => ?_⟩
  unfold gCmp at g
  split at g
  · cases bo_int bx; cases bo_int by_
    exact ⟨_, _, rfl, rfl, k _ _ F H g (Ex.refl F) r (.bl _)⟩
  · exact g.elim
abbrev gLt : G2 := gCmp fun i j => decide (i < j)
abbrev gLe : G2 := gCmp fun i j => decide (i ≤ j)
abbrev gGt : G2 := gCmp fun i j => decide (j < i)
abbrev gGe : G2 := gCmp fun i j => decide (j ≤ i)
theorem sem_lt : Sem2 X c (compareOp .Lt) gLt := sem_cmp op_lt
theorem sem_le : Sem2 X c (compareOp .LtE) gLe := sem_cmp op_le
theorem sem_gt : Sem2 X c (compareOp .Gt) gGt := sem_cmp op_gt
theorem sem_ge : Sem2 X c (compareOp .GtE) gGe := sem_cmp op_ge
def isN : D → Bool
  | .none => true
  | _ => false
def gIs : G2 := fun x y P => match y with
  | .none => P (.bool (isN x))
  | _ => False
def gIsNot : G2 := fun x y P => match y with
  | .none => P (.bool (!isN x))
  | _ => False
theorem isN_dec {F H : Hp} {v : V} {d : D} (h : Bo c F H v d) : decide (v = .non) = isN d := by
  rcases h with h | ⟨a, rfl, _⟩
  · cases h <;> rfl
  · cases d <;> first | rfl | (rename_i h; exact h.elim)
theorem sem_is : Sem2 X c (compareOp .Is) gIs := by
  refine ⟨_, op_isN, fun F H σ ρ xx x y vx vy P Q r bx by_ g k => ?_⟩
  unfold gIs at g
  split at g
  · cases bo_non by_
    refine ⟨rfl, ?_⟩
    rw [isN_dec bx]
    exact k _ _ F H g (Ex.refl F) r (.bl _)
  · exact g.elim
theorem sem_isnot : Sem2 X c (compareOp .IsNot) gIsNot := by
  refine ⟨_, op_notN, fun F H σ ρ xx x y vx vy P Q r bx by_ g k => ?_⟩
  unfold gIsNot at g
  split at g
  · cases bo_non by_
    refine ⟨rfl, ?_⟩
    rw [isN_dec bx]
    exact k _ _ F H g (Ex.refl F) r (.bl _)
  · exact g.elim
/-- == of data: texts of signs, no dicts, not too deep -/
def okD (d : D) : Prop := SeqAt.shaped d = true
theorem okD.nod {d : D} (h : okD d) : nod d = true := by
  have h1 : d.canLay0 = true := SeqAt.canLay_of_shaped h
  have all : ∀ d : D, d.canLay0 = true → DL.nod d = true := fun d => by
    refine PyData.rec (motive_1 := fun d => d.canLay0 = true → DL.nod d = true) (motive_2 := fun ds => PyData.canLayAll0 ds = true → DL.nodAll ds = true) (motive_3 := fun _ => True) (motive_4 := fun _ => True) ?_ ?_ ?_ ?_ ?_ ?_ ?_ ?_ ?_ ?_ ?_ ?_ d
    · exact fun _ => rfl
    · exact fun _ _ => rfl
    · exact fun _ _ => rfl
    · exact fun _ _ => rfl
    · exact fun xs ih h => by simp only [DL.nod]; exact ih (by simpa only [PyData.canLay0] using h)
    · exact fun xs ih h => by simp only [DL.nod]; exact ih (by simpa only [PyData.canLay0] using h)
    · exact fun _ _ h => by simp [PyData.canLay0] at h
    · exact fun _ => rfl
    · exact fun x xs i j h => by
        simp only [PyData.canLayAll0, Bool.and_eq_true] at h
        simp only [DL.nodAll, Bool.and_eq_true]
        exact ⟨i h.1, j h.2⟩
    all_goals (intros; trivial)
  exact all d h1
def gEq : G2 := fun x y P => okD x ∧ okD y ∧ P (.bool (PyData.eqv x y))
def gNe : G2 := fun x y P => okD x ∧ okD y ∧ P (.bool (!PyData.eqv x y))
theorem sem_eq (hK : X.K = c.K) (hu : X.A.units + 64 < cLine) : Sem2 X c (compareOp .Eq) gEq := by
  refine ⟨_, op_eqD hu, fun F H σ ρ xx x y vx vy P Q r bx by_ g k => ?_⟩
  have e := r.w.fh
  refine ⟨x, y, by rw [hK]; exact (bx.at e).dp g.1.nod, by rw [hK]; exact (by_.at e).dp g.2.1.nod, g.1, g.2.1, k _ _ F H g.2.2 (Ex.refl F) r (.bl _)⟩
theorem sem_ne (hK : X.K = c.K) (hu : X.A.units + 64 < cLine) : Sem2 X c (compareOp .NotEq) gNe := by
  refine ⟨_, op_neD hu, fun F H σ ρ xx x y vx vy P Q r bx by_ g k => ?_⟩
  have e := r.w.fh
  refine ⟨x, y, by rw [hK]; exact (bx.at e).dp g.1.nod, by rw [hK]; exact (by_.at e).dp g.2.1.nod, g.1, g.2.1, k _ _ F H g.2.2 (Ex.refl F) r (.bl _)⟩
def gIx : G2 := fun x y P => match x, y with
  | .list xs, .int i => ∃ d, atI xs i = some d ∧ P d
  | .tuple xs, .int i => ∃ d, atI xs i = some d ∧ P d
  | .str z, .int i => z.length ≤ 1000000 ∧ ∃ n, atI z.cps.toList i = some n ∧ P (.str ⟨#[n]⟩)
  | _, _ => False
theorem atI_at {K : PySem.W.Frag} {F : Hp} {xs : List V} {ds : List D} (t : AtAll K F xs ds) {i : Int} {d : D} (h : atI ds i = some d) : ∃ v, atI xs i = some v ∧ At K F v d := by
  unfold atI at h ⊢
  rw [t.length]
  cases e : ixN ds.length i with
  | none => (rw [e] at h; cases h)
  | some j =>
    rw [e] at h
    exact t.get h
theorem ix_use (hK : X.K = c.K) : ∀ (F H : Hp) (σ : L2.St) (ρ : Env) (xx : XX) (x y : D) (vx vy : V) (P : D → Prop) (Q : VK), Rel c F H σ ρ xx → Bo c F H vx x → Bo c F H vy y → gIx x y P →
    (∀ z v F' H', P z → Ex F F' → Rel c F' H' σ ρ xx → At c.K F' v z → Q v H') → rIx X.K vx vy H Q := fun F H σ ρ xx x y vx vy P Q r bx by_ g k => by
  have e := r.w.fh
  unfold gIx at g
  split at g
  · obtain ⟨a, xs, rfl, s1, t1⟩ := bo_lst e bx
    cases bo_int by_
    obtain ⟨d, h1, h2⟩ := g
    obtain ⟨u, h3, h4⟩ := atI_at t1 h1
    exact .inl ⟨a, xs, _, u, rfl, rfl, by rw [hK]; exact s1, h3, k _ _ F H h2 (Ex.refl F) r h4⟩
  · obtain ⟨a, xs, rfl, _, s1, t1⟩ := bo_tup e bx
    cases bo_int by_
    obtain ⟨d, h1, h2⟩ := g
    obtain ⟨u, h3, h4⟩ := atI_at t1 h1
    exact .inr (.inl ⟨a, xs, _, u, rfl, rfl, by rw [hK]; exact s1, h3, k _ _ F H h2 (Ex.refl F) r h4⟩)
  · cases bo_str bx; cases bo_int by_
    obtain ⟨hz, n, h1, h2⟩ := g
    exact .inr (.inr ⟨_, _, n, rfl, rfl, sz hz, h1, k _ _ F H h2 (Ex.refl F) r (.str _)⟩)
  · exact g.elim
theorem de_ix {a b : Expr} {pos : Pos} {fa fb : HM} (hK : X.K = c.K) (ha : PE X a (tH c fa)) (hb : PE X b (tH c fb)) (hs : PlainIx b) : PE X (.Subscript a b pos) (tD c (d2 gIx fa fb)) :=
  PE.to (pe_ix ix_seq ha hb hs) (d2_use (ix_use hK) rfl rfl)
abbrev OM := Env → (Option Int → Env → Prop) → Prop
def tOI (c : Cn) (f : OM) : TO := fun σ H Q => ∃ F ρ xx P, Rel c F H σ ρ xx ∧ f ρ P ∧ ∀ o ρ' F' H', P o ρ' → Ex F F' → Rel c F' H' σ ρ' xx → Q o H'
def oNo : OM := fun ρ P => P none ρ
def oI (f : DM) : OM := fun ρ P => f ρ fun d ρ' => match d with
  | .int i => P (some i) ρ'
  | _ => False
theorem PO.to {e : Option Expr} {t t' : TO} (h : PO X e t) (w : ∀ σ H Q, t' σ H Q → t σ H Q) : PO X e t' := ⟨fun pins s σ H Q I q => h.run pins s σ H Q I (w σ H Q q)⟩
theorem do_no : PO X none (tOI c oNo) := PO.to po_none fun σ H Q ⟨F, ρ, xx, P, r, q, k⟩ => k none ρ F H q (Ex.refl F) r
theorem do_i {e : Expr} {f : DM} (h : PE X e (tD c f)) : PO X (some e) (tOI c (oI f)) := PO.to (po_some h) fun σ H Q ⟨F, ρ, xx, P, r, q, k⟩ => ⟨F, ρ, xx, _, r, q, fun d ρ' v F' H' p e r' a => by
  cases d <;> first | exact p.elim | (cases a; exact ⟨_, rfl, k _ ρ' F' H' p e r'⟩)⟩
/-- xs[lo:hi] -/
def cutD (xs : List D) (lo hi : Option Int) : List D := (xs.drop (HT.sIx xs.length 0 lo)).take (HT.sIx xs.length xs.length hi - HT.sIx xs.length 0 lo)
theorem cut_at {K : PySem.W.Frag} {F : Hp} {xs : List V} {ds : List D} (t : AtAll K F xs ds) (lo hi : Option Int) : AtAll K F (cutV xs lo hi) (cutD ds lo hi) := by
  unfold cutV cutD
  rw [t.length]
  exact (t.drop _).take _
def dSl (fa : HM) (fl fu : OM) : DM := fun ρ P => fa ρ fun h ρ1 => fl ρ1 fun lo ρ2 => fu ρ2 fun hi ρ3 => see ρ3 h fun d => match d with
  | .list xs => P (.list (cutD xs lo hi)) ρ3
  | .tuple xs => P (.tuple (cutD xs lo hi)) ρ3
  | .str z => z.length ≤ 1000000 ∧ P (.str (cutS z lo hi)) ρ3
  | _ => False
end
end DL
namespace DL
open PySem L2
section
variable {X : Cx} {c : Cn} {e : Expr} {pos : Pos}
theorem de_sl {lo hi : Option Expr} {p2 : Pos} {fa : HM} {fl fu : OM} (hK : X.K = c.K) (he : PE X e (tH c fa)) (hl : PO X lo (tOI c fl)) (hu : PO X hi (tOI c fu)) : PE X (.Subscript e (.Slice lo hi none p2) pos) (tD c (dSl fa fl fu)) := by
  refine PE.to (pe_slice ((sl_list.or sl_tupA).or sl_str) he hl hu) ?_
  rintro σ H Q ⟨F, ρ, xx, P, rel, q, k⟩
  refine ⟨F, ρ, xx, _, rel, q, fun h ρ1 v F1 H1 q1 e1 r1 h1 => ⟨F1, ρ1, xx, _, r1, q1, fun o ρ2 F2 H2 q2 e2 r2 => ⟨F2, ρ2, xx, _, r2, q2, fun u ρ3 F3 H3 q3 e3 r3 => ?_⟩⟩⟩
  obtain ⟨d, bd, q3⟩ := see_bo r3 (h1.mono (e2.trans e3)) q3
  have ex := r3.w.fh
  split at q3
  · obtain ⟨a, xs, rfl, s1, t1⟩ := bo_lst ex bd
    refine .inl (.inl ⟨a, xs, rfl, by rw [hK]; exact s1, fun p hp => ?_⟩)
    exact k _ ρ3 _ _ _ q3 (((e1.trans e2).trans e3).trans (r3.efF _ hp)) (r3.newF _ hp) (.lst (.inl (.inl upd_same)) ((cut_at t1 o u).mono (r3.efF _ hp)))
  · obtain ⟨a, xs, rfl, f1, s1, t1⟩ := bo_tup ex bd
    refine .inl (.inr ⟨a, xs, rfl, by rw [hK]; exact s1, fun hw => ?_, fun _ p hp => ?_⟩)
    · refine k _ ρ3 _ F3 H3 q3 ((e1.trans e2).trans e3) r3 ?_
      have hc := cut_at t1 o u
      have hz : cutV xs o u = xs := by
        unfold cutV
        rw [hw.1, hw.2]
        simp
      rw [hz] at hc
      exact .tup f1 hc
    · exact k _ ρ3 _ _ _ q3 (((e1.trans e2).trans e3).trans (r3.efF _ hp)) (r3.newF _ hp) (.tup (.inl (.inl upd_same)) ((cut_at t1 o u).mono (r3.efF _ hp)))
  · cases bo_str bd
    exact .inr ⟨_, rfl, sz q3.1, k _ ρ3 _ F3 H3 q3.2 ((e1.trans e2).trans e3) r3 (.str _)⟩
  · exact q3.elim
theorem tru_of {F H : Hp} {v : V} {d : D} (r : Ex F H) (b : Bo c F H v d) (hd : ∀ s, d = .str s → s.length ≤ 1000000) (hn : ∀ kd, d ≠ .dict kd) : TruV c.K v H (truD d) := by
  cases d with
  | none => cases bo_non b; rfl
  | bool x => cases bo_bl b; rfl
  | int i => cases bo_int b; rfl
  | str s =>
    cases bo_str b
    refine ⟨sz (hd s rfl), ?_⟩
    show (s.length != 0) = ((s.length : Int) != 0)
    cases h : s.length with
    | zero => rfl
    | succ n =>
      have h1 : (n + 1 != 0) = true := by simp
      have h2 : (((n + 1 : Nat) : Int) != 0) = true := by simp only [bne_iff_ne, ne_eq]; omega
      rw [h1, h2]
  | list xs =>
    obtain ⟨a, ys, rfl, s1, t1⟩ := bo_lst r b
    refine .inl ⟨ys, s1, ?_⟩
    cases t1 <;> rfl
  | tuple xs =>
    obtain ⟨a, ys, rfl, _, s1, t1⟩ := bo_tup r b
    refine .inr (.inl ⟨ys, s1, ?_⟩)
    cases t1 <;> rfl
  | dict kd => exact absurd rfl (hn kd)
def bTruth (f : HM) : BM := fun ρ P => f ρ fun h ρ1 => see ρ1 h fun d => match d with
  | .str s => s.length ≤ 1000000 ∧ P (truD (.str s)) ρ1
  | .dict _ => False
  | d => P (truD d) ρ1
theorem dt_truth {f : HM} (hK : X.K = c.K) (ha : PE X e (tH c f)) (he : ∀ whole, isTrue e X.env whole = (do let v ← whole; standAt e.pos; holding [v] (truthy v)) := by intro _; rfl) : PT X e (tT c (bTruth f)) := by
  refine PT.to (pt_truth ha he) ?_
  rintro σ H Q ⟨F, ρ, xx, P, rel, q, k⟩
  refine ⟨F, ρ, xx, _, rel, q, fun h ρ1 v F1 H1 q1 e1 r1 h1 => ?_⟩
  obtain ⟨d, bd, q1⟩ := see_bo r1 h1 q1
  rw [hK]
  cases d with
  | str s => exact ⟨_, tru_of r1.w.fh bd (fun t ht => by cases ht; exact q1.1) (fun _ z => by cases z), k _ ρ1 F1 H1 q1.2 e1 r1⟩
  | dict kd => exact q1.elim
  | _ => exact ⟨_, tru_of r1.w.fh bd (fun t ht => by cases ht) (fun _ z => by cases z), k _ ρ1 F1 H1 q1 e1 r1⟩
abbrev HLM := Env → (List Hd → Env → Prop) → Prop
def tHL (c : Cn) (f : HLM) : TA := fun σ H Q => ∃ F ρ xx P, Rel c F H σ ρ xx ∧ f ρ P ∧ ∀ hs ρ' vs F' H', P hs ρ' → Ex F F' → Rel c F' H' σ ρ' xx → Paired (fun v h => HdAt c F' σ h v) vs hs → Q vs H'
def gNil : HLM := fun ρ P => P [] ρ
def gCons (f : HM) (g : HLM) : HLM := fun ρ P => f ρ fun h ρ1 => g ρ1 fun hs ρ2 => P (h :: hs) ρ2
theorem dg_nil : PA X [] (tHL c gNil) := PA.to pa_nil fun σ H Q ⟨F, ρ, xx, P, rel, q, k⟩ => k [] ρ [] F H q (Ex.refl F) rel .nil
theorem dg_cons {es : List Expr} {f : HM} {g : HLM} (ha : PE X e (tH c f)) (hr : PA X es (tHL c g)) (hs : starEach (e :: es) X.env = (false, eval e X.env) :: starEach es X.env := by rfl) : PA X (e :: es) (tHL c (gCons f g)) :=
  PA.to (pa_cons ha hr hs) fun σ H Q ⟨F, ρ, xx, P, rel, q, k⟩ => ⟨F, ρ, xx, _, rel, q, fun d ρ1 v F1 H1 q1 e1 r1 a1 => ⟨F1, ρ1, xx, _, r1, q1, fun ds ρ2 vs F2 H2 q2 e2 r2 a2 =>
    k (d :: ds) ρ2 (v :: vs) F2 H2 q2 (e1.trans e2) r2 (.cons (a1.mono e2) a2)⟩⟩
def seeAll (ρ : Env) : List Hd → (List D → Prop) → Prop
  | [], k => k []
  | h :: hs, k => see ρ h fun d => seeAll ρ hs fun ds => k (d :: ds)
theorem seeAll_bo {F H : Hp} {σ : L2.St} {ρ : Env} {xx : XX} (r : Rel c F H σ ρ xx) : ∀ {vs : List V} {hs : List Hd}, Paired (fun v h => HdAt c F σ h v) vs hs → ∀ {k : List D → Prop}, seeAll ρ hs k → ∃ ds, Paired (Bo c F H) vs ds ∧ k ds
  | _, _, .nil, k, h => ⟨[], .nil, h⟩
  | _, _, .cons h t, k, q => by
    obtain ⟨d, b, q⟩ := see_bo r h q
    obtain ⟨ds, bs, q⟩ := seeAll_bo r t q
    exact ⟨d :: ds, .cons b bs, q⟩
abbrev GC := List D → (D → Prop) → Prop
def SemC (X : Cx) (c : Cn) (f : Value) (g : GC) : Prop := ∃ r : List V → Hp → VK → Prop, CallR X f r ∧ ∀ (F H : Hp) (σ : L2.St) (ρ : Env) (xx : XX) (ds : List D) (vs : List V) (P : D → Prop) (Q : VK), Rel c F H σ ρ xx → Paired (Bo c F H) vs ds → g ds P →
  (∀ z v F' H', P z → Ex F F' → Rel c F' H' σ ρ xx → At c.K F' v z → Q v H') → r vs H Q
def dCB (g : GC) (f : HLM) : DM := fun ρ P => f ρ fun hs ρ1 => seeAll ρ1 hs fun ds => g ds fun z => P z ρ1
theorem dCB_use {f : Value} {g : GC} {fh : HLM} {r : List V → Hp → VK → Prop} (hr : ∀ (F H : Hp) (σ : L2.St) (ρ : Env) (xx : XX) (ds : List D) (vs : List V) (P : D → Prop) (Q : VK), Rel c F H σ ρ xx → Paired (Bo c F H) vs ds → g ds P →
    (∀ z v F' H', P z → Ex F F' → Rel c F' H' σ ρ xx → At c.K F' v z → Q v H') → r vs H Q) : ∀ σ H Q, tD c (dCB g fh) σ H Q → tCB r (tHL c fh) σ H Q := by
  rintro σ H Q ⟨F, ρ, xx, P, rel, q, k⟩
  refine ⟨F, ρ, xx, _, rel, q, fun hs ρ1 vs F1 H1 q1 e1 r1 h1 => ?_⟩
  obtain ⟨ds, bs, q1⟩ := seeAll_bo r1 h1 q1
  exact hr F1 H1 σ ρ1 xx ds vs _ Q r1 bs q1 fun z v F' H' pz ez rz az => k z ρ1 v F' H' pz (e1.trans ez) rz az
variable {x : Str} {p : Pos} {es : List Expr} {fh : HLM} {g : GC}
theorem de_cb {id : String} (hs : SemC X c (.builtin id) g) (hg : Gl X x) (hm : X.mg x = none) (hv : bootBuiltins x = some (.builtin id)) (ha : PA X (e :: es) (tHL c fh)) (hn : x ≠ "__name__" := by decide) (hdb : (x == ("__debug__" : Str)) = false := by decide)
    (he : starEach (e :: es) X.env = (false, eval e X.env) :: starEach es X.env := by rfl) (hpl : (backTo pos (starEach es X.env)).any (·.1) = false := by rfl) : PE X (.Call (.Name x p) (e :: es) [] pos) (tD c (dCB g fh)) := by
  obtain ⟨r, ho, hr⟩ := hs
  exact PE.to (pe_callB ho hg hm hv ha hn hdb he hpl) (dCB_use (f := .none) hr)
theorem de_ct {T : String} (hs : SemC X c (.type T) g) (hg : Gl X x) (hm : X.mg x = none) (hv : bootBuiltins x = some (.type T)) (ha : PA X (e :: es) (tHL c fh)) (hn : x ≠ "__name__" := by decide) (hdb : (x == ("__debug__" : Str)) = false := by decide)
    (he : starEach (e :: es) X.env = (false, eval e X.env) :: starEach es X.env := by rfl) (hpl : (backTo pos (starEach es X.env)).any (·.1) = false := by rfl) : PE X (.Call (.Name x p) (e :: es) [] pos) (tD c (dCB g fh)) := by
  obtain ⟨r, ho, hr⟩ := hs
  exact PE.to (pe_callTy ho hg hm hv ha hn hdb he hpl) (dCB_use (f := .none) hr)
theorem pr1 {R : V → D → Prop} {vs : List V} {d : D} (h : Paired R vs [d]) : ∃ v, vs = [v] ∧ R v d := by
  cases h with
  | cons a t => cases t; exact ⟨_, rfl, a⟩
theorem pr2 {R : V → D → Prop} {vs : List V} {d d' : D} (h : Paired R vs [d, d']) : ∃ v u, vs = [v, u] ∧ R v d ∧ R u d' := by
  cases h with
  | cons a t => cases t with
    | cons b t => cases t; exact ⟨_, _, rfl, a, b⟩
def gLen : GC := fun ds P => match ds with
  | [.list xs] => P (.int xs.length)
  | [.tuple xs] => P (.int xs.length)
  | [.str s] => s.length ≤ 1000000 ∧ P (.int s.length)
  | _ => False
theorem sem_len (hK : X.K = c.K) : SemC X c (.builtin "len") gLen := by
  refine ⟨_, call_len, fun F H σ ρ xx ds vs P Q r bs g k => ?_⟩
  unfold gLen at g
  split at g
  · obtain ⟨v, rfl, b⟩ := pr1 bs
    obtain ⟨a, ys, rfl, s1, t1⟩ := bo_lst r.w.fh b
    exact ⟨_, _, rfl, .inl ⟨ys, by rw [hK]; exact s1, rfl⟩, by rw [t1.length]; exact k _ _ F H g (Ex.refl F) r (.int _)⟩
  · obtain ⟨v, rfl, b⟩ := pr1 bs
    obtain ⟨a, ys, rfl, _, s1, t1⟩ := bo_tup r.w.fh b
    exact ⟨_, _, rfl, .inr ⟨ys, by rw [hK]; exact s1, rfl⟩, by rw [t1.length]; exact k _ _ F H g (Ex.refl F) r (.int _)⟩
  · obtain ⟨v, rfl, b⟩ := pr1 bs
    cases bo_str b
    exact ⟨_, _, rfl, ⟨sz g.1, rfl⟩, k _ _ F H g.2 (Ex.refl F) r (.int _)⟩
  · exact g.elim
/-- a list of numbers, of truths -/
def ofInts : List D → Option (List Int)
  | [] => some []
  | .int i :: ds => (ofInts ds).map (i :: ·)
  | _ :: _ => none
theorem ofInts_eq : ∀ {ds : List D} {ns : List Int}, ofInts ds = some ns → ds = ns.map PyData.int
  | [], ns, h => by cases h; rfl
  | .int i :: ds, ns, h => by
    unfold ofInts at h
    cases e : ofInts ds with
    | none => (rw [e] at h; cases h)
    | some ms =>
      rw [e] at h
      cases h
      rw [ofInts_eq e]
      rfl
  | .none :: _, _, h => nomatch h
  | .bool _ :: _, _, h => nomatch h
  | .str _ :: _, _, h => nomatch h
  | .list _ :: _, _, h => nomatch h
  | .tuple _ :: _, _, h => nomatch h
  | .dict _ :: _, _, h => nomatch h
def ofBools : List D → Option (List Bool)
  | [] => some []
  | .bool i :: ds => (ofBools ds).map (i :: ·)
  | _ :: _ => none
theorem ofBools_eq : ∀ {ds : List D} {ns : List Bool}, ofBools ds = some ns → ds = ns.map PyData.bool
  | [], ns, h => by cases h; rfl
  | .bool i :: ds, ns, h => by
    unfold ofBools at h
    cases e : ofBools ds with
    | none => (rw [e] at h; cases h)
    | some ms =>
      rw [e] at h
      cases h
      rw [ofBools_eq e]
      rfl
  | .none :: _, _, h => nomatch h
  | .int _ :: _, _, h => nomatch h
  | .str _ :: _, _, h => nomatch h
  | .list _ :: _, _, h => nomatch h
  | .tuple _ :: _, _, h => nomatch h
  | .dict _ :: _, _, h => nomatch h
/-- a built-in over one list of numbers -/
def gIL (k : List Int → (D → Prop) → Prop) : GC := fun ds P => match ds with
  | [.list xs] => ∃ ns, ofInts xs = some ns ∧ k ns P
  | _ => False
theorem gil_use {k0 : List Int → (D → Prop) → Prop} {F H : Hp} {σ : L2.St} {ρ : Env} {xx : XX} {ds : List D} {vs : List V} {P : D → Prop} (r : Rel c F H σ ρ xx) (bs : Paired (Bo c F H) vs ds) (g : gIL k0 ds P) : ∃ a ns, vs = [V.ref a] ∧ SqL c.K H a (ns.map V.int) ∧ k0 ns P := by
  unfold gIL at g
  split at g
  · obtain ⟨v, rfl, b⟩ := pr1 bs
    obtain ⟨ns, hn, g⟩ := g
    obtain ⟨a, ys, rfl, s1, t1⟩ := bo_lst r.w.fh b
    rw [ofInts_eq hn] at t1
    rw [t1.ints] at s1
    exact ⟨a, ns, rfl, s1, g⟩
  · exact g.elim
def gMax : GC := fun ds P => match ds with
  | [.int i, .int j] => P (.int (max i j))
  | ds => gIL (fun ns P => ns ≠ [] ∧ ∀ m, m ∈ ns → (∀ y, y ∈ ns → y ≤ m) → P (.int m)) ds P
def gMin : GC := fun ds P => match ds with
  | [.int i, .int j] => P (.int (min i j))
  | ds => gIL (fun ns P => ns ≠ [] ∧ ∀ m, m ∈ ns → (∀ y, y ∈ ns → m ≤ y) → P (.int m)) ds P
theorem sem_max (hK : X.K = c.K) (hc : X.calm = true) : SemC X c (.builtin "max") gMax :=
  ⟨_, CallR.or (call_max2 hc) (cr_max hc), fun F H σ ρ xx ds vs P Q r bs g k => by
    unfold gMax at g
    split at g
    · obtain ⟨v, u, rfl, b1, b2⟩ := pr2 bs
      cases bo_int b1; cases bo_int b2
      rename_i i j
      refine .inl ⟨i, j, rfl, ?_⟩
      have e : (if j > i then j else i) = max i j := by split <;> omega
      rw [e]
      exact k _ _ F H g (Ex.refl F) r (.int _)
    · obtain ⟨a, ns, rfl, s1, hne, g⟩ := gil_use r bs g
      exact .inr ⟨a, ns, rfl, by rw [hK]; exact s1, List.length_pos_iff.mpr hne, fun m h1 h2 => k _ _ F H (g m h1 h2) (Ex.refl F) r (.int _)⟩⟩
theorem sem_min (hK : X.K = c.K) (hc : X.calm = true) : SemC X c (.builtin "min") gMin :=
  ⟨_, CallR.or (call_min2 hc) (cr_min hc), fun F H σ ρ xx ds vs P Q r bs g k => by
    unfold gMin at g
    split at g
    · obtain ⟨v, u, rfl, b1, b2⟩ := pr2 bs
      cases bo_int b1; cases bo_int b2
      rename_i i j
      refine .inl ⟨i, j, rfl, ?_⟩
      have e : (if j < i then j else i) = min i j := by split <;> omega
      rw [e]
      exact k _ _ F H g (Ex.refl F) r (.int _)
    · obtain ⟨a, ns, rfl, s1, hne, g⟩ := gil_use r bs g
      exact .inr ⟨a, ns, rfl, by rw [hK]; exact s1, List.length_pos_iff.mpr hne, fun m h1 h2 => k _ _ F H (g m h1 h2) (Ex.refl F) r (.int _)⟩⟩
def gAll : GC := fun ds P => match ds with
  | [.list xs] => ∃ ns, ofBools xs = some ns ∧ P (.bool (ns.all id))
  | _ => False
theorem sem_all (hK : X.K = c.K) (hc : X.calm = true) : SemC X c (.builtin "all") gAll :=
  ⟨_, cr_all hc, fun F H σ ρ xx ds vs P Q r bs g k => by
    unfold gAll at g
    split at g
    · obtain ⟨v, rfl, b⟩ := pr1 bs
      obtain ⟨ns, hn, g⟩ := g
      obtain ⟨a, ys, rfl, s1, t1⟩ := bo_lst r.w.fh b
      rw [ofBools_eq hn] at t1
      rw [t1.bools] at s1
      exact ⟨a, ns, rfl, by rw [hK]; exact s1, k _ _ F H g (Ex.refl F) r (.bl _)⟩
    · exact g.elim⟩
def gTuple : GC := fun ds P => match ds with
  | [.list xs] => P (.tuple xs)
  | [.tuple xs] => P (.tuple xs)
  | _ => False
theorem sem_tuple (hK : X.K = c.K) : SemC X c (.type "tuple") gTuple := by
  refine ⟨_, call_tuple_of, fun F H σ ρ xx ds vs P Q r bs g k => ?_⟩
  unfold gTuple at g
  split at g
  · obtain ⟨v, rfl, b⟩ := pr1 bs
    obtain ⟨a, ys, rfl, s1, t1⟩ := bo_lst r.w.fh b
    exact ⟨a, ys, rfl, .inl ⟨by rw [hK]; exact s1, fun q hq => k _ _ _ _ g (r.efF _ hq) (r.newF _ hq) (.tup (.inl (.inl upd_same)) (t1.mono (r.efF _ hq)))⟩⟩
  · obtain ⟨v, rfl, b⟩ := pr1 bs
    obtain ⟨a, ys, rfl, f1, s1, t1⟩ := bo_tup r.w.fh b
    exact ⟨a, ys, rfl, .inr ⟨by rw [hK]; exact s1, k _ _ F H g (Ex.refl F) r (.tup f1 t1)⟩⟩
  · exact g.elim
def gList : GC := fun ds P => match ds with
  | [.list xs] => P (.list xs)
  | [.tuple xs] => P (.list xs)
  | _ => False
/-- list(..): a new one -/
theorem dn_list (hK : X.K = c.K) (hg : Gl X "list") (hm : X.mg "list" = none) (ha : PA X [e] (tHL c fh)) (he : starEach [e] X.env = (false, eval e X.env) :: starEach [] X.env := by rfl) (hpl : (backTo pos (starEach [] X.env)).any (·.1) = false := by rfl) :
    PE X (.Call (.Name "list" p) [e] [] pos) (tN c (dCB gList fh)) := by
  refine PE.to (pe_callTy call_list_of hg hm (by decide +kernel) ha (by decide) (by decide) he hpl) ?_
  rintro σ H Q ⟨F, ρ, xx, P, rel, q, k⟩
  refine ⟨F, ρ, xx, _, rel, q, fun hs ρ1 vs F1 H1 q1 e1 r1 h1 => ?_⟩
  obtain ⟨ds, bs, q1⟩ := seeAll_bo r1 h1 q1
  unfold gList at q1
  split at q1
  · obtain ⟨v, rfl, b⟩ := pr1 bs
    obtain ⟨a, ys, rfl, s1, t1⟩ := bo_lst r1.w.fh b
    refine ⟨a, ys, rfl, .inl (by rw [hK]; exact s1), fun l hl => ?_⟩
    obtain ⟨r2, fr⟩ := Fresh.new (o := .lst ys) r1 hl (d := .d <| .list _) ⟨ys, upd_same, t1⟩
    exact k _ ρ1 _ _ _ q1 e1 r2 fr
  · obtain ⟨v, rfl, b⟩ := pr1 bs
    obtain ⟨a, ys, rfl, _, s1, t1⟩ := bo_tup r1.w.fh b
    refine ⟨a, ys, rfl, .inr (by rw [hK]; exact s1), fun l hl => ?_⟩
    obtain ⟨r2, fr⟩ := Fresh.new (o := .lst ys) r1 hl (d := .d <| .list _) ⟨ys, upd_same, t1⟩
    exact k _ ρ1 _ _ _ q1 e1 r2 fr
  · exact q1.elim
def gOrd : GC := fun ds P => match ds with
  | [.str s] => s.length = 1 ∧ P (.int (s.cps.getD 0 0 : Nat))
  | _ => False
theorem sem_ord : SemC X c (.builtin "ord") gOrd := by
  refine ⟨_, call_ord, fun F H σ ρ xx ds vs P Q r bs g k => ?_⟩
  unfold gOrd at g
  split at g
  · obtain ⟨v, rfl, b⟩ := pr1 bs
    cases bo_str b
    exact ⟨_, rfl, g.1, k _ _ F H g.2 (Ex.refl F) r (.int _)⟩
  · exact g.elim
end
end DL
namespace DL
open PySem L2
structure DE where
  nx : Env → Prop
  rt : D → Env → Prop
  bk : Env → Prop
  ct : Env → Prop
abbrev SM := DE → Env → Prop
def tS (c : Cn) (g : SM) : TS := fun Z σ H => ∃ F ρ xx E, Rel c F H σ ρ xx ∧ g E ρ ∧ (∀ ρ' σ' F' H', E.nx ρ' → Ex F F' → Rel c F' H' σ' ρ' xx → Z.nx σ' H') ∧ (∀ d v ρ' σ' F' H', E.rt d ρ' → Rel c F' H' σ' ρ' xx → At c.K F' v d → Z.rt v H') ∧
  (∀ ρ' σ' F' H', E.bk ρ' → Ex F F' → Rel c F' H' σ' ρ' xx → Z.bk σ' H') ∧ (∀ ρ' σ' F' H', E.ct ρ' → Ex F F' → Rel c F' H' σ' ρ' xx → Z.ct σ' H')
theorem PS.to {X : Cx} {st : Stmt} {t t' : TS} (h : PS X st t) (w : ∀ Z σ H, t' Z σ H → t Z σ H) : PS X st t' := ⟨fun pins s σ H Z I q => h.run pins s σ H Z I (w Z σ H q)⟩
theorem PSs.to {X : Cx} {st : List Stmt} {t t' : TS} (h : PSs X st t) (w : ∀ Z σ H, t' Z σ H → t Z σ H) : PSs X st t' := ⟨fun pins s σ H Z I q => h.run pins s σ H Z I (w Z σ H q)⟩
section
variable {X : Cx} {c : Cn} {st : Stmt} {rest : List Stmt} {e : Expr} {pos : Pos}
def sSeq (g h : SM) : SM := fun E ρ => g { E with nx := h E } ρ
def sNo : SM := fun E ρ => E.nx ρ
theorem ds_cons {g h : SM} (h1 : PS X st (tS c g)) (h2 : PSs X rest (tS c h)) : PSs X (st :: rest) (tS c (sSeq g h)) :=
  PSs.to (pss_cons h1 h2) fun Z σ H ⟨F, ρ, xx, E, rel, q, n, r, b, t⟩ => ⟨F, ρ, xx, _, rel, q, fun ρ' σ' F' H' p e rel' => ⟨F', ρ', xx, E, rel', p, fun ρ2 σ2 F2 H2 p2 e2 => n ρ2 σ2 F2 H2 p2 (e.trans e2), r,
    fun ρ2 σ2 F2 H2 p2 e2 => b ρ2 σ2 F2 H2 p2 (e.trans e2), fun ρ2 σ2 F2 H2 p2 e2 => t ρ2 σ2 F2 H2 p2 (e.trans e2)⟩, r, b, t⟩
theorem ds_one {g : SM} (h1 : PS X st (tS c g)) : PSs X [st] (tS c g) := pss_one h1
theorem ds_nil : PSs X [] (tS c sNo) := PSs.to pss_nil fun Z σ H ⟨F, ρ, xx, E, rel, q, n, r, b, t⟩ => n ρ σ F H q (Ex.refl F) rel
def sNever : SM := fun _ _ => False
theorem ds_never : PSs X rest (tS c sNever) := PSs.to pss_never fun Z σ H ⟨F, ρ, xx, E, rel, q, n, r, b, t⟩ => q.elim
def sRet (f : DM) : SM := fun E ρ => f ρ fun d ρ1 => E.rt d ρ1
theorem dp_ret {f : DM} (h : PE X e (tD c f)) : PS X (.Return (some e) pos) (tS c (sRet f)) :=
  PS.to (ps_ret h) fun Z σ H ⟨F, ρ, xx, E, rel, q, n, r, b, t⟩ => ⟨F, ρ, xx, _, rel, q, fun d ρ' v F' H' p e r' a => r d v ρ' σ F' H' p r' a⟩
def sRetN : SM := fun E ρ => E.rt .none ρ
def sIf (t : BM) (g h : SM) : SM := fun E ρ => t ρ fun b ρ1 => if b = true then g E ρ1 else h E ρ1
theorem dp_if {t : BM} {a b : List Stmt} {g h : SM} (hc : PT X e (tT c t)) (ha : PSs X a (tS c g)) (hb : PSs X b (tS c h)) : PS X (.If e a b pos) (tS c (sIf t g h)) :=
  PS.to (ps_if hc ha hb) fun Z σ H ⟨F, ρ, xx, E, rel, q, n, r, b, t⟩ => ⟨F, ρ, xx, _, rel, q, fun d ρ1 F1 H1 q1 e1 r1 => by
    have go : ∀ {g : SM}, g E ρ1 → tS c g Z σ H1 := fun q => ⟨F1, ρ1, xx, E, r1, q, fun ρ2 σ2 F2 H2 p2 e2 => n ρ2 σ2 F2 H2 p2 (e1.trans e2), r,
      fun ρ2 σ2 F2 H2 p2 e2 => b ρ2 σ2 F2 H2 p2 (e1.trans e2), fun ρ2 σ2 F2 H2 p2 e2 => t ρ2 σ2 F2 H2 p2 (e1.trans e2)⟩
    cases d with
    | true => exact go q1
    | false => exact go q1⟩
def sExpr (f : DM) : SM := fun E ρ => f ρ fun _ ρ1 => E.nx ρ1
theorem dp_expr {f : DM} (h : PE X e (tD c f)) (hs : swapsWith e none pos.line X.env = pure false := by rfl) : PS X (.Expr e pos) (tS c (sExpr f)) :=
  PS.to (ps_expr h hs) fun Z σ H ⟨F, ρ, xx, E, rel, q, n, r, b, t⟩ => ⟨F, ρ, xx, _, rel, q, fun d ρ' v F' H' p e r' a => n ρ' σ F' H' p e r'⟩
abbrev TM := D → Env → (Env → Prop) → Prop
def Only (js : List Nat) (σ σ' : L2.St) : Prop := ∀ vs : List Nat, (∀ j ∈ js, j ∈ vs) → wipe σ' vs = wipe σ vs
def tG (c : Cn) (js : List Nat) (t : TM) : TG := fun v σ H Q => ∃ F ρ xx d P, Rel c F H σ ρ xx ∧ At c.K F v d ∧ t d ρ P ∧ ∀ ρ' σ' F' H', P ρ' → Only js σ σ' → Ex F F' → Rel c F' H' σ' ρ' xx → Q σ' H'
abbrev TMs := List D → Env → (Env → Prop) → Prop
def tGs (c : Cn) (js : List Nat) (t : TMs) : TGs := fun vs σ H Q => ∃ F ρ xx ds P, Rel c F H σ ρ xx ∧ AtAll c.K F vs ds ∧ t ds ρ P ∧ ∀ ρ' σ' F' H', P ρ' → Only js σ σ' → Ex F F' → Rel c F' H' σ' ρ' xx → Q σ' H'
theorem PG.to {tg : Expr} {t t' : TG} (h : PG X tg t) (w : ∀ v σ H Q, t' v σ H Q → t v σ H Q) : PG X tg t' := ⟨fun pins s σ H v u Q I r q => h.run pins s σ H v u Q I r (w v σ H Q q)⟩
theorem PGs.to {ts : List Expr} {t t' : TGs} (h : PGs X ts t) (w : ∀ v σ H Q, t' v σ H Q → t v σ H Q) : PGs X ts t' := ⟨fun pins s σ H v u Q I r q => h.run pins s σ H v u Q I r (w v σ H Q q)⟩
theorem only_set (i : Nat) (σ : L2.St) (v : V) : Only [i] σ (σ.set i (some v)) := fun vs h => by
  have hi : i ∈ vs := h i (List.mem_singleton.mpr rfl)
  clear h
  induction vs with
  | nil => cases hi
  | cons w ws ih =>
    show (wipe (σ.set i (some v)) ws).set w none = (wipe σ ws).set w none
    by_cases hw : i ∈ ws
    · rw [ih hw]
    · have e : w = i := by
        rcases List.mem_cons.mp hi with h | h
        · exact h.symm
        · exact absurd h hw
      subst e
      have z : ∀ ws : List Nat, wipe (σ.set w (some v)) ws = (wipe σ ws).set w (some v) ∨ w ∈ ws := fun ws => by
        induction ws with
        | nil => exact .inl rfl
        | cons y ys ih2 =>
          by_cases h1 : w = y
          · exact .inr (by rw [h1]; exact List.mem_cons_self ..)
          · rcases ih2 with h2 | h2
            · left
              show (wipe (σ.set w (some v)) ys).set y none = ((wipe σ ys).set y none).set w (some v)
              rw [h2, List.set_comm _ _ h1]
            · exact .inr (List.mem_cons_of_mem _ h2)
      rcases z ws with h2 | h2
      · rw [h2, List.set_set]
      · exact absurd h2 hw
theorem Only.trans {js ks : List Nat} {σ σ' σ'' : L2.St} (a : Only js σ σ') (b : Only ks σ' σ'') : Only (js ++ ks) σ σ'' := fun vs h =>
  (b vs fun j hj => h j (List.mem_append_right _ hj)).trans (a vs fun j hj => h j (List.mem_append_left _ hj))
def gN (i : Nat) : TM := fun d ρ P => P (ρ.set i (.im d))
theorem dg_name {i : Nat} {x : Str} (hN : X.N.Nodup) (hi : X.N[i]? = some x) (hx : Loc X.env.scope x) (hf : X.fn x = true ∨ X.env.scope.names.lookup x = some .local := by first | exact .inl rfl | exact .inr rfl | assumption) : PG X (.Name x pos) (tG c [i] (gN i)) :=
  PG.to (pg_name hN hi hx hf) fun v σ H Q ⟨F, ρ, xx, d, P, rel, a, q, k⟩ => k _ _ F H q (only_set i σ v) (Ex.refl F) (rel.putI i a)
def gNoT : TMs := fun ds ρ P => ds = [] ∧ P ρ
def gConsT (t : TM) (u : TMs) : TMs := fun ds ρ P => match ds with
  | d :: ds => t d ρ fun ρ1 => u ds ρ1 P
  | [] => False
theorem dgs_nil : PGs X [] (tGs c [] gNoT) := PGs.to pgs_nil fun v σ H Q ⟨F, ρ, xx, ds, P, rel, a, ⟨e, q⟩, k⟩ => by
  subst e
  cases a
  exact ⟨rfl, k _ _ F H q (fun _ _ => rfl) (Ex.refl F) rel⟩
theorem dgs_cons {tg : Expr} {ts : List Expr} {js ks : List Nat} {t : TM} {u : TMs} (h1 : PG X tg (tG c js t)) (h2 : PGs X ts (tGs c ks u))
    (hs : (assignEach (tg :: ts) X.env).map (·.2) = assign tg X.env :: (assignEach ts X.env).map (·.2) := by rfl) : PGs X (tg :: ts) (tGs c (js ++ ks) (gConsT t u)) :=
  PGs.to (pgs_cons h1 h2 hs) fun v σ H Q ⟨F, ρ, xx, ds, P, rel, a, q, k⟩ => by
    cases a with
    | nil => exact False.elim q
    | cons a1 a2 => exact ⟨_, _, rfl, F, ρ, xx, _, _, rel, a1, q, fun ρ1 σ1 F1 H1 q1 o1 e1 r1 => ⟨F1, ρ1, xx, _, P, r1, a2.mono e1, q1, fun ρ2 σ2 F2 H2 q2 o2 e2 r2 => k ρ2 σ2 F2 H2 q2 (o1.trans o2) (e1.trans e2) r2⟩⟩
def gTupT (n : Nat) (t : TMs) : TM := fun d ρ P => match d with
  | .tuple ds => ds.length = n ∧ t ds ρ P
  | _ => False
theorem dg_tup {es : List Expr} {k : Nat} {js : List Nat} {t : TMs} {n : Nat} (hK : X.K = c.K) (hc : X.calm = true) (h : PGs X es (tGs c js t))
    (hn : (assignEach es X.env).length = n := by rfl) (hst : (assignEach es X.env).findIdx? (·.1) = none := by rfl) : PG X (.Tuple es k pos) (tG c js (gTupT n t)) :=
  PG.to (pg_tup hc h hn hst) fun v σ H Q ⟨F, ρ, xx, d, P, rel, a, q, k⟩ => by
    cases a with
    | tup s1 a1 => exact ⟨_, _, rfl, by rw [hK]; exact rel.w.fh.st s1, by rw [a1.length]; exact q.1, F, ρ, xx, _, P, rel, a1, q.2, k⟩
    | _ => exact False.elim q
def sAsg (f : DM) (t : TM) : SM := fun E ρ => f ρ fun d ρ1 => t d ρ1 E.nx
theorem dp_asg {tg : Expr} {f : DM} {js : List Nat} {t : TM} (he : PE X e (tD c f)) (hg : PG X tg (tG c js t)) (hs : swapsWithSole [tg] e pos.line X.env = pure false := by rfl) (hw : swappedStores [tg] e X.env = pure none := by rfl)
    (h1 : (assignEach [tg] X.env).map (·.2) = [assign tg X.env] := by rfl) : PS X (.Assign [tg] e pos) (tS c (sAsg f t)) :=
  PS.to (ps_asg he hg hs hw h1) fun Z σ H ⟨F, ρ, xx, E, rel, q, n, r, b, t⟩ => ⟨F, ρ, xx, _, rel, q, fun d ρ' v F' H' p e r' a => ⟨F', ρ', xx, d, _, r', a, p, fun ρ2 σ2 F2 H2 p2 _ e2 r2 => n ρ2 σ2 F2 H2 p2 (e.trans e2) r2⟩⟩
def sSet (i : Nat) (f : DM) : SM := fun E ρ => f ρ fun d ρ1 => E.nx (ρ1.set i (.im d))
def sSetN (i : Nat) (f : DM) : SM := fun E ρ => f ρ fun d ρ1 => E.nx (ρ1.set i (.ow d))
theorem set_use {i : Nat} {f : DM} {te : TE} (et : te = tD c f) : ∀ Z σ H, tS c (sSet i f) Z σ H → tAsg te (gName i) Z σ H := by
  subst et
  exact fun Z σ H ⟨F, ρ, xx, E, rel, q, n, r, b, t⟩ => ⟨F, ρ, xx, _, rel, q, fun d ρ' v F' H' p e r' a => n _ _ F' H' p e (r'.putI i a)⟩
theorem setN_use {i : Nat} {f : DM} {te : TE} (et : te = tN c f) : ∀ Z σ H, tS c (sSetN i f) Z σ H → tAsg te (gName i) Z σ H := by
  subst et
  exact fun Z σ H ⟨F, ρ, xx, E, rel, q, n, r, b, t⟩ => ⟨F, ρ, xx, _, rel, q, fun d ρ' v F' H' p e r' a => n _ _ F' H' p e (r'.putO i a)⟩
variable {x : Str} {i : Nat} {pos' : Pos}
theorem dp_set {f : DM} (hN : X.N.Nodup) (hi : X.N[i]? = some x) (hx : Loc X.env.scope x) (he : PE X e (tD c f)) (hs : swapsWith e (some (.Name x pos')) pos.line X.env = pure false := by rfl)
    (hf : X.fn x = true ∨ X.env.scope.names.lookup x = some .local := by first | exact .inl rfl | exact .inr rfl | assumption) : PS X (.Assign [.Name x pos'] e pos) (tS c (sSet i f)) := PS.to (ps_set hN hi hx he hs hf) (set_use rfl)
theorem dp_setN {f : DM} (hN : X.N.Nodup) (hi : X.N[i]? = some x) (hx : Loc X.env.scope x) (he : PE X e (tN c f)) (hs : swapsWith e (some (.Name x pos')) pos.line X.env = pure false := by rfl)
    (hf : X.fn x = true ∨ X.env.scope.names.lookup x = some .local := by first | exact .inl rfl | exact .inr rfl | assumption) : PS X (.Assign [.Name x pos'] e pos) (tS c (sSetN i f)) := PS.to (ps_set hN hi hx he hs hf) (setN_use rfl)
/-- a, b = x, y -/
def sPar (i j : Nat) (f : LM) : SM := fun E ρ => f ρ fun ds ρ1 => match ds with
  | [a, b] => E.nx ((ρ1.set i (.im a)).set j (.im b))
  | _ => False
theorem dp_par {j : Nat} {y : Str} {a b : Expr} {f : LM} {px py pt : Pos} {kt k2 : Nat} {pt2 : Pos} (hc : X.calm = true) (hN : X.N.Nodup) (hi : X.N[i]? = some x) (hj : X.N[j]? = some y) (hij : i ≠ j)
    (hx : X.env.scope.names.lookup x = some .local) (hy : X.env.scope.names.lookup y = some .local) (ha : PA X [a, b] (tL c f))
    (hw : (swappedStores [.Tuple [.Name x px, .Name y py] kt pt] (.Tuple [a, b] k2 pt2) X.env = pure (some [x, y])))
    (hs : swapsWithSole [.Tuple [.Name x px, .Name y py] kt pt] (.Tuple [a, b] k2 pt2) pos.line X.env = pure false
      := by rfl) :
    PS X (.Assign [.Tuple [.Name x px, .Name y py] kt pt] (.Tuple [a, b] k2 pt2) pos) (tS c (sPar i j f)) :=
  PS.to (ps_par hc hN hi hj hij hx hy ha hw hs) fun Z σ H ⟨F, ρ, xx, E, rel, q, n, r, bb, t⟩ => ⟨F, ρ, xx, _, rel, q, fun ds ρ' vs F' H' p e r' a => by
    split at p
    · cases a with
      | cons a1 a2 => cases a2 with
        | cons a2 a3 =>
          cases a3
          exact ⟨_, _, rfl, n _ _ F' H' p e ((r'.putI i a1).putI j a2)⟩
    · exact p.elim⟩
/-- x += e -/
def sAug (i : Nat) (g : G2) (f : HM) : SM := fun E ρ => (match ρ[i]? with
  | some (.im _) => True
  | _ => False) ∧ f ρ fun h ρ1 => match ρ1[i]? with
  | some (.im d) => see ρ1 h fun dy => g d dy fun z => E.nx (ρ1.set i (.im z))
  | _ => False
def ipG (r : R2) : TIp := fun x y H Q => r x y H Q
theorem dp_aug {op : Operator} {g : G2} {f : HM} (hN : X.N.Nodup) (hi : X.N[i]? = some x) (hx : Loc X.env.scope x) (he : PE X e (tH c f)) (hs : Sem2 X c (inplaceOp op) g)
    (hf : X.fn x = true ∨ X.env.scope.names.lookup x = some .local := by first | exact .inl rfl | exact .inr rfl | assumption) : PS X (.AugAssign (.Name x pos') op e pos) (tS c (sAug i g f)) := by
  obtain ⟨r, ho, hr⟩ := hs
  refine PS.to (ps_aug (ti := ipG r) hN hi hx he ho hf) ?_
  rintro Z σ H ⟨F, ρ, xx, E, rel, ⟨q0, q⟩, n, rr, b, t⟩
  split at q0
  · rename_i d e0
    obtain ⟨v, g1, g2⟩ := rel.s.im i d e0
    refine ⟨v, g1, F, ρ, xx, _, rel, q, fun h ρ1 u F1 H1 q1 e1 r1 h1 => ?_⟩
    split at q1
    · rename_i d1 e2
      obtain ⟨v', g1', g2'⟩ := r1.s.im i d1 e2
      rw [g1] at g1'
      cases g1'
      obtain ⟨dy, by_, q1⟩ := see_bo r1 h1 q1
      exact hr F1 H1 σ ρ1 xx d1 dy v u _ _ r1 (.inl g2') by_ q1 fun z w F2 H2 pz ez rz az => n _ _ F2 H2 pz (e1.trans ez) (rz.putI i az)
    · exact q1.elim
  · exact q0.elim
abbrev IM := Env → (List D → Env → Prop) → Prop
def ItOk (c : Cn) (J : It) (ds : List D) (F : Hp) : Prop := ∀ (i : Nat) (F' H : Hp) (σ : L2.St) (ρ : Env) (xx : XX), Ex F F' → Rel c F' H σ ρ xx →
  (∀ d, ds[i]? = some d → J.go i H ∧ ∀ x H', J.yld i H x H' → ∃ F2, Ex F' F2 ∧ Rel c F2 H' σ ρ xx ∧ At c.K F2 x d) ∧ (ds.length = i → J.stop i H)
def tI (c : Cn) (f : IM) : TI := fun σ H R => ∃ F ρ xx P, Rel c F H σ ρ xx ∧ f ρ P ∧ ∀ ds ρ' J F' H', P ds ρ' → Ex F F' → Rel c F' H' σ ρ' xx → ItOk c J ds F' → R J H'
theorem PI.to {tg iter : Expr} {t t' : TI} (h : PI X tg iter t) (w : ∀ σ H Q, t' σ H Q → t σ H Q) : PI X tg iter t' := ⟨fun pins s σ H Q I q => h.run pins s σ H Q I (w σ H Q q)⟩
def forL (t : TM) (body : SM) (E : DE) : List D → Env → Prop
  | [], ρ => E.nx ρ
  | d :: ds, ρ => t d ρ fun ρ1 => body ⟨forL t body E ds, E.rt, E.nx, forL t body E ds⟩ ρ1
def sFor (f : IM) (t : TM) (body : SM) : SM := fun E ρ => f ρ fun ds ρ1 => forL t body E ds ρ1
theorem dp_for {tg iter : Expr} {body : List Stmt} {f : IM} {js : List Nat} {t : TM} {g : SM} (hp : PassesOwn (model X.prog X.w) X.A X.env X.xe) (hc : X.calm = true) (hi : PI X tg iter (tI c f)) (hg : PG X tg (tG c js t)) (hb : PSs X body (tS c g))
    (hs : ∀ x, foldedSetIterable iter X.env x = pure x := by intro _; rfl) : PS X (.For tg iter body [] pos) (tS c (sFor f t g)) := by
  refine PS.to (ps_for hp hc hi hg hb hs) ?_
  rintro Z σ H ⟨F, ρ, xx, E, rel, q, n, r, b, ct⟩
  refine ⟨F, ρ, xx, _, rel, q, fun ds ρ1 J F1 H1 q1 e1 r1 ok => ?_⟩
  refine ⟨fun i m σ' H' => ∃ F' ρ', Ex F1 F' ∧ Rel c F' H' σ' ρ' xx ∧ m = ds.length - i ∧ i ≤ ds.length ∧ forL t g E (ds.drop i) ρ', ⟨ds.length, F1, ρ1, Ex.refl F1, r1, by omega, Nat.zero_le _, by rw [List.drop_zero]; exact q1⟩, ?_⟩
  rintro i m σ' H' ⟨F', ρ', e2, r2, rfl, hi, q2⟩
  obtain ⟨o1, o2⟩ := ok i F' H' σ' ρ' xx e2 r2
  by_cases hlt : i < ds.length
  · have hd : ds[i]? = some ds[i] := List.getElem?_eq_getElem hlt
    obtain ⟨go, yl⟩ := o1 _ hd
    rw [List.drop_eq_getElem_cons hlt] at q2
    have q2 : t ds[i] ρ' fun ρ1 => g ⟨forL t g E (ds.drop (i + 1)), E.rt, E.nx, forL t g E (ds.drop (i + 1))⟩ ρ1 := q2
    refine .inr ⟨go, fun σ2 H2 => ∃ F2 ρ2, Ex F1 F2 ∧ Rel c F2 H2 σ2 ρ2 xx ∧ forL t g E (ds.drop (i + 1)) ρ2, fun σ2 H2 ⟨F2, ρ2, a1, a2, a3⟩ => ⟨ds.length - (i + 1), by omega, F2, ρ2, a1, a2, rfl, by omega, a3⟩, fun v H2 y => ?_⟩
    obtain ⟨F2, e3, r3, a3⟩ := yl v H2 y
    refine ⟨F2, ρ', xx, _, _, r3, a3, q2, fun ρ4 σ4 F4 H4 q4 _ e4 r4 => ?_⟩
    exact ⟨F4, ρ4, xx, _, r4, q4, fun ρ5 σ5 F5 H5 q5 e5 r5 => ⟨F5, ρ5, ((e2.trans e3).trans e4).trans e5, r5, q5⟩, r, fun ρ5 σ5 F5 H5 q5 e5 r5 => n ρ5 σ5 F5 H5 q5 ((((e1.trans e2).trans e3).trans e4).trans e5) r5, fun ρ5 σ5 F5 H5 q5 e5 r5 => ⟨F5, ρ5, ((e2.trans e3).trans e4).trans e5, r5, q5⟩⟩
  · have e : i = ds.length := by omega
    subst e
    rw [List.drop_length] at q2
    exact .inl ⟨o2 rfl, n ρ' σ' F' H' q2 (e1.trans e2) r2⟩
theorem itOk_list {a : Addr} {F : Hp} {ds : List D} {ys : List V} {K : PySem.W.Frag} (hK : K = c.K) (s : SqL c.K F a ys) (t : AtAll c.K F ys ds) : ItOk c (Itl K a) ds F := by
  subst hK
  intro i F' H σ ρ xx e r
  have sq := r.w.fh.sl (e.sl s)
  refine ⟨fun d hd => ?_, fun hl => ⟨ys, sq, by rw [t.length]; exact Nat.le_of_eq hl⟩⟩
  obtain ⟨v, hv, av⟩ := t.get hd
  refine ⟨⟨ys, v, sq, hv⟩, fun x H' ⟨eh, y⟩ => ?_⟩
  subst eh
  have := y ys sq
  rw [hv] at this
  cases this
  exact ⟨F', Ex.refl _, r, av.mono e⟩
theorem itOk_tup {a : Addr} {F : Hp} {ds : List D} {ys : List V} {K : PySem.W.Frag} (hK : K = c.K) (s : SqT c.K F a ys) (t : AtAll c.K F ys ds) : ItOk c (Itt K a) ds F := by
  subst hK
  intro i F' H σ ρ xx e r
  have sq := r.w.fh.st (e.st s)
  refine ⟨fun d hd => ?_, fun hl => ⟨ys, sq, by rw [t.length]; exact Nat.le_of_eq hl⟩⟩
  obtain ⟨v, hv, av⟩ := t.get hd
  refine ⟨⟨ys, v, sq, hv⟩, fun x H' ⟨eh, y⟩ => ?_⟩
  subst eh
  have := y ys sq
  rw [hv] at this
  cases this
  exact ⟨F', Ex.refl _, r, av.mono e⟩
/-- an iterator over a list, a tuple, a text: by what the value is -/
def iAny (K : PySem.W.Frag) (tl : TE) : TI := fun σ H R => tl σ H fun x H1 => (∃ a, x = .ref a ∧ (((∃ xs, SqL K H1 a xs) ∧ R (Itl K a) H1) ∨ ((∃ xs, SqT K H1 a xs) ∧ R (Itt K a) H1))) ∨ ∃ z, x = .str z ∧ R (Its z) H1
theorem pi_any {tg l : Expr} {tl : TE} (hl : PE X l tl) : PI X tg l (iAny X.K tl) := by
  (refine ⟨fun pins s σ H R I h => ?_⟩)
  refine thn (hl.run pins s σ H _ I h) fun v s1 ⟨x, H1, I1, r1, q⟩ => ?_
  have fin : ∀ b, b ∈ [s1.heap.objs.size] → FpOk X pins H1 b := fun b hb => by
    obtain rfl := List.mem_singleton.mp hb
    (exact I1.fpOk (Nat.le_refl _) (I1.hok.fresh (Nat.le_refl _)))
  rcases q with ⟨a, ex, q⟩ | ⟨z, ex, q⟩
  · subst ex
    cases r1
    rcases q with ⟨⟨xs, hs⟩, q⟩ | ⟨⟨xs, hs⟩, q⟩
    · obtain ⟨its, rv, pl, hz⟩ := I1.list hs
      exact wpAny_pyIter_list pl.isList ⟨_, [s1.heap.objs.size], _, _, H1, rfl, I1.kept (t' := s1.toks) fun b o q => Heap.get?_push_of_some _ q, turn_list a _,
        ⟨_, Heap.get?_push_size _ rfl, rfl, rfl⟩, fin, q⟩
    · obtain ⟨its, rv, pl, hz⟩ := I1.tuple hs
      exact wpAny_pyIter_tuple (show s1.heap.IsTuple a its.toArray from pl) ⟨_, [s1.heap.objs.size], _, _, H1, rfl, I1.kept (t' := s1.toks) fun b o q => Heap.get?_push_of_some _ q, turn_tuple a _,
        ⟨_, Heap.get?_push_size _ rfl, rfl, rfl⟩, fin, q⟩
  · subst ex
    obtain ⟨t, rfl⟩ := r1
    cases ha : z.cps.all (· < 128)
    · exact wpAny_pyIter_wide ha (pi_one (tk := s1.toks) I1 _ (turn_str _ z t "str_iterator" (.inr rfl)) ⟨_, Heap.get?_push_size _ rfl, rfl, rfl⟩ q)
    · exact wpAny_pyIter_ascii ha (pi_one (tk := s1.toks) I1 _ (turn_str _ z t "str_ascii_iterator" (.inl rfl)) ⟨_, Heap.get?_push_size _ rfl, rfl, rfl⟩ q)
def signs (z : Str) : List D := z.cps.toList.map fun n => .str ⟨#[n]⟩
theorem itOk_str {z : Str} {F : Hp} : ItOk c (Its z) (signs z) F := by
  intro i F' H σ ρ xx e r
  refine ⟨fun d hd => ?_, fun hl => ?_⟩
  · unfold signs at hd
    rw [List.getElem?_map] at hd
    cases hn : z.cps.toList[i]? with
    | none => rw [hn] at hd; cases hd
    | some n =>
      rw [hn] at hd
      cases hd
      have hi : z.cps[i]? = some n := by simpa using hn
      refine ⟨?_, fun x H' ⟨eh, m, y, ev⟩ => ?_⟩
      · have := (Array.getElem?_eq_some_iff.mp hi).1
        exact this
      · subst eh ev
        rw [hi] at y
        cases y
        exact ⟨F', Ex.refl _, r, .str _⟩
  · unfold signs at hl
    rw [List.length_map, Array.length_toList] at hl
    exact Nat.le_of_eq hl
def iSeq (f : DM) : IM := fun ρ P => f ρ fun d ρ1 => match d with
  | .list ds => P ds ρ1
  | .tuple ds => P ds ρ1
  | .str z => P (signs z) ρ1
  | _ => False
theorem di_seq {tg l : Expr} {f : DM} (hK : X.K = c.K) (hl : PE X l (tD c f)) : PI X tg l (tI c (iSeq f)) := by
  refine PI.to (pi_any hl) ?_
  rintro σ H R ⟨F, ρ, xx, P, rel, q, k⟩
  refine ⟨F, ρ, xx, _, rel, q, fun d ρ1 v F1 H1 q1 e1 r1 a1 => ?_⟩
  split at q1
  · cases a1 with
    | lst s1 t1 => exact .inl ⟨_, rfl, .inl ⟨⟨_, by rw [hK]; exact r1.w.fh.sl s1⟩, k _ ρ1 _ F1 H1 q1 e1 r1 (itOk_list hK s1 t1)⟩⟩
  · cases a1 with
    | tup s1 t1 => exact .inl ⟨_, rfl, .inr ⟨⟨_, by rw [hK]; exact r1.w.fh.st s1⟩, k _ ρ1 _ F1 H1 q1 e1 r1 (itOk_tup hK s1 t1)⟩⟩
  · cases a1
    exact .inr ⟨_, rfl, k _ ρ1 _ F1 H1 q1 e1 r1 itOk_str⟩
  · exact q1.elim
/-- range(n), range(a, b) -/
def rgD (lo hi : Int) : List D := (List.range (hi - lo).toNat).map fun i => .int (lo + (i : Nat))
theorem itOk_range {lo : Int} {n : Nat} {F : Hp} : ItOk c (Itr lo n) ((List.range n).map fun i => .int (lo + (i : Nat))) F := by
  intro i F' H σ ρ xx e r
  refine ⟨fun d hd => ?_, fun hl => show n ≤ i by simp at hl; omega⟩
  rw [List.getElem?_map] at hd
  cases hn : (List.range n)[i]? with
  | none => rw [hn] at hd; cases hd
  | some j =>
    rw [hn] at hd
    cases hd
    obtain ⟨hi, ej⟩ := List.getElem?_eq_some_iff.mp hn
    rw [List.getElem_range] at ej
    subst ej
    refine ⟨show i < n by simpa using hi, fun x H' ⟨eh, y⟩ => ?_⟩
    subst eh y
    exact ⟨F', Ex.refl _, r, .int _⟩
def iRange1 (f : LM) : IM := fun ρ P => f ρ fun ds ρ1 => match ds with
  | [.int n] => (-(2 ^ 62) ≤ n ∧ n < 2 ^ 62) ∧ P (rgD 0 n) ρ1
  | _ => False
def iRange2 (f : LM) : IM := fun ρ P => f ρ fun ds ρ1 => match ds with
  | [.int a, .int b] => (-(2 ^ 62) ≤ a ∧ a < 2 ^ 62 ∧ -(2 ^ 62) ≤ b ∧ b < 2 ^ 62) ∧ P (rgD a b) ρ1
  | _ => False
theorem di_range1 {tg a : Expr} {f : LM} {p : Pos} (hg : Gl X "range") (hm : X.mg "range" = none) (ha : PA X [a] (tL c f)) (hs : starEach [a] X.env = [(false, eval a X.env)] := by rfl) : PI X tg (.Call (.Name "range" p) [a] [] pos) (tI c (iRange1 f)) := by
  refine PI.to (pi_range1 hg hm ha hs) ?_
  rintro σ H R ⟨F, ρ, xx, P, rel, q, k⟩
  refine ⟨F, ρ, xx, _, rel, q, fun ds ρ1 vs F1 H1 q1 e1 r1 a1 => ?_⟩
  split at q1
  · rename_i n
    cases a1 with
    | cons a b =>
      cases b
      cases a
      have hr : rgD 0 n = (List.range n.toNat).map fun i => PyData.int (0 + (i : Nat)) := by
        unfold rgD
        rw [Int.sub_zero]
      rw [hr] at q1
      exact ⟨n, rfl, q1.1.1, q1.1.2, k _ ρ1 _ F1 H1 q1.2 e1 r1 itOk_range⟩
  · exact q1.elim
theorem di_range2 {tg a b : Expr} {f : LM} {p : Pos} (hg : Gl X "range") (hm : X.mg "range" = none) (ha : PA X [a, b] (tL c f)) (hs : starEach [a, b] X.env = [(false, eval a X.env), (false, eval b X.env)] := by rfl) (hs2 : starEach [b] X.env = [(false, eval b X.env)] := by rfl) :
    PI X tg (.Call (.Name "range" p) [a, b] [] pos) (tI c (iRange2 f)) := by
  refine PI.to (pi_range2 hg hm ha hs hs2) ?_
  rintro σ H R ⟨F, ρ, xx, P, rel, q, k⟩
  refine ⟨F, ρ, xx, _, rel, q, fun ds ρ1 vs F1 H1 q1 e1 r1 a1 => ?_⟩
  split at q1
  · cases a1 with
    | cons a b => cases b with
      | cons b t =>
        cases t
        cases a
        cases b
        exact ⟨_, _, rfl, q1.1, k _ ρ1 _ F1 H1 q1.2 e1 r1 itOk_range⟩
  · exact q1.elim
/-- while -/
def sWhile (t : BM) (body : SM) : SM := fun E ρ => ∃ W : Nat → Env → Prop, (∃ m, W m ρ) ∧ ∀ m ρ, W m ρ → t ρ fun b ρ1 => if b = true then body ⟨fun ρ' => ∃ m', m' < m ∧ W m' ρ', E.rt, E.nx, fun ρ' => ∃ m', m' < m ∧ W m' ρ'⟩ ρ1 else E.nx ρ1
theorem dp_while {t : BM} {body : List Stmt} {g : SM} (hp : PassesOwn (model X.prog X.w) X.A X.env X.xe) (hc : PT X e (tT c t)) (hb : PSs X body (tS c g)) : PS X (.While e body [] pos) (tS c (sWhile t g)) := by
  refine PS.to (ps_while hp hc hb) ?_
  rintro Z σ H ⟨F, ρ, xx, E, rel, ⟨W, ⟨m0, w0⟩, turn⟩, n, r, b, ct⟩
  refine ⟨fun m σ' H' => ∃ F' ρ', Ex F F' ∧ Rel c F' H' σ' ρ' xx ∧ W m ρ', ⟨m0, F, ρ, Ex.refl F, rel, w0⟩, ?_⟩
  rintro m σ' H' ⟨F', ρ', e1, r1, w1⟩
  refine ⟨F', ρ', xx, _, r1, turn m ρ' w1, fun bb ρ2 F2 H2 q2 e2 r2 => ?_⟩
  cases bb with
  | true =>
    refine ⟨fun σ3 H3 => ∃ F3 ρ3, Ex F F3 ∧ Rel c F3 H3 σ3 ρ3 xx ∧ ∃ m', m' < m ∧ W m' ρ3, fun σ3 H3 ⟨F3, ρ3, a1, a2, m', a3, a4⟩ => ⟨m', a3, F3, ρ3, a1, a2, a4⟩, ?_⟩
    exact ⟨F2, ρ2, xx, _, r2, q2, fun ρ3 σ3 F3 H3 q3 e3 r3 => ⟨F3, ρ3, (e1.trans e2).trans e3, r3, q3⟩, r, fun ρ3 σ3 F3 H3 q3 e3 r3 => n ρ3 σ3 F3 H3 q3 ((e1.trans e2).trans e3) r3, fun ρ3 σ3 F3 H3 q3 e3 r3 => ⟨F3, ρ3, (e1.trans e2).trans e3, r3, q3⟩⟩
  | false => exact n ρ2 σ' F2 H2 q2 (e1.trans e2) r2
end
end DL
namespace DL
open PySem L2
section
open PyProof.Rows
variable {prog : Program} {w : PySem.World} {A : Around} {E : Value → Shared → Prop} {s : Shared}
/-- enumerate(v), where iter(v) begins with the object o -/
theorem enum_one {v : Value} {o : Obj} {Z : Heap → Prop} {Q : Value → Shared → Prop} (B : Begins v o Z) (f : Z s.heap)
    (h : ∀ h2 : Heap, h2.get? s.heap.objs.size = some o → IsEnum h2 (s.heap.objs.size + 1) s.heap.objs.size 0 .none → (∀ b z, s.heap.get? b = some z → h2.get? b = some z) → Q (.ref (s.heap.objs.size + 1)) { s with heap := h2 }) :
    wpAny (model prog w) A (call (.type "enumerate") [v]) Q E s := by
  have new : Meets (Builtin.«enumerate.__new__» ⟨[.type "enumerate", v], []⟩) (fun _ R s1 => Z s1.heap ∧ R (.ok (.ret (.ref (s1.heap.push o).objs.size))) { s1 with heap := (s1.heap.push o).push { cls := .type "enumerate", data := .fields #[.none, .bool false, .ref s1.heap.objs.size, rawInt 0, .none, .none] } }) := by
    refine .of_wp fun prog w A R s1 z => ?_
    have begins : ∀ {A' : Around} {E : Value → Shared → Prop} {Q : Value → Shared → Prop}, Q (.ref s1.heap.objs.size) { s1 with heap := s1.heap.push o } → wpAny (model prog w) A' (pyIter v) Q E s1 := fun q => B.iter prog w _ _ s1 _ z.1 q
    have isa := sub_enumerate
    have fin := z.2
    clear z
    cases s1
    wp_walk using begins
    apply wpAny_stack_any
    intro st
    apply wpAny_pure
    split
    case _ c _ _ _ _ _ =>
      rcases c == Value.type "enumerate" with _ | _ <;> (wp_walk using begins) <;> exact ⟨_, rfl, fin⟩
    case _ =>
      wp_walk using begins
      exact ⟨_, rfl, fin⟩
  have at1 : (s.heap.push o).objs.size = s.heap.objs.size + 1 := Heap.size_push ..
  refine callType_new F.called_enumerate (by decide) (F.typeCall_enumerate_1 v) (F.newCall_enumerate_1 v) (F.args_object_init_2 · v) F.entry_enumerate_new new ?_
  rw [at1]
  have made := Heap.get?_push_size (s.heap.push o) (o := { cls := .type "enumerate", data := .fields #[.none, .bool false, .ref s.heap.objs.size, rawInt 0, .none, .none] }) rfl
  rw [at1] at made
  exact ⟨f, ⟨_, made, rfl⟩, h _ (Heap.get?_push_of_some _ (Heap.get?_push_size _ B.free)) made fun b z q => Heap.get?_push_of_some _ (Heap.get?_push_of_some _ q)⟩
/-- where an enumerate over the tuple a stands: e the enumerate, it the tuple's iterator -/
structure EnT (a e it : Addr) (i : Nat) (h : Heap) : Prop where
  en : ∃ old, IsEnum h e it ((i : Nat) : Int) old
  ti : h.IsTupleIter it a i
  e_it : e ≠ it
  a_it : a ≠ it
  a_e : a ≠ e
theorem EnT.move {a e it : Addr} {i : Nat} {h h' : Heap} (x : EnT a e it i h) (ke : ∀ o, h.get? e = some o → h'.get? e = some o) (ki : ∀ o, h.get? it = some o → h'.get? it = some o) : EnT a e it i h' :=
  ⟨x.en.imp fun _ q => ke _ q, x.ti.at ki, x.e_it, x.a_it, x.a_e⟩
/-- its next item, over the heap alone -/
theorem EnT.step {a e it : Addr} {i : Nat} {its : List Value} {u : Value} {R : Shared → Prop} {elts : List Expr} {kk : Nat} {tpos : Pos} (x : EnT a e it i s.heap) (calm : A.in1.handled = none) (p : s.heap.IsTuple a its.toArray) (hu : its[i]? = some u)
    (h : ∀ (h2 : Heap) (tk : Nat), EnT a e it (i + 1) h2 → h2.get? s.heap.objs.size = some { cls := .type "tuple", data := .seq #[.int i tk, u] } → (∀ b o, b ≠ e → b ≠ it → s.heap.get? b = some o → h2.get? b = some o) → R { s with heap := h2, toks := tk + 1 }) :
    wpAny (model prog w) A (pyNext (.ref e)) (fun r s1 => r = some (.ref s.heap.objs.size) ∧ wpAny (model prog w) A (letOwnedTupleGo (.Tuple elts kk tpos) (.ref e) (.ref s.heap.objs.size)) (fun _ s2 => R s2) E s1) E s := by
  obtain ⟨⟨old, en⟩, ti, n1, n2, n3⟩ := x
  have new : s.heap.objs.size ≠ e := Nat.ne_of_gt (Heap.lt_size en)
  have few : i < its.toArray.size := (List.getElem?_eq_some_iff.mp hu).1
  refine wpAny_pyNext_enum_itemD (Draws.tuple (prog := prog) (w := w) calm it a n2 its.toArray) en ⟨ti, p⟩ few n1 (List.not_mem_cons_of_ne_of_not_mem n1 (List.not_mem_cons_of_ne_of_not_mem (Ne.symm n3) List.not_mem_nil)) ?_
  rintro y h1 tk hy own st1 tup - kept
  have : y = u := Option.some.inj (Eq.trans (by simpa using hy.symm) hu)
  subst this
  refine ⟨rfl, wpAny_letOwnedTupleGo_enum (s := { s with heap := h1, toks := tk + 1 }) own fun h2 en2 sb => h h2 tk ⟨⟨_, by rw [Int.natCast_succ]; exact en2⟩, st1.1.at fun o q => (sb.2 it (Ne.symm n1)).trans q, n1, n2, n3⟩ ((sb.2 _ new).trans tup) ?_⟩
  exact fun b o be bi q => (sb.2 b be).trans (kept b o be bi q)
end
/-- each item of a sequence with its number, in a new pair -/
def numbered (S : Hp → List V → Prop) : It where
  go i H := ∃ xs x, S H xs ∧ xs[i]? = some x
  yld i H v H' := ∃ T x, v = .ref T ∧ H T = none ∧ H' = upd H T (.tup [.int (i : Nat), x]) ∧ ∀ xs, S H xs → xs[i]? = some x
  stop i H := ∃ xs, S H xs ∧ xs.length = i
abbrev IteT (K : PySem.W.Frag) (a : Addr) : It := numbered fun H xs => SqT K H a xs
open PyProof.Rows in
theorem turn_enumT {P : Program} {w : PySem.World} {K : PySem.W.Frag} {elts : List Expr} {kk : Nat} {tpos : Pos} (a e it : Addr) : Turn P w K (.Tuple elts kk tpos) (IteT K a) [e, it] e (EnT a e it) := by
  have two : ∀ {p : Addr → Prop}, p e → p it → ∀ b ∈ [e, it], p b := fun pe pi => List.forall_mem_cons.mpr ⟨pe, List.forall_mem_cons.mpr ⟨pi, fun _ z => nomatch z⟩⟩
  constructor
  · exact List.mem_cons_self
  · rintro i h ⟨⟨old, en⟩, ⟨o, ho, -, hd⟩, -⟩
    exact two ⟨_, en, fun v q => nomatch q⟩ ⟨o, ho, fun v q => by rw [hd] at q; exact nomatch q⟩
  · exact fun i h h' x k => x.move (k e List.mem_cons_self) (k it (List.mem_cons_of_mem _ List.mem_cons_self))
  · rintro X rfl rfl rfl calm i pins s σ H E I away x ⟨xs, y, sq, hy⟩
    obtain ⟨its, rv, p, -⟩ := I.tuple sq
    obtain ⟨u, hu, ru⟩ := rv.get hy
    have le : e < s.heap.objs.size := x.en.elim fun _ q => Heap.lt_size q
    have li : it < s.heap.objs.size := x.ti.elim fun _ q => Heap.lt_size q.1
    refine wpAny_mono (x.step (R := fun s2 => ∃ y' H', Inv X pins σ H' s2 ∧ RelV y' (.ref s.heap.objs.size) ∧ (IteT X.K a).yld i H y' H' ∧ EnT a e it (i + 1) s2.heap ∧ ∀ b ∈ [e, it], H' b = none) (I.ok.hd calm) p hu ?_) (fun r s1 q => ⟨_, q⟩) fun _ _ q => q
    intro h2 tk x2 tup kept
    refine ⟨.ref s.heap.objs.size, upd H s.heap.objs.size (.tup [.int (i : Nat), y]), ?_, rfl, ⟨_, y, rfl, I.hok.fresh (Nat.le_refl _), rfl, fun ys q => by rw [I.tuple_inj q sq]; exact hy⟩, x2, two ?_ ?_⟩
    · refine I.turnedNew (ch := [e, it]) (t' := tk + 1) (fun b ob nb q => kept b ob (fun z => nb (z ▸ List.mem_cons_self)) (fun z => nb (z ▸ List.mem_cons_of_mem _ List.mem_cons_self)) q) away (Nat.le_refl _) ?_
      exact ⟨by show 2 ≤ sizeLine; decide, _, .cons ⟨tk, rfl⟩ (.cons ru .nil), _, tup, rfl, _, rfl⟩
    · exact (upd_ne (Nat.ne_of_lt le)).trans (away e List.mem_cons_self).1
    · exact (upd_ne (Nat.ne_of_lt li)).trans (away it (List.mem_cons_of_mem _ List.mem_cons_self)).1
  · rintro X rfl rfl rfl calm i pins s σ H E I away x ⟨xs, sq, hi⟩
    obtain ⟨its, rv, p, -⟩ := I.tuple sq
    obtain ⟨old, en⟩ := x.en
    have at_end : s.heap.IsTupleIter it a its.toArray.size := by
      have : its.toArray.size = i := by rw [List.size_toArray, ← rv.length, hi]
      rw [this]
      exact x.ti
    obtain ⟨-, f1, f2, f3, f4, f5⟩ := away it (List.mem_cons_of_mem _ List.mem_cons_self)
    have quiet : X.A.in1.handled = none := I.ok.hd calm
    exact wpAny_pyNext_enum_endD (Draws.tuple (prog := X.prog) (w := X.w) quiet it a x.a_it its.toArray) en ⟨at_end, p⟩ fun h2 kept =>
      ⟨rfl, I.turned (t' := s.toks) (fun b o nb q => kept b o nb q) (away it (List.mem_cons_of_mem _ List.mem_cons_self)).1 f1 f3 f4 f5⟩
  · exact fun A i s Q E x q => x.en.elim fun _ en => wpAny_pyIter_enum en q
section
variable {X : Cx} {c : Cn}
/-- enumerate(x), of a list or a tuple -/
def iEnumA (K : PySem.W.Frag) (ta : TA) : TI := fun σ H R => ta σ H fun vs H1 => ∃ a xs, vs = [.ref a] ∧ ((SqL K H1 a xs ∧ R (Ite K a) H1) ∨ (SqT K H1 a xs ∧ R (IteT K a) H1))
open PyProof.Rows in
theorem pi_enumA {e : Expr} {ta : TA} {p pos tpos : Pos} {elts : List Expr} {kk : Nat} (hg : Gl X "enumerate") (hm : X.mg "enumerate" = none) (ha : PA X [e] ta) (hs : starEach [e] X.env = [(false, eval e X.env)] := by rfl) :
    PI X (.Tuple elts kk tpos) (.Call (.Name "enumerate" p) [e] [] pos) (iEnumA X.K ta) := by
  constructor
  intro pins s σ H R I h
  refine Call_ (ld_blt I hg hm boot_enumerate (PyProof.Rows.callWith_type1 (thn (ha.run pos pins s σ H _ I h) ?_) hs rfl))
  rintro us s1 ⟨vs, H1, I1, r1, a, xs, rfl, q⟩
  obtain _ | ⟨r, _ | _⟩ := r1
  cases r
  have new : ∀ b, s1.heap.objs.size ≤ b → FpOk X pins H1 b := fun b le => I1.fpOk le (I1.hok.fresh le)
  have news : ∀ b ∈ [s1.heap.objs.size + 1, s1.heap.objs.size], FpOk X pins H1 b := fun b hb => new b (by
    (simp only [List.mem_cons, List.not_mem_nil, or_false] at hb)
    omega)
  refine q.elim (fun ⟨sq, q⟩ => ?_) fun ⟨sq, q⟩ => ?_
  · obtain ⟨its, -, p1, -⟩ := I1.list sq
    refine enum_one (begins_list a its.toArray) p1.isList fun h2 hi he kept => wpAny_pyIter_enum he ?_
    exact ⟨_, _, _, _, H1, rfl, I1.kept (t' := s1.toks) kept, turn_enum a _ s1.heap.objs.size, ⟨⟨_, he⟩, ⟨_, hi, rfl, rfl⟩, Nat.succ_ne_self _⟩, news, q⟩
  · obtain ⟨its, -, p1, -⟩ := I1.tuple sq
    have lt : a < s1.heap.objs.size := p1.elim fun _ z => Heap.lt_size z.1
    refine enum_one (begins_tuple a its.toArray) p1 fun h2 hi he kept => wpAny_pyIter_enum he ?_
    exact ⟨_, _, _, _, H1, rfl, I1.kept (t' := s1.toks) kept, turn_enumT a _ s1.heap.objs.size, ⟨⟨_, he⟩, ⟨_, hi, rfl, rfl⟩, Nat.succ_ne_self _, Nat.ne_of_lt lt, Nat.ne_of_lt (Nat.lt_succ_of_lt lt)⟩, news, q⟩
def enD (ds : List D) : List D := ds.mapIdx fun i d => .tuple [.int (i : Nat), d]
theorem enD_get {ds : List D} {i : Nat} {d : D} (h : (enD ds)[i]? = some d) : ∃ e, ds[i]? = some e ∧ d = .tuple [.int (i : Nat), e] := by
  unfold enD at h
  rw [List.getElem?_mapIdx] at h
  cases e : ds[i]? with
  | none => (rw [e] at h; cases h)
  | some x => rw [e] at h; cases h; exact ⟨x, rfl, rfl⟩
theorem enD_length (ds : List D) : (enD ds).length = ds.length := by unfold enD; simp
theorem pair_new {F H : Hp} {σ : L2.St} {ρ : Env} {xx : XX} (r : Rel c F H σ ρ xx) {T : Addr} {x y : V} {d e : D} (hT : H T = none) (hx : At c.K F x d) (hy : At c.K F y e) :
    ∃ F2, Ex F F2 ∧ Rel c F2 (upd H T (.tup [x, y])) σ ρ xx ∧ At c.K F2 (.ref T) (.tuple [d, e]) :=
  ⟨_, r.efF _ hT, r.newF _ hT, .tup (.inl (.inl upd_same)) (.cons (hx.mono (r.efF _ hT)) (.cons (hy.mono (r.efF _ hT)) .nil))⟩
theorem itOk_enum {K : PySem.W.Frag} (hK : K = c.K) {a : Addr} {F : Hp} {ds : List D} {ys : List V} (s : SqL c.K F a ys) (t : AtAll c.K F ys ds) : ItOk c (Ite K a) (enD ds) F := by
  subst hK
  intro i F' H σ ρ xx e r
  have sq := r.w.fh.sl (e.sl s)
  refine ⟨fun d hd => ?_, fun hl => ⟨ys, sq, by rw [t.length, ← enD_length]; exact Nat.le_of_eq hl⟩⟩
  obtain ⟨d0, h0, ed⟩ := enD_get hd
  subst ed
  obtain ⟨v, hv, av⟩ := t.get h0
  refine ⟨⟨ys, v, sq, hv⟩, fun x H' ⟨T, y, ex, hT, eh, hy⟩ => ?_⟩
  subst ex eh
  have := hy ys sq
  rw [hv] at this
  cases this
  exact pair_new r hT (.int _) (av.mono e)
theorem itOk_enumT {K : PySem.W.Frag} (hK : K = c.K) {a : Addr} {F : Hp} {ds : List D} {ys : List V} (s : SqT c.K F a ys) (t : AtAll c.K F ys ds) : ItOk c (IteT K a) (enD ds) F := by
  subst hK
  intro i F' H σ ρ xx e r
  have sq := r.w.fh.st (e.st s)
  refine ⟨fun d hd => ?_, fun hl => ⟨ys, sq, by rw [t.length, ← enD_length]; exact hl⟩⟩
  obtain ⟨d0, h0, ed⟩ := enD_get hd
  subst ed
  obtain ⟨v, hv, av⟩ := t.get h0
  refine ⟨⟨ys, v, sq, hv⟩, fun x H' ⟨T, y, ex, hT, eh, hy⟩ => ?_⟩
  subst ex eh
  have := hy ys sq
  rw [hv] at this
  cases this
  exact pair_new r hT (.int _) (av.mono e)
def iEn (f : LM) : IM := fun ρ P => f ρ fun ds ρ1 => match ds with
  | [.list xs] => P (enD xs) ρ1
  | [.tuple xs] => P (enD xs) ρ1
  | _ => False
theorem di_enum {e : Expr} {f : LM} {p pos tpos : Pos} {elts : List Expr} {kk : Nat} (hK : X.K = c.K) (hg : Gl X "enumerate") (hm : X.mg "enumerate" = none) (ha : PA X [e] (tL c f)) (hs : starEach [e] X.env = [(false, eval e X.env)] := by rfl) :
    PI X (.Tuple elts kk tpos) (.Call (.Name "enumerate" p) [e] [] pos) (tI c (iEn f)) := by
  refine PI.to (pi_enumA hg hm ha hs) ?_
  rintro σ H R ⟨F, ρ, xx, P, rel, q, k⟩
  refine ⟨F, ρ, xx, _, rel, q, fun ds ρ1 vs F1 H1 q1 e1 r1 a1 => ?_⟩
  split at q1
  · cases a1 with
    | cons a t =>
      cases t
      cases a with
      | lst s1 t1 => exact ⟨_, _, rfl, .inl ⟨by rw [hK]; exact r1.w.fh.sl s1, k _ ρ1 _ F1 H1 q1 e1 r1 (itOk_enum hK s1 t1)⟩⟩
  · cases a1 with
    | cons a t =>
      cases t
      cases a with
      | tup s1 t1 => exact ⟨_, _, rfl, .inr ⟨by rw [hK]; exact r1.w.fh.st s1, k _ ρ1 _ F1 H1 q1 e1 r1 (itOk_enumT hK s1 t1)⟩⟩
  · exact q1.elim
end
end DL
namespace DL
open PySem L2
section
variable {c : Cn}
def wipeE (ρ : Env) : List Nat → Env
  | [] => ρ
  | v :: vs => (wipeE ρ vs).set v .no
def backE (ρ0 : Env) (ρ : Env) : List Nat → Env
  | [] => ρ
  | v :: vs => backE ρ0 (ρ.set v (ρ0.getD v .no)) vs
def plainS : Sl → Bool
  | .no => true
  | .im _ => true
  | _ => false
def okV (ρ : Env) (vs : List Nat) : Prop := vs.Nodup ∧ ∀ j ∈ vs, plainS (ρ.getD j .no) = true
theorem Slots.forget {F H : Hp} {σ : L2.St} {ρ : Env} {xx : XX} (s : Slots c F H σ ρ xx) (i : Nat) : Slots c F H (σ.set i none) (ρ.set i .no) xx := by
  have sg : ∀ {j : Nat}, i ≠ j → (σ.set i none)[j]? = σ[j]? := fun h => by rw [List.getElem?_set, if_neg h]
  refine ⟨by simpa using s.len, fun j d q => ?_, fun j d q => ?_, fun j k d e b q1 q2 s1 s2 => ?_, fun j n q => ?_, ou_set (by intro m z; cases z) s.ou, fun p hp => ⟨(s.ex p hp).1, fun j d q => ?_⟩, s.xd⟩
  · rcases set_lt q with ⟨_, _, e⟩ | ⟨z, q⟩
    · cases e
    · rw [sg z]
      exact s.im j d q
  · rcases set_lt q with ⟨_, _, e⟩ | ⟨z, q⟩
    · cases e
    · rw [sg z]
      exact s.ow j d q
  · rcases set_lt q1 with ⟨_, _, e⟩ | ⟨z, q1⟩
    · cases e
    · rcases set_lt q2 with ⟨_, _, e⟩ | ⟨z2, q2⟩
      · cases e
      · rw [sg z] at s1
        rw [sg z2] at s2
        exact s.dj j k d _ b q1 q2 s1 s2
  · rcases set_lt q with ⟨_, _, e⟩ | ⟨z, q⟩
    · cases e
    · rw [sg z]
      exact s.or j n q
  · rcases set_lt q with ⟨_, _, e⟩ | ⟨z, q⟩
    · cases e
    · rw [sg z]
      exact (s.ex p hp).2 j d q
theorem Rel.wipe {F H : Hp} {σ : L2.St} {ρ : Env} {xx : XX} (r : Rel c F H σ ρ xx) : ∀ vs : List Nat, Rel c F H (wipe σ vs) (wipeE ρ vs) xx
  | [] => r
  | v :: vs => ⟨r.w, (Rel.wipe r vs).s.forget v⟩
/-- a plain slot comes back -/
theorem Slots.recall {F H : Hp} {σ : L2.St} {ρ : Env} {xx : XX} {i : Nat} {x : Sl} (s : Slots c F H (σ.set i none) ρ xx) (hp : plainS x = true) (hx : ∀ d, x = .im d → ∃ v, σ[i]? = some (some v) ∧ At c.K F v d) : Slots c F H σ (ρ.set i x) xx := by
  have sg : ∀ {j : Nat}, i ≠ j → (σ.set i none)[j]? = σ[j]? := fun h => by rw [List.getElem?_set, if_neg h]
  refine ⟨by simpa using s.len, fun j d q => ?_, fun j d q => ?_, fun j k d e b q1 q2 s1 s2 => ?_, fun j n q => ?_, ou_set (by intro m z; subst z; cases hp) s.ou, fun p hpx => ⟨(s.ex p hpx).1, fun j d q => ?_⟩, s.xd⟩
  · rcases set_lt q with ⟨z, _, e⟩ | ⟨z, q⟩
    · rw [← z]
      exact hx d e
    · rw [← sg z]
      exact s.im j d q
  · rcases set_lt q with ⟨_, _, e⟩ | ⟨z, q⟩
    · subst e
      cases hp
    · rw [← sg z]
      exact s.ow j d q
  · rcases set_lt q1 with ⟨_, _, e⟩ | ⟨z, q1⟩
    · subst e
      cases hp
    · rcases set_lt q2 with ⟨_, _, e⟩ | ⟨z2, q2⟩
      · subst e
        cases hp
      · rw [← sg z] at s1
        rw [← sg z2] at s2
        exact s.dj j k d _ b q1 q2 s1 s2
  · rcases set_lt q with ⟨_, _, e⟩ | ⟨z, q⟩
    · subst e
      cases hp
    · rw [← sg z]
      exact s.or j n q
  · rcases set_lt q with ⟨_, _, e⟩ | ⟨z, q⟩
    · subst e
      cases hp
    · rw [← sg z]
      exact (s.ex p hpx).2 j d q
theorem wipe_get {σ : L2.St} {i : Nat} : ∀ {vs : List Nat}, i ∉ vs → (wipe σ vs)[i]? = σ[i]?
  | [], _ => rfl
  | v :: vs, h => by
    show ((wipe σ vs).set v none)[i]? = σ[i]?
    rw [List.getElem?_set, if_neg (fun z => h (by rw [z]; exact List.mem_cons_self ..)), wipe_get (fun z => h (List.mem_cons_of_mem _ z))]
theorem Rel.back {F H F' H' : Hp} {σ : L2.St} {ρ0 : Env} {xx yy : XX} (r0 : Rel c F H σ ρ0 yy) (e : Ex F F') : ∀ (vs : List Nat) (ρ : Env), okV ρ0 vs → Rel c F' H' (L2.wipe σ vs) ρ xx → Rel c F' H' σ (backE ρ0 ρ vs) xx
  | [], ρ, _, r => r
  | v :: vs, ρ, ok, r => by
    obtain ⟨nd, pl⟩ := ok
    rw [List.nodup_cons] at nd
    have hv := pl v (List.mem_cons_self ..)
    refine Rel.back r0 e vs _ ⟨nd.2, fun j hj => pl j (List.mem_cons_of_mem _ hj)⟩ ⟨r.w, Slots.recall (σ := L2.wipe σ vs) r.s hv fun d ed => ?_⟩
    have g : ρ0[v]? = some (.im d) := by
      rw [List.getD_eq_getElem?_getD] at ed
      cases q : ρ0[v]? with
      | none => rw [q] at ed; cases ed
      | some x => rw [q] at ed; exact congrArg some ed
    obtain ⟨u, h1, h2⟩ := r0.s.im v d g
    exact ⟨u, by rw [wipe_get nd.1]; exact h1, h2.mono e⟩
def lcL (t : TM) (b : BM) (f : DM) (vs : List Nat) (K : List D → Env → Prop) : List D → List D → Env → Prop
  | [], acc, ρ => K acc ρ
  | d :: ds, acc, ρ => t d ρ fun ρ1 => b ρ1 fun k ρ2 => if k = true then f ρ2 fun y ρ3 => lcL t b f vs K ds (acc ++ [y]) (wipeE ρ3 vs) else lcL t b f vs K ds acc (wipeE ρ2 vs)
def dLc (i : IM) (t : TM) (b : BM) (f : DM) (vs : List Nat) : DM := fun ρ P => i ρ fun ds ρ1 => ds.length ≤ 1000000 ∧ okV ρ1 vs ∧ lcL t b f vs (fun acc ρ' => P (.list acc) (backE ρ1 ρ' vs)) ds [] (wipeE ρ1 vs)
theorem lc_use {i : IM} {t : TM} {b : BM} {f : DM} {vs js : List Nat} (hj : ∀ j ∈ js, j ∈ vs) {wi : TI} {g : TG} {tt : TT} {te : TE} (e1 : wi = tI c i) (e2 : g = tG c js t) (e3 : tt = tT c b) (e4 : te = tD c f) :
    ∀ σ H Q, tN c (dLc i t b f vs) σ H Q → tLc wi g tt te vs σ H Q := by
  subst e1 e2 e3 e4
  rintro σ H Q ⟨F, ρ, xx, P, rel, q, k⟩
  refine ⟨F, ρ, xx, _, rel, q, fun ds ρ1 J F1 H1 ⟨hlen, hok, q1⟩ e1 r1 ok A hA => ?_⟩
  obtain ⟨rA, frA⟩ := Fresh.new (o := .lst []) (d := .d (.list [])) r1 hA ⟨[], upd_same, .nil⟩
  refine ⟨fun n m H' => ∃ F' ρ' acc, Ex F1 F' ∧ Rel c F' H' (wipe σ vs) ρ' ((A, .d (.list acc)) :: xx) ∧ m = ds.length - n ∧ n ≤ ds.length ∧ acc.length ≤ n ∧ lcL t b f vs (fun acc ρ' => P (.list acc) (backE ρ1 ρ' vs)) (ds.drop n) acc ρ',
    ⟨ds.length, F1, _, [], Ex.refl F1, (rA.pushX frA).wipe vs, by omega, Nat.zero_le _, Nat.zero_le _, by rw [List.drop_zero]; exact q1⟩, ?_⟩
  rintro n m H' ⟨F', ρ', acc, e2, r2, rfl, hn, ha, q2⟩
  obtain ⟨o1, o2⟩ := ok n F' H' (wipe σ vs) ρ' _ e2 r2
  by_cases hlt : n < ds.length
  · have hd : ds[n]? = some ds[n] := List.getElem?_eq_getElem hlt
    obtain ⟨go, yl⟩ := o1 _ hd
    rw [List.drop_eq_getElem_cons hlt] at q2
    have q2 : t ds[n] ρ' fun ρ2 => b ρ2 fun k ρ3 => if k = true then f ρ3 fun y ρ4 => lcL t b f vs (fun acc ρ' => P (.list acc) (backE ρ1 ρ' vs)) (ds.drop (n + 1)) (acc ++ [y]) (wipeE ρ4 vs) else lcL t b f vs (fun acc ρ' => P (.list acc) (backE ρ1 ρ' vs)) (ds.drop (n + 1)) acc (wipeE ρ3 vs) := q2
    refine .inr ⟨go, fun H2 => ∃ F2 ρ2 acc2, Ex F1 F2 ∧ Rel c F2 H2 (wipe σ vs) ρ2 ((A, .d (.list acc2)) :: xx) ∧ acc2.length ≤ n + 1 ∧ lcL t b f vs (fun acc ρ' => P (.list acc) (backE ρ1 ρ' vs)) (ds.drop (n + 1)) acc2 ρ2,
      fun H2 ⟨F2, ρ2, acc2, a1, a2, a3, a4⟩ => ⟨ds.length - (n + 1), by omega, F2, ρ2, acc2, a1, a2, rfl, by omega, a3, a4⟩, fun v H2 y => ?_⟩
    obtain ⟨F2, e3, r3, a3⟩ := yl v H2 y
    refine ⟨F2, ρ', _, _, _, r3, a3, q2, fun ρ4 σ4 F4 H4 q4 on e4 r4 => ⟨?_, F4, ρ4, _, _, r4, q4, fun bb ρ5 F5 H5 q5 e5 r5 => ?_⟩⟩
    · have h := on vs hj
      rw [h]
      -- wiping twice
      have w2 : ∀ (us : List Nat) (σ : L2.St) (i : Nat), i ∈ us → (wipe σ us).set i none = wipe σ us := fun us => by
        induction us with
        | nil => intro σ i hi; cases hi
        | cons u us ih =>
          intro σ i hi
          show ((wipe σ us).set u none).set i none = (wipe σ us).set u none
          by_cases e : u = i
          · subst e
            rw [List.set_set]
          · rw [List.set_comm _ _ e, ih σ i ((List.mem_cons.mp hi).resolve_left fun z => e z.symm)]
      have w3 : ∀ (us ws : List Nat) (σ : L2.St), (∀ i ∈ us, i ∈ ws) → wipe (wipe σ ws) us = wipe σ ws := fun us => by
        induction us with
        | nil => intro ws σ _; rfl
        | cons u us ih =>
          intro ws σ hs
          show (wipe (wipe σ ws) us).set u none = wipe σ ws
          rw [ih ws σ fun i hi => hs i (List.mem_cons_of_mem _ hi)]
          exact w2 ws σ u (hs u (List.mem_cons_self ..))
      exact w3 vs vs σ fun _ h => h
    · have hw : wipe σ4 vs = wipe σ vs := by
        have h := on vs hj
        rw [h]
        have w2 : ∀ (us : List Nat) (σ : L2.St) (i : Nat), i ∈ us → (wipe σ us).set i none = wipe σ us := fun us => by
          induction us with
          | nil => intro σ i hi; cases hi
          | cons u us ih =>
            intro σ i hi
            show ((wipe σ us).set u none).set i none = (wipe σ us).set u none
            by_cases e : u = i
            · subst e
              rw [List.set_set]
            · rw [List.set_comm _ _ e, ih σ i ((List.mem_cons.mp hi).resolve_left fun z => e z.symm)]
        have w3 : ∀ (us ws : List Nat) (σ : L2.St), (∀ i ∈ us, i ∈ ws) → wipe (wipe σ ws) us = wipe σ ws := fun us => by
          induction us with
          | nil => intro ws σ _; rfl
          | cons u us ih =>
            intro ws σ hs
            show (wipe (wipe σ ws) us).set u none = wipe σ ws
            rw [ih ws σ fun i hi => hs i (List.mem_cons_of_mem _ hi)]
            exact w2 ws σ u (hs u (List.mem_cons_self ..))
        exact w3 vs vs σ fun _ h => h
      cases bb with
      | false =>
        rw [if_neg Bool.false_ne_true] at q5
        show ∃ F' ρ' acc2, _
        refine ⟨F5, wipeE ρ5 vs, acc, ((e2.trans e3).trans e4).trans e5, ?_, by omega, q5⟩
        have := r5.wipe vs
        rw [hw] at this
        exact this
      | true =>
        rw [if_pos rfl] at q5
        show tD c f σ4 H5 _
        refine ⟨F5, ρ5, _, _, r5, q5, fun y ρ6 u F6 H6 q6 e6 r6 a6 => ?_⟩
        obtain ⟨vv, g1, g2⟩ := (r6.s.ex (A, .d (.list acc)) (List.mem_cons_self ..)).1.o
        have r7 := r6.mutX (o := .lst (vv ++ [u])) (d' := .d (.list (acc ++ [y]))) ⟨_, upd_same, g2.append (.cons a6 .nil)⟩
        refine ⟨vv, g1, szl (by rw [g2.length]; omega), F6, wipeE ρ6 vs, acc ++ [y], (((e2.trans e3).trans e4).trans e5).trans e6, ?_, by rw [List.length_append]; simp only [List.length_singleton]; omega, q6⟩
        have := r7.wipe vs
        rw [hw] at this
        exact this
  · have en : n = ds.length := by omega
    subst en
    rw [List.drop_length] at q2
    have q2 : P (.list acc) (backE ρ1 ρ' vs) := q2
    obtain ⟨r5, fr⟩ := (Rel.back r1 e2 vs ρ' hok r2).popX
    exact .inl ⟨o2 rfl, k _ _ A F' H' q2 (e1.trans e2) r5 fr⟩
def bYes : BM := fun ρ P => P true ρ
theorem dts_nil {X : Cx} : PTs X [] (tT c bYes) := ⟨fun pins s σ H Q I ⟨F, ρ, xx, P, rel, q, k⟩ => pts_nil.run pins s σ H Q I (k true ρ F H q (Ex.refl F) rel)⟩
theorem n_of_d {f : DM} : ∀ σ H Q, tD c f σ H Q → tN c f σ H Q := fun σ H Q ⟨F, ρ, xx, P, r, q, k⟩ => ⟨F, ρ, xx, P, r, q, fun d ρ' a F' H' p e r' fr => by
  obtain ⟨F2, e2, at_, r2⟩ := fr.freeze r'
  exact k d ρ' (.ref a) F2 H' p (e.trans e2) r2 at_⟩
variable {X : Cx} {elt tg iter : Expr} {ifs : List Expr} {scope : Scope} {own : List (Str × Nat)} {pos : Pos} {i : IM} {t : TM} {js : List Nat} {b : BM} {f : DM}
theorem dn_lc (hc : X.calm = true) (hN : X.N.Nodup) (hi : PI X tg iter (tI c i)) (ok : BlkOk X.N X.env.scope scope own) (hj : ∀ j ∈ js, j ∈ own.map (·.2))
    (hg : ∀ (s : Shared) (H : Hp) (C : Addr) (cl : List (Str × Addr)) (fp : List Addr), PG (X.blk s H scope (compEnvC scope cl C X.env) fp) tg (tG c js t)) (ht : ∀ (s : Shared) (H : Hp) (C : Addr) (cl : List (Str × Addr)) (fp : List Addr), PTs (X.blk s H scope (compEnvC scope cl C X.env) fp) ifs (tT c b))
    (he : ∀ (s : Shared) (H : Hp) (C : Addr) (cl : List (Str × Addr)) (fp : List Addr), PE (X.blk s H scope (compEnvC scope cl C X.env) fp) elt (tD c f)) (hs : ∀ x, foldedSetIterable iter X.env x = pure x := by intro _; rfl) :
    PE X (.ListComp elt [⟨tg, iter, ifs, 0⟩] scope pos) (tN c (dLc i t b f (own.map (·.2)))) := PE.to (pe_lc hc hN hi ok hg ht he hs) (lc_use hj rfl rfl rfl rfl)
theorem dp_setLcN {n : Nat} {y : Str} {py spos : Pos} (hc : X.calm = true) (hN : X.N.Nodup) (hy : X.N[n]? = some y) (hyl : X.env.scope.names.lookup y = some .local)
    (hsw : swapsWith (.ListComp elt [⟨tg, iter, ifs, 0⟩] scope pos) (some (.Name y py)) spos.line X.env = pure true) (hi : PI X tg iter (tI c i)) (ok : BlkOk X.N X.env.scope scope own) (hj : ∀ j ∈ js, j ∈ own.map (·.2))
    (hg : ∀ (s : Shared) (H : Hp) (C : Addr) (cl : List (Str × Addr)) (fp : List Addr), PG (X.blk s H scope (compEnvC scope cl C X.env) fp) tg (tG c js t)) (ht : ∀ (s : Shared) (H : Hp) (C : Addr) (cl : List (Str × Addr)) (fp : List Addr), PTs (X.blk s H scope (compEnvC scope cl C X.env) fp) ifs (tT c b))
    (he : ∀ (s : Shared) (H : Hp) (C : Addr) (cl : List (Str × Addr)) (fp : List Addr), PE (X.blk s H scope (compEnvC scope cl C X.env) fp) elt (tD c f)) (hs : ∀ x, foldedSetIterable iter X.env x = pure x := by intro _; rfl) :
    PS X (.Assign [.Name y py] (.ListComp elt [⟨tg, iter, ifs, 0⟩] scope pos) spos) (tS c (sSetN n (dLc i t b f (own.map (·.2))))) :=
  PS.to (ps_setLc hc hN hy hyl hsw hi ok hg ht he hs) fun Z σ H h => by
    have q : tAsg (tN c (dLc i t b f (own.map (·.2)))) (gName n) Z σ H := setN_use rfl Z σ H h
    exact lc_use hj rfl rfl rfl rfl σ H _ q
theorem dp_setLc {n : Nat} {y : Str} {py spos : Pos} (hc : X.calm = true) (hN : X.N.Nodup) (hy : X.N[n]? = some y) (hyl : X.env.scope.names.lookup y = some .local)
    (hsw : swapsWith (.ListComp elt [⟨tg, iter, ifs, 0⟩] scope pos) (some (.Name y py)) spos.line X.env = pure true) (hi : PI X tg iter (tI c i)) (ok : BlkOk X.N X.env.scope scope own) (hj : ∀ j ∈ js, j ∈ own.map (·.2))
    (hg : ∀ (s : Shared) (H : Hp) (C : Addr) (cl : List (Str × Addr)) (fp : List Addr), PG (X.blk s H scope (compEnvC scope cl C X.env) fp) tg (tG c js t)) (ht : ∀ (s : Shared) (H : Hp) (C : Addr) (cl : List (Str × Addr)) (fp : List Addr), PTs (X.blk s H scope (compEnvC scope cl C X.env) fp) ifs (tT c b))
    (he : ∀ (s : Shared) (H : Hp) (C : Addr) (cl : List (Str × Addr)) (fp : List Addr), PE (X.blk s H scope (compEnvC scope cl C X.env) fp) elt (tD c f)) (hs : ∀ x, foldedSetIterable iter X.env x = pure x := by intro _; rfl) :
    PS X (.Assign [.Name y py] (.ListComp elt [⟨tg, iter, ifs, 0⟩] scope pos) spos) (tS c (sSet n (dLc i t b f (own.map (·.2))))) :=
  PS.to (ps_setLc hc hN hy hyl hsw hi ok hg ht he hs) fun Z σ H h => by
    have q : tAsg (tD c (dLc i t b f (own.map (·.2)))) (gName n) Z σ H := set_use rfl Z σ H h
    exact lc_use hj rfl rfl rfl rfl σ H _ (n_of_d σ H _ q)
end
end DL
namespace DL
open PySem L2
structure FnG (pr : Program) (wd : PySem.World) (K : PySem.W.Frag) (gl : Str → Option Value) (bas : Heap) (k : Nat) (f : Addr) (fd : FuncData) (ps : List Str) (sp : Sp) : Prop where
  many : ∀ vs H Q E, sp vs H Q E → vs.length = ps.length
  go : ∀ (A : Around) (out : List PySem.Env) (sh : Shared) (H : Hp) (ar : Args) (us : List Value) (vs : List V) (Q : VK) (E : XK), A.guards = some [] → Room k A →
    Env0 pr wd K gl bas A out sh H → BindsTo sh fd ar (ps.zip us) → Vals vs us → sp vs H Q E → codeAny (model pr wd) A (.call (.ref f) ar) (CR CX0 out pr wd H sh Q E) sh
theorem FnG.more {pr : Program} {wd : PySem.World} {K : PySem.W.Frag} {gl : Str → Option Value} {bas : Heap} {j k : Nat} {f : Addr} {fd : FuncData} {ps : List Str} {sp : Sp} (F : FnG pr wd K gl bas j f fd ps sp) (h : j ≤ k) : FnG pr wd K gl bas k f fd ps sp :=
  ⟨F.many, fun A out sh H ar us vs Q E g r => F.go A out sh H ar us vs Q E g (r.mono h)⟩
theorem FnG.of {pr : Program} {wd : PySem.World} {K : PySem.W.Frag} {gl : Str → Option Value} {bas : Heap} {k : Nat} {f : Addr} {x qual : Str} {st : Stmt} {fd : FuncData} {N ps : List Str} {sp : Sp} (F : L2.Fun K x qual st f fd) (S : FnScope N ps (defScope st))
    (len : (∀ vs H Q E, sp vs H Q E → vs.length = ps.length))
    (body : ∀ (cdv : Value) (A : Around) (out : List PySem.Env) (sh : Shared) (H : Hp) (vs : List V) (Q : VK) (E : XK), A.guards = some [] → Room k (A.deeper (PyProof.Rows.envOfC qual (defScope st) sh.heap.objs.size f cdv)) → sp vs H Q E →
      ∃ t, PSs (cxOf CX0 pr wd K gl bas N qual (defScope st) f cdv A out sh H E).nox (defBody st) t ∧ t { nx := fun _ H' => Q .non H', rt := Q } (start N vs) H) : FnG pr wd K gl bas (k + 1) f fd ps sp := by
  obtain ⟨oc, od, kV, doc, pm, an, cdv, ct, osl, efd, lk, hc⟩ := F.ex
  refine ⟨len, fun A out sh H ar us vs Q E hg room env bnd vals says => ?_⟩
  have heapK : K.In sh.heap := PySem.W.Frag.In.keeps env.mod.kin fun b o e => (env.bs b o e).1
  have noLim : sh.heap.NoLimit := Heap.NoLimit.keeps env.mod.nolimit fun b o e => (env.bs b o e).1
  have kinds : ∀ y ∈ ps.zip us, (defScope st).names.lookup y.1 = some .local ∨ ((defScope st).names.lookup y.1 = some .cell ∧ ((cellsFrom (sh.heap.objs.size + 1) (defScope st).names []).lookup y.1).isSome = true) := by
    rintro ⟨n, v⟩ hy
    exact (S.par n (List.of_mem_zip hy).1).imp id fun q => ⟨q, PySem.W.cellsFrom_some _ _ _ (.inl q)⟩
  rw [efd] at lk bnd
  refine codeAny_call_function room.depth (heapK _ _ lk) rfl S.co S.gen rfl (PySem.W.codeRec_of heapK hc) (bnd _ _ _ _ (wpAny_newFunctionEnv_cells S.kind kinds ?_))
  intro env1 he s1 xc
  subst he
  refine ⟨noLim.keeps xc.toInCall.keep, codeAny_func ?_⟩
  obtain ⟨t, ht, hq⟩ := body cdv A out sh H vs Q E hg (room.deeper _) says
  have inv : Inv (cxOf CX0 pr wd K gl bas N qual (defScope st) f cdv A out sh H E) [] (start N vs) H s1 := inv_start S room.hd env (len _ _ _ _ says) vals xc
  refine wpAny_mono (ht.nox.run [] s1 (start N vs) H _ inv hq) ?_ fun _ _ z => z
  intro fl s2 hs
  cases fl with
  | ret u =>
    (obtain ⟨v, σ', H', J, rv, q⟩ := hs)
    exact ⟨v, H', J.os, J.bare, J.base, J.hok, rv, q⟩
  | next =>
    obtain ⟨σ', H', J, q⟩ := hs
    exact ⟨V.non, H', J.os, J.bare, J.base, J.hok, rfl, q⟩
  | brk => exact (hs.choose_spec.choose_spec.2 : False).elim
  | cont => exact (hs.choose_spec.choose_spec.2 : False).elim
section
variable {X : Cx} {k : Nat} {f : Addr} {fd : FuncData} {ps : List Str} {sp : Sp} {x : Str} {p pos : Pos} {e : Expr} {es : List Expr} {t : TA}
theorem pe_callG (F : FnG X.prog X.w X.K X.mg X.base k f fd ps sp) (hg : X.A.guards = some []) (hr : Room k X.A) (gx : Gl X x) (hm : X.mg x = some (.ref f)) (hk : PySem.W.keepIn X.K (.ref f) = true) (hb : Binds X.K fd ps [])
    (ha : PA X (e :: es) t) (hdb : (x == ("__debug__" : Str)) = false := by decide)
    (he : starEach (e :: es) X.env = (false, eval e X.env) :: starEach es X.env := by rfl)
    (hpl : (backTo pos (starEach es X.env)).any (·.1) = false := by rfl) :
    PE X (.Call (.Name x p) (e :: es) [] pos) (tCall sp [] (fun _ _ _ => False) t) := by
  constructor
  intro pins s σ H Q I h
  refine wpAny_Call_Name_kw (ld_glob I gx hm (PySem.W.callWith_K (h₀ := X.base) I.ok.mod.kin hk (thn (ha.run pos pins s σ H _ I h) ?_) he hpl) hdb)
  rintro us s1 ⟨vs, H1, I1, r, q⟩
  refine ⟨I1.kIn, ?_⟩
  rw [List.append_nil] at q
  have hl : us.length = ps.length := by rw [← r.length]; exact F.many _ _ _ _ q
  have bd := hb s1 us I1.kIn (by rw [List.append_nil]; exact hl)
  rw [List.append_nil] at bd
  refine wpAny_call (codeAny_mono (F.go X.A X.stack s1 H1 ⟨us, []⟩ us vs Q _ hg hr I1.env0 bd r q) ?_)
  intro res s' hq
  match res, hq with
  | .error _, z => exact (z : False).elim
  | .ok (.ret u), z => exact I1.after z
end
/-- what a def says of its arguments and of the count of the source: S as m P: from these some d comes back, the count being m' then, with P d m' -/
abbrev SpD := List Ar → Nat → (D → Nat → Prop) → Prop
/-- the source is passed as the first argument, if at all -/
def oraAt (as : List Ar) : Prop := ∀ i, as[i]? = some Ar.ora → i = 0
def spD (K : PySem.W.Frag) (R : Orc) (n : Nat) (S : SpD) : Sp := fun vs H Q _ => ∃ (q : Option Addr) (F : Hp) (as : List Ar) (m : Nat) (P : D → Nat → Prop), World R q F H F H ∧ Paired (ArAt ⟨K, R, q, F, H⟩ F) vs as ∧ as.length = n ∧ oraAt as ∧ (q = none ∨ as[0]? = some .ora) ∧ (∀ p, q = some p → R.cnt p H ≤ m) ∧ S as m P ∧
  ∀ d m' v F' H', P d m' → World R q F H F' H' → (∀ p, q = some p → R.cnt p H' ≤ m') → At K F' v d → Q v H'
theorem paired_len {α β : Type} {R : α → β → Prop} : ∀ {xs : List α} {ys : List β}, Paired R xs ys → xs.length = ys.length
  | _, _, .nil => rfl
  | _, _, .cons _ t => congrArg Nat.succ (paired_len t)
theorem paired_get {α β : Type} {R : α → β → Prop} : ∀ {xs : List α} {ys : List β} {i : Nat} {y : β}, Paired R xs ys → ys[i]? = some y → ∃ x, xs[i]? = some x ∧ R x y
  | _, _, 0, _, .cons h _, e => by cases e; exact ⟨_, rfl, h⟩
  | _, _, i + 1, _, .cons _ t, e => paired_get (i := i) t e
/-- a call that draws nothing -/
def isD : Ar → Bool
  | .d _ => true
  | .ora => false
def dCall (n : Nat) (S : SpD) (f : AM) : DM := fun ρ P => f ρ fun as ρ1 => as.length = n ∧ as.all isD = true ∧ S as 0 fun d _ => P d ρ1
/-- a call that draws, the source standing in slot i -/
def dCallO (i n : Nat) (S : SpD) (f : AM) : DM := fun ρ P => f ρ fun as ρ1 => as.length = n ∧ as.head?.map isD = some false ∧ as.tail.all isD = true ∧ match ρ1[i]? with
  | some (.ora m) => S as m fun d m' => P d (ρ1.set i (.ora m'))
  | _ => False
theorem all_isD {as : List Ar} (h : as.all isD = true) (i : Nat) : as[i]? ≠ some .ora := fun e => by
  have := List.all_eq_true.mp h _ (List.mem_of_getElem? e)
  cases this
section
variable {X : Cx} {c : Cn} {k : Nat} {f : Addr} {fd : FuncData} {ps : List Str} {S : SpD} {x : Str} {p pos : Pos} {e : Expr} {es : List Expr} {fa : AM} {n : Nat}
theorem de_call (hK : X.K = c.K) (F : FnG X.prog X.w X.K X.mg X.base k f fd ps (spD X.K c.R n S)) (hg : X.A.guards = some []) (hr : Room k X.A) (gx : Gl X x) (hm : X.mg x = some (.ref f)) (hk : PySem.W.keepIn X.K (.ref f) = true) (hb : Binds X.K fd ps [])
    (ha : PA X (e :: es) (tAr c fa)) (hdb : (x == ("__debug__" : Str)) = false := by decide) (he : starEach (e :: es) X.env = (false, eval e X.env) :: starEach es X.env := by rfl) (hpl : (backTo pos (starEach es X.env)).any (·.1) = false := by rfl) :
    PE X (.Call (.Name x p) (e :: es) [] pos) (tD c (dCall n S fa)) := by
  refine PE.to (pe_callG F hg hr gx hm hk hb ha hdb he hpl) ?_
  rintro σ H Q ⟨F0, ρ, xx, P, rel, q, k0⟩
  refine ⟨F0, ρ, xx, _, rel, q, ?_⟩
  rintro as ρ1 vs F1 H1 ⟨hl, hd, hs⟩ e1 r1 pr
  rw [List.append_nil]
  have w0 : World c.R none F1 H1 F1 H1 := World.start r1.w.fh (fun _ _ z => z) fun _ z => nomatch z
  have pr' : Paired (ArAt ⟨X.K, c.R, none, F1, H1⟩ F1) vs as := by
    clear hs hl
    induction pr with
    | nil => exact .nil
    | @cons v a vs' as' h1 h2 ih =>
      (simp only [List.all_cons, Bool.and_eq_true] at hd)
      cases a with
      | d y =>
        refine .cons ?_ (ih hd.2)
        show At X.K F1 v y
        rw [hK]
        exact h1
      | ora => cases hd.1
  refine ⟨none, F1, as, 0, _, w0, pr', hl, fun i z => absurd z (all_isD hd i), .inl rfl, (fun _ z => nomatch z), hs, ?_⟩
  intro d m' v F2 H2 pd wd _ at_
  rw [hK] at at_
  exact k0 d ρ1 v F2 H2 pd (e1.trans wd.ff) (r1.stepN wd) at_
theorem de_callO {i : Nat} (hK : X.K = c.K) (F : FnG X.prog X.w X.K X.mg X.base k f fd ps (spD X.K c.R n S)) (hg : X.A.guards = some []) (hr : Room k X.A) (gx : Gl X x) (hm : X.mg x = some (.ref f)) (hk : PySem.W.keepIn X.K (.ref f) = true) (hb : Binds X.K fd ps [])
    (ha : PA X (e :: es) (tAr c fa)) (hdb : (x == ("__debug__" : Str)) = false := by decide) (he : starEach (e :: es) X.env = (false, eval e X.env) :: starEach es X.env := by rfl) (hpl : (backTo pos (starEach es X.env)).any (·.1) = false := by rfl) :
    PE X (.Call (.Name x p) (e :: es) [] pos) (tD c (dCallO i n S fa)) := by
  refine PE.to (pe_callG F hg hr gx hm hk hb ha hdb he hpl) ?_
  rintro σ H Q ⟨F0, ρ, xx, P, rel, q, k0⟩
  refine ⟨F0, ρ, xx, _, rel, q, ?_⟩
  rintro as ρ1 vs F1 H1 ⟨hl, hh, hd, hs⟩ e1 r1 pr
  rw [List.append_nil]
  split at hs
  · rename_i m em
    obtain ⟨u, h1, h2, h3⟩ := r1.s.or i m em
    have h0 : as[0]? = some Ar.ora := by
      cases as with
      | nil => cases hh
      | cons a t =>
        cases a with
        | d y => cases hh
        | ora => rfl
    refine ⟨c.p, F1, as, m, _, r1.w.here, ?_, hl, fun j z => ?_, .inr h0, fun y z => ?_, hs, ?_⟩
    · rw [hK]
      exact pr
    · cases j with
      | zero => rfl
      | succ j =>
        cases as with
        | nil => cases z
        | cons a t => exact absurd z (all_isD hd j)
    · rw [h1] at z
      cases z
      exact h3
    · intro d m' v F2 H2 pd wd hc at_
      rw [hK] at at_
      exact k0 d _ v F2 H2 pd (e1.trans wd.ff) (r1.drew wd em hc) at_
  · exact hs.elim
end
def arSl (m : Nat) : Ar → Sl
  | .d x => .im x
  | .ora => .ora m
def startE (N : Nat) (as : List Ar) (m : Nat) : Env := as.map (arSl m) ++ List.replicate (N - as.length) .no
theorem rel_start {K : PySem.W.Frag} {R : Orc} {q : Option Addr} {F H : Hp} {vs : List V} {as : List Ar} {N : List Str} {m : Nat} (w : World R q F H F H) (h : Paired (ArAt ⟨K, R, q, F, H⟩ F) vs as) (ho : oraAt as) (hm : ∀ p, q = some p → R.cnt p H ≤ m) : Rel ⟨K, R, q, F, H⟩ F H (start N vs) (startE N.length as m) [] := by
  have hl := paired_len h
  have get : ∀ (i : Nat) (s : Sl), (startE N.length as m)[i]? = some s → s = .no ∨ ∃ a v, as[i]? = some a ∧ vs[i]? = some v ∧ s = arSl m a ∧ (start N vs)[i]? = some (some v) := by
    intro i s e
    unfold startE at e
    unfold L2.start
    by_cases hi : i < as.length
    · rw [List.getElem?_append_left (by simpa using hi), List.getElem?_map] at e
      rw [List.getElem?_append_left (by simpa [hl] using hi), List.getElem?_map]
      have e1 : as[i]? = some as[i] := List.getElem?_eq_getElem hi
      have e2 : vs[i]? = some (vs[i]'(by rw [hl]; exact hi)) := List.getElem?_eq_getElem _
      rw [e1] at e
      cases e
      exact .inr ⟨_, _, e1, e2, rfl, by rw [e2]; rfl⟩
    · rw [List.getElem?_append_right (by simpa using hi), List.getElem?_replicate] at e
      split at e
      · cases e
        exact .inl rfl
      · cases e
  have atOf : ∀ {i : Nat} {a : Ar} {v : V}, as[i]? = some a → vs[i]? = some v → ArAt ⟨K, R, q, F, H⟩ F v a := by
    intro i a v h1 h2
    obtain ⟨v', g1, g2⟩ := paired_get h h1
    rw [h2] at g1
    cases g1
    exact g2
  refine ⟨w, ?_, ?_, ?_, ?_, ?_, ?_, (fun p hp => nomatch hp), List.nodup_nil⟩
  · unfold startE L2.start
    simp [hl]
  · intro i d e
    rcases get i _ e with z | ⟨a, v, g1, g2, g3, g4⟩
    · cases z
    · cases a with
      | d x => cases g3; exact ⟨v, g4, atOf g1 g2⟩
      | ora => cases g3
  · intro i d e
    rcases get i _ e with z | ⟨a, v, g1, g2, g3, g4⟩
    · cases z
    · cases a <;> cases g3
  · intro i j d e b z
    rcases get i _ z with z | ⟨a, v, g1, g2, g3, g4⟩
    · cases z
    · cases a <;> cases g3
  · intro i n e
    rcases get i _ e with z | ⟨a, v, g1, g2, g3, g4⟩
    · cases z
    · cases a with
      | d x => cases g3
      | ora =>
        obtain ⟨q', e1, e2⟩ := atOf g1 g2
        cases g3
        cases e2
        exact ⟨q', e1, g4, hm q' e1⟩
  · have one : ∀ {i n : Nat}, (startE N.length as m)[i]? = some (.ora n) → i = 0 := by
      intro i n e
      rcases get i _ e with z | ⟨a, v, g1, g2, g3, g4⟩
      · cases z
      · cases a with
        | d x => cases g3
        | ora => exact ho i g1
    intro i j a b e1 e2
    exact (one e1).trans (one e2).symm
/-- what a body says, as a promise -/
def raw (g : SM) (N : Nat) : SpD := fun as m P =>
  g ⟨fun (ρ : DL.Env) => match ρ[0]? with
    | some (Sl.ora m') => P .none m'
    | _ => as.head?.map isD ≠ some false ∧ P .none 0,
  fun (d : D) (ρ : DL.Env) => match ρ[0]? with
    | some (Sl.ora m') => P d m'
    | _ => as.head?.map isD ≠ some false ∧ P d 0, fun _ => False, fun _ => False⟩ (startE N as m)
/-- a def by its body in data -/
theorem FnG.data {pr : Program} {wd : PySem.World} {K : PySem.W.Frag} {gl : Str → Option Value} {bas : Heap} {k n : Nat} {f : Addr} {x qual : Str} {st : Stmt} {fd : FuncData} {N ps : List Str} {R : Orc} {g : SM} (F : L2.Fun K x qual st f fd) (Sc : FnScope N ps (defScope st)) (hn : n = ps.length)
    (body : ∀ (cdv : Value) (A : Around) (out : List PySem.Env) (sh : Shared) (H : Hp) (E : XK) (q : Option Addr) (F : Hp), A.guards = some [] → Room k (A.deeper (PyProof.Rows.envOfC qual (defScope st) sh.heap.objs.size f cdv)) →
      PSs (cxOf CX0 pr wd K gl bas N qual (defScope st) f cdv A out sh H E).nox (defBody st) (tS ⟨K, R, q, F, H⟩ g)) : FnG pr wd K gl bas (k + 1) f fd ps (spD K R n (raw g N.length)) := by
  refine FnG.of F Sc (fun vs H Q E ⟨q, F0, as, m, P, w, pa, hl, _⟩ => by rw [paired_len pa, hl, hn]) fun cdv A out sh H vs Q E hg hr ⟨q, F0, as, m, P, w, pa, hl, ho, hq, hm, says, k0⟩ => ?_
  have fin : ∀ (d : D) (v : V) (ρ' : DL.Env) (σ' : L2.St) (F' H' : Hp), (match ρ'[0]? with
      | some (Sl.ora m') => P d m'
      | _ => as.head?.map isD ≠ some false ∧ P d 0) → Rel ⟨K, R, q, F0, H⟩ F' H' σ' ρ' [] → At K F' v d → Q v H' := by
    intro d v ρ' σ' F' H' p r a
    split at p
    · rename_i m' e
      obtain ⟨y, h1, _, h3⟩ := r.s.or 0 m' e
      exact k0 d m' v F' H' p r.w (fun z hz => by
        have hz' : q = some z := hz
        have h1' : q = some y := h1
        rw [hz'] at h1'
        cases h1'
        exact h3) a
    · obtain ⟨p1, p2⟩ := p
      have qn : q = none := hq.resolve_right fun z => p1 (by
        cases as with
        | nil => cases z
        | cons b t => cases z; rfl)
      exact k0 d 0 v F' H' p2 r.w (fun z hz => by rw [qn] at hz; cases hz) a
  refine ⟨_, body cdv A out sh H E q F0 hg hr, F0, _, [], _, rel_start w pa ho hm, says, ?_, ?_, ?_, ?_⟩
  · exact fun ρ' σ' F' H' p e r => fin .none .non ρ' σ' F' H' p r .non
  · exact fun d v ρ' σ' F' H' p r a => fin d v ρ' σ' F' H' p r a
  · exact fun ρ' σ' F' H' p => p.elim
  · exact fun ρ' σ' F' H' p => p.elim
theorem pss_some {X : Cx} {st : List Stmt} {ι : Type} {t : ι → TS} (h : ∀ i, PSs X st (t i)) : PSs X st (fun Z σ H => ∃ i, t i Z σ H) := ⟨fun pins s σ H Z I ⟨i, q⟩ => (h i).run pins s σ H Z I q⟩
end DL
namespace DL
open PySem L2
/-- a def under its name -/
def Cd (pr : Program) (wd : PySem.World) (K : PySem.W.Frag) (gl : Str → Option Value) (bas : Heap) (R : Orc) (k : Nat) (x : Str) (n : Nat) (S : SpD) : Prop :=
  ∃ (f : Addr) (fd : FuncData) (ps : List Str), FnG pr wd K gl bas k f fd ps (spD K R n S) ∧ gl x = some (.ref f) ∧ PySem.W.keepIn K (.ref f) = true ∧ Binds K fd ps []
theorem Cd.more {pr : Program} {wd : PySem.World} {K : PySem.W.Frag} {gl : Str → Option Value} {bas : Heap} {R : Orc} {j k : Nat} {x : Str} {n : Nat} {S : SpD} (C : Cd pr wd K gl bas R j x n S) (h : j ≤ k) : Cd pr wd K gl bas R k x n S := by
  obtain ⟨f, fd, ps, F, a, b, d⟩ := C
  exact ⟨f, fd, ps, F.more h, a, b, d⟩
theorem de_cd {X : Cx} {c : Cn} {k n : Nat} {S : SpD} {x : Str} {p pos : Pos} {e : Expr} {es : List Expr} {fa : AM} (C : Cd X.prog X.w X.K X.mg X.base c.R k x n S) (hK : X.K = c.K) (hg : X.A.guards = some []) (hr : Room k X.A) (gx : Gl X x)
    (ha : PA X (e :: es) (tAr c fa)) (hdb : (x == ("__debug__" : Str)) = false := by decide) (he : starEach (e :: es) X.env = (false, eval e X.env) :: starEach es X.env := by rfl) (hpl : (backTo pos (starEach es X.env)).any (·.1) = false := by rfl) :
    PE X (.Call (.Name x p) (e :: es) [] pos) (tD c (dCall n S fa)) := by
  obtain ⟨f, fd, ps, F, a, b, d⟩ := C
  exact de_call hK F hg hr gx a b d ha hdb he hpl
theorem hu64 {A : Around} {k : Nat} (hr : Room k A) : A.units + 64 < cLine := by have := hr.un; omega
theorem hu65 {A : Around} {k : Nat} (hr : Room k A) : A.units + 65 < cLine := by have := hr.un; omega
theorem de_cdO {X : Cx} {c : Cn} {k n i : Nat} {S : SpD} {x : Str} {p pos : Pos} {e : Expr} {es : List Expr} {fa : AM} (C : Cd X.prog X.w X.K X.mg X.base c.R k x n S) (hK : X.K = c.K) (hg : X.A.guards = some []) (hr : Room k X.A) (gx : Gl X x)
    (ha : PA X (e :: es) (tAr c fa)) (hdb : (x == ("__debug__" : Str)) = false := by decide) (he : starEach (e :: es) X.env = (false, eval e X.env) :: starEach es X.env := by rfl) (hpl : (backTo pos (starEach es X.env)).any (·.1) = false := by rfl) :
    PE X (.Call (.Name x p) (e :: es) [] pos) (tD c (dCallO i n S fa)) := by
  obtain ⟨f, fd, ps, F, a, b, d⟩ := C
  exact de_callO hK F hg hr gx a b d ha hdb he hpl
end DL
namespace DL
open PySem L2
section
variable {X : Cx} {c : Cn} {e a b : Expr} {pos : Pos}
def tyN : D → String
  | .none => "NoneType"
  | .bool _ => "bool"
  | .int _ => "int"
  | .str _ => "str"
  | .list _ => "list"
  | .tuple _ => "tuple"
  | .dict _ => "dict"
theorem tyx_of {F H : Hp} {v : V} {d : D} (e : Ex F H) (b : Bo c F H v d) : TyX c.K H v (.type (tyN d)) := by
  have a := b.at e
  have sq : ∀ {p : Addr} {o : HO} {T : String}, Rd H p o → (H p = some o → TyX c.K H (.ref p) (.type T)) → (∀ q, H p = some (.frz q o) → TyX c.K H (.ref p) (.type T)) → TyX c.K H (.ref p) (.type T) :=
    fun h k1 k2 => h.elim k1 fun ⟨q, z⟩ => k2 q z
  clear b
  cases a with
  | non => exact .base .non
  | bl b => exact .base (.bl b)
  | int i => exact .base (.int i)
  | str x => exact .base (.str x)
  | lst s t =>
    rcases s with h | ⟨o, its, n, h1, h2, _⟩
    · exact sq h (fun z => .base (.lst z)) fun q z => .base (.frz z)
    · exact .kList h1 h2
  | tup s t =>
    rcases s with h | ⟨o, its, n, h1, h2, _⟩
    · exact sq h (fun z => .base (.tup z)) fun q z => .fTuple z
    · exact .kTuple h1 h2
  | dk r n l t => exact sq r (fun z => .base (.dK z)) fun q z => .fDict z
  | dt r l t => exact .base (.dT r)
def dIsi (T : String) (f : HM) : DM := fun ρ P => f ρ fun h ρ1 => see ρ1 h fun d => ∃ k, kitB (tyN d) T = some k ∧ P (.bool k) ρ1
theorem de_isi {T : String} {y : Str} {p p2 : Pos} {f : HM} (hK : X.K = c.K) (hg : Gl X "isinstance") (hm : X.mg "isinstance" = none) (hy : Gl X y) (hmy : X.mg y = none) (hv : bootBuiltins y = some (.type T)) (ha : PE X e (tH c f))
    (hb : bootBuiltins "isinstance" = some (.builtin "isinstance") := by decide +kernel) (hn : y ≠ "__name__" := by decide) (hd : (y == ("__debug__" : Str)) = false := by decide)
    (s1 : starEach [e, .Name y p2] X.env = (false, eval e X.env) :: starEach [.Name y p2] X.env := by rfl) (s2 : starEach [.Name y p2] X.env = (false, eval (.Name y p2) X.env) :: starEach [] X.env := by rfl) (hpl : (backTo pos (starEach [.Name y p2] X.env)).any (·.1) = false := by rfl) :
    PE X (.Call (.Name "isinstance" p) [e, .Name y p2] [] pos) (tD c (dIsi T f)) := by
  refine PE.to (pe_callB call_isi hg hm hb (pa_cons ha (pa_cons (pe_bltn (v := .ty T) hy hmy hv rfl hn hd) pa_nil s2) s1) (by decide) (by decide) s1 hpl) ?_
  rintro σ H Q ⟨F, ρ, xx, P, rel, q, k⟩
  refine ⟨F, ρ, xx, _, rel, q, fun h ρ1 v F1 H1 q1 e1 r1 h1 => ?_⟩
  obtain ⟨d, bo, b, hk, q2⟩ := see_bo r1 h1 q1
  have ty := tyx_of r1.w.fh bo
  rw [← hK] at ty
  exact ⟨v, .ty T, _, _, b, rfl, .ty T, ty, kit_ty hk, k _ ρ1 _ F1 H1 q2 e1 r1 (.bl b)⟩
def gIn : G2 := fun x y P => match y with
  | .list ds => okD x ∧ okD y ∧ P (.bool (ds.any fun z => PyData.eqv z x))
  | _ => False
theorem sem_in (hK : X.K = c.K) (hu : X.A.units + 65 < cLine) : Sem2 X c (compareOp .In) gIn := by
  refine ⟨_, op_inD hu, fun F H σ ρ xx x y vx vy P Q r bx by_ g k => ?_⟩
  unfold gIn at g
  split at g
  · rename_i ds
    obtain ⟨ox, oy, q⟩ := g
    have a1 := (bx.at r.w.fh).dp ox.nod
    have a2 := (by_.at r.w.fh).dp oy.nod
    rw [← hK] at a1 a2
    exact ⟨x, ds, a1, a2, ox, oy, k _ _ F H q (Ex.refl F) r (.bl _)⟩
  · exact g.elim
def dNeg (f : DM) : DM := fun ρ P => f ρ fun d ρ1 => match d with
  | .int i => P (.int (-i)) ρ1
  | _ => False
theorem de_neg {f : DM} (ha : PE X a (tD c f)) : PE X (.UnaryOp .USub a pos) (tD c (dNeg f)) := PE.to (pe_un un_neg ha) fun σ H Q ⟨F, ρ, xx, P, rel, q, k⟩ => ⟨F, ρ, xx, _, rel, q, fun d ρ1 v F1 H1 q1 e1 r1 a1 => by
  split at q1
  · cases a1
    exact ⟨_, rfl, k _ ρ1 _ F1 H1 q1 e1 r1 (.int _)⟩
  · exact q1.elim⟩
def gIadd : G2 := fun x y P => match x, y with
  | .int i, .int j => P (.int (i + j))
  | _, _ => False
def gIsub : G2 := fun x y P => match x, y with
  | .int i, .int j => P (.int (i - j))
  | _, _ => False
theorem sem_iadd : Sem2 X c (inplaceOp .Add) gIadd := by
  refine ⟨_, iop_add, fun F H σ ρ xx x y vx vy P Q r bx by_ g k => ?_⟩
  unfold gIadd at g
  split at g
  · cases bo_int bx
    cases bo_int by_
    exact ⟨_, _, rfl, rfl, k _ _ F H g (Ex.refl F) r (.int _)⟩
  · exact g.elim
theorem sem_isub : Sem2 X c (inplaceOp .Sub) gIsub := by
  refine ⟨_, iop_sub, fun F H σ ρ xx x y vx vy P Q r bx by_ g k => ?_⟩
  unfold gIsub at g
  split at g
  · cases bo_int bx
    cases bo_int by_
    exact ⟨_, _, rfl, rfl, k _ _ F H g (Ex.refl F) r (.int _)⟩
  · exact g.elim
theorem ref_of_bo {F H : Hp} {v : V} {d : D} (b : Bo c F H v d) : (∃ a, v = .ref a) ∨ (d = .none ∧ v = .non) ∨ (∃ i, d = .int i ∧ v = .int i) ∨ (∃ i, d = .bool i ∧ v = .bl i) ∨ (∃ i, d = .str i ∧ v = .str i) := by
  rcases b with b | ⟨a, rfl, _⟩
  · cases b with
    | non => exact .inr (.inl ⟨rfl, rfl⟩)
    | bl b => exact .inr (.inr (.inr (.inl ⟨_, rfl, rfl⟩)))
    | int i => exact .inr (.inr (.inl ⟨_, rfl, rfl⟩))
    | str x => exact .inr (.inr (.inr (.inr ⟨_, rfl, rfl⟩)))
    | lst s t => exact .inl ⟨_, rfl⟩
    | tup s t => exact .inl ⟨_, rfl⟩
    | dk r n l t => exact .inl ⟨_, rfl⟩
    | dt r l t => exact .inl ⟨_, rfl⟩
  · exact .inl ⟨a, rfl⟩
def rRp (K : PySem.W.Frag) : List V → Hp → VK → Prop := fun vs H Q => ∃ a d, vs = [.ref a] ∧ Dp K H (.ref a) d ∧ nod d = true ∧ d.showable = true ∧ d.depth ≤ 60 ∧ d.shown.length ≤ 1000000 ∧ Q (.str d.shown) H
end
mutual
theorem nod_dict : ∀ d : D, nod d = true → d.hasDict = false
  | .none, _ => by simp [PyData.hasDict]
  | .bool _, _ => by simp [PyData.hasDict]
  | .int _, _ => by simp [PyData.hasDict]
  | .str _, _ => by simp [PyData.hasDict]
  | .list xs, h => by
    simp only [PyData.hasDict]
    exact nod_dictAll xs (by simpa [nod] using h)
  | .tuple xs, h => by
    simp only [PyData.hasDict]
    exact nod_dictAll xs (by simpa [nod] using h)
  | .dict _, h => by simp [nod] at h
theorem nod_dictAll : ∀ ds : List D, nodAll ds = true → PyData.hasDictAll ds = false
  | [], _ => by simp [PyData.hasDictAll]
  | x :: xs, h => by
    simp only [nodAll, Bool.and_eq_true] at h
    simp only [PyData.hasDictAll, Bool.or_eq_false_iff]
    exact ⟨nod_dict x h.1, nod_dictAll xs h.2⟩
end
section
variable {X : Cx} {c : Cn} {e a b : Expr} {pos : Pos}
theorem call_rp (hg : X.A.guards = some []) (hu : X.A.units + 64 < cLine) : CallR X (.builtin "repr") (rRp X.K) := by
  (intro pins s σ H xs us Q I r h)
  obtain ⟨a, d, rfl, hd, h1, h2, h3, h4, q⟩ := h
  obtain ⟨u, rfl, rv⟩ := vals1 r
  cases rv
  obtain ⟨as, rd⟩ := Dp.reads I d _ _ hd rfl
  refine repr_of_reads' rd h2 (PyData.noDict_hsm (nod_dict _ h1)) hg (by omega) (fun _ _ e => e) (fun h' u tk hk => ⟨.str d.shown, H, I.kept hk, ⟨u, rfl⟩, q⟩) (sz h4)
end
end DL
namespace DL
open PySem L2
section
variable {X : Cx} {c : Cn} {e a b : Expr} {pos : Pos}
def ownL (ρ : Env) (i : Nat) (k : List D → Prop) : Prop := match ρ[i]? with
  | some (.ow (.list ds)) => k ds
  | _ => False
theorem ownL_get {F H : Hp} {σ : L2.St} {ρ : Env} {xx : XX} (r : Rel c F H σ ρ xx) {i : Nat} {k : List D → Prop} (h : ownL ρ i k) : ∃ ds p vs, ρ[i]? = some (.ow (.list ds)) ∧ σ[i]? = some (some (.ref p)) ∧ H p = some (.lst vs) ∧ AtAll c.K F vs ds ∧ k ds := by
  unfold ownL at h
  split at h
  · rename_i ds e
    obtain ⟨p, g1, g2⟩ := r.s.ow i _ e
    obtain ⟨vs, h1, h2⟩ := g2.o
    exact ⟨ds, p, vs, e, g1, h1, h2, h⟩
  · exact h.elim
def sApp (i : Nat) (f : DM) : SM := fun E ρ => ownL ρ i (fun _ => True) ∧ f ρ fun d ρ1 => ownL ρ1 i fun ds => ds.length < 1000000 ∧ E.nx (ρ1.set i (.ow (.list (ds ++ [d]))))
theorem app_use {i : Nat} {f : DM} {te : TE} (et : te = tD c f) (hK : X.K = c.K) : ∀ Z σ H, tS c (sApp i f) Z σ H → tDrop (tBM X.K "list" rAppend (tVar i) (tCons te tNil)) Z σ H := by
  subst et
  rintro Z σ H ⟨F, ρ, xx, E, rel, ⟨q0, q⟩, n, rr, b, t⟩
  obtain ⟨ds0, p0, vs0, g1, g2, g3, g4, _⟩ := ownL_get rel q0
  refine ⟨.ref p0, g2, .inl ⟨rfl, vs0, SqL.of g3⟩, F, ρ, xx, _, rel, q, fun d ρ1 v F1 H1 q1 e1 r1 a1 => ?_⟩
  obtain ⟨ds, p, vs, h1, h2, h3, h4, hl, hn⟩ := ownL_get r1 q1
  have ep : p0 = p := by
    rw [g2] at h2
    cases h2
    rfl
  subst ep
  refine ⟨p0, vs, v, rfl, rfl, h3, szl (by rw [h4.length]; omega), ?_⟩
  exact n _ σ F1 _ hn e1 (r1.mut h1 h2 ⟨_, upd_same, h4.append (.cons a1 .nil)⟩)
theorem dp_app {x : Str} {i : Nat} {px apos cpos : Pos} {f : DM} (hK : X.K = c.K) (ho : PE X (.Name x px) (tVar i)) (ha : PE X e (tD c f))
    (hbase : attributeBase (.Name x px) "append" X.env (eval (.Name x px) X.env) = eval (.Name x px) X.env := by rfl)
    (hfew : ((backTo cpos (starEach [e] X.env)).all (fun x => !x.1)
        && (backToKw cpos (keywordEach [] X.env)).all (fun x => x.1.isSome)
      && decide (([e] : List Expr).length + ([] : List Keyword).length
          + (if ([] : List Keyword).isEmpty then 0 else 1) < 30)) = true := by rfl)
    (hline : (apos.endLine == cpos.line) = true := by rfl) (hs : starEach [e] X.env = (false, eval e X.env) :: starEach [] X.env := by rfl) (hplain : (backTo cpos (starEach [] X.env)).any (·.1) = false := by rfl)
    (hsw : swapsWith (.Call (.Attribute (.Name x px) "append" apos) [e] [] cpos) none pos.line X.env = pure false := by rfl) : PS X (.Expr (.Call (.Attribute (.Name x px) "append" apos) [e] [] cpos) pos) (tS c (sApp i f)) :=
  PS.to (ps_expr (pe_bm PySem.F.plainAttrs_list PySem.F.slot_list_append PySem.F.type_list_append mt_append ho (pa_cons ha pa_nil hs) hbase hfew hline hs hplain) hsw) (app_use rfl hK)
def sPut (i : Nat) (fi fe : DM) : SM := fun E ρ => fe ρ fun d ρ1 => ownL ρ1 i (fun _ => True) ∧ fi ρ1 fun k ρ2 => ownL ρ2 i fun ds => match k with
  | .int z => ∃ j, ixN ds.length z = some j ∧ E.nx (ρ2.set i (.ow (.list (ds.set j d))))
  | _ => False
theorem put_use {i : Nat} {fi fe : DM} {te ti : TE} (et : te = tD c fe) (ei : ti = tD c fi) : ∀ Z σ H, tS c (sPut i fi fe) Z σ H → tAsg te (L2.gSub (tVar i) ti rSetL) Z σ H := by
  subst et ei
  rintro Z σ H ⟨F, ρ, xx, E, rel, q, n, rr, b, t⟩
  refine ⟨F, ρ, xx, _, rel, q, fun d ρ1 v F1 H1 ⟨q0, q1⟩ e1 r1 a1 => ?_⟩
  obtain ⟨ds0, p0, vs0, g1, g2, g3, g4, _⟩ := ownL_get r1 q0
  refine ⟨.ref p0, g2, F1, ρ1, xx, _, r1, q1, fun k ρ2 u F2 H2 q2 e2 r2 a2 => ?_⟩
  obtain ⟨ds, p, vs, h1, h2, h3, h4, hk⟩ := ownL_get r2 q2
  have ep : p0 = p := by
    rw [g2] at h2
    cases h2
    rfl
  subst ep
  split at hk
  · rename_i z
    cases a2
    obtain ⟨j, hj, hn⟩ := hk
    refine ⟨p0, vs, z, j, rfl, rfl, h3, by rw [h4.length]; exact hj, ?_⟩
    exact n _ σ F2 _ hn (e1.trans e2) (r2.mut h1 h2 ⟨_, upd_same, h4.set (a1.mono e2) j⟩)
  · exact hk.elim
end
end DL
namespace DL
open PySem L2
section
variable {X : Cx} {c : Cn} {e a b : Expr} {pos : Pos}
theorem dp_put {x : Str} {i : Nat} {ix : Expr} {px tpos : Pos} {fi fe : DM} (ho : PE X (.Name x px) (tVar i)) (hi : PE X ix (tD c fi)) (he : PE X e (tD c fe))
    (hsub : ∀ v, assign (.Subscript (.Name x px) ix tpos) X.env v = (do
      let ov ← holding [v] (eval (.Name x px) X.env)
      let iv ← holding [v, ov] (eval ix X.env)
      standAt tpos
      (holding [v, ov, iv] (setItem ov iv v))
      release [v, ov, iv] []) := by intro _; rfl)
    (hs : swapsWithSole [.Subscript (.Name x px) ix tpos] e pos.line X.env = pure false := by rfl) (hw : swappedStores [.Subscript (.Name x px) ix tpos] e X.env = pure none := by rfl)
    (h1 : (assignEach [.Subscript (.Name x px) ix tpos] X.env).map (·.2) = [assign (.Subscript (.Name x px) ix tpos) X.env] := by rfl) : PS X (.Assign [.Subscript (.Name x px) ix tpos] e pos) (tS c (sPut i fi fe)) :=
  PS.to (ps_asg he (pg_sub ho hi set_list hsub) hs hw h1) (put_use rfl rfl)
def ofStrs : List D → Option (List Str)
  | [] => some []
  | .str x :: r => (ofStrs r).map (x :: ·)
  | _ => none
theorem ofStrs_eq : ∀ {ds : List D} {ns : List Str}, ofStrs ds = some ns → ds = ns.map PyData.str
  | [], ns, h => by cases h; rfl
  | .str x :: r, ns, h => by
    unfold ofStrs at h
    cases e : ofStrs r with
    | none => (rw [e] at h; cases h)
    | some m =>
      rw [e] at h
      cases h
      rw [ofStrs_eq e]
      rfl
  | .none :: _, _, h => by cases h
  | .bool _ :: _, _, h => by cases h
  | .int _ :: _, _, h => by cases h
  | .list _ :: _, _, h => by cases h
  | .tuple _ :: _, _, h => by cases h
  | .dict _ :: _, _, h => by cases h
theorem ofStrs_map : ∀ (ns : List Str), ofStrs (ns.map PyData.str) = some ns
  | [] => rfl
  | n :: r => by
    show (ofStrs (r.map PyData.str)).map (n :: ·) = _
    rw [ofStrs_map r]
    rfl
def dJoin (f g : DM) : DM := fun ρ P => f ρ fun d ρ1 => (∃ z, d = .str z) ∧ g ρ1 fun l ρ2 => ∃ z ds ys, d = .str z ∧ (l = .list ds ∨ l = .tuple ds) ∧ ofStrs ds = some ys ∧ (ys.map (·.length)).sum + ys.length * z.length ≤ 16777216 ∧ P (.str (Txt.join z ys)) ρ2
theorem de_join {o : Expr} {apos : Pos} {f g : DM} (hK : X.K = c.K) (ho : PE X o (tD c f)) (he : PE X e (tD c g)) (hs : starEach [e] X.env = [(false, eval e X.env)] := by rfl) (hbase : attributeBase o "join" X.env (eval o X.env) = eval o X.env := by rfl) (hline : (apos.endLine == pos.line) = true := by rfl) :
    PE X (.Call (.Attribute o "join" apos) [e] [] pos) (tD c (dJoin f g)) := by
  refine PE.to (pe_join ho he hs hbase hline) ?_
  rintro σ H Q ⟨F, ρ, xx, P, rel, q, k⟩
  refine ⟨F, ρ, xx, _, rel, q, fun d ρ1 v F1 H1 ⟨⟨z, hz⟩, q1⟩ e1 r1 a1 => ?_⟩
  subst hz
  cases a1
  refine ⟨⟨z, rfl⟩, F1, ρ1, xx, _, r1, q1, fun l ρ2 u F2 H2 ⟨z', ds, ys, ez, hl, hy, hlen, q2⟩ e2 r2 a2 => ?_⟩
  cases ez
  have hd := ofStrs_eq hy
  subst hd
  rcases hl with hl | hl
  · subst hl
    cases a2 with
    | lst s t =>
      rw [hK]
      have := t.strs
      subst this
      exact ⟨z, _, ys, rfl, rfl, .inl (r2.w.fh.sl s), hlen, k _ ρ2 _ F2 H2 q2 (e1.trans e2) r2 (.str _)⟩
  · subst hl
    cases a2 with
    | tup s t =>
      rw [hK]
      have := t.strs
      subst this
      exact ⟨z, _, ys, rfl, rfl, .inr (r2.w.fh.st s), hlen, k _ ρ2 _ F2 H2 q2 (e1.trans e2) r2 (.str _)⟩
end
end DL
namespace DL
open PySem L2
section
variable {X : Cx} {c : Cn} {e a b e3 : Expr} {pos : Pos}
theorem dts_one {b : BM} (h : PT X e (tT c b)) : PTs X [e] (tT c b) := pts_one h
end
end DL
namespace DL
open PySem L2
section
variable {X : Cx} {c : Cn}
def gNeS : G2 := fun x y P => match x, y with
  | .str a, .str b => P (.bool (!decide (a = b)))
  | _, _ => False
theorem dec_strs {a b : Str} : decide (V.str a = V.str b) = decide (a = b) := by
  by_cases h : a = b
  · subst h
    simp
  · simp [h]
theorem sem_neS : Sem2 X c (compareOp .NotEq) gNeS := by
  refine ⟨_, op_ne, fun F H σ ρ xx x y vx vy P Q r bx by_ g k => ?_⟩
  unfold gNeS at g
  split at g
  · cases bo_str bx
    cases bo_str by_
    refine ⟨rfl, ?_⟩
    rw [dec_strs]
    exact k _ _ F H g (Ex.refl F) r (.bl _)
  · exact g.elim
end
end DL
namespace DL
open PySem L2 PySem.Spec PyProof.Rows
end DL
namespace DL
open PySem L2 PySem.Spec PyProof.Rows
/-- what stands behind a clause's tests -/
abbrev LvU := L2.St → Hp → (Hp → Prop) → Prop
/-- slots that know what the block's own slots knew -/
structure Knows (σ σ' : L2.St) (vs : List Nat) : Prop where
  l : (L2.wipe σ vs).length = σ'.length
  k : ∀ (j : Nat) v, (L2.wipe σ vs)[j]? = some (some v) → σ'[j]? = some (some v)
theorem Knows.of_eq {σ σ' : L2.St} {vs : List Nat} (e : L2.wipe σ' vs = L2.wipe σ vs) : Knows σ σ' vs := ⟨by rw [← e, wipe_length], fun j v q => (L2.wipe_some (show (L2.wipe σ' vs)[j]? = _ from e ▸ q)).1⟩
section
variable {Y : Cx} {pins : List (Addr × Obj)} {tg : Expr} {fs : List Expr} {g : TG} {tt : TT} {vs own : List Nat} {σ : L2.St} {it : Addr} {fp : List Addr} {tn : Nat → Heap → Prop} {J : It} {W : Nat → Nat → Hp → Prop} {Fin : Hp → Prop} {U : LvU} {act : (Shared → Prop) → Shared → Prop}
/-- how things stand ahead of a turn -/
def Ahead (Y : Cx) (pins : List (Addr × Obj)) (σw : L2.St) (fp : List Addr) (tn : Nat → Heap → Prop) (W : Nat → Nat → Hp → Prop) (m : Nat) (s : Shared) : Prop := ∃ i G, Inv Y pins σw G s ∧ tn i s.heap ∧ (∀ b ∈ fp, G b = none) ∧ W i m G
/-- what the iterator stands on was held through a turn, and goes free -/
theorem Ahead.next {σ' : L2.St} {G : Hp} {s7 s : Shared} {i m : Nat} (T : Turn Y.prog Y.w Y.K tg J fp it tn) (I : Inv Y (pins ++ pinsAt fp s7.heap) σ' G s) (kn : Knows σ σ' vs) (st : tn i s7.heap) (w : W i m G) : Ahead Y pins (L2.wipe σ vs) fp tn W m s := by
  have held : ∀ b ∈ fp, ∀ o, s7.heap.get? b = some o → _ := fun b mb o e => I.pin (b, o) (List.mem_append_right _ (List.mem_append_right _ (mem_pinsAt mb e)))
  exact ⟨i, G, I.unpinned.weak kn.l kn.k, T.keep i _ _ st fun b mb o e => (held b mb o e).1, fun b mb => (T.obj i _ st b mb).elim fun o q => (held b mb o q.1).2.1, w⟩
end
/-- a block stands open over a new container: what is known within, and what the end gives back -/
structure Opened (X : Cx) (pins : List (Addr × Obj)) (σ : L2.St) (own : List Nat) (Y : Cx) (fp : List Addr) (tn : Nat → Heap → Prop) (C : Addr) (G : Hp) (s : Shared) : Prop where
  inv : Inv Y [] (L2.wipe σ own) G s
  st : tn 0 s.heap
  no : ∀ b ∈ fp, G b = none
  still : ∀ (σ' : L2.St) (G' : Hp) (s' : Shared), Inv Y [] σ' G' s' → (∀ b ∈ fp, G' b = none) → ∀ b ∈ fp, FpOk Y [] G' b
  back : ∀ (σ' : L2.St) (G' : Hp) (s' : Shared), Inv Y [] σ' G' s' → Inv X pins σ G' s' ∧ (∃ m, s'.heap.Ns C m) ∧ FpOk X pins G' C
abbrev heapIn (h : Heap) (scope : Scope) : Heap := pushCells (h.push { cls := .type "dict", data := .dict #[] }) scope.names
abbrev envIn (X : Cx) (h : Heap) (scope : Scope) : PySem.Env := compEnvC scope (cellsFrom (h.objs.size + 1) scope.names (cloFrom X.env.cells scope.names [])) h.objs.size X.env
theorem Opened.of {X : Cx} {pins : List (Addr × Obj)} {σ : L2.St} {H : Hp} {s s3 : Shared} {tg : Expr} {J : It} {fp : List Addr} {it : Addr} {tn : Nat → Heap → Prop} {scope : Scope} {own : List (Str × Nat)} {o : HO} {ob : Obj} (hN : X.N.Nodup) (ok : BlkOk X.N X.env.scope scope own)
    (T : Turn X.prog X.w X.K tg J fp it tn) (st : tn 0 s.heap) (free : ∀ b ∈ fp, FpOk X pins H b) (e3 : s3.heap = s.heap.push ob) (I : Inv X pins σ (upd H s.heap.objs.size o) s3) :
    Opened X pins σ (own.map (·.2)) (X.blk s3 (upd H s.heap.objs.size o) scope (envIn X s3.heap scope) fp) fp tn s3.heap.objs.size (upd H s.heap.objs.size o) { s3 with heap := heapIn s3.heap scope } := by
  have lt : ∀ b ∈ fp, b < s.heap.objs.size := fun b mb => (T.obj 0 _ st b mb).elim fun _ q => Heap.lt_size q.1
  have free3 : ∀ b ∈ fp, FpOk X pins (upd H s.heap.objs.size o) b := fun b mb => ⟨(upd_ne (Nat.ne_of_lt (lt b mb))).trans (free b mb).1, (free b mb).2⟩
  have pushed : ∀ b z, s.heap.get? b = some z → s3.heap.get? b = some z := fun b z q => by rw [e3]; exact Heap.get?_push_of_some _ q
  exact {
    inv := block_start I ok hN fun b mb => ⟨free3 b mb, by rw [e3, Heap.size_push]; exact Nat.lt_succ_of_lt (lt b mb)⟩
    st := T.keep 0 _ _ st fun b _ z q => pushCells_keeps _ _ _ _ (Heap.get?_push_of_some _ (pushed b z q))
    no := fun b mb => (free3 b mb).1
    still := fun σ' G' s' J' n b mb =>
      have away := J'.ok.exf b mb
      ⟨n b mb, away.1, J'.ok.exfs b mb, .inl mb, away.2, fun p hp => (List.not_mem_nil hp).elim⟩
    back := fun σ' G' s' J' => by
      refine ⟨I.call' J'.os J'.base J'.hok J'.bare fun b mb => ?_, J'.loc.elim fun m q => ⟨m, q.1⟩, I.fpOk (Nat.le_refl _) J'.free⟩
      obtain ⟨-, f1, f2, f3, f4, f5⟩ := free3 b mb
      exact ⟨f3, f1, f4, f5⟩ }
end DL
namespace DL
open PySem L2 PySem.Spec PyProof.Rows
end DL
namespace DL
open PySem L2 PySem.Spec PyProof.Rows
end DL
namespace DL
open PySem L2 PySem.Spec PyProof.Rows
end DL
namespace DL
open PySem L2 PySem.Spec PyProof.Rows
end DL
namespace DL
open PySem L2
theorem hd_d {x : D} {as : List Ar} : ((Ar.d x :: as).head?).map isD ≠ some false := by simp [isD]
theorem k_int : kitB "int" "int" = some true := by decide +kernel
theorem k_ib : kitB "int" "bool" = some false := by decide +kernel
theorem k_tt : kitB "tuple" "tuple" = some true := by decide +kernel
theorem k_ss : kitB "str" "str" = some true := by decide +kernel
/-- a comprehension whose items are told by a function -/
theorem lcL_map {t : TM} {f : DM} {vs : List Nat} {K : List D → DL.Env → Prop} {ρ : DL.Env} (g : D → D) : ∀ (ds acc : List D), (∀ d ∈ ds, ∀ Q : D → DL.Env → Prop, (∀ ρ3, wipeE ρ3 vs = ρ → Q (g d) ρ3) → t d ρ fun ρ1 => f ρ1 Q) → K (acc ++ ds.map g) ρ → lcL t bYes f vs K ds acc ρ
  | [], acc, _, hk => by
    show K acc ρ
    simpa using hk
  | d :: ds, acc, h, hk => by
    refine h d (List.mem_cons_self ..) _ fun ρ3 e => ?_
    show lcL t bYes f vs K ds (acc ++ [g d]) (wipeE ρ3 vs)
    rw [e]
    exact lcL_map g ds (acc ++ [g d]) (fun d' hd => h d' (List.mem_cons_of_mem _ hd)) (by simpa using hk)
theorem signs_eq (z : Str) : signs z = z.cps.toList.map fun n => PyData.str ⟨#[n]⟩ := rfl
end DL
namespace DL
open PySem L2
end DL
namespace DL
open PySem L2
def kC : Key := .inr "cells"
def kL : Key := .inr "left"
def kS : Key := .inr "at"
structure SrcAt (H : Hp) (q c l : Addr) (cs ls : List Int) (k : Nat) : Prop where
  dq : H q = some (.dK [(kC, .ref c), (kL, .ref l), (kS, .int k)])
  dc : H c = some (.lst (cs.map V.int))
  dl : H l = some (.lst (ls.map V.int))
  ne : c ≠ l
  nc : cs.length ≤ 100
  nl : ls.length ≤ 100
def spotOf : Option HO → Nat
  | some (.dK [_, _, (_, .int k)]) => k.toNat
  | _ => 0
theorem SrcAt.foot {H : Hp} {q c l : Addr} {cs ls : List Int} {k : Nat} (s : SrcAt H q c l cs ls k) {a : Addr} (h : Foot (some q) H a) : a = q ∨ a = c ∨ a = l := by
  rcases h with h | ⟨kvs, y, h1, h2⟩
  · exact .inl h
  · rw [s.dq] at h1
    cases h1
    simp only [List.mem_cons, Prod.mk.injEq, List.not_mem_nil, or_false] at h2
    rcases h2 with ⟨_, h⟩ | ⟨_, h⟩ | ⟨_, h⟩
    · cases h; exact .inr (.inl rfl)
    · cases h; exact .inr (.inr rfl)
    · cases h
theorem SrcAt.fq {H : Hp} {q : Addr} : Foot (some q) H q := .inl rfl
theorem SrcAt.fc {H : Hp} {q c l : Addr} {cs ls : List Int} {k : Nat} (s : SrcAt H q c l cs ls k) : Foot (some q) H c := .inr ⟨_, kC, s.dq, List.mem_cons_self ..⟩
theorem SrcAt.fl {H : Hp} {q c l : Addr} {cs ls : List Int} {k : Nat} (s : SrcAt H q c l cs ls k) : Foot (some q) H l := .inr ⟨_, kL, s.dq, List.mem_cons_of_mem _ (List.mem_cons_self ..)⟩
def srcOrc : Orc where
  I q H := ∃ c l cs ls k, SrcAt H q c l cs ls k
  cnt q H := spotOf (H q)
  al q H a h f := by
    obtain ⟨c, l, cs, ls, k, s⟩ := h
    rcases s.foot f with rfl | rfl | rfl
    · rw [s.dq]; exact Option.some_ne_none _
    · rw [s.dc]; exact Option.some_ne_none _
    · rw [s.dl]; exact Option.some_ne_none _
  st q H H' h e := by
    obtain ⟨c, l, cs, ls, k, s⟩ := h
    exact ⟨c, l, cs, ls, k, ⟨(e q SrcAt.fq).trans s.dq, (e c s.fc).trans s.dc, (e l s.fl).trans s.dl, s.ne, s.nc, s.nl⟩⟩
  sc q H H' h e := by rw [e q SrcAt.fq]
/-- H' is H but for the source, which may have new parts -/
structure Tou (q : Addr) (H H' : Hp) : Prop where
  kp : ∀ a, H a ≠ none → ¬ Foot (some q) H a → H' a = H a
  dom : ∀ a, H a ≠ none → H' a ≠ none
  ft : ∀ a, Foot (some q) H' a → Foot (some q) H a ∨ H a = none
theorem Tou.refl {q : Addr} {H : Hp} : Tou q H H := ⟨fun _ _ _ => rfl, fun _ h => h, fun _ h => .inl h⟩
theorem Tou.trans {q : Addr} {H H' H'' : Hp} (a : Tou q H H') (b : Tou q H' H'') : Tou q H H'' := by
  refine ⟨fun x h f => ?_, fun x h => b.dom x (a.dom x h), fun x h => ?_⟩
  · rw [b.kp x (a.dom x h) fun z => (a.ft x z).elim f h, a.kp x h f]
  · rcases b.ft x h with h | h
    · exact a.ft x h
    · refine .inr ?_
      cases z : H x with
      | none => rfl
      | some o => exact absurd h (a.dom x (by rw [z]; exact Option.some_ne_none o))
theorem Tou.world {q : Addr} {F H H' : Hp} (t : Tou q H H') (w : World srcOrc (some q) F H F H) (i : srcOrc.I q H') : World srcOrc (some q) F H F H' := by
  have al : ∀ a, F a ≠ none → H a ≠ none := fun a h z => by
    cases e : F a with
    | none => exact h e
    | some o =>
      have := w.fh a o e
      rw [z] at this
      cases this
  refine ⟨Ex.refl F, fun a o e => ?_, fun a o e f => ⟨?_, fun z => ?_⟩, t.dom, fun _ _ e => e, fun a h z => ?_, fun y e => ?_⟩
  · have h0 : F a ≠ none := by rw [e]; exact Option.some_ne_none o
    rw [t.kp a (al a h0) (w.ft a h0)]
    exact w.fh a o e
  · rw [t.kp a (by rw [e]; exact Option.some_ne_none o) f]
    exact e
  · rcases t.ft a z with z | z
    · exact f z
    · rw [e] at z
      cases z
  · rcases t.ft a z with z | z
    · exact w.ft a h z
    · exact al a h z
  · cases e
    exact i
/-- a new object -/
theorem Tou.new {q p : Addr} {o : HO} {H : Hp} (hp : H p = none) (hq : H q ≠ none) : Tou q H (upd H p o) := by
  have nq : q ≠ p := fun z => hq (by rw [z]; exact hp)
  refine ⟨fun a h _ => upd_ne fun z => h (by rw [z]; exact hp), fun a h => ?_, fun a h => .inl ?_⟩
  · by_cases z : a = p
    · exact absurd (by rw [z]; exact hp) h
    · rw [upd_ne z]
      exact h
  · exact (Foot.eqv (p := some q) (fun y e => by cases e; exact upd_ne nq) a).mp h
theorem SrcAt.new {H : Hp} {q c l p : Addr} {cs ls : List Int} {k : Nat} {o : HO} (s : SrcAt H q c l cs ls k) (hp : H p = none) : SrcAt (upd H p o) q c l cs ls k :=
  ⟨(upd_ne (ne_of_none s.dq hp)).trans s.dq, (upd_ne (ne_of_none s.dc hp)).trans s.dc, (upd_ne (ne_of_none s.dl hp)).trans s.dl, s.ne, s.nc, s.nl⟩
/-- the list of great ones is another -/
theorem SrcAt.setL {H : Hp} {q c l l' : Addr} {cs ls ls' : List Int} {k : Nat} (s : SrcAt H q c l cs ls k) (h : H l' = some (.lst (ls'.map V.int))) (n : c ≠ l') (z : ls'.length ≤ 100) : SrcAt (upd H q (.dK [(kC, .ref c), (kL, .ref l'), (kS, .int k)])) q c l' cs ls' k := by
  have qc : c ≠ q := fun e => by have := s.dc; rw [e, s.dq] at this; cases this
  have ql : l' ≠ q := fun e => by rw [e, s.dq] at h; cases h
  exact ⟨upd_same, (upd_ne qc).trans s.dc, (upd_ne ql).trans h, n, s.nc, z⟩
theorem SrcAt.setS {H : Hp} {q c l : Addr} {cs ls : List Int} {k : Nat} (s : SrcAt H q c l cs ls k) (k' : Nat) : SrcAt (upd H q (.dK [(kC, .ref c), (kL, .ref l), (kS, .int k')])) q c l cs ls k' := by
  have qc : c ≠ q := fun e => by have := s.dc; rw [e, s.dq] at this; cases this
  have ql : l ≠ q := fun e => by have := s.dl; rw [e, s.dq] at this; cases this
  exact ⟨upd_same, (upd_ne qc).trans s.dc, (upd_ne ql).trans s.dl, s.ne, s.nc, s.nl⟩
theorem SrcAt.setV {H : Hp} {q c l : Addr} {cs ls : List Int} {k : Nat} (s : SrcAt H q c l cs ls k) (ls' : List Int) (z : ls'.length ≤ 100) : SrcAt (upd H l (.lst (ls'.map V.int))) q c l cs ls' k := by
  have ql : q ≠ l := fun e => by have := s.dl; rw [← e, s.dq] at this; cases this
  exact ⟨(upd_ne ql).trans s.dq, (upd_ne s.ne).trans s.dc, upd_same, s.ne, s.nc, z⟩
/-- a store into the dict, or into its list -/
theorem Tou.putQ {H : Hp} {q c l l' : Addr} {cs ls : List Int} {k : Nat} {v : V} (s : SrcAt H q c l cs ls k) (hl : l' = l ∨ H l' = none) (nv : ∀ a, v ≠ .ref a) : Tou q H (upd H q (.dK [(kC, .ref c), (kL, .ref l'), (kS, v)])) := by
  refine ⟨fun a h f => upd_ne fun z => f (by rw [z]; exact SrcAt.fq), fun a h => ?_, fun a h => ?_⟩
  · by_cases z : a = q
    · rw [z, upd_same]; exact Option.some_ne_none _
    · rw [upd_ne z]; exact h
  · rcases h with h | ⟨kvs, y, h1, h2⟩
    · exact .inl (.inl h)
    · rw [upd_same] at h1
      cases h1
      simp only [List.mem_cons, Prod.mk.injEq, List.not_mem_nil, or_false] at h2
      rcases h2 with ⟨_, h⟩ | ⟨_, h⟩ | ⟨_, h⟩
      · cases h; exact .inl s.fc
      · cases h
        rcases hl with hl | hl
        · rw [hl]; exact .inl s.fl
        · exact .inr hl
      · exact absurd h.symm (nv a)
theorem Tou.putL {H : Hp} {q c l : Addr} {cs ls : List Int} {k : Nat} {o : HO} (s : SrcAt H q c l cs ls k) : Tou q H (upd H l o) := by
  have ql : q ≠ l := fun e => by have := s.dl; rw [← e, s.dq] at this; cases this
  refine ⟨fun a h f => upd_ne fun z => f (by rw [z]; exact s.fl), fun a h => ?_, fun a h => .inl ?_⟩
  · by_cases z : a = l
    · rw [z, upd_same]; exact Option.some_ne_none _
    · rw [upd_ne z]; exact h
  · exact (Foot.eqv (p := some q) (fun y e => by cases e; exact upd_ne ql) a).mp h
theorem SrcAt.spot {H : Hp} {q c l : Addr} {cs ls : List Int} {k : Nat} (s : SrcAt H q c l cs ls k) : srcOrc.cnt q H = k := by
  show spotOf (H q) = k
  rw [s.dq]
  rfl
theorem okD_ints (ns : List Int) : okD (.list (ns.map PyData.int)) := by
  have h1 : ∀ ms : List Int, PyData.canLayAll0 (ms.map PyData.int) = true := fun ms => by
    induction ms with
    | nil => rfl
    | cons m r ih => exact Bool.and_eq_true_iff.mpr ⟨rfl, ih⟩
  have h2 : ∀ ms : List Int, PyData.depthAll (ms.map PyData.int) ≤ 1 := fun ms => by
    induction ms with
    | nil => simp [PyData.depthAll]
    | cons m r ih => simp only [List.map_cons, PyData.depthAll, PyData.depth]; omega
  show SeqAt.shaped _ = true
  unfold SeqAt.shaped
  rw [Bool.and_eq_true_iff]
  refine ⟨h1 ns, decide_eq_true ?_⟩
  simp only [PyData.depth]
  have := h2 ns
  omega
theorem dp_ints {K : PySem.W.Frag} {H : Hp} {a : Addr} {ns : List Int} (h : H a = some (.lst (ns.map V.int))) : Dp K H (.ref a) (.list (ns.map PyData.int)) :=
  (At.lst (.inl (.inl h)) (AtAll.ofInts ns)).dp (okD_ints ns).nod
end DL
namespace DL
open PySem L2
section
variable {H : Hp} {q c l : Addr} {cs ls : List Int} {k : Nat} {σ : L2.St} {Q : VK}
theorem rdC (s : SrcAt H q c l cs ls k) (h0 : σ[0]? = some (some (.ref q))) (h : Q (.ref c) H) : tDGet (tVar 0) (tC (.str "cells")) σ H Q := ⟨_, h0, q, _, rfl, DGet.k (k := kC) s.dq, h⟩
theorem rdL (s : SrcAt H q c l cs ls k) (h0 : σ[0]? = some (some (.ref q))) (h : Q (.ref l) H) : tDGet (tVar 0) (tC (.str "left")) σ H Q := ⟨_, h0, q, _, rfl, DGet.k (k := kL) s.dq, h⟩
theorem rdS (s : SrcAt H q c l cs ls k) (h0 : σ[0]? = some (some (.ref q))) (h : Q (.int k) H) : tDGet (tVar 0) (tC (.str "at")) σ H Q := ⟨_, h0, q, _, rfl, DGet.k (k := kS) s.dq, h⟩
end
end DL
namespace DL
open PySem L2
def leftLen (q : Addr) (H : Hp) : Nat := match H q with
  | some (.dK [_, (_, .ref l), _]) => (match H l with
    | some (.lst xs) => xs.length
    | _ => 0)
  | _ => 0
theorem SrcAt.len {H : Hp} {q c l : Addr} {cs ls : List Int} {k : Nat} (s : SrcAt H q c l cs ls k) : leftLen q H = ls.length := by
  unfold leftLen
  rw [s.dq]
  simp only
  rw [s.dl]
  simp
abbrev gtL : TE := tDGet (tVar 0) (tC (.str "left"))
abbrev gtC : TE := tDGet (tVar 0) (tC (.str "cells"))
section
variable {K : PySem.W.Frag} {q c l : Addr} {cs ls : List Int} {k : Nat} {H H0 : Hp} {σ : L2.St}
/-- d["left"] != [] -/
theorem ne_left {Q : Bool → Hp → Prop} (s : SrcAt H q c l cs ls k) (h0 : σ[0]? = some (some (.ref q))) (h : ∀ H', SrcAt H' q c l cs ls k → Tou q H H' → Q (decide (ls ≠ [])) H') : tTest (tOp (rNeD K) gtL (tLst tNil)) σ H Q := by
  refine rdL s h0 ⟨Nat.zero_le _, fun p hp => ?_⟩
  have s1 : SrcAt (upd H p (.lst [])) q c l cs ls k := s.new hp
  refine ⟨_, _, dp_ints s1.dl, dp_ints (ns := []) upd_same, okD_ints ls, okD_ints [], _, rfl, ?_⟩
  have e : (!PyData.eqv (.list (ls.map PyData.int)) (.list ([].map PyData.int))) = decide (ls ≠ []) := by
    cases ls <;> rfl
  rw [e]
  exact h _ s1 (Tou.new hp (by rw [s.dq]; exact Option.some_ne_none _))
theorem ne_cells {Q : Bool → Hp → Prop} (s : SrcAt H q c l cs ls k) (h0 : σ[0]? = some (some (.ref q))) (h : ∀ H', SrcAt H' q c l cs ls k → Tou q H H' → Q (decide (cs ≠ [])) H') : tTest (tOp (rNeD K) gtC (tLst tNil)) σ H Q := by
  refine rdC s h0 ⟨Nat.zero_le _, fun p hp => ?_⟩
  have s1 : SrcAt (upd H p (.lst [])) q c l cs ls k := s.new hp
  refine ⟨_, _, dp_ints s1.dc, dp_ints (ns := []) upd_same, okD_ints cs, okD_ints [], _, rfl, ?_⟩
  have e : (!PyData.eqv (.list (cs.map PyData.int)) (.list ([].map PyData.int))) = decide (cs ≠ []) := by
    cases cs <;> rfl
  rw [e]
  exact h _ s1 (Tou.new hp (by rw [s.dq]; exact Option.some_ne_none _))
theorem put_kS {c l : Addr} {k : Nat} {v : V} : putK [(kC, V.ref c), (kL, V.ref l), (kS, V.int k)] kS v = [(kC, V.ref c), (kL, V.ref l), (kS, v)] := rfl
theorem small3 : 3 < sizeLine := by decide +kernel
theorem next_while {U : TS} {D0 : Ends} (s : SrcAt H q c l cs ls k) (h0 : σ[0]? = some (some (.ref q))) (hU : ∀ l ls H', SrcAt H' q c l cs ls k → Tou q H H' → U D0 σ H') :
    tSeq (tWhile (tAnd (tTest (tOp (rNeD K) gtL (tLst tNil))) (tTest (tOp rEq (tOp (rIxL K) gtL (tC (.int 0))) (tC (.int 0))))) (sDPut (tVar 0) (tC (.str "left")) (tSl (rSlL K) gtL (tPart (tC (.int 1))) tNoPart))) U D0 σ H := by
  refine ⟨fun m σ' H' => σ' = σ ∧ ∃ l ls, SrcAt H' q c l cs ls k ∧ Tou q H H' ∧ m = ls.length, ⟨_, rfl, l, ls, s, .refl, rfl⟩, ?_⟩
  rintro m σ' H' ⟨rfl, l1, ls1, s1, t1, rfl⟩
  refine ne_left s1 h0 fun H2 s2 t2 => ?_
  cases ls1 with
  | nil => exact hU _ _ _ s2 (t1.trans t2)
  | cons x r =>
    show tTest (tOp rEq (tOp (rIxL K) gtL (tC (.int 0))) (tC (.int 0))) σ' H2 _
    refine rdL s2 h0 ⟨l1, _, 0, .int x, rfl, rfl, SqL.of s2.dl, by simp [atI, ixN], rfl, _, rfl, ?_⟩
    by_cases hx : x = 0
    · subst hx
      show if decide (V.int 0 = V.int 0) = true then _ else _
      rw [if_pos (decide_eq_true rfl)]
      refine ⟨fun σ3 H3 => σ3 = σ' ∧ ∃ l, SrcAt H3 q c l cs r k ∧ Tou q H H3, fun σ3 H3 ⟨e, l3, s3, t3⟩ => ⟨r.length, Nat.lt_succ_self _, e, l3, r, s3, t3, rfl⟩, ?_⟩
      refine rdL s2 h0 ⟨1, rfl, l1, _, rfl, SqL.of s2.dl, fun p hp => ?_⟩
      have ec : cutV ((0 :: r).map V.int) (some 1) none = r.map V.int := by
        have := s2.nl
        unfold cutV
        have e1 : HT.sIx ((0 :: r).map V.int).length 0 (some 1) = 1 := by
          unfold HT.sIx
          simp
        have e2 : HT.sIx ((0 :: r).map V.int).length ((0 :: r).map V.int).length none = ((0 :: r).map V.int).length := rfl
        rw [e1, e2]
        simp
        (exact List.take_of_length_le (by simp))
      rw [ec]
      have s3 : SrcAt (upd H2 p (.lst (r.map V.int))) q c l1 cs (0 :: r) k := s2.new hp
      have np : c ≠ p := ne_of_none s2.dc hp
      refine ⟨.ref q, h0, q, _, rfl, DPut.k (k := kL) s3.dq small3, rfl, p, s3.setL upd_same np (by have := s2.nl; simp at this; omega), ?_⟩
      have t3 : Tou q H2 (upd H2 p (.lst (r.map V.int))) := Tou.new hp (by rw [s2.dq]; exact Option.some_ne_none _)
      have t4 : Tou q H2 (upd (upd H2 p (.lst (r.map V.int))) q (.dK [(kC, .ref c), (kL, .ref p), (kS, .int k)])) := by
        have pq : p ≠ q := fun z => by rw [z, s2.dq] at hp; cases hp
        have ex : upd (upd H2 p (.lst (r.map V.int))) q (.dK [(kC, .ref c), (kL, .ref p), (kS, .int k)]) = upd (upd H2 q (.dK [(kC, .ref c), (kL, .ref p), (kS, .int k)])) p (.lst (r.map V.int)) := by
          funext a
          by_cases z : a = q
          · rw [z, upd_same, upd_ne pq.symm, upd_same]
          · rw [upd_ne z]
            by_cases y : a = p
            · rw [y, upd_same, upd_same]
            · rw [upd_ne y, upd_ne y, upd_ne z]
        rw [ex]
        exact (Tou.putQ (v := .int k) s2 (.inr hp) (fun _ z => by cases z)).trans (Tou.new (by rw [upd_ne pq]; exact hp) (by rw [upd_same]; exact Option.some_ne_none _))
      exact (t1.trans t2).trans t4
    · show if decide (V.int x = V.int 0) = true then _ else _
      rw [if_neg (by simpa using hx)]
      exact hU _ _ _ s2 (t1.trans t2)
end
end DL
namespace DL
open PySem L2
abbrev rIntT : List V → Hp → VK → Prop := fun xs H Q => (∃ i, xs = [.int i] ∧ Q (.int i) H) ∨ ∃ k, xs = [.bl k] ∧ Q (.int (if k then 1 else 0)) H
abbrev rLenS (K : PySem.W.Frag) : List V → Hp → VK → Prop := fun xs H Q => ∃ p ys, xs = [.ref p] ∧ (SqL K H p ys ∨ SqT K H p ys) ∧ Q (.int ys.length) H
theorem atI_some {cs : List Int} {j : Int} (h : cs ≠ []) : ∃ z, atI (cs.map V.int) (j % (((cs.map V.int).length : Nat) : Int)) = some (V.int z) := by
  have hp : 0 < cs.length := List.length_pos_iff.mpr h
  rw [List.length_map]
  have a := Int.emod_nonneg j (b := (cs.length : Int)) (by omega)
  have b := Int.emod_lt_of_pos j (b := (cs.length : Int)) (by omega)
  generalize j % (cs.length : Int) = i at a b
  have hi : i.toNat < cs.length := by omega
  refine ⟨cs[i.toNat], ?_⟩
  unfold atI ixN
  rw [if_pos a, if_pos (by rw [List.length_map]; exact b)]
  show (cs.map V.int)[i.toNat]? = _
  (rw [List.getElem?_map, List.getElem?_eq_getElem hi])
  rfl
section
variable {K : PySem.W.Frag} {q c l : Addr} {cs ls : List Int} {k : Nat} {H H0 : Hp} {σ : L2.St}
theorem cell_use {j : Int} {Q : VK} (s : SrcAt H q c l cs ls k) (h0 : σ[0]? = some (some (.ref q))) (h2 : σ[2]? = some (some (.int j))) (h : ∀ z H', SrcAt H' q c l cs ls k → Tou q H H' → Q (.int z) H') :
    tIf (tTest (tOp (rNeD K) gtC (tLst tNil))) (tOp (rIxL K) gtC (tOp (rI (fun _ j => 0 < j) fun i j => .int (i % j)) (tCB rIntT (tCons (tVar 2) tNil)) (tCB (rLenS K) (tCons gtC tNil)))) (tC (.int 3)) σ H Q := by
  refine ne_cells s h0 fun H1 s1 t1 => ?_
  by_cases e : cs = []
  · show if decide (cs ≠ []) = true then _ else _
    rw [if_neg (by simpa using e)]
    exact h 3 H1 s1 t1
  · show if decide (cs ≠ []) = true then _ else _
    (rw [if_pos (decide_eq_true e)])
    obtain ⟨z, hz⟩ := atI_some (j := j) e
    refine rdC s1 h0 ⟨_, h2, .inl ⟨_, rfl, ?_⟩⟩
    refine rdC s1 h0 ⟨c, _, rfl, .inl (SqL.of s1.dc), ?_⟩
    (refine ⟨_, _, rfl, rfl, ?_, ?_⟩)
    · show (0 : Int) < ((cs.map V.int).length : Nat)
      rw [List.length_map]
      have := List.length_pos_iff.mpr e
      omega
    · exact ⟨c, _, _, _, rfl, rfl, SqL.of s1.dc, hz, h z H1 s1 t1⟩
end
end DL
namespace DL
open PySem L2
def spBegun (K : PySem.W.Frag) : Sp := fun vs H Q _ => ∃ (a : Addr) (ns : List Int), vs = [.ref a] ∧ SqL K H a (ns.map V.int) ∧ ns.length ≤ 63 ∧
  ∀ q c l cs ls H', (∀ b o, H b = some o → H' b = some o) → H q = none → H c = none → H l = none → SrcAt H' q c l cs ls 0 → Q (.ref q) H'
theorem disp_use {K : PySem.W.Frag} {σ : L2.St} {ρ : Env} {H : Hp} {f1 f2 : DM} {te1 te2 : TE} {ns ms : List Int} {Q : VK} (r : Rel ⟨K, Orc.nil, none, H, H⟩ H H σ ρ []) (e1 : te1 = tN ⟨K, Orc.nil, none, H, H⟩ f1) (e2 : te2 = tN ⟨K, Orc.nil, none, H, H⟩ f2)
    (h1 : f1 ρ fun d ρ1 => d = .list (ns.map PyData.int) ∧ f2 ρ1 fun d2 _ => d2 = .list (ms.map PyData.int)) (hn : ns.length ≤ 100) (hm : ms.length ≤ 100)
    (k : ∀ q c l H', (∀ b o, H b = some o → H' b = some o) → H q = none → H c = none → H l = none → SrcAt H' q c l ns ms 0 → Q (.ref q) H') :
    tDisp [(tC (.str "cells"), te1), (tC (.str "left"), te2), (tC (.str "at"), tC (.int 0))] σ H Q := by
  subst e1 e2
  intro p hp
  obtain ⟨r1, fp⟩ := Fresh.new (o := .dK []) (d := .o (.dK [])) r hp upd_same
  refine ⟨H, ρ, _, _, r1.pushX fp, h1, ?_⟩
  rintro d1 ρ1 a1 F1 H1 ⟨rfl, h2⟩ ex1 r2 f1'
  refine ⟨F1, ρ1, _, _, r2.pushX f1', h2, ?_⟩
  rintro d2 ρ2 a2 F2 H2 rfl ex2 r3 f2'
  have r4 := r3.pushX f2'
  have xp := r4.s.ex (p, .o (.dK [])) (by simp)
  have x1 := r4.s.ex (a1, .d (.list (ns.map PyData.int))) (by simp)
  have x2 := r4.s.ex (a2, .d (.list (ms.map PyData.int))) (by simp)
  have nd := r4.s.xd
  simp only [List.map_cons, List.map_nil, List.nodup_cons, List.mem_cons, List.not_mem_nil, or_false, not_or] at nd
  obtain ⟨v1, g1, t1⟩ := x1.1.o
  obtain ⟨v2, g2, t2⟩ := x2.1.o
  have q1 := t1.ints
  have q2 := t2.ints
  subst q1 q2
  refine ⟨xp.1.o, [(kC, .ref a1), (kL, .ref a2), (kS, .int 0)], rfl, (by show 3 ≤ 15; omega), ?_⟩
  have kp : ∀ b o, H b = some o → H2 b = some o := fun b o e => (r4.w.kp b o e fun z => z).1
  refine k p a1 a2 _ (fun b o e => ?_) hp x1.1.y x2.1.y ⟨?_, ?_, ?_, ?_, hn, hm⟩
  · rw [upd_ne (ne_of_none e hp)]
    exact kp b o e
  · rw [upd_same]
    rfl
  · rw [upd_ne (fun z => nd.2.1 z)]
    exact g1
  · rw [upd_ne (fun z => nd.1.2 z)]
    exact g2
  · exact fun z => nd.1.1 z.symm
/-- what stands in the two lists -/
def great (ns : List Int) : List Int := ns.filter fun x => decide (1000000000000000000 ≤ x)
theorem made_data (ns : List Int) (h : ns.length ≤ 63) : dCB gList (DL.gCons (hS 0) DL.gNil) [.im (.list (ns.map PyData.int)), .no] fun d ρ1 => d = .list (ns.map PyData.int) ∧
    dLc (iSeq (dV 0)) (gN 1) (bD (d2 gGe (hS 1) (hV (d2 gPow (hV (dC (.int 10))) (hV (dC (.int 18))))))) (dV 1) [1] ρ1 fun d2 _ => d2 = .list ((great ns).map PyData.int) := by
  refine ⟨trivial, rfl, ?_⟩
  have ew : (10 : Int) ^ (18 : Int).toNat = 1000000000000000000 := by decide
  have step : ∀ (ms : List Int) (acc : List D) (Kp : List D → Env → Prop), Kp (acc ++ (great ms).map PyData.int) [.im (.list (ns.map PyData.int)), .no] →
      lcL (gN 1) (bD (d2 gGe (hS 1) (hV (d2 gPow (hV (dC (.int 10))) (hV (dC (.int 18))))))) (dV 1) [1] Kp (ms.map PyData.int) acc [.im (.list (ns.map PyData.int)), .no] := by
    intro ms
    induction ms with
    | nil =>
      intro acc Kp h
      show Kp acc _
      simpa [great] using h
    | cons x r ih =>
      intro acc Kp h
      refine ⟨trivial, ⟨by decide, by decide, by decide⟩, ?_⟩
      show if decide ((10 : Int) ^ (18 : Int).toNat ≤ x) = true then _ else _
      rw [ew]
      by_cases hx : 1000000000000000000 ≤ x
      · rw [if_pos (decide_eq_true hx)]
        refine ih (acc ++ [.int x]) Kp ?_
        have : great (x :: r) = x :: great r := by simp [great, hx]
        rw [this] at h
        simpa using h
      · rw [if_neg (by simpa using hx)]
        refine ih acc Kp ?_
        have : great (x :: r) = great r := by simp [great, hx]
        rw [this] at h
        exact h
  refine ⟨by rw [List.length_map]; omega, ⟨by simp, fun j hj => ?_⟩, step ns [] _ ?_⟩
  · simp only [List.mem_singleton] at hj
    subst hj
    rfl
  · simp
theorem great_len (ns : List Int) : (great ns).length ≤ ns.length := List.length_filter_le _ _
end DL
namespace DL
open PySem L2
end DL
namespace DL
open PySem L2
section
variable {X : Cx} {c : Cn}
theorem strs_vs {K : PySem.W.Frag} {F : Hp} : ∀ {vs : List V} {zs : List Str}, AtAll K F vs (zs.map PyData.str) → vs = zs.map V.str
  | _, [], h => by cases h; rfl
  | _, z :: zs, h => by
    cases h with
    | cons a t =>
      cases a
      rw [strs_vs t]
      rfl
/-- a text in a tuple of texts -/
def gInS : G2 := fun x y P => match x, y with
  | .str a, .tuple ds => ∃ zs, ofStrs ds = some zs ∧ P (.bool (zs.any fun z => z == a))
  | _, _ => False
theorem sem_inS (hK : X.K = c.K) : Sem2 X c (compareOp .In) gInS := by
  refine ⟨_, op_in_seq, fun F H σ ρ xx x y vx vy P Q r bx by_ g k => ?_⟩
  unfold gInS at g
  split at g
  · rename_i a ds
    obtain ⟨zs, ez, q⟩ := g
    cases bo_str bx
    obtain ⟨p, xs, rfl, f2, s2, t2⟩ := bo_tup r.w.fh by_
    rw [ofStrs_eq ez] at t2
    have e := strs_vs t2
    subst e
    refine ⟨p, _, rfl, .inr (by rw [hK]; exact s2), rfl, ?_, ?_⟩
    · rw [List.all_eq_true]
      intro v hv
      obtain ⟨z, _, rfl⟩ := List.mem_map.mp hv
      rfl
    · have ea : inV (.str a) (zs.map V.str) = zs.any fun z => z == a := by
        unfold inV
        rw [List.any_map]
        rfl
      show Q (.bl (if false = true then !inV (.str a) (zs.map V.str) else inV (.str a) (zs.map V.str))) H
      rw [if_neg Bool.false_ne_true, ea]
      exact k _ _ F H q (Ex.refl F) r (.bl _)
  · exact g.elim
/-- in a list, or a text in a tuple of texts -/
def gInU : G2 := fun x y P => match y with
  | .list ds => gIn x (.list ds) P
  | y => gInS x y P
theorem sem_inU (hK : X.K = c.K) (hu : X.A.units + 65 < cLine) : Sem2 X c (compareOp .In) gInU := by
  obtain ⟨r1, o1, h1⟩ := sem_in hK hu (X := X) (c := c)
  obtain ⟨r2, o2, h2⟩ := sem_inS hK (X := X) (c := c)
  refine ⟨_, o1.or o2, fun F H σ ρ xx x y vx vy P Q r bx by_ g k => ?_⟩
  unfold gInU at g
  split at g
  · exact .inl (h1 F H σ ρ xx x _ vx vy P Q r bx by_ g k)
  · exact .inr (h2 F H σ ρ xx x _ vx vy P Q r bx by_ g k)
theorem de_gtop {x : Str} {pos : Pos} {d : D} (hg : Gl X x) (h : ∃ u, X.mg x = some (.ref u) ∧ ∀ F, At c.K F (.ref u) d) (hd : (x == ("__debug__" : Str)) = false := by decide) : PE X (.Name x pos) (tD c (dC d)) := by
  obtain ⟨u, hm, ha⟩ := h
  exact de_gref hg hm ha hd
variable {x : Str} {p pos : Pos} {e : Expr} {es : List Expr} {fh : HLM} {g : GC}
theorem at_top {K : PySem.W.Frag} {u : Addr} {dd : Option Addr} {its : Array Value} {n : Nat} {sl : Array (Option Value)} {zs : List Str} (h : K.lookup u = some ⟨.type "tuple", dd, .seq its n, sl⟩) (hz : its.size ≤ sizeLine) (hv : Vals (zs.map V.str) its.toList) (F : Hp) : At K F (.ref u) (.tuple (zs.map PyData.str)) := by
  refine .tup (.inr ⟨_, _, _, h, rfl, rfl, hz, hv⟩) ?_
  clear hv
  induction zs with
  | nil => exact .nil
  | cons z zs ih => exact .cons (.str z) ih
end
end DL
namespace DL
open PySem L2
end DL
namespace DL
open PySem L2
end DL
namespace DL
open PySem L2
structure SrcB (H : Hp) (q c l : Addr) (cs ls : List Int) (k : Nat) : Prop extends SrcAt H q c l cs ls k where
  len : ls.length = cs.length
  nz : cs ≠ []
def srcOrcB : Orc where
  I q H := ∃ c l cs ls k, SrcB H q c l cs ls k
  cnt q H := spotOf (H q)
  al q H a h f := by
    obtain ⟨c, l, cs, ls, k, s⟩ := h
    exact srcOrc.al q H a ⟨c, l, cs, ls, k, s.toSrcAt⟩ f
  st q H H' h e := by
    obtain ⟨c, l, cs, ls, k, s⟩ := h
    exact ⟨c, l, cs, ls, k, ⟨⟨(e q SrcAt.fq).trans s.dq, (e c s.fc).trans s.dc, (e l s.fl).trans s.dl, s.ne, s.nc, s.nl⟩, s.len, s.nz⟩⟩
  sc q H H' h e := by rw [e q SrcAt.fq]
theorem SrcB.spot {H : Hp} {q c l : Addr} {cs ls : List Int} {k : Nat} (s : SrcB H q c l cs ls k) : srcOrcB.cnt q H = k := s.toSrcAt.spot
section
variable {X : Cx} {c : Cn} {a b : Expr} {pos : Pos}
theorem call_reprB : CallR X (.builtin "repr") (fun xs H Q => ∃ b, xs = [.bl b] ∧ Q (.str (if b then "True" else "False")) H) := by
  (intro pins s σ H xs us Q I r h)
  obtain ⟨b, rfl, q⟩ := h
  obtain ⟨u, rfl, rv⟩ := vals1 r
  cases (show u = Value.bool b from rv)
  exact P.repr_of_bool ⟨.str _, H, I.tok _, ⟨_, by cases b <;> rfl⟩, q⟩
end
end DL
namespace DL
open PySem L2
section
variable {X : Cx} {c : Cn}
theorem call_reprI : CallR X (.builtin "repr") (fun xs H Q => (∃ i : Int, xs = [.int i] ∧ i.natAbs.log2 < 1920 ∧ Q (.str (toString i)) H) ∨ (xs = [.non] ∧ Q (.str "None") H)) := by
  (intro pins s σ H xs us Q I r h)
  rcases h with ⟨i, rfl, hl, q⟩ | ⟨rfl, q⟩
  · obtain ⟨u, rfl, rv⟩ := vals1 r
    obtain ⟨t, rfl⟩ := (show ∃ t, u = Value.int i t from rv)
    exact P.repr_of_int hl ⟨.str _, H, I.tok _, ⟨_, rfl⟩, q⟩
  · obtain ⟨u, rfl, rv⟩ := vals1 r
    cases (show u = Value.none from rv)
    exact P.repr_of_none ⟨.str _, H, I.tok _, ⟨_, rfl⟩, q⟩
end
end DL
namespace DL
open PySem L2
section
variable {X : Cx} {c : Cn} {e a b : Expr} {pos : Pos}
def sExt (i : Nat) (f : DM) : SM := fun E ρ => ownL ρ i (fun _ => True) ∧ f ρ fun d ρ1 => match d with
  | .list es => ownL ρ1 i fun ds => ds.length + es.length ≤ 1000000 ∧ E.nx (ρ1.set i (.ow (.list (ds ++ es))))
  | _ => False
theorem ext_use {i : Nat} {f : DM} {te : TE} (et : te = tN c f) : ∀ Z σ H, tS c (sExt i f) Z σ H → tDrop (tBM X.K "list" rExtend (tVar i) (tCons te tNil)) Z σ H := by
  subst et
  rintro Z σ H ⟨F, ρ, xx, E, rel, ⟨q0, q⟩, n, rr, b, t⟩
  obtain ⟨ds0, p0, vs0, g1, g2, g3, g4, _⟩ := ownL_get rel q0
  refine ⟨.ref p0, g2, .inl ⟨rfl, vs0, SqL.of g3⟩, F, ρ, xx, _, rel, q, fun d ρ1 v F1 H1 q1 e1 r1 f1 => ?_⟩
  split at q1
  · rename_i es
    obtain ⟨ds, p, vs, h1, h2, h3, h4, hl, hn⟩ := ownL_get r1 q1
    have ep : p0 = p := by
      rw [g2] at h2
      cases h2
      rfl
    subst ep
    obtain ⟨us, k1, k2⟩ := f1.own.o
    refine ⟨p0, v, vs, us, rfl, rfl, h3, k1, sz (by rw [h4.length, k2.length]; exact hl), ?_⟩
    exact n _ σ F1 _ hn e1 (r1.mut h1 h2 ⟨_, upd_same, h4.append k2⟩)
  · exact q1.elim
theorem dp_ext {x : Str} {i : Nat} {px apos cpos : Pos} {f : DM} (ho : PE X (.Name x px) (tVar i)) (ha : PE X e (tN c f))
    (hbase : attributeBase (.Name x px) "extend" X.env (eval (.Name x px) X.env) = eval (.Name x px) X.env := by rfl)
    (hfew : ((backTo cpos (starEach [e] X.env)).all (fun x => !x.1)
        && (backToKw cpos (keywordEach [] X.env)).all (fun x => x.1.isSome)
      && decide (([e] : List Expr).length + ([] : List Keyword).length
          + (if ([] : List Keyword).isEmpty then 0 else 1) < 30)) = true := by rfl)
    (hline : (apos.endLine == cpos.line) = true := by rfl) (hs : starEach [e] X.env = (false, eval e X.env) :: starEach [] X.env := by rfl) (hplain : (backTo cpos (starEach [] X.env)).any (·.1) = false := by rfl)
    (hsw : swapsWith (.Call (.Attribute (.Name x px) "extend" apos) [e] [] cpos) none pos.line X.env = pure false := by rfl) : PS X (.Expr (.Call (.Attribute (.Name x px) "extend" apos) [e] [] cpos) pos) (tS c (sExt i f)) :=
  PS.to (ps_expr (pe_bm PySem.F.plainAttrs_list PySem.F.slot_list_extend PySem.F.type_list_extend mt_extend ho (pa_cons ha pa_nil hs) hbase hfew hline hs hplain) hsw) (ext_use rfl)
def dPop (i : Nat) : DM := fun ρ P => ownL ρ i fun ds => match ds[ds.length - 1]? with
  | some d => P d (ρ.set i (.ow (.list ds.dropLast)))
  | none => False
theorem de_pop {x : Str} {i : Nat} {px apos cpos : Pos} (ho : PE X (.Name x px) (tVar i))
    (hbase : attributeBase (.Name x px) "pop" X.env (eval (.Name x px) X.env) = eval (.Name x px) X.env := by rfl)
    (hline : (apos.endLine == cpos.line) = true := by rfl) : PE X (.Call (.Attribute (.Name x px) "pop" apos) [] [] cpos) (tD c (dPop i)) := by
  refine PE.to (pe_bm0 PySem.F.plainAttrs_list PySem.F.slot_list_pop PySem.F.type_list_pop mt_pop ho hbase hline) ?_
  rintro σ H Q ⟨F, ρ, xx, P, rel, q, k⟩
  obtain ⟨ds, p, vs, g1, g2, g3, g4, q⟩ := ownL_get rel q
  split at q
  · rename_i d e
    obtain ⟨v, h1, h2⟩ := g4.get e
    refine ⟨.ref p, g2, .inl ⟨rfl, vs, SqL.of g3⟩, p, vs, v, rfl, rfl, g3, by rw [g4.length]; exact h1, ?_⟩
    exact k d _ v F _ q (Ex.refl F) (rel.mut g1 g2 ⟨_, upd_same, g4.dropLast⟩) h2
  · exact q.elim
theorem AtAll.repN {K : PySem.W.Frag} {H : Hp} {vs : List V} {ds : List D} (h : AtAll K H vs ds) : ∀ n : Nat, AtAll K H (List.replicate n vs).flatten (List.replicate n ds).flatten
  | 0 => .nil
  | n + 1 => by
    (rw [List.replicate_succ, List.replicate_succ, List.flatten_cons, List.flatten_cons])
    exact h.append (AtAll.repN h n)
def dRep (f g : DM) : DM := fun ρ P => f ρ fun l ρ1 => g ρ1 fun k ρ2 => match l, k with
  | .list ds, .int z => -(2 ^ 63) ≤ z ∧ z < 2 ^ 63 ∧ ds.length * z.toNat ≤ 1000000 ∧ P (.list (List.replicate z.toNat ds).flatten) ρ2
  | _, _ => False
theorem dn_rep {f g : DM} (ha : PE X a (tN c f)) (hb : PE X b (tD c g)) : PE X (.BinOp a .Mult b pos) (tN c (dRep f g)) := by
  refine PE.to (pe_op op_rep ha hb) ?_
  rintro σ H Q ⟨F, ρ, xx, P, rel, q, k⟩
  refine ⟨F, ρ, xx, _, rel, q, fun l ρ1 p F1 H1 q1 e1 r1 f1 => ?_⟩
  refine ⟨F1, ρ1, (p, XO.d l) :: xx, _, r1.pushX f1, q1, fun k' ρ2 u F2 H2 q2 e2 r2 a2 => ?_⟩
  split at q2
  · cases a2
    obtain ⟨r3, f3⟩ := r2.popX
    obtain ⟨vs, h1, h2⟩ := f3.own.o
    refine ⟨p, _, vs, rfl, rfl, h1, q2.1, q2.2.1, sz (by rw [h2.length]; exact q2.2.2.1), fun p' hp => ?_⟩
    obtain ⟨r4, f4⟩ := Fresh.new (o := .lst (List.replicate _ vs).flatten) (d := .d (.list _)) r3 hp ⟨_, upd_same, h2.repN _⟩
    exact k _ ρ2 p' F2 _ q2.2.2.2 (e1.trans e2) r4 f4
  · exact q2.elim
def okR : D → Prop
  | .none => True
  | .bool _ => True
  | .int i => i.natAbs.log2 < 1920
  | .list xs => nod (.list xs) = true ∧ (PyData.list xs).showable = true ∧ (PyData.list xs).depth ≤ 60 ∧ (PyData.list xs).shown.length ≤ 1000000
  | .tuple xs => nod (.tuple xs) = true ∧ (PyData.tuple xs).showable = true ∧ (PyData.tuple xs).depth ≤ 60 ∧ (PyData.tuple xs).shown.length ≤ 1000000
  | _ => False
def shA : D → Str
  | .none => "None"
  | .bool b => (if b then "True" else "False")
  | .int i => toString i
  | d => d.shown
def gReprA : GC := fun ds P => match ds with
  | [d] => okR d ∧ P (.str (shA d))
  | _ => False
def rRa (K : PySem.W.Frag) : List V → Hp → VK → Prop := fun vs H Q => rRp K vs H Q ∨ ((∃ i : Int, vs = [.int i] ∧ i.natAbs.log2 < 1920 ∧ Q (.str (toString i)) H) ∨ (vs = [.non] ∧ Q (.str "None") H)) ∨ ∃ b, vs = [.bl b] ∧ Q (.str (if b then "True" else "False")) H
theorem call_ra (hg : X.A.guards = some []) (hu : X.A.units + 64 < cLine) : CallR X (.builtin "repr") (rRa X.K) := by
  (intro pins s σ H xs us Q I r h)
  rcases h with h | h | h
  · exact call_rp hg hu pins s σ H xs us Q I r h
  · exact call_reprI pins s σ H xs us Q I r h
  · exact call_reprB pins s σ H xs us Q I r h
theorem sem_reprA (hK : X.K = c.K) (hg : X.A.guards = some []) (hu : X.A.units + 64 < cLine) : SemC X c (.builtin "repr") gReprA := by
  refine ⟨_, call_ra hg hu, fun F H σ ρ xx ds vs P Q r bs g k => ?_⟩
  have key : ∀ d, ds = [d] → (∀ v, Bo c F H v d → ∃ a, v = .ref a) → (nod d = true ∧ d.showable = true ∧ d.depth ≤ 60 ∧ d.shown.length ≤ 1000000) → P (.str d.shown) → rRp X.K vs H Q := fun d hds hv gd gp => by
    subst hds
    obtain ⟨v, rfl, b⟩ := pr1 bs
    obtain ⟨a, rfl⟩ := hv v b
    obtain ⟨g1, g2, g3, g4⟩ := gd
    have a1 := (b.at r.w.fh).dp g1
    rw [← hK] at a1
    exact ⟨a, d, rfl, a1, g1, g2, g3, g4, k _ _ F H gp (Ex.refl F) r (.str _)⟩
  unfold gReprA at g
  split at g
  · rename_i d
    obtain ⟨g, gp⟩ := g
    cases d with
    | none =>
      obtain ⟨v, rfl, b⟩ := pr1 bs
      have e : v = .non := of_decide_eq_true (isN_dec b)
      subst e
      exact .inr (.inl (.inr ⟨rfl, k _ _ F H gp (Ex.refl F) r (.str _)⟩))
    | bool b =>
      obtain ⟨v, rfl, b⟩ := pr1 bs
      cases bo_bl b
      exact .inr (.inr ⟨_, rfl, k _ _ F H gp (Ex.refl F) r (.str _)⟩)
    | int i =>
      obtain ⟨v, rfl, b⟩ := pr1 bs
      cases bo_int b
      exact .inr (.inl (.inl ⟨_, rfl, g, k _ _ F H gp (Ex.refl F) r (.str _)⟩))
    | list xs =>
      refine .inl (key _ rfl (fun v b => ?_) g gp)
      rcases ref_of_bo b with z | ⟨z, _⟩ | ⟨_, z, _⟩ | ⟨_, z, _⟩ | ⟨_, z, _⟩
      · exact z
      all_goals cases z
    | tuple xs =>
      refine .inl (key _ rfl (fun v b => ?_) g gp)
      rcases ref_of_bo b with z | ⟨z, _⟩ | ⟨_, z, _⟩ | ⟨_, z, _⟩ | ⟨_, z, _⟩
      · exact z
      all_goals cases z
    | str x => exact g.elim
    | dict kd => exact g.elim
  · exact g.elim
end
end DL
namespace DL
open PySem L2 PySem.Spec PyProof.Rows
theorem lawG {pr : Program} {wd : PySem.World} {K : PySem.W.Frag} {gl gb : PySem.Str → Option Value} {k : Nat} {fa a : Addr} {fd : FuncData} {x : PySem.Str} {sp : Sp} {s : Shared} {vs : List Value} {ns : List Int}
    (inK : K.In s.heap) (nsG : s.heap.Ns mainGlobals gl) (nsB : s.heap.Ns builtinsNs gb) (bb : ∀ y : PySem.Str, y ≠ "__name__" → gb y = bootBuiltins y) (lim : s.heap.NoLimit) (gen : s.gens = #[])
    (ha : s.heap.get? a = some { cls := .type "list", data := .seq vs.toArray }) (hi : IntsAre vs ns) (hl : ns.length ≤ sizeLine) (room : Room k callerA)
    (F : ∀ bas : Heap, K.In bas → bas.Ns mainGlobals gl → FnG pr wd K gl bas k fa fd [x] sp) (bind : ∀ (s : Shared) (u : Value), BindsTo s fd ⟨[u], []⟩ [(x, u)])
    (says : ∀ H : Hp, SqL K H a (ns.map V.int) → sp [.ref a] H (fun v _ => v = .bl true) fun _ _ _ => False) :
    codeAny (model pr wd) callerA (.call (.ref fa) ⟨[.ref a], []⟩) (fun r s' => r = .ok (.ret (.bool true)) ∧ OldK s.heap s'.heap ∧ s'.os = s.os ∧ AllBare s'.gens) s := by
  have vals := L2.vals_ints hi
  -- the heap H that the def sees: nothing, or the script alone, which stays as it is
  have run : ∀ (H : Hp), (∀ b o, H b = some o → b = a ∧ ∃ ob xs, o = .frz ob (.lst xs)) → SqL K H a (ns.map V.int) → HOk pr wd H s.heap → (H a ≠ none → K.lookup a = none) →
      codeAny (model pr wd) callerA (.call (.ref fa) ⟨[.ref a], []⟩) (fun r s' => r = .ok (.ret (.bool true)) ∧ OldK s.heap s'.heap ∧ s'.os = s.os ∧ AllBare s'.gens) s := by
    intro H only sq hok notK
    have plain : ∀ {b : Addr} {o : Obj}, s.heap.get? b = some o → (∀ es n, o.data = .dict es n → H b = none) := by
      intro b o e es n ed
      cases z : H b with
      | none => rfl
      | some u =>
        obtain ⟨rfl, _⟩ := only b u z
        rw [ha] at e
        cases e
        exact absurd (ed : Data.seq vs.toArray _ = Data.dict es n) (fun y => by cases y)
    have nsOf : ∀ {b : Addr} {m : PySem.Str → Option Value}, s.heap.Ns b m → (hidT s.heap H).Ns b m := by
      rintro b m ⟨o, es, n, e, ed, r⟩
      exact ⟨o, es, n, hidT_get e (plain e es n ed), ed, r⟩
    have inB : K.In (hidT s.heap H) := by
      intro b o e
      refine hidT_get (inK b o e) ?_
      cases z : H b with
      | none => rfl
      | some u =>
        obtain ⟨rfl, _⟩ := only b u z
        rw [notK (by rw [z]; exact Option.some_ne_none u)] at e
        cases e
    obtain ⟨mc, l1, l2⟩ := lim
    have md : Mod K gl (hidT s.heap H) := ⟨inB, nsOf nsG, ⟨gb, nsOf nsB, bb⟩, ⟨mc, nsOf l1, l2⟩⟩
    have env : Env0 pr wd K gl (hidT s.heap H) callerA [] s H := ⟨rfl, md, fun b o e => of_hidT e, Nat.le_of_eq (hidT_size _ _), trivial, fun b hb => (nomatch hb), hok, .of_eq gen⟩
    refine codeAny_mono ((F _ inB (nsOf nsG)).go callerA [] s H ⟨[.ref a], []⟩ [.ref a] [.ref a] _ _ rfl room env (bind s (.ref a)) (.cons rfl .nil) (says H sq)) ?_
    intro r s' z
    match r, z with
    | .error e, z => exact (z : False).elim
    | .ok (.ret u), ⟨v, H', os, bare, un, hok', rv, q⟩ =>
      have q : v = .bl true := q
      subst q
      cases (show u = Value.bool true from rv)
      refine ⟨rfl, OldK.of_keep ?_, os, bare⟩
      intro b o e
      cases z : H b with
      | none => exact un.keep b o e z (fun y => nomatch y) (by simp)
      | some u =>
        obtain ⟨_, ob, xs, rfl⟩ := only b u z
        obtain ⟨p1, _⟩ := hok b _ z
        obtain ⟨p2, _⟩ := hok' b _ (un.frzs b ob _ z)
        rw [e] at p1
        cases p1
        exact p2
  have len := hi.length
  cases z : K.lookup a with
  | some o =>
    have e := inK a o z
    rw [ha] at e
    cases e
    refine run (fun _ => none) (fun _ _ e => nomatch e) (.inr ⟨_, vs.toArray, _, z, rfl, rfl, rfl, ?_, by simpa using vals⟩) (fun _ _ e => nomatch e) fun e => absurd rfl e
    rw [List.size_toArray, len]
    exact hl
  | none =>
    have at1 : ∀ o, (fun b => if b = a then some (HO.frz { cls := .type "list", data := .seq vs.toArray } (.lst (ns.map V.int))) else none) a = some o → o = HO.frz { cls := .type "list", data := .seq vs.toArray } (.lst (ns.map V.int)) := by
      intro o e
      have e : (if a = a then some (HO.frz { cls := .type "list", data := .seq vs.toArray } (.lst (ns.map V.int))) else none) = some o := e
      rw [if_pos rfl] at e
      exact (Option.some.inj e).symm
    refine run (fun b => if b = a then some (HO.frz { cls := .type "list", data := .seq vs.toArray } (.lst (ns.map V.int))) else none) (fun b o e => ?_) (.inl (.inr ⟨{ cls := .type "list", data := .seq vs.toArray }, if_pos rfl⟩)) (fun b o e => ?_) fun _ => z
    · by_cases h : b = a
      · subst h
        exact ⟨rfl, _, _, at1 o e⟩
      · have e : (if b = a then some (HO.frz { cls := .type "list", data := .seq vs.toArray } (.lst (ns.map V.int))) else none) = some o := e
        rw [if_neg h] at e
        cases e
    · by_cases h : b = a
      · subst h
        rw [at1 o e]
        exact ⟨ha, by rw [List.length_map]; exact hl, vs, _, vals, ha⟩
      · have e : (if b = a then some (HO.frz { cls := .type "list", data := .seq vs.toArray } (.lst (ns.map V.int))) else none) = some o := e
        rw [if_neg h] at e
        cases e
theorem walkG {l : PySem.W.OpenLaw} {n k : Nat} {q : Program} {loose : List PySem.Str} {XP : (PySem.Str → Option Value) → Heap → Prop} {YP : PySem.World → Heap → Prop} {d : DefRec} {K : Params → PySem.W.Frag} {sp : PySem.World → Sp} {x : PySem.Str}
    (hn : l.most = some n) (hn2 : n ≤ sizeLine) (hdf : d.params.defaults = []) (room : Room k callerA) (hY : ∀ (wd : PySem.World) (h : Heap), YP wd h → (K wd.params).In h)
    (F : ∀ (wd : PySem.World) (gl : PySem.Str → Option Value) (fa : Addr) (h : Heap), (K wd.params).In h → h.Ns mainGlobals gl → gl d.name = some (.ref fa) →
      ∃ fd : FuncData, (∀ (s : Shared) (u : Value), BindsTo s fd ⟨[u], []⟩ [(x, u)]) ∧ ∀ bas : Heap, (K wd.params).In bas → bas.Ns mainGlobals gl → FnG l.prog wd (K wd.params) gl bas k fa fd [x] (sp wd))
    (says : ∀ (wd : PySem.World) (H : Hp) (a : Addr) (ns : List Int), ns.length ≤ n → SqL (K wd.params) H a (ns.map V.int) → sp wd [.ref a] H (fun v _ => v = .bl true) fun _ _ _ => False) :
    PySem.W.WalkO q loose XP YP l.row.toRowW d [] (fun f vs => PySem.call f vs)
      := by
  refine Att.attach_callB hn hdf ?_
  intro wd s0 s1 gl gb fa o pm cd doc a vs ns G Y ho hd hcd hgl hobj hints hlen _ hg
  obtain ⟨fd, hb, hF⟩ := F wd gl fa _ (hY wd _ Y) G.T.g hgl
  exact lawG (hY wd _ Y) G.T.g G.T.b G.T.builtins G.T.nolimit hg hobj hints (Nat.le_trans hlen hn2) room hF hb fun H sq => says wd H a ns hlen sq
end DL
namespace DL
open PySem L2
structure FnX (pr : Program) (wd : PySem.World) (K : PySem.W.Frag) (gl : Str → Option Value) (bas : Heap) (k : Nat) (f : Addr) (fd : FuncData) (ps : List Str) (sp : Sp) : Prop where
  many : ∀ vs H Q E, sp vs H Q E → vs.length = ps.length
  go : ∀ (A : Around) (out : List PySem.Env) (sh : Shared) (H : Hp) (ar : Args) (us : List Value) (vs : List V) (Q : VK) (E : XK), A.guards = some [] → Room k A →
    Env0 pr wd K gl bas A out sh H → BindsTo sh fd ar (ps.zip us) → Vals vs us → sp vs H Q E → codeAny (model pr wd) A (.call (.ref f) ar) (CR (L2.CX pr wd) out pr wd H sh Q E) sh
theorem FnX.more {pr : Program} {wd : PySem.World} {K : PySem.W.Frag} {gl : Str → Option Value} {bas : Heap} {j k : Nat} {f : Addr} {fd : FuncData} {ps : List Str} {sp : Sp} (F : FnX pr wd K gl bas j f fd ps sp) (h : j ≤ k) : FnX pr wd K gl bas k f fd ps sp :=
  ⟨F.many, fun A out sh H ar us vs Q E g r => F.go A out sh H ar us vs Q E g (r.mono h)⟩
theorem FnX.of {pr : Program} {wd : PySem.World} {K : PySem.W.Frag} {gl : Str → Option Value} {bas : Heap} {k : Nat} {f : Addr} {x qual : Str} {st : Stmt} {fd : FuncData} {N ps : List Str} {sp : Sp} (F : L2.Fun K x qual st f fd) (S : FnScope N ps (defScope st))
    (len : (∀ vs H Q E, sp vs H Q E → vs.length = ps.length))
    (body : ∀ (cdv : Value) (A : Around) (out : List PySem.Env) (sh : Shared) (H : Hp) (vs : List V) (Q : VK) (E : XK), A.guards = some [] → Room k (A.deeper (PyProof.Rows.envOfC qual (defScope st) sh.heap.objs.size f cdv)) → sp vs H Q E →
      ∃ t, PSs (cxOf (L2.CX pr wd) pr wd K gl bas N qual (defScope st) f cdv A out sh H E) (defBody st) t ∧ t { nx := fun _ H' => Q .non H', rt := Q } (start N vs) H) : FnX pr wd K gl bas (k + 1) f fd ps sp := by
  obtain ⟨oc, od, kV, doc, pm, an, cdv, ct, osl, efd, lk, hc⟩ := F.ex
  refine ⟨len, fun A out sh H ar us vs Q E hg room env bnd vals says => ?_⟩
  have heapK : K.In sh.heap := PySem.W.Frag.In.keeps env.mod.kin fun b o e => (env.bs b o e).1
  have noLim : sh.heap.NoLimit := Heap.NoLimit.keeps env.mod.nolimit fun b o e => (env.bs b o e).1
  have kinds : ∀ y ∈ ps.zip us, (defScope st).names.lookup y.1 = some .local ∨ ((defScope st).names.lookup y.1 = some .cell ∧ ((cellsFrom (sh.heap.objs.size + 1) (defScope st).names []).lookup y.1).isSome = true) := by
    rintro ⟨n, v⟩ hy
    exact (S.par n (List.of_mem_zip hy).1).imp id fun q => ⟨q, PySem.W.cellsFrom_some _ _ _ (.inl q)⟩
  rw [efd] at lk bnd
  refine codeAny_call_function room.depth (heapK _ _ lk) rfl S.co S.gen rfl (PySem.W.codeRec_of heapK hc) (bnd _ _ _ _ (wpAny_newFunctionEnv_cells S.kind kinds ?_))
  intro env1 he s1 xc
  subst he
  refine ⟨noLim.keeps xc.toInCall.keep, codeAny_func ?_⟩
  obtain ⟨t, ht, hq⟩ := body cdv A out sh H vs Q E hg (room.deeper _) says
  have inv : Inv (cxOf (L2.CX pr wd) pr wd K gl bas N qual (defScope st) f cdv A out sh H E) [] (start N vs) H s1 := inv_start S room.hd env (len _ _ _ _ says) vals xc
  refine wpAny_mono (ht.run [] s1 (start N vs) H _ inv hq) ?_ fun _ _ z => z
  intro fl s2 hs
  cases fl with
  | ret u =>
    (obtain ⟨v, σ', H', J, rv, q⟩ := hs)
    exact ⟨v, H', J.os, J.bare, J.base, J.hok, rv, q⟩
  | next =>
    obtain ⟨σ', H', J, q⟩ := hs
    exact ⟨V.non, H', J.os, J.bare, J.base, J.hok, rfl, q⟩
  | brk => exact (hs.choose_spec.choose_spec.2 : False).elim
  | cont => exact (hs.choose_spec.choose_spec.2 : False).elim
section
variable {X : Cx} {k : Nat} {f : Addr} {fd : FuncData} {ps : List Str} {sp : Sp} {E : L2.St → XK} {x : Str} {p pos : Pos} {e : Expr} {es : List Expr} {t : TA}
theorem pe_callX (F : FnX X.prog X.w X.K X.mg X.base k f fd ps sp) (hg : X.A.guards = some []) (hr : Room k X.A) (gx : Gl X x) (hm : X.mg x = some (.ref f)) (hk : PySem.W.keepIn X.K (.ref f) = true) (hb : Binds X.K fd ps []) (hx : ∀ σ, PassesAt (L2.CX X.prog X.w) X σ (E σ))
    (ha : PA X (e :: es) t) (hdb : (x == ("__debug__" : Str)) = false := by decide)
    (he : starEach (e :: es) X.env = (false, eval e X.env) :: starEach es X.env
      := by rfl)
    (hpl : (backTo pos (starEach es X.env)).any (·.1) = false
      := by rfl) :
    PE X (.Call (.Name x p) (e :: es) [] pos)
      (tCallS sp E t) := by
  constructor
  intro pins s σ H Q I h
  refine wpAny_Call_Name_kw (ld_glob I gx hm (PySem.W.callWith_K (h₀ := X.base) I.ok.mod.kin hk (thn (ha.run pos pins s σ H _ I h) ?_) he hpl) hdb)
  rintro us s1 ⟨vs, H1, I1, r, q⟩
  refine ⟨I1.kIn, ?_⟩
  have hl : us.length = ps.length := by rw [← r.length]; exact F.many _ _ _ _ q
  have bd := hb s1 us I1.kIn (by rw [List.append_nil]; exact hl)
  rw [List.append_nil] at bd
  refine wpAny_call (codeAny_mono (F.go X.A X.stack s1 H1 ⟨us, []⟩ us vs Q _ hg hr I1.env0 bd r q) ?_)
  intro res s' hq
  match res, hq with
  | .error er, z => exact hx σ pins H1 s1 er s' I1 z
  | .ok (.ret u), z => exact I1.after z
end
structure Exn where
  c : Str
  v : Option (Str × D)
def ExAt (gl : Str → Option Value) (K : PySem.W.Frag) (F H : Hp) (x : Exn) (cls : Value) (d : Option Addr) : Prop :=
  ∃ C, gl x.c = some (.ref C) ∧ cls = .ref C ∧ match x.v with
    | none => d = none
    | some (f, y) => ∃ a v, d = some a ∧ H a = some (.xd [(f, v)]) ∧ At K F v y
abbrev SpX := List Ar → Nat → (D → Nat → Prop) → (Exn → Nat → Prop) → Prop
def spX (K : PySem.W.Frag) (gl : Str → Option Value) (R : Orc) (n : Nat) (S : SpX) : Sp := fun vs H Q E => ∃ (q : Option Addr) (F : Hp) (as : List Ar) (m : Nat) (P : D → Nat → Prop) (PX : Exn → Nat → Prop),
  World R q F H F H ∧ Paired (ArAt ⟨K, R, q, F, H⟩ F) vs as ∧ as.length = n ∧ oraAt as ∧ (q = none ∨ as[0]? = some .ora) ∧ (∀ p, q = some p → R.cnt p H ≤ m) ∧ S as m P PX ∧
  (∀ d m' v F' H', P d m' → World R q F H F' H' → (∀ p, q = some p → R.cnt p H' ≤ m') → At K F' v d → Q v H') ∧
  ∀ x m' cls dd F' H', PX x m' → World R q F H F' H' → (∀ p, q = some p → R.cnt p H' ≤ m') → ExAt gl K F' H' x cls dd → E cls dd H'
/-- the wish of a frame about exceptions -/
def wx (gl : Str → Option Value) (c : Cn) (px : Exn → Env → Prop) : WX := fun cls dd σ H => ∃ F ρ xx x, Rel c F H σ ρ xx ∧ px x ρ ∧ ExAt gl c.K F H x cls dd
def dCallX (n : Nat) (S : SpX) (px : Exn → Env → Prop) (f : AM) : DM := fun ρ P => f ρ fun as ρ1 => as.length = n ∧ as.all isD = true ∧ S as 0 (fun d _ => P d ρ1) (fun x _ => px x ρ1)
def CdX (pr : Program) (wd : PySem.World) (K : PySem.W.Frag) (gl : Str → Option Value) (bas : Heap) (R : Orc) (k : Nat) (x : Str) (n : Nat) (S : SpX) : Prop :=
  ∃ (f : Addr) (fd : FuncData) (ps : List Str), FnX pr wd K gl bas k f fd ps (spX K gl R n S) ∧ gl x = some (.ref f) ∧ PySem.W.keepIn K (.ref f) = true ∧ Binds K fd ps []
theorem CdX.more {pr : Program} {wd : PySem.World} {K : PySem.W.Frag} {gl : Str → Option Value} {bas : Heap} {R : Orc} {j k : Nat} {x : Str} {n : Nat} {S : SpX} (C : CdX pr wd K gl bas R j x n S) (h : j ≤ k) : CdX pr wd K gl bas R k x n S := by
  obtain ⟨f, fd, ps, F, a, b, d⟩ := C
  exact ⟨f, fd, ps, F.more h, a, b, d⟩
theorem de_cdX {X : Cx} {c : Cn} {k n : Nat} {S : SpX} {px : Exn → Env → Prop} {x : Str} {p pos : Pos} {e : Expr} {es : List Expr} {fa : AM} (tk : Takes X (wx X.mg c px)) (C : CdX X.prog X.w X.K X.mg X.base c.R k x n S) (hK : X.K = c.K) (hg : X.A.guards = some []) (hr : Room k X.A) (gx : Gl X x)
    (ha : PA X (e :: es) (tAr c fa)) (hdb : (x == ("__debug__" : Str)) = false := by decide) (he : starEach (e :: es) X.env = (false, eval e X.env) :: starEach es X.env := by rfl) (hpl : (backTo pos (starEach es X.env)).any (·.1) = false := by rfl) :
    PE X (.Call (.Name x p) (e :: es) [] pos) (tD c (dCallX n S px fa)) := by
  obtain ⟨f, fd, ps, F, hm, hk, hb⟩ := C
  refine PE.to (pe_callX F hg hr gx hm hk hb (fun σ => passAt tk σ) ha hdb he hpl) ?_
  rintro σ H Q ⟨F0, ρ, xx, P, rel, q, k0⟩
  refine ⟨F0, ρ, xx, _, rel, q, ?_⟩
  rintro as ρ1 vs F1 H1 ⟨hl, hd, hs⟩ e1 r1 pr
  have w0 : World c.R none F1 H1 F1 H1 := World.start r1.w.fh (fun _ _ z => z) fun _ z => nomatch z
  have pr' : Paired (ArAt ⟨X.K, c.R, none, F1, H1⟩ F1) vs as := by
    clear hs hl
    induction pr with
    | nil => exact .nil
    | @cons v a vs' as' h1 h2 ih =>
      (simp only [List.all_cons, Bool.and_eq_true] at hd)
      cases a with
      | d y =>
        refine .cons ?_ (ih hd.2)
        show At X.K F1 v y
        rw [hK]
        exact h1
      | ora => cases hd.1
  refine ⟨none, F1, as, 0, _, _, w0, pr', hl, fun i z => absurd z (all_isD hd i), .inl rfl, (fun _ z => nomatch z), hs, ?_, ?_⟩
  · intro d m' v F2 H2 pd wd _ at_
    rw [hK] at at_
    exact k0 d ρ1 v F2 H2 pd (e1.trans wd.ff) (r1.stepN wd) at_
  · intro x m' cls dd F2 H2 pd wd _ at_
    rw [hK] at at_
    exact ⟨F2, ρ1, xx, x, r1.stepN wd, pd, at_⟩
/-- what a body says, with its exceptions -/
def rawX (g : (Exn → Env → Prop) → SM) (N : Nat) : SpX := fun as m P PX =>
  g (fun x ρ => match ρ[0]? with
    | some (Sl.ora m') => PX x m'
    | _ => as.head?.map isD ≠ some false ∧ PX x 0)
  ⟨fun (ρ : DL.Env) => match ρ[0]? with
    | some (Sl.ora m') => P .none m'
    | _ => as.head?.map isD ≠ some false ∧ P .none 0,
  fun (d : D) (ρ : DL.Env) => match ρ[0]? with
    | some (Sl.ora m') => P d m'
    | _ => as.head?.map isD ≠ some false ∧ P d 0, fun _ => False, fun _ => False⟩ (startE N as m)
theorem FnX.data {pr : Program} {wd : PySem.World} {K : PySem.W.Frag} {gl : Str → Option Value} {bas : Heap} {k n : Nat} {f : Addr} {x qual : Str} {st : Stmt} {fd : FuncData} {N ps : List Str} {R : Orc} {g : (Exn → Env → Prop) → SM} (F : L2.Fun K x qual st f fd) (Sc : FnScope N ps (defScope st)) (hn : n = ps.length)
    (body : ∀ (cdv : Value) (A : Around) (out : List PySem.Env) (sh : Shared) (H : Hp) (E : XK) (q : Option Addr) (F : Hp) (px : Exn → Env → Prop), A.guards = some [] → Room k (A.deeper (PyProof.Rows.envOfC qual (defScope st) sh.heap.objs.size f cdv)) →
      Takes (cxOf (L2.CX pr wd) pr wd K gl bas N qual (defScope st) f cdv A out sh H E) (wx gl ⟨K, R, q, F, H⟩ px) →
      PSs (cxOf (L2.CX pr wd) pr wd K gl bas N qual (defScope st) f cdv A out sh H E) (defBody st) (tS ⟨K, R, q, F, H⟩ (g px))) : FnX pr wd K gl bas (k + 1) f fd ps (spX K gl R n (rawX g N.length)) := by
  refine FnX.of F Sc (fun vs H Q E ⟨q, F0, as, m, P, PX, w, pa, hl, _⟩ => by rw [paired_len pa, hl, hn]) fun cdv A out sh H vs Q E hg hr ⟨q, F0, as, m, P, PX, w, pa, hl, ho, hq, hm, says, k0, kx⟩ => ?_
  have cnt : ∀ {ρ' : DL.Env} {σ' : L2.St} {F' H' : Hp} {xx : XX} {PP : Nat → Prop}, (match ρ'[0]? with
      | some (Sl.ora m') => PP m'
      | _ => as.head?.map isD ≠ some false ∧ PP 0) → Rel ⟨K, R, q, F0, H⟩ F' H' σ' ρ' xx → ∃ m', PP m' ∧ ∀ z, q = some z → R.cnt z H' ≤ m' := by
    intro ρ' σ' F' H' xx PP p r
    split at p
    · rename_i m' e
      obtain ⟨y, h1, _, h3⟩ := r.s.or 0 m' e
      refine ⟨m', p, fun z hz => ?_⟩
      have h1' : q = some y := h1
      rw [hz] at h1'
      cases h1'
      exact h3
    · obtain ⟨p1, p2⟩ := p
      have qn : q = none := hq.resolve_right fun z => p1 (by
        cases as with
        | nil => cases z
        | cons b t => cases z; rfl)
      exact ⟨0, p2, fun z hz => by rw [qn] at hz; cases hz⟩
  have fin : ∀ (d : D) (v : V) (ρ' : DL.Env) (σ' : L2.St) (F' H' : Hp), (match ρ'[0]? with
      | some (Sl.ora m') => P d m'
      | _ => as.head?.map isD ≠ some false ∧ P d 0) → Rel ⟨K, R, q, F0, H⟩ F' H' σ' ρ' [] → At K F' v d → Q v H' := by
    intro d v ρ' σ' F' H' p r a
    obtain ⟨m', h1, h2⟩ := cnt (PP := P d) p r
    exact k0 d m' v F' H' h1 r.w h2 a
  refine ⟨_, body cdv A out sh H E q F0 (fun x ρ => match ρ[0]? with
    | some (Sl.ora m') => PX x m'
    | _ => as.head?.map isD ≠ some false ∧ PX x 0) hg hr ?_, F0, _, [], _, rel_start w pa ho hm, says, ?_, ?_, ?_, ?_⟩
  · refine (takes_of (E := E) rfl rfl rfl rfl).imp fun cls dd σ H' ⟨F', ρ', xx, x, r, p, a⟩ => ?_
    obtain ⟨m', h1, h2⟩ := cnt (PP := PX x) p r
    exact kx x m' cls dd F' H' h1 r.w h2 a
  · exact fun ρ' σ' F' H' p e r => fin .none .non ρ' σ' F' H' p r .non
  · exact fun d v ρ' σ' F' H' p r a => fin d v ρ' σ' F' H' p r a
  · exact fun ρ' σ' F' H' p => p.elim
  · exact fun ρ' σ' F' H' p => p.elim
section
variable {X : Cx} {C : Addr} {x : Str} {p pos : Pos} {e : Expr} {es : List Expr} {ta : TA}
/-- a heap without the object a -/
abbrev Less (a : Addr) (h g : Heap) : Prop := g.get? a = none ∧ ∀ b, b ≠ a → g.get? b = h.get? b
theorem less_of (h : Heap) (a : Addr) : ∃ g, Less a h g := (restrict h fun b => decide (b ≠ a)).imp fun _ q => ⟨q.2 a (decide_eq_false fun z => z rfl), fun b z => q.1 b (decide_eq_true z)⟩
/-- what changed, told without an object that was not there before -/
theorem un_less {fs : List Addr} {o : HO} {H1 H2 : Hp} {hp hp2 h2 g : Heap} {a : Addr} (l : Less a h2 g) (new : H1 a = none) (young : hp.objs.size ≤ a) (k : ∀ b o, hp.get? b = some o → hp2.get? b = some o) (u : Un fs [] (upd H1 a o) H2 hp2 h2) : Un fs [] H1 (del H2 a) hp g := by
  have ne : ∀ {b z}, hp.get? b = some z → b ≠ a := fun {b z} q e => absurd (Heap.lt_size q) (Nat.not_lt.mpr (e ▸ young))
  have up : ∀ {b}, b ≠ a → upd H1 a o b = H1 b := fun {b} z => upd_ne z
  have nn : ∀ {b u}, H1 b = some u → b ≠ a := fun {b u} q e => by
    rw [e, new] at q
    cases q
  constructor
  case keep => exact fun b z q n f x => (l.2 b (ne q)).trans (u.keep b z (k b z q) ((up (ne q)).trans n) f x)
  case slot => exact fun b z q n f x => (u.slot b z (k b z q) ((up (ne q)).trans n) f x).imp fun _ e => (l.2 b (ne q)).trans e
  case there => exact fun b z q x => (u.there b z (k b z q) x).imp fun _ e => (l.2 b (ne q)).trans e
  case free => exact fun b z q n x => (del_ne (ne q)).trans (u.free b z (k b z q) ((up (ne q)).trans n) x)
  case tups => exact fun b xs q => (del_ne (nn q)).trans (u.tups b xs ((up (nn q)).trans q))
  case frzs => exact fun b z v q => (del_ne (nn q)).trans (u.frzs b z v ((up (nn q)).trans q))
  case tbls =>
    intro b ps q
    rw [del_ne (nn q)]
    exact u.tbls b ps ((up (nn q)).trans q)
/-- and what is known of the objects, if none is this one's and it is no tuple -/
theorem hok_less {P : Program} {w : PySem.World} {H : Hp} {h g : Heap} {a : Addr} {o : HO} (l : Less a h g) (ea : H a = some o) (no : ∀ x, o ≠ .own x) (nt : ∀ xs, o ≠ .tup xs) (ok : HOk P w H h) : HOk P w (del H a) g := by
  intro b u q
  have ne : b ≠ a := fun e => by rw [e, del_same] at q; cases q
  have lend : ∀ {c v}, H c = some (.own v) → c ≠ a := fun z => at_ne ea z (no _)
  refine (ok b u ((del_ne ne).symm.trans q)).stay ?_ (fun c z => (del_ne (lend z)).trans z) fun c xs z => (del_ne (at_ne ea z (nt xs))).trans z
  rintro c v (rfl | z) e
  · exact (l.2 _ ne).trans e
  · exact (l.2 _ (lend z)).trans e
theorem mk_bare {pins : List (Addr × Obj)} {σ : L2.St} {H1 H2 : Hp} {Q : XK} {s1 s2 : Shared} {hp2 : Heap} {a : Addr} (T : Raises X (.ref C)) (I1 : Inv X pins σ H1 s1) (young : s1.heap.objs.size ≤ a) (k : ∀ b o, s1.heap.get? b = some o → hp2.get? b = some o)
    (un : Un (frs X.stack) [] (upd H1 a (exo a C none)) H2 hp2 s2.heap) (hok : HOk X.prog X.w H2 s2.heap) (ho : s2.os = s1.os) (hb : PyProof.Rows.AllBare s2.gens) (ea : H2 a = some (exo a C none)) (q : Q (.ref C) none (del H2 a)) : MkP X pins σ Q (.ref a) s2 := by
  obtain ⟨g, l⟩ := less_of s2.heap a
  obtain ⟨t, at_⟩ := exo_at hok ea
  have J : Inv X pins σ (del H2 a) { s2 with heap := g } := I1.call' (ch := []) ho (un_less l (I1.hok.fresh young) young k un) (hok_less l ea (fun _ => exo_own) (fun _ => exo_tup) hok) hb fun _ z => nomatch z
  refine ⟨a, _, _, { s2 with heap := g }, _, .ref C, none, rfl, J, fun b o z => ?_, l.1, at_, ⟨rfl, rfl⟩, rfl, rfl, del_same, rfl, hb, T, q⟩
  exact (l.2 b fun e => by rw [e, l.1] at z; cases z).symm.trans z
/-- a new exception with its arguments -/
abbrev exH (hp : Heap) (us : List Value) (C : Addr) : Heap := (hp.push (PySem.W.kdv_tup us)).push (PySem.HandSPX.excO C hp.objs.size)
/-- C(..) runs C's own __init__ on a new exception -/
def Makes (X : Cx) (C fI : Addr) : Prop := ∀ {A : Around} {R : Result → Shared → Prop} {s : Shared} {us : List Value}, X.K.In s.heap → us.length ≤ sizeLine →
  codeAny (model X.prog X.w) (A.under (.builtin "type.__call__" ⟨.ref C :: us, []⟩)) (.call (.ref fI) ⟨.ref (s.heap.objs.size + 1) :: us, []⟩) (PySem.W.InitBack (s.heap.objs.size + 1) R) { s with heap := exH s.heap us C } → codeAny (model X.prog X.w) A (.call (.ref C) ⟨us, []⟩) R s
/-- what __init__ is to do with it: it gets a dict, or it gets none -/
def tMk (C : Addr) (sp : Sp) (ta : TA) : L2.St → Hp → XK → Prop := fun σ H Q => ta σ H fun vs H1 => vs.length ≤ 1000 ∧ ∀ a, H1 a = none → sp (.ref a :: vs) (upd H1 a (exo a C none))
  (fun v H2 => v = .non ∧ ((∃ (d : Addr) (fs : List (Str × V)), H2 a = some (exo a C (some d)) ∧ H2 d = some (exd d fs) ∧ H1 d = none ∧ Q (.ref C) (some d) (upd (del H2 a) d (.xd fs))) ∨ (H2 a = some (exo a C none) ∧ Q (.ref C) none (del H2 a)))) (fun _ _ _ => False)
theorem pmk_by {fI : Addr} {k : Nat} {fd : FuncData} {ps : List Str} {sp : Sp} (makes : Makes X C fI) (T : Raises X (.ref C)) (kC : PySem.W.keepIn X.K (.ref C) = true)
    (F1 : FnOk X.prog X.w X.K X.mg X.base CX0 k fI fd ps sp) (hr : Room (k + 1) X.A) (hb : Binds X.K fd ps []) (hg : Gl X x) (hm : X.mg x = some (.ref C)) (ha : PA X (e :: es) ta)
    (hdb : (x == ("__debug__" : Str)) = false := by decide)
    (he : starEach (e :: es) X.env = (false, eval e X.env) :: starEach es X.env := by rfl)
    (hpl : (backTo pos (starEach es X.env)).any (·.1) = false := by rfl) : PMk X (.Call (.Name x p) (e :: es) [] pos) (tMk C sp ta) := by
  intro pins s σ H Q I h
  refine wpAny_Call_Name_kw (ld_glob I hg hm (PySem.W.callWith_K (h₀ := X.base) I.ok.mod.kin kC (thn (ha.run pos pins s σ H _ I h) ?_) he hpl) hdb)
  rintro us s1 ⟨vs, H1, I1, r, few, q⟩
  have young : s1.heap.objs.size ≤ s1.heap.objs.size + 1 := Nat.le_succ _
  have stays : ∀ b o, s1.heap.get? b = some o → (exH s1.heap us C).get? b = some o := fun b o z => Heap.get?_push_of_some _ (Heap.get?_push_of_some _ z)
  have J : Inv X pins σ (upd H1 (s1.heap.objs.size + 1) (exo (s1.heap.objs.size + 1) C none)) { s1 with heap := exH s1.heap us C } := I1.laid (t' := s1.toks) stays young (exo_ok (t1 := s1.heap.objs.size) (by heap_get))
  have says := q _ (I1.hok.fresh young)
  have vals : Vals (V.ref (s1.heap.objs.size + 1) :: vs) (Value.ref (s1.heap.objs.size + 1) :: us) := .cons rfl r
  have bd := hb { s1 with heap := exH s1.heap us C } _ J.kIn (by rw [List.append_nil, ← vals.length, F1.len _ _ _ _ says])
  rw [List.append_nil] at bd
  have fits : us.length ≤ sizeLine := by
    rw [sizeLine_eq, ← r.length]
    omega
  refine ⟨I1.kIn, wpAny_call (makes I1.kIn fits (codeAny_mono (F1.run _ X.stack _ _ ⟨_, []⟩ _ _ _ (fun _ _ _ => False) (hr.make C us []) (J.env0.make C us []) bd vals says) ?_))⟩
  intro res s2 back
  match res, back with
  | .ok (.ret _), ⟨_, H2, os2, bare2, un2, ok2, rv, rfl, .inl ⟨d, fs, e1, e2, e3, q⟩⟩ => exact ⟨rv, mk_end T I1 young stays un2 ok2 os2 bare2 e1 e2 e3 q⟩
  | .ok (.ret _), ⟨_, H2, os2, bare2, un2, ok2, rv, rfl, .inr ⟨e1, q⟩⟩ => exact ⟨rv, mk_bare T I1 young stays un2 ok2 os2 bare2 e1 q⟩
theorem makes_ve {fI : Addr} (T : OexC X.K C) (iC : PySem.W.findIn X.K (.ref C) "__init__" = some (some (.ref fI))) (tI : PySem.W.typeIn X.K (.ref fI) = some (.type "function")) : Makes X C fI := by
  intro A R s us kin few run
  obtain ⟨_, _, _, _, mro, _, _, _, _, _, _, _, _, _, _, at_, has⟩ := T.cls
  exact PySem.HandSPX.call_own F.excBase_ValueError (fun Y => PySem.HandSPX.refsVE_contains Y mro has) (kin _ _ at_) (PySem.W.looks_findIn kin iC) (fun self => PySem.W.bind_fn kin self tI) few run
end
def spInit (K : PySem.W.Frag) (C : Addr) (fld : Option Str) : Sp := fun vs H Q _ => ∃ a v, vs = [.ref a, v] ∧ H a = some (exo a C none) ∧ OexC K C ∧ match fld with
  | none => Q .non H
  | some f => ∀ dx, H dx = none → dx ≠ a → Q .non (upd (upd H dx (exd dx [(f, v)])) a (exo a C (some dx)))
def ClsAt (pr : Program) (wd : PySem.World) (K : PySem.W.Frag) (gl : Str → Option Value) (bas : Heap) (name : Str) (fld : Option Str) : Prop :=
  ∃ (C fI : Addr) (fd : FuncData) (ps : List Str), gl name = some (.ref C) ∧ OexC K C ∧ PySem.W.findIn K (.ref C) "__init__" = some (some (.ref fI)) ∧ PySem.W.typeIn K (.ref fI) = some (.type "function") ∧ FnOk pr wd K gl bas CX0 1 fI fd ps (spInit K C fld) ∧ Binds K fd ps [] ∧ PySem.W.exmOne K (.ref C) (.ref C) = some true
def sRaise (name : Str) (fld : Option Str) (fe : DM) (px : Exn → Env → Prop) : SM := fun _ ρ => fe ρ fun y ρ1 => px ⟨name, fld.map fun f => (f, y)⟩ ρ1
section
variable {X : Cx} {c : Cn} {k : Nat} {name : Str} {p pos pos' : Pos} {e : Expr} {fe : DM} {px : Exn → Env → Prop}
theorem dp_raise0 (Ck : ClsAt X.prog X.w X.K X.mg X.base name none) (tk : Takes X (wx X.mg c px)) (hK : X.K = c.K) (hc : X.calm = true) (hr : Room 2 X.A) (gx : Gl X name) (ha : PE X e (tD c fe))
    (hdb : (name == ("__debug__" : Str)) = false := by decide) (he : starEach [e] X.env = (false, eval e X.env) :: starEach [] X.env := by rfl) (hpl : (backTo pos' (starEach [] X.env)).any (·.1) = false := by rfl) :
    PS X (.Raise (some (.Call (.Name name p) [e] [] pos')) none pos) (tS c (sRaise name none fe px)) := by
  obtain ⟨C, fI, fd, ps, hm, T, iC, tI, F1, hb, _⟩ := Ck
  refine PS.to (ps_raise hc tk (pmk_by (makes_ve T iC tI) (raises_own T.exC T.tyC) T.kC F1 hr hb gx hm (pa_cons ha pa_nil he) hdb he hpl)) ?_
  rintro Z σ H ⟨F, ρ, xx, E, rel, q, n, r, b, t⟩
  refine ⟨F, ρ, xx, _, rel, q, fun y ρ1 v F1 H1 q1 e1 r1 a1 => ?_⟩
  refine ⟨by show 1 ≤ 1000; omega, fun a ha => ⟨a, v, rfl, upd_same, T, rfl, .inr ⟨upd_same, ?_⟩⟩⟩
  have eh : del (upd H1 a (exo a C none)) a = H1 := by
    funext b
    by_cases hb : b = a
    · rw [hb, del_same, ha]
    · rw [del_ne hb, upd_ne hb]
  rw [eh]
  exact ⟨F1, ρ1, xx, _, r1, q1, C, hm, rfl, rfl⟩
theorem dp_raise1 {f : Str} (Ck : ClsAt X.prog X.w X.K X.mg X.base name (some f)) (tk : Takes X (wx X.mg c px)) (hK : X.K = c.K) (hc : X.calm = true) (hr : Room 2 X.A) (gx : Gl X name) (ha : PE X e (tD c fe))
    (hdb : (name == ("__debug__" : Str)) = false := by decide) (he : starEach [e] X.env = (false, eval e X.env) :: starEach [] X.env := by rfl) (hpl : (backTo pos' (starEach [] X.env)).any (·.1) = false := by rfl) :
    PS X (.Raise (some (.Call (.Name name p) [e] [] pos')) none pos) (tS c (sRaise name (some f) fe px)) := by
  obtain ⟨C, fI, fd, ps, hm, T, iC, tI, F1, hb, _⟩ := Ck
  refine PS.to (ps_raise hc tk (pmk_oex T iC tI F1 hr hb .nil pass0 gx hm (pa_cons ha pa_nil he) hdb he hpl)) ?_
  rintro Z σ H ⟨F, ρ, xx, E, rel, q, n, r, b, t⟩
  refine ⟨F, ρ, xx, _, rel, q, fun y ρ1 v F1 H1 q1 e1 r1 a1 => ?_⟩
  refine ⟨by show 1 ≤ 1000; omega, fun a ha => ⟨a, v, rfl, upd_same, T, fun dx hd ne => ⟨rfl, dx, [(f, v)], upd_same, ?_, ?_, ?_⟩⟩⟩
  · rw [upd_ne ne, upd_same]
  · rw [upd_ne ne] at hd
    exact hd
  · have hd1 : H1 dx = none := by
      rw [upd_ne ne] at hd
      exact hd
    have eh : upd (del (upd (upd (upd H1 a (exo a C none)) dx (exd dx [(f, v)])) a (exo a C (some dx))) a) dx (.xd [(f, v)]) = upd H1 dx (.xd [(f, v)]) := by
      funext b
      by_cases hb : b = dx
      · rw [hb, upd_same, upd_same]
      · rw [upd_ne hb, upd_ne hb]
        by_cases hb2 : b = a
        · rw [hb2, del_same, ha]
        · rw [del_ne hb2, upd_ne hb2, upd_ne hb, upd_ne hb2]
    rw [eh]
    exact ⟨F1, ρ1, xx, _, r1.stepN (r1.w.newO (.xd [(f, v)]) hd1), q1, C, hm, rfl, dx, v, rfl, upd_same, a1⟩
end
theorem Rel.bare {c : Cn} {F H : Hp} {σ : L2.St} {ρ : List Sl} {xx : XX} (r : Rel c F H σ ρ xx) : Rel c F H σ ρ [] :=
  ⟨r.w, ⟨r.s.len, r.s.im, r.s.ow, r.s.dj, r.s.or, r.s.ou, (fun _ hp => nomatch hp), List.nodup_nil⟩⟩
def tS0 (c : Cn) (g : SM) : TS := fun Z σ H => ∃ F ρ E, Rel c F H σ ρ [] ∧ g E ρ ∧ (∀ ρ' σ' F' H', E.nx ρ' → Rel c F' H' σ' ρ' [] → Z.nx σ' H') ∧ (∀ d v ρ' σ' F' H', E.rt d ρ' → Rel c F' H' σ' ρ' [] → At c.K F' v d → Z.rt v H') ∧
  (∀ ρ' σ' F' H', E.bk ρ' → Rel c F' H' σ' ρ' [] → Z.bk σ' H') ∧ (∀ ρ' σ' F' H', E.ct ρ' → Rel c F' H' σ' ρ' [] → Z.ct σ' H')
theorem tS0.to {c : Cn} {g : SM} {Z : Ends} {σ : L2.St} {H : Hp} : tS0 c g Z σ H → tS c g Z σ H := fun ⟨F, ρ, E, rel, q, n, r, b, t⟩ =>
  ⟨F, ρ, [], E, rel, q, fun ρ' σ' F' H' p _ rr => n ρ' σ' F' H' p rr, r, fun ρ' σ' F' H' p _ rr => b ρ' σ' F' H' p rr, fun ρ' σ' F' H' p _ rr => t ρ' σ' F' H' p rr⟩
section
variable {X : Cx} {c : Cn} {st : Stmt} {rest : List Stmt} {g h : SM}
theorem s0_of (h1 : PS X st (tS c g)) : PS X st (tS0 c g) := PS.to h1 fun _ _ _ q => q.to
theorem s0_all (h1 : PSs X rest (tS c g)) : PSs X rest (tS0 c g) := PSs.to h1 fun _ _ _ q => q.to
theorem s0_one (h1 : PS X st (tS0 c g)) : PSs X [st] (tS0 c g) := pss_one h1
theorem s0_cons (h1 : PS X st (tS0 c g)) (h2 : PSs X rest (tS0 c h)) : PSs X (st :: rest) (tS0 c (sSeq g h)) :=
  PSs.to (pss_cons h1 h2) fun Z σ H ⟨F, ρ, E, rel, q, n, r, b, t⟩ => ⟨F, ρ, _, rel, q, fun ρ' σ' F' H' p rel' => ⟨F', ρ', E, rel', p, n, r, b, t⟩, r, b, t⟩
end
theorem FnG.data0 {pr : Program} {wd : PySem.World} {K : PySem.W.Frag} {gl : Str → Option Value} {bas : Heap} {k n : Nat} {f : Addr} {x qual : Str} {st : Stmt} {fd : FuncData} {N ps : List Str} {R : Orc} {g : SM} (F : L2.Fun K x qual st f fd) (Sc : FnScope N ps (defScope st)) (hn : n = ps.length)
    (body : ∀ (cdv : Value) (A : Around) (out : List PySem.Env) (sh : Shared) (H : Hp) (E : XK) (q : Option Addr) (F : Hp), A.guards = some [] → Room k (A.deeper (PyProof.Rows.envOfC qual (defScope st) sh.heap.objs.size f cdv)) →
      PSs (cxOf CX0 pr wd K gl bas N qual (defScope st) f cdv A out sh H E).nox (defBody st) (tS0 ⟨K, R, q, F, H⟩ g)) : FnG pr wd K gl bas (k + 1) f fd ps (spD K R n (raw g N.length)) := by
  refine FnG.of F Sc (fun vs H Q E ⟨q, F0, as, m, P, w, pa, hl, _⟩ => by rw [paired_len pa, hl, hn]) fun cdv A out sh H vs Q E hg hr ⟨q, F0, as, m, P, w, pa, hl, ho, hq, hm, says, k0⟩ => ?_
  have fin : ∀ (d : D) (v : V) (ρ' : DL.Env) (σ' : L2.St) (F' H' : Hp), (match ρ'[0]? with
      | some (Sl.ora m') => P d m'
      | _ => as.head?.map isD ≠ some false ∧ P d 0) → Rel ⟨K, R, q, F0, H⟩ F' H' σ' ρ' [] → At K F' v d → Q v H' := by
    intro d v ρ' σ' F' H' p r a
    split at p
    · rename_i m' e
      obtain ⟨y, h1, _, h3⟩ := r.s.or 0 m' e
      exact k0 d m' v F' H' p r.w (fun z hz => by
        have hz' : q = some z := hz
        have h1' : q = some y := h1
        rw [hz'] at h1'
        cases h1'
        exact h3) a
    · obtain ⟨p1, p2⟩ := p
      have qn : q = none := hq.resolve_right fun z => p1 (by
        cases as with
        | nil => cases z
        | cons b t => cases z; rfl)
      exact k0 d 0 v F' H' p2 r.w (fun z hz => by rw [qn] at hz; cases hz) a
  refine ⟨_, body cdv A out sh H E q F0 hg hr, F0, _, _, rel_start w pa ho hm, says, ?_, ?_, ?_, ?_⟩
  · exact fun ρ' σ' F' H' p r => fin .none .non ρ' σ' F' H' p r .non
  · exact fun d v ρ' σ' F' H' p r a => fin d v ρ' σ' F' H' p r a
  · exact fun ρ' σ' F' H' p => p.elim
  · exact fun ρ' σ' F' H' p => p.elim
end DL
namespace DL
theorem exm_own {K : PySem.W.Frag} {S : PySem.Addr} (h1 : PySem.W.subIn K (.ref S) (.type "BaseException") = some true) (h2 : PySem.W.isClsIn K S = true) (h3 : PySem.W.typeIn K (.ref S) = some (.type "type")) (h4 : PySem.W.subIn K (.ref S) (.ref S) = some true) : PySem.W.exmOne K (.ref S) (.ref S) = some true := by
  have h2 : (PySem.W.clsIn K S).isSome = true := h2
  unfold PySem.W.exmOne PySem.W.kitCls
  simp [h1, h2, h3, h4]
end DL
namespace DL
open PySem L2
end DL
namespace DL
open PySem PyProof.Rows L2 RZ
/-- how far both are gone -/
structure MixGone (z t u p q a b : Addr) (n : Nat) (h : Heap) : Prop where
  zip : IsZip h z t u .none
  its : IsPair h t (.ref p) (.ref q)
  two : ∃ x y, IsPair h u x y
  fst : h.IsTupleIter p a n
  snd : h.IsListIter q b n
theorem five {z t u p q c : Addr} {P : Addr → Prop} (hc : c ∈ [z, t, u, p, q]) (h1 : P z) (h2 : P t) (h3 : P u) (h4 : P p) (h5 : P q) : P c := by
  simp only [List.mem_cons, List.not_mem_nil, or_false] at hc
  rcases hc with rfl | rfl | rfl | rfl | rfl <;> assumption
theorem MixGone.there {z t u p q a b : Addr} {n : Nat} {h : Heap} (m : MixGone z t u p q a b n h) {c : Addr} (hc : c ∈ [z, t, u, p, q]) :
    ∃ o, h.get? c = some o ∧ ∀ v, o.data ≠ .cell v := by
  obtain ⟨k1, k2, ⟨x, y, k3⟩, ⟨o4, e4, _, f4⟩, ⟨o5, e5, _, f5⟩⟩ := m
  refine five (P := fun c => ∃ o, h.get? c = some o ∧ ∀ v, o.data ≠ .cell v) hc ⟨_, k1, ?_⟩ ⟨_, k2, ?_⟩ ⟨_, k3, ?_⟩ ⟨o4, e4, ?_⟩ ⟨o5, e5, ?_⟩
  · exact fun v e => nomatch e
  · exact fun v e => nomatch e
  · exact fun v e => nomatch e
  · exact fun v e => by
      rw [f4] at e
      cases e
  · exact fun v e => by
      rw [f5] at e
      cases e
theorem MixGone.keep {z t u p q a b : Addr} {n : Nat} {h h' : Heap} (m : MixGone z t u p q a b n h) (k : ∀ c, c ∈ [z, t, u, p, q] → ∀ o, h.get? c = some o → h'.get? c = some o) : MixGone z t u p q a b n h' := by
  obtain ⟨k1, k2, ⟨x, y, k3⟩, k4, k5⟩ := m
  have kz := k z (by simp)
  have kt := k t (by simp)
  have ku := k u (by simp)
  have kp := k p (by simp)
  have kq := k q (by simp)
  exact ⟨kz _ k1, kt _ k2, ⟨x, y, ku _ k3⟩, k4.at kp, k5.at kq⟩
end DL
namespace DL
open PySem L2
/-- the class C: the field f of its exceptions can be read -/
def FldOf (K : PySem.W.Frag) (gl : Str → Option Value) (cn f : Str) : Prop := ∃ C, gl cn = some (.ref C) ∧ XfC K C ∧ PySem.W.findIn K (.ref C) f = some none
/-- where the suite stands: slot i holds the exception at a, whose field f is y -/
def Caught (c : Cn) (a C : Addr) (i : Nat) (cls : Value) (d : Option Addr) (f : Str) (y : D) (F H : Hp) (σ : L2.St) : Prop :=
  σ[i]? = some (some (.ref a)) ∧ cls = .ref C ∧ ∃ dd v, d = some dd ∧ H dd = some (.xd [(f, v)]) ∧ At c.K F v y
def tFd (c : Cn) (a C : Addr) (i : Nat) (cls : Value) (d : Option Addr) (f : Str) (sh : D → D) : TE := fun σ H Q => ∃ F ρ xx y, Rel c F H σ ρ xx ∧ Caught c a C i cls d f y F H σ ∧
  ∀ v F' H', Ex F F' → Rel c F' H' σ ρ xx → At c.K F' v (sh y) → Q v H'
section
variable {X : Cx} {c : Cn} {a C : Addr} {i : Nat} {oe : Obj} {cls : Value} {d : Option Addr} {pn : List (Addr × Obj)} {n f : Str} {p pos pos2 : Pos}
theorem fd_bare (hK : X.K = c.K) (T : XfC X.K C) (hno : PySem.W.findIn X.K (.ref C) f = some none) (hz : Zc cls d oe) (hf : ∃ vs, oe.data = .fields vs) (hv : PE (X.suite a ((a, oe) :: pn)) (.Name n p) (tVar i))
    (hb : attributeBase (.Name n p) f X.env (eval (.Name n p) X.env) = eval (.Name n p) X.env := by rfl) :
    PE (X.suite a ((a, oe) :: pn)) (.Attribute (.Name n p) f pos) (tFd c a C i cls d f fun y => y) := by
  refine PE.to (pe_xf T hno hz hf hv hb) ?_
  rintro σ H Q ⟨F, ρ, xx, y, rel, ⟨h1, h2, dd, v, h3, h4, h5⟩, k⟩
  exact ⟨_, h1, rfl, h2, dd, _, v, h3, h4, by simp, k v F H (Ex.refl F) rel h5⟩
end
def gStrI : GC := fun ds P => match ds with
  | [.int i] => i.natAbs.log2 < 1920 ∧ P (.str (toString i))
  | _ => False
section
variable {X : Cx} {c : Cn}
theorem call_strI : CallR X (.type "str") (fun xs H Q => ∃ i : Int, xs = [.int i] ∧ i.natAbs.log2 < 1920 ∧ Q (.str (toString i)) H) := by
  (intro pins s σ H xs us Q I r h)
  obtain ⟨i, rfl, hz, q⟩ := h
  (obtain ⟨u, rfl, t, rfl⟩ := vals1 r)
  (exact PySem.P.str_of_int hz ⟨.str _, H, I.tok _, ⟨_, rfl⟩, q⟩)
theorem sem_strI : SemC X c (.type "str") gStrI :=
  ⟨_, call_strI, fun F H σ ρ xx ds vs P Q r bs g k => by
    unfold gStrI at g
    split at g
    · obtain ⟨v, rfl, b⟩ := pr1 bs
      cases bo_int b
      exact ⟨_, rfl, g.1, k _ _ F H g.2 (Ex.refl F) r (.str _)⟩
    · exact g.elim⟩
end
end DL
namespace DL
open PySem PyProof.Rows L2
end DL
namespace DL
open PySem PyProof.Rows L2
section
variable {X : Cx} {c : Cn} {x : Str} {e : Expr} {pos : Pos}
theorem de_gstr {s : Str} (hg : Gl X x) (hm : ∃ t, X.mg x = some (.str s t)) (hd : (x == ("__debug__" : Str)) = false := by decide) : PE X (.Name x pos) (tD c (dC (.str s))) := by
  obtain ⟨t, hm⟩ := hm
  exact de_c (pe_glob (v := .str s) hg hm ⟨t, rfl⟩ hd) fun _ => .str s
def mulT (x : Str) (n : Int) : Str := ⟨(List.replicate n.toNat x.cps.toList).flatten.toArray⟩
theorem foldl_app (l : List (Array Nat)) : ∀ a : Array Nat, l.foldl (· ++ ·) a = ⟨a.toList ++ (l.map Array.toList).flatten⟩ := by
  induction l with
  | nil =>
    intro a
    simp
  | cons y l ih =>
    intro a
    rw [List.foldl_cons, ih]
    simp
theorem mul_eq (x : Str) (n : Int) : Txt.mul x n = mulT x n := by
  unfold Txt.mul mulT
  by_cases h1 : n < 1
  · rw [if_pos h1]
    have : n.toNat = 0 := by omega
    rw [this]
    rfl
  · rw [if_neg h1]
    by_cases h2 : (n == 1 || x.length == 0) = true
    · rw [if_pos h2]
      obtain ⟨⟨l⟩⟩ := x
      rcases Bool.or_eq_true_iff.mp h2 with z | z
      · have : n.toNat = 1 := by have : n = 1 := eq_of_beq z; omega
        rw [this]
        simp
      · have : l.length = 0 := eq_of_beq z
        have : l = [] := List.eq_nil_of_length_eq_zero this
        subst this
        simp
    · rw [if_neg h2, foldl_app]
      simp
def gMulS : G2 := fun x y P => match x, y with
  | .str z, .int n => (-1000000 ≤ n ∧ n ≤ 1000000) ∧ z.length * n.toNat ≤ 1000000 ∧ P (.str (mulT z n))
  | _, _ => False
theorem op_mulS : OpR X (binaryOp .Mult) (fun x y H Q => ∃ z n, x = .str z ∧ y = .int n ∧ (-1000000 ≤ n ∧ n ≤ 1000000) ∧ z.length * n.toNat ≤ 1000000 ∧ Q (.str (mulT z n)) H) := by
  (intro pins s σ H x y v u Q I rx ry h)
  obtain ⟨z, n, rfl, rfl, ⟨n0, n1⟩, hl, q⟩ := h
  obtain ⟨t, rfl⟩ := rx
  obtain ⟨t2, rfl⟩ := ry
  refine SB.mul ⟨?_, fun a b hc => ?_, fun a b => ?_⟩ fun t' k => ?_
  · rw [decide_eq_false (by omega), decide_eq_false (by omega)]
    rfl
  · have hle : (z.length : Int) ≤ 1000000 := by
      have : z.length * 1 ≤ z.length * n.toNat := Nat.mul_le_mul (Nat.le_refl _) (by omega)
      omega
    have : (1000000 : Int) ≤ (2 ^ 63 - 1) / n := Int.le_ediv_of_mul_le (by omega) (by omega)
    omega
  · unfold Builtin.Str.tooLong
    rw [sizeLine_eq]
    (exact decide_eq_false (by omega))
  · rw [mul_eq]
    exact ⟨.str _, H, I.tok k, ⟨_, rfl⟩, q⟩
theorem sem_mulS : Sem2 X c (binaryOp .Mult) gMulS := by
  refine ⟨_, op_mulS, fun F H σ ρ xx x y vx vy P Q r bx by_ g k => ?_⟩
  unfold gMulS at g
  split at g
  · cases bo_str bx
    cases bo_int by_
    exact ⟨_, _, rfl, rfl, g.1, g.2.1, k _ _ F H g.2.2 (Ex.refl F) r (.str _)⟩
  · exact g.elim
end
theorem tup_once (l : Addr) (its : Array Value) (n : Nat) (dd : Option Addr) (sl : Array (Option Value)) (u : Tok) :
    Meets (Builtin.«tuple.__mul__» ⟨[.ref l, .int 1 u], []⟩) (fun _ R s => s.heap.get? l = some { cls := .type "tuple", dict := dd, data := .seq its n, slots := sl } ∧ R (.ok (.ret (.ref l))) s) :=
  .of_wp fun prog w A R s h =>
    by
    (obtain ⟨hp, g, d, tk, os⟩ := s)
    obtain ⟨hl, h⟩ := h
    have f1 := AutoSeq1.idx_int
    have c1 : (its.isEmpty || (1 : Int) == 1) = true := by
      have : ((1 : Int) == 1) = true := rfl
      rw [this, Bool.or_true]
    (wp_walk using wpAny_loadPart' hl)
    repeat (first
      | (refine wpAny_ite_false (decide_eq_false (by decide)) ?_
         wp_walk using wpAny_loadPart' hl)
      | (refine wpAny_ite_true (decide_eq_true c1) ?_
         wp_walk using wpAny_loadPart' hl))
    exact ⟨_, rfl, h⟩
section
variable {X : Cx} {c : Cn} {e : Expr} {pos : Pos}
def rOnce (K : PySem.W.Frag) : R2 := fun x y H Q => ∃ l xs, x = .ref l ∧ y = .int 1 ∧ SqT K H l xs ∧ Q (.ref l) H
theorem op_once : OpR X (binaryOp .Mult) (rOnce X.K) := by
  (intro pins s σ H x y v u Q I rx ry h)
  obtain ⟨l, xs, rfl, rfl, hT, q⟩ := h
  cases rx
  obtain ⟨t, rfl⟩ := ry
  (obtain ⟨its, r, ⟨⟨cls, dd, data, sl⟩, ho, hc, n, hd⟩, hs⟩ := I.tuple hT)
  simp only at hc hd
  subst hc hd
  have isT : s.TypeIs (.ref l) "tuple" := ⟨_, ho, rfl⟩
  have isI := typeIs_int s 1 t
  refine wpAny_binaryOp_repeat_ref (T := "tuple") (U := "int") (by decide) isT (fun s' => typeIs_int s' 1 t) noFill_tuple_mul F.fills_int_mul F.slot_int_rmul repeat_tuple F.slot_int_index.lookup ?_
  refine call_meets F.slot_int_rmul isI F.entry_int_rmul (F.args_int_rmul_2 _ _) (int_rmul_tuple 1 t l its.toArray n dd sl) ⟨ho, rfl, isT, ?_⟩
  exact call_meets F.slot_tuple_mul isT F.entry_tuple_mul (F.args_tuple_mul_2 _ _) (tup_once l its.toArray n dd sl t) ⟨ho, .ref l, H, I, rfl, q⟩
def gMulT : G2 := fun x y P => match x, y with
  | .tuple xs, .int n => (1 ≤ n ∧ n ≤ 1000) ∧ xs ≠ [] ∧ xs.length ≤ 1000 ∧ P (.tuple (List.replicate n.toNat xs).flatten)
  | _, _ => False
theorem sem_mulT (hK : X.K = c.K) : Sem2 X c (binaryOp .Mult) gMulT := by
  refine ⟨_, op_once.or op_repT, fun F H σ ρ xx x y vx vy P Q r bx by_ g k => ?_⟩
  unfold gMulT at g
  split at g
  · rename_i ds n
    obtain ⟨⟨n0, n1⟩, hne, hl, q⟩ := g
    cases bo_int by_
    obtain ⟨a, xs, rfl, f1, s1, t1⟩ := bo_tup r.w.fh bx
    by_cases z : n = 1
    · subst z
      refine .inl ⟨a, xs, rfl, rfl, by rw [hK]; exact s1, k _ _ F H q (Ex.refl F) r ?_⟩
      have : (List.replicate (1 : Int).toNat ds).flatten = ds := by simp
      rw [this]
      exact .tup f1 t1
    · refine .inr ⟨a, n, xs, rfl, rfl, by rw [hK]; exact s1, fun e => hne (t1.nil_iff.mp e), by omega, n1, by rw [t1.length]; exact hl, fun p hp => ?_⟩
      have e2 := r.efF (.tup (List.replicate n.toNat xs).flatten) hp
      exact k _ _ _ _ q e2 (r.newF _ hp) (.tup (.inl (.inl upd_same)) ((t1.repN n.toNat).mono e2))
  · exact g.elim
theorem signs_vals : ∀ (cs : List Nat) (us : List Value), us.length = cs.length → (∀ (j : Nat) (v : Value), us[j]? = some v → ∃ (c : Nat) (u : Tok), cs[j]? = some c ∧ v = Value.str ⟨#[c]⟩ u) → Vals (cs.map fun c => V.str ⟨#[c]⟩) us
  | [], us, hl, _ => by
    have : us = [] := List.eq_nil_of_length_eq_zero hl
    subst this
    exact .nil
  | c :: cs, [], hl, _ => by cases hl
  | c :: cs, u :: us, hl, h => by
    obtain ⟨c', t, e, rfl⟩ := h 0 u rfl
    cases e
    refine .cons ⟨t, rfl⟩ (signs_vals cs us (Nat.succ.inj hl) fun j v hv => ?_)
    obtain ⟨z, y, e1, e2⟩ := h (j + 1) v hv
    exact ⟨z, y, e1, e2⟩
theorem call_tupS (hc : X.calm = true) : CallR X (.type "tuple") (fun xs H Q => ∃ z : Str, xs = [.str z] ∧ z.length ≤ 1000000 ∧ ∀ p, H p = none → Q (.ref p) (upd H p (.tup (z.cps.toList.map fun c => V.str ⟨#[c]⟩)))) := by
  (intro pins s σ H xs us Q I r h)
  obtain ⟨z, rfl, hl, q⟩ := h
  (obtain ⟨u, rfl, t, rfl⟩ := vals1 r)
  have hz : z.cps.size ≤ sizeLine := sz hl
  refine call_tuple_str (I.ok.hd hc) z t (fun h' tk acc hk hacc => ?_) hz
  have len : acc.toList.length = z.cps.toList.length := by simpa using hacc.1
  have vs : Vals (z.cps.toList.map fun c => V.str ⟨#[c]⟩) acc.toList := signs_vals _ _ len fun j v hv => by
    obtain ⟨c, y, e1, e2⟩ := hacc.2 j v (by simpa using hv)
    exact ⟨c, y, by simpa using e1, e2⟩
  (have I1 : Inv X pins σ H { s with heap := h', toks := tk } := I.kept hk)
  refine ⟨.ref h'.objs.size, _, I1.laid (t' := tk) (o := .tup (z.cps.toList.map fun c => V.str ⟨#[c]⟩)) (fun b ob => Heap.get?_push_of_some _) (Nat.le_refl _) ?_, rfl, q _ (I1.hok.fresh (Nat.le_refl _))⟩
  exact ⟨by rw [List.length_map, Array.length_toList]; exact hz, _, vs, IsTup.new _ _⟩
def gTupS : GC := fun ds P => match ds with
  | [.str z] => z.length ≤ 1000000 ∧ P (.tuple (signs z))
  | _ => False
theorem at_signs {K : PySem.W.Frag} {F : Hp} : ∀ cs : List Nat, AtAll K F (cs.map fun c => V.str ⟨#[c]⟩) (cs.map fun c => PyData.str ⟨#[c]⟩)
  | [] => .nil
  | c :: cs => .cons (.str _) (at_signs cs)
theorem sem_tupS (hc : X.calm = true) : SemC X c (.type "tuple") gTupS :=
  ⟨_, call_tupS hc, fun F H σ ρ xx ds vs P Q r bs g k => by
    unfold gTupS at g
    split at g
    · rename_i z
      obtain ⟨v, rfl, b⟩ := pr1 bs
      cases bo_str b
      refine ⟨_, rfl, g.1, fun p hp => ?_⟩
      have e2 := r.efF (.tup (z.cps.toList.map fun c => V.str ⟨#[c]⟩)) hp
      exact k _ _ _ _ g.2 e2 (r.newF _ hp) (.tup (.inl (.inl upd_same)) (at_signs _))
    · exact g.elim⟩
def dStrip (g : Str → Str → Str) (f h : DM) : DM := fun ρ P => f ρ fun d ρ1 => (∃ z, d = .str z) ∧ h ρ1 fun y ρ2 => ∃ z w, d = .str z ∧ y = .str w ∧ z.length ≤ 1000000 ∧ P (.str (g z w)) ρ2
theorem strip_use {g : Str → Str → Str} {f h : DM} : ∀ σ H Q, tD c (dStrip g f h) σ H Q → tM1 (fun x xs H Q => ∃ a b, x = .str a ∧ xs = [.str b] ∧ a.length ≤ sizeLine ∧ Q (.str (g a b)) H) (tD c f) (tD c h) σ H Q := by
  rintro σ H Q ⟨F, ρ, xx, P, rel, q, k⟩
  refine ⟨F, ρ, xx, _, rel, q, fun d ρ1 v F1 H1 ⟨⟨z, hz⟩, q1⟩ e1 r1 a1 => ?_⟩
  subst hz
  cases a1
  refine ⟨⟨z, rfl⟩, F1, ρ1, xx, _, r1, q1, fun y ρ2 u F2 H2 ⟨z', w, ez, ew, hl, q2⟩ e2 r2 a2 => ?_⟩
  cases ez
  subst ew
  cases a2
  exact ⟨_, _, rfl, rfl, sz hl, k _ ρ2 _ F2 H2 q2 (e1.trans e2) r2 (.str _)⟩
theorem de_rstrip {o : Expr} {apos : Pos} {f h : DM} (ho : PE X o (tD c f)) (he : PE X e (tD c h)) (hs : starEach [e] X.env = [(false, eval e X.env)] := by rfl) (hbase : attributeBase o "rstrip" X.env (eval o X.env) = eval o X.env := by rfl) (hline : (apos.endLine == pos.line) = true := by rfl) :
    PE X (.Call (.Attribute o "rstrip" apos) [e] [] pos) (tD c (dStrip Txt.rstripChars f h)) :=
  PE.to (pe_m1 F.slot_str_rstrip F.type_str_rstrip mt_rstripChars ho he hs hbase hline) strip_use
theorem de_strip {o : Expr} {apos : Pos} {f h : DM} (ho : PE X o (tD c f)) (he : PE X e (tD c h)) (hs : starEach [e] X.env = [(false, eval e X.env)] := by rfl) (hbase : attributeBase o "strip" X.env (eval o X.env) = eval o X.env := by rfl) (hline : (apos.endLine == pos.line) = true := by rfl) :
    PE X (.Call (.Attribute o "strip" apos) [e] [] pos) (tD c (dStrip Txt.stripChars f h)) :=
  PE.to (pe_m1 F.slot_str_strip F.type_str_strip mt_stripChars ho he hs hbase hline) strip_use
end
end DL
namespace DL
open PySem PyProof.Rows L2
theorem FnG.ofD {pr : Program} {wd : PySem.World} {K : PySem.W.Frag} {gl : Str → Option Value} {bas : Heap} {k : Nat} {f : Addr} {x qual : Str} {st : Stmt} {fd : FuncData} {N ps : List Str} {sp : Sp} {dvs : List V} (Fd : FunD K x qual (defArgs st) (defBody st) (defScope st) dvs [] f fd) (Sn : FnScope N ps (defScope st))
    (many : ∀ vs H Q E, sp vs H Q E → vs.length = ps.length)
    (says : ∀ (cdv : Value) (A : Around) (out : List PySem.Env) (sh : Shared) (H : Hp) (vs : List V) (Q : VK) (E : XK), A.guards = some [] → Room k (A.deeper (envOfC qual (defScope st) sh.heap.objs.size f cdv)) → sp vs H Q E →
      ∃ t, PSs (cxOf CX0 pr wd K gl bas N qual (defScope st) f cdv A out sh H E).nox (defBody st) t ∧ t { nx := fun _ H' => Q .non H', rt := Q } (start N vs) H) : FnG pr wd K gl bas (k + 1) f fd ps sp := by
  obtain ⟨oc, od, dV, kV, doc, pm, an, cdv, ct, osl, efd, lk, hc, _, _⟩ := Fd.ex
  refine ⟨many, fun A out sh H ar us vs Q E hg room env0 bnd rv asks => ?_⟩
  have inK : K.In sh.heap := PySem.W.Frag.In.keeps env0.mod.kin fun b o e => (env0.bs b o e).1
  have free : sh.heap.NoLimit := Heap.NoLimit.keeps env0.mod.nolimit fun b o e => (env0.bs b o e).1
  have kinds : ∀ y ∈ ps.zip us, (defScope st).names.lookup y.1 = some .local ∨ ((defScope st).names.lookup y.1 = some .cell ∧ ((cellsFrom (sh.heap.objs.size + 1) (defScope st).names []).lookup y.1).isSome = true) := by
    rintro ⟨n, v⟩ hy
    rcases Sn.par n (List.of_mem_zip hy).1 with z | z
    · exact .inl z
    · exact .inr ⟨z, PySem.W.cellsFrom_some _ _ _ (.inl z)⟩
  rw [efd] at lk bnd
  refine codeAny_call_function room.depth (inK _ _ lk) rfl Sn.co Sn.gen rfl (PySem.W.codeRec_of inK hc) (bnd _ _ _ _ (wpAny_newFunctionEnv_cells Sn.kind kinds ?_))
  intro env1 he s1 made
  subst he
  refine ⟨free.keeps made.toInCall.keep, codeAny_func ?_⟩
  obtain ⟨t, runs, ht⟩ := says cdv A out sh H vs Q E hg (room.deeper _) asks
  have I0 : Inv (cxOf CX0 pr wd K gl bas N qual (defScope st) f cdv A out sh H E) [] (start N vs) H s1 := inv_start Sn room.hd env0 (many _ _ _ _ asks) rv made
  refine wpAny_mono (runs.nox.run [] s1 (start N vs) H _ I0 ht) (fun fl s2 told => ?_) fun _ _ z => z
  match fl, told with
  | .ret u, ⟨v, σ', H', J, r, q⟩ => exact ⟨v, H', J.os, J.bare, J.base, J.hok, r, q⟩
  | .next, ⟨σ', H', J, q⟩ => exact ⟨V.non, H', J.os, J.bare, J.base, J.hok, rfl, q⟩
  | .brk, z => exact (z.choose_spec.choose_spec.2 : False).elim
  | .cont, z => exact (z.choose_spec.choose_spec.2 : False).elim
theorem FnG.dataD {pr : Program} {wd : PySem.World} {K : PySem.W.Frag} {gl : Str → Option Value} {bas : Heap} {k n : Nat} {f : Addr} {x qual : Str} {st : Stmt} {fd : FuncData} {N ps : List Str} {R : Orc} {g : SM} {dvs : List V} (F : FunD K x qual (defArgs st) (defBody st) (defScope st) dvs [] f fd) (Sc : FnScope N ps (defScope st)) (hn : n = ps.length)
    (body : ∀ (cdv : Value) (A : Around) (out : List PySem.Env) (sh : Shared) (H : Hp) (E : XK) (q : Option Addr) (F : Hp), A.guards = some [] → Room k (A.deeper (PyProof.Rows.envOfC qual (defScope st) sh.heap.objs.size f cdv)) →
      PSs (cxOf CX0 pr wd K gl bas N qual (defScope st) f cdv A out sh H E).nox (defBody st) (tS ⟨K, R, q, F, H⟩ g)) : FnG pr wd K gl bas (k + 1) f fd ps (spD K R n (raw g N.length)) := by
  refine FnG.ofD F Sc (fun vs H Q E ⟨q, F0, as, m, P, w, pa, hl, _⟩ => by rw [paired_len pa, hl, hn]) fun cdv A out sh H vs Q E hg hr ⟨q, F0, as, m, P, w, pa, hl, ho, hq, hm, says, k0⟩ => ?_
  have fin : ∀ (d : D) (v : V) (ρ' : DL.Env) (σ' : L2.St) (F' H' : Hp), (match ρ'[0]? with
      | some (Sl.ora m') => P d m'
      | _ => as.head?.map isD ≠ some false ∧ P d 0) → Rel ⟨K, R, q, F0, H⟩ F' H' σ' ρ' [] → At K F' v d → Q v H' := by
    intro d v ρ' σ' F' H' p r a
    split at p
    · rename_i m' e
      obtain ⟨y, h1, _, h3⟩ := r.s.or 0 m' e
      exact k0 d m' v F' H' p r.w (fun z hz => by
        have hz' : q = some z := hz
        have h1' : q = some y := h1
        rw [hz'] at h1'
        cases h1'
        exact h3) a
    · obtain ⟨p1, p2⟩ := p
      have qn : q = none := hq.resolve_right fun z => p1 (by
        cases as with
        | nil => cases z
        | cons b t => cases z; rfl)
      exact k0 d 0 v F' H' p2 r.w (fun z hz => by rw [qn] at hz; cases hz) a
  refine ⟨_, body cdv A out sh H E q F0 hg hr, F0, _, [], _, rel_start w pa ho hm, says, ?_, ?_, ?_, ?_⟩
  · exact fun ρ' σ' F' H' p e r => fin .none .non ρ' σ' F' H' p r .non
  · exact fun d v ρ' σ' F' H' p r a => fin d v ρ' σ' F' H' p r a
  · exact fun ρ' σ' F' H' p => p.elim
  · exact fun ρ' σ' F' H' p => p.elim
section
variable {X : Cx} {k : Nat} {f : Addr} {fd : FuncData} {ps : List Str} {sp : Sp} {x : Str} {p pos : Pos} {e : Expr} {es : List Expr} {t : TA}
theorem pe_callGd {ds : List Value} {dvs : List V} (F : FnG X.prog X.w X.K X.mg X.base k f fd ps sp) (hg : X.A.guards = some []) (hr : Room k X.A) (gx : Gl X x) (hm : X.mg x = some (.ref f)) (hk : PySem.W.keepIn X.K (.ref f) = true) (hb : Binds X.K fd ps ds) (rd : Vals dvs ds)
    (ha : PA X (e :: es) t) (hdb : (x == ("__debug__" : Str)) = false := by decide) (he : starEach (e :: es) X.env = (false, eval e X.env) :: starEach es X.env := by rfl)
    (hpl : (backTo pos (starEach es X.env)).any (·.1) = false := by rfl) : PE X (.Call (.Name x p) (e :: es) [] pos) (tCall sp dvs (fun _ _ _ => False) t) := by
  (refine ⟨fun pins s σ H Q I h => ?_⟩)
  refine wpAny_Call_Name_kw (ld_glob I gx hm (PySem.W.callWith_K (h₀ := X.base) I.ok.mod.kin hk (thn (ha.run pos pins s σ H _ I h) ?_) he hpl) hdb)
  rintro us s1 ⟨vs, H1, I1, r, asks⟩
  have rr := r.append rd
  have len : (us ++ ds).length = ps.length := by
    rw [← rr.length]
    exact F.many _ _ _ _ asks
  refine ⟨I1.kIn, wpAny_call (codeAny_mono (F.go X.A X.stack s1 H1 ⟨us, []⟩ (us ++ ds) (vs ++ dvs) Q _ hg hr I1.env0 (hb s1 us I1.kIn len) rr asks) fun res s' told => ?_)⟩
  match res, told with
  | .error _, z => exact (z : False).elim
  | .ok (.ret u), z => exact I1.after z
end
def CdD (pr : Program) (wd : PySem.World) (K : PySem.W.Frag) (gl : Str → Option Value) (bas : Heap) (R : Orc) (k : Nat) (x : Str) (n : Nat) (dds : List D) (S : SpD) : Prop :=
  ∃ (f : Addr) (fd : FuncData) (ps : List Str) (ds : List Value) (dvs : List V), FnG pr wd K gl bas k f fd ps (spD K R (n + dds.length) S) ∧ gl x = some (.ref f) ∧ PySem.W.keepIn K (.ref f) = true ∧ Binds K fd ps ds ∧ Vals dvs ds ∧ ∀ F, AtAll K F dvs dds
theorem CdD.more {pr : Program} {wd : PySem.World} {K : PySem.W.Frag} {gl : Str → Option Value} {bas : Heap} {R : Orc} {j k : Nat} {x : Str} {n : Nat} {dds : List D} {S : SpD} (C : CdD pr wd K gl bas R j x n dds S) (h : j ≤ k) : CdD pr wd K gl bas R k x n dds S := by
  obtain ⟨f, fd, ps, ds, dvs, F, a, b, d, e, u⟩ := C
  exact ⟨f, fd, ps, ds, dvs, F.more h, a, b, d, e, u⟩
def dCallD (n : Nat) (dds : List D) (S : SpD) (f : AM) : DM := fun ρ P => f ρ fun as ρ1 => as.length = n ∧ as.all isD = true ∧ S (as ++ dds.map Ar.d) 0 fun d _ => P d ρ1
theorem paired_app {R : V → Ar → Prop} {vs ws : List V} {as bs : List Ar} (h : Paired R vs as) (h' : Paired R ws bs) : Paired R (vs ++ ws) (as ++ bs) := by
  induction h with
  | nil => exact h'
  | cons a _ ih => exact .cons a ih
theorem paired_def {K : PySem.W.Frag} {c : Cn} {F : Hp} (hK : c.K = K) : ∀ {vs : List V} {ds : List D}, AtAll K F vs ds → Paired (ArAt c F) vs (ds.map Ar.d)
  | _, _, .nil => .nil
  | _, _, .cons a t => .cons (by show At c.K F _ _; rw [hK]; exact a) (paired_def hK t)
theorem de_cdD {X : Cx} {c : Cn} {k n : Nat} {dds : List D} {S : SpD} {x : Str} {p pos : Pos} {e : Expr} {es : List Expr} {fa : AM} (C : CdD X.prog X.w X.K X.mg X.base c.R k x n dds S) (hK : X.K = c.K) (hg : X.A.guards = some []) (hr : Room k X.A) (gx : Gl X x)
    (ha : PA X (e :: es) (tAr c fa)) (hdb : (x == ("__debug__" : Str)) = false := by decide) (he : starEach (e :: es) X.env = (false, eval e X.env) :: starEach es X.env := by rfl)
    (hpl : (backTo pos (starEach es X.env)).any (·.1) = false := by rfl) : PE X (.Call (.Name x p) (e :: es) [] pos) (tD c (dCallD n dds S fa)) := by
  obtain ⟨f, fd, ps, ds, dvs, F, hm, hk, hb, rd, at_⟩ := C
  refine PE.to (pe_callGd F hg hr gx hm hk hb rd ha hdb he hpl) ?_
  rintro σ H Q ⟨F0, ρ, xx, P, rel, q, k0⟩
  refine ⟨F0, ρ, xx, _, rel, q, ?_⟩
  rintro as ρ1 vs F1 H1 ⟨hl, hd, hs⟩ e1 r1 pr
  have w0 : World c.R none F1 H1 F1 H1 := World.start r1.w.fh (fun _ _ z => z) fun _ z => nomatch z
  have pr1 : Paired (ArAt ⟨X.K, c.R, none, F1, H1⟩ F1) vs as := by
    clear hs hl
    induction pr with
    | nil => exact .nil
    | @cons v a vs' as' h1 h2 ih =>
      rw [List.all_cons, Bool.and_eq_true] at hd
      cases a with
      | d y =>
        refine .cons ?_ (ih hd.2)
        show At X.K F1 v y
        rw [hK]
        exact h1
      | ora => cases hd.1
  have pr2 := paired_app pr1 (paired_def (c := ⟨X.K, c.R, none, F1, H1⟩) rfl (at_ F1))
  have all2 : (as ++ dds.map Ar.d).all isD = true := by
    rw [List.all_append, hd, Bool.true_and, List.all_map]
    (exact List.all_eq_true.mpr fun _ _ => rfl)
  refine ⟨none, F1, as ++ dds.map Ar.d, 0, _, w0, pr2, by rw [List.length_append, List.length_map, hl], fun i z => absurd z (all_isD all2 i), .inl rfl, (fun _ z => nomatch z), hs, ?_⟩
  intro d m' v F2 H2 pd wd _ a2
  rw [hK] at a2
  exact k0 d ρ1 v F2 H2 pd (e1.trans wd.ff) (r1.stepN wd) a2
end DL
namespace DL
open PySem L2
/-- one field: a text or a number, as a text -/
def dFmt (f : DM) : DM := fun ρ P => f ρ fun d ρ1 => match d with
  | .str y => y.length ≤ 1000000 ∧ P (.str y) ρ1
  | .int i => i.natAbs.log2 < 1920 ∧ P (.str (toString i)) ρ1
  | _ => False
def dJs : List DM → Str → DM
  | [], acc => fun ρ P => P (.str acc) ρ
  | f :: fs, acc => fun ρ P => f ρ fun d ρ1 => match d with
    | .str y => (acc ++ y).length ≤ 1000000 ∧ dJs fs (acc ++ y) ρ1 P
    | _ => False
section
variable {X : Cx} {c : Cn}
theorem de_fmt {e : Expr} {f : DM} {pos : Pos} (he : PE X e (tD c f)) : PE X (.FormattedValue e (-1) none pos) (tD c (dFmt f)) := by
  refine PE.to (pe_fmt he) ?_
  rintro σ H Q ⟨F, ρ, xx, P, rel, q, k⟩
  refine ⟨F, ρ, xx, _, rel, q, fun d ρ1 v F1 H1 q1 e1 r1 a1 => ?_⟩
  cases d with
  | str y =>
    cases a1
    exact .inl ⟨y, rfl, sz q1.1, k _ _ _ F1 H1 q1.2 e1 r1 (.str y)⟩
  | int i =>
    cases a1
    exact .inr ⟨i, rfl, q1.1, k _ _ _ F1 H1 q1.2 e1 r1 (.str _)⟩
  | _ => exact q1.elim
theorem js_use : ∀ (fs : List DM) (acc : Str) (σ : L2.St) (H : Hp) (Q : VK), tD c (dJs fs acc) σ H Q → tJs (fs.map (tD c)) acc σ H fun out H1 => Q (.str out) H1
  | [], acc, σ, H, Q, ⟨F, ρ, xx, P, rel, q, k⟩ => k _ ρ _ F H q (Ex.refl F) rel (.str acc)
  | f :: fs, acc, σ, H, Q, ⟨F, ρ, xx, P, rel, q, k⟩ => by
    refine ⟨F, ρ, xx, _, rel, q, fun d ρ1 v F1 H1 q1 e1 r1 a1 => ?_⟩
    cases d with
    | str y =>
      cases a1
      exact ⟨y, rfl, sz q1.1, js_use fs _ σ H1 Q ⟨F1, ρ1, xx, P, r1, q1.2, fun d ρ2 v F2 H2 p e2 r2 a2 => k d ρ2 v F2 H2 p (e1.trans e2) r2 a2⟩⟩
    | _ => exact q1.elim
theorem de_fs {v1 v2 : Expr} {rest : List Expr} {fs : List DM} {pos : Pos} (h : PJ X (v1 :: v2 :: rest) (fs.map (tD c))) : PE X (.JoinedStr (v1 :: v2 :: rest) pos) (tD c (dJs fs "")) := by
  refine PE.to (pe_joined h) ?_
  intro σ H Q q
  exact js_use fs _ σ H Q q
theorem pj_nil : PJ X [] (([] : List DM).map (tD c)) := .nil
theorem pj_cons {e : Expr} {f : DM} {es : List Expr} {fs : List DM} (h : PE X e (tD c f)) (r : PJ X es (fs.map (tD c))) : PJ X (e :: es) ((f :: fs).map (tD c)) := .cons h r
/-- int of a number, a truth, a text of figures -/
def gIntU : GC := fun ds P => match ds with
  | [.int i] => P (.int i)
  | [.bool b] => P (.int (if b then 1 else 0))
  | [.str a] => ∃ n, PySem.intText? a = some n ∧ a.length ≤ 640 ∧ P (.int n)
  | _ => False
theorem sem_intU : SemC X c (.type "int") gIntU := by
  refine ⟨_, call_int1.or call_int_str, fun F H σ ρ xx ds vs P Q r bs g k => ?_⟩
  unfold gIntU at g
  split at g
  · obtain ⟨v, rfl, b⟩ := pr1 bs
    cases bo_int b
    exact .inl (.inl ⟨_, rfl, k _ _ F H g (Ex.refl F) r (.int _)⟩)
  · obtain ⟨v, rfl, b⟩ := pr1 bs
    cases bo_bl b
    exact .inl (.inr ⟨_, rfl, k _ _ F H g (Ex.refl F) r (.int _)⟩)
  · obtain ⟨v, rfl, b⟩ := pr1 bs
    cases bo_str b
    obtain ⟨n, g1, g2, g⟩ := g
    exact .inr ⟨_, n, rfl, g1, g2, k _ _ F H g (Ex.refl F) r (.int _)⟩
  · exact g.elim
end
end DL
namespace DL
open PySem L2
section
variable {c : Cn} {F H : Hp} {σ : L2.St} {ρ : DL.Env} {xx yy : XX}
/-- a list of lists at A, its rows at as -/
structure Nest (K : PySem.W.Frag) (F : Hp) (A : Addr) (as : List Addr) (rows : List (List D)) : Prop where
  o : F A = some (.lst (as.map V.ref))
  n : as.length = rows.length
  r : ∀ (k : Nat) (a : Addr) (r : List D), as[k]? = some a → rows[k]? = some r → ∃ vs, F a = some (.lst vs) ∧ AtAll K F vs r
theorem Nest.mono {K : PySem.W.Frag} {F F' : Hp} {A : Addr} {as : List Addr} {rows : List (List D)} (h : Nest K F A as rows) (e : Ex F F') : Nest K F' A as rows :=
  ⟨e _ _ h.o, h.n, fun k a r h1 h2 => let ⟨vs, q1, q2⟩ := h.r k a r h1 h2; ⟨vs, e _ _ q1, q2.mono e⟩⟩
theorem rows_at {K : PySem.W.Frag} {F : Hp} : ∀ (as : List Addr) (rows : List (List D)), as.length = rows.length → (∀ (k : Nat) (a : Addr) (r : List D), as[k]? = some a → rows[k]? = some r → ∃ vs, F a = some (.lst vs) ∧ AtAll K F vs r) → AtAll K F (as.map V.ref) (rows.map PyData.list)
  | [], [], _, _ => .nil
  | [], _ :: _, h, _ => (by simp at h)
  | _ :: _, [], h, _ => (by simp at h)
  | a :: as, r :: rows, h, k => by
    obtain ⟨vs, q1, q2⟩ := k 0 a r rfl rfl
    exact .cons (.lst (.inl (.inl q1)) q2) (rows_at as rows (by simpa using h) fun j a r h1 h2 => k (j + 1) a r h1 h2)
theorem Nest.at {K : PySem.W.Frag} {F : Hp} {A : Addr} {as : List Addr} {rows : List (List D)} (h : Nest K F A as rows) : At K F (.ref A) (.list (rows.map PyData.list)) := .lst (.inl (.inl h.o)) (rows_at as rows h.n h.r)
end
end DL
namespace DL
open PySem L2
section
variable {K : PySem.W.Frag} {R : Orc} {F H : Hp} {v0 vc : V} {i j r w : Int} {s : Str} {rest : List D}
/-- the row at a, and all else -/
structure WI (K : PySem.W.Frag) (R : Orc) (F G Hw : Hp) (a U : Addr) (as : List Addr) (e : DL.Env) (σ : L2.St) (ds : List D) (H' : Hp) : Prop where
  x : ∃ F' us', Ex G F' ∧ Rel ⟨K, R, none, F, Hw⟩ F' H' σ e [(a, .o (.lst us'))] ∧ AtAll K F' us' ds
  u : H' U = some (.lst (as.map V.ref))
theorem WI.row {G Hw H' : Hp} {a U : Addr} {as : List Addr} {e : DL.Env} {σ : L2.St} {ds : List D} (h : WI K R F G Hw a U as e σ ds H') : ∃ us', H' a = some (.lst us') ∧ us'.length = ds.length := by
  obtain ⟨F', us', _, r, at_⟩ := h.x
  exact ⟨us', (r.s.ex (a, .o (.lst us')) (List.mem_cons_self ..)).1.o, at_.length⟩
theorem WI.put {G Hw H' : Hp} {a U : Addr} {as : List Addr} {e : DL.Env} {σ : L2.St} {ds : List D} {F2 : Hp} {us' : List V} {v : V} {d : D} {k : Nat} (hU : a ≠ U) (ef : Ex G F2) (r : Rel ⟨K, R, none, F, Hw⟩ F2 H' σ e [(a, .o (.lst us'))]) (ha : AtAll K F2 us' ds) (hu : H' U = some (.lst (as.map V.ref))) (hv : At K F2 v d) :
    WI K R F G Hw a U as e σ (ds.set k d) (upd H' a (.lst (us'.set k v))) :=
  ⟨⟨F2, us'.set k v, ef, r.mutX (show upd H' a _ a = _ from upd_same), ha.set hv k⟩, by rw [upd_ne (Ne.symm hU)]; exact hu⟩
end
section
variable {K : PySem.W.Frag} {R : Orc} {F H : Hp} {v0 vc : V} {i j r w : Int} {s : Str} {rest : List D} {Hw : Hp} {a U : Addr} {as : List Addr} {x : Option V} {ds : List D} {Z : Ends}
theorem WI.step {G : Hp} {F2 H2 : Hp} {us : List V} {e : DL.Env} {σ : L2.St} (hw : Hw U = some (.lst (as.map V.ref))) (ef : Ex G F2) (r2 : Rel ⟨K, R, none, F, Hw⟩ F2 H2 σ e [(a, .o (.lst us))]) (ha : AtAll K F2 us ds) : WI K R F G Hw a U as e σ ds H2 :=
  ⟨⟨F2, us, ef, r2, ha⟩, (r2.w.kp U _ hw fun z => z).1⟩
end
end DL
namespace DL
open PySem L2
end DL
namespace DL
open PySem L2
end DL
namespace DL
open PySem L2
section
variable {X : Cx} {c : Cn} {e a b : Expr} {pos : Pos}
def gCutS (to : TE) (tl th : TO) : TG := fun v σ H Q => to σ H fun o H1 => tl σ H1 fun l H2 => th σ H2 fun u H3 =>
  ∃ (p q : Addr) (xs ys : List V) (i j : Int), o = .ref p ∧ v = .ref q ∧ l = some i ∧ u = some j ∧ p ≠ q ∧ H3 p = some (.lst xs) ∧ H3 q = some (.lst ys) ∧ 0 ≤ i ∧ i ≤ j ∧ j ≤ xs.length ∧
    xs.length + ys.length ≤ sizeLine ∧ Q σ (upd H3 p (.lst (xs.take i.toNat ++ ys ++ xs.drop j.toNat)))
theorem pg_cutS {o : Expr} {lo hi : Option Expr} {p2 : Pos} {to : TE} {tl th : TO} (ho : PE X o to) (hl : PO X lo tl) (hu : PO X hi th)
    (ha : ∀ v, assign (.Subscript o (.Slice lo hi none p2) pos) X.env v = (do
      let cut ← holding [v] (eval o X.env)
      let sl ← holding [v, cut] (eval (.Slice lo hi none p2) X.env)
      standAt pos
      holding [v, cut, sl] (setItem cut sl v)
      release [sl, v, cut] []) := by intro _; rfl) : PG X (.Subscript o (.Slice lo hi none p2) pos) (gCutS to tl th) := by
  (refine ⟨fun pins s σ H v u Q I r h => ?_⟩)
  rw [ha]
  (refine wpAny_bind (wpAny_holding (thn (ho.run pins s σ H _ I h) fun ov s1 ⟨x, H1, I1, r1, q1⟩ => ?_)))
  refine wpAny_bind (wpAny_holding (wpAny_Slice (thn (hl.run pins s1 σ H1 _ I1 q1) fun vl s2 ⟨l, H2, I2, pl, q2⟩ => thn (hu.run pins s2 σ H2 _ I2 q2) fun vu s3 ⟨w, H3, I3, pu, q3⟩ => ?_)))
  rw [evalPart_none]
  refine wpAny_pure ?_
  (have I4 : Inv X pins σ H3 { s3 with heap := s3.heap.push { cls := .type "slice", data := .fields #[vl, vu, .none] } } := I3.kept (t' := s3.toks) fun b ob q => Heap.get?_push_of_some _ q)
  obtain ⟨p, q, xs, ys, i, j, rfl, rfl, rfl, rfl, hne, hp, hq, h0, hij, hj, hz, hQ⟩ := q3
  cases r
  cases r1
  cases pl
  cases pu
  (refine wpAny_bind (wpAny_standAt (wpAny_bind (wpAny_holding ?_))))
  refine set_slice I4 hp hq hne (Heap.IsSliceOf.new ..) ⟨_, rfl⟩ ⟨_, rfl⟩ h0 hij hj hz fun s' I' => ?_
  exact wpAny_release ⟨σ, _, I', hQ⟩
def sCutS (i : Nat) (fe : DM) (fl fu : OM) : SM := fun E ρ => fe ρ fun d ρ1 => ownL ρ1 i (fun _ => True) ∧ fl ρ1 fun k ρ2 => fu ρ2 fun m ρ3 => ownL ρ3 i fun ds =>
  ∃ ys z w, d = .list ys ∧ k = some z ∧ m = some w ∧ 0 ≤ z ∧ z ≤ w ∧ w ≤ (ds.length : Int) ∧ ds.length + ys.length < 1000000 ∧ E.nx (ρ3.set i (.ow (.list (ds.take z.toNat ++ ys ++ ds.drop w.toNat))))
theorem cutS_use {i : Nat} {fe : DM} {fl fu : OM} : ∀ Z σ H, tS c (sCutS i fe fl fu) Z σ H → tAsg (tN c fe) (gCutS (tVar i) (tOI c fl) (tOI c fu)) Z σ H := by
  rintro Z σ H ⟨F, ρ, xx, E, rel, q, n, rr, b, t⟩
  refine ⟨F, ρ, xx, _, rel, q, fun d ρ1 y F1 H1 ⟨q0, q1⟩ e1 r1 f1 => ?_⟩
  obtain ⟨ds0, p0, vs0, g1, g2, g3, g4, _⟩ := ownL_get r1 q0
  refine ⟨.ref p0, g2, F1, ρ1, (y, XO.d d) :: xx, _, r1.pushX f1, q1, fun k ρ2 F2 H2 q2 e2 r2 => ⟨F2, ρ2, _, _, r2, q2, fun m ρ3 F3 H3 q3 e3 r3 => ?_⟩⟩
  obtain ⟨ds, p, vs, h1, h2, h3, h4, ys, z, w, rfl, rfl, rfl, h0, hzw, hw, hl, hn⟩ := ownL_get r3 q3
  have ep : p0 = p := by
    rw [g2] at h2
    cases h2
    rfl
  subst ep
  obtain ⟨k1, k2⟩ := r3.s.ex (y, XO.d (.list ys)) (List.mem_cons_self ..)
  obtain ⟨us, g5, g6⟩ := k1.o
  have hne : p0 ≠ y := fun zz => k2 i _ h1 (by rw [h2, zz])
  refine ⟨p0, y, vs, us, z, w, rfl, rfl, rfl, rfl, hne, h3, g5, h0, hzw, by rw [h4.length]; exact hw, (by have hh : ds.length + ys.length < sizeLine := szl (Nat.le_of_lt hl); rw [h4.length, g6.length]; exact Nat.le_of_lt hh), ?_⟩
  have r4 := r3.mut (d' := .list (ds.take z.toNat ++ ys ++ ds.drop w.toNat)) h1 h2 ⟨_, upd_same, ((h4.take _).append g6).append (h4.drop _)⟩
  exact n _ σ F3 _ hn (e1.trans (e2.trans e3)) r4.popX.1
theorem dp_cutS {x : Str} {i : Nat} {lo hi : Option Expr} {px p2 tpos : Pos} {fl fu : OM} {fe : DM} (ho : PE X (.Name x px) (tVar i)) (hl : PO X lo (tOI c fl)) (hu : PO X hi (tOI c fu)) (he : PE X e (tN c fe))
    (hsub : ∀ v, assign (.Subscript (.Name x px) (.Slice lo hi none p2) tpos) X.env v = (do
      let cut ← holding [v] (eval (.Name x px) X.env)
      let sl ← holding [v, cut] (eval (.Slice lo hi none p2) X.env)
      standAt tpos
      holding [v, cut, sl] (setItem cut sl v)
      release [sl, v, cut] []) := by intro _; rfl)
    (hs : swapsWithSole [.Subscript (.Name x px) (.Slice lo hi none p2) tpos] e pos.line X.env = pure false := by rfl) (hw : swappedStores [.Subscript (.Name x px) (.Slice lo hi none p2) tpos] e X.env = pure none := by rfl)
    (h1 : (assignEach [.Subscript (.Name x px) (.Slice lo hi none p2) tpos] X.env).map (·.2) = [assign (.Subscript (.Name x px) (.Slice lo hi none p2) tpos) X.env] := by rfl) :
    PS X (.Assign [.Subscript (.Name x px) (.Slice lo hi none p2) tpos] e pos) (tS c (sCutS i fe fl fu)) :=
  PS.to (ps_asg he (pg_cutS ho hl hu hsub) hs hw h1) cutS_use
end
end DL
namespace DL
open PySem L2 PyProof.Rows
/-- p, of the class cls, has been caught where the slots are σ and the heap is H -/
structure Catch (X : Cx) (pins : List (Addr × Obj)) (p : Addr) (cls : Value) (d : Option Addr) (σ : L2.St) (H : Hp) (s : Shared) : Prop where
  ok : X.Ok
  new : H p = none
  air : ∃ (B : Heap) (sI : Shared), Inv X pins σ H sI ∧ (∀ b o, sI.heap.get? b = some o → b ∉ frs X.stack → B.get? b = some o) ∧ sI.heap.UpToSlots s.heap ∧ s.os = sI.os ∧ AllBare s.gens ∧ HandSPX.FlyingZ B X.stack p (Zc cls d) s.heap
theorem frs_local {X : Cx} (hs : X.stack = X.env :: X.outer) (hf : X.env.frame = some X.env.locals) : frs X.stack = X.env.locals :: X.fs := by
  rw [hs]
  exact List.filterMap_cons_some hf
section
variable {X : Cx} {pins : List (Addr × Obj)} {p : Addr} {cls : Value} {d : Option Addr} {σ : L2.St} {H : Hp} {s : Shared} {D : Ends}
namespace Catch
theorem inv (c : Catch X pins p cls d σ H s) : Inv X pins σ H s := c.air.elim fun _ q => q.elim fun _ ⟨I, nb, up, os, ag, fl⟩ => I.landed nb fl.1 up os ag
/-- it is no frame of the stack, and it is new to the heap ahead -/
theorem out (c : Catch X pins p cls d σ H s) : p ∉ frs X.stack := fun m => by
  obtain ⟨B, sI, I, nb, up, os, ag, fl⟩ := c.air
  obtain ⟨ob, vs, e, _, hd⟩ := fl.there
  obtain ⟨o', o2, e2, q⟩ := fl.2.2.1.mem m
  cases Option.some.inj (e.symm.trans e2)
  exact q vs hd
theorem fresh (c : Catch X pins p cls d σ H s) : X.ex = [] → X.s_0.heap.get? p = none ∧ ∀ q ∈ X.pn ++ pins, q.1 ≠ p := by
  intro hx
  have out := c.out
  obtain ⟨B, sI, I, nb, up, os, ag, fl⟩ := c.air
  have unseen : ∀ o, sI.heap.get? p ≠ some o := fun o e => by
    have z := (nb p o e out).symm.trans fl.2.1
    cases z
  constructor
  · refine Option.eq_none_iff_forall_not_mem.mpr fun o e => ?_
    obtain ⟨o2, q⟩ := I.base.there p o e (by rw [hx]; exact List.not_mem_nil)
    exact unseen o2 q
  · exact fun q m z => unseen q.2 (z ▸ (I.pin q m).1)
/-- the context in which a suite runs -/
theorem held (c : Catch X pins p cls d σ H s) (hs : X.stack = X.env :: X.outer) (hf : X.env.frame = some X.env.locals) : p ≠ X.env.locals ∧ p ∉ X.fs ∧ ∃ ob, s.heap.get? p = some ob ∧ Zc cls d ob ∧ (∃ vs, ob.data = .fields vs) ∧ Inv (X.suite p ((p, ob) :: (X.pn ++ pins))) [] σ H s := by
  have out := c.out
  rw [frs_local hs hf] at out
  obtain ⟨n1, n2⟩ := List.ne_and_not_mem_of_not_mem_cons out
  obtain ⟨B, sI, I, nb, up, os, ag, fl⟩ := id c.air
  obtain ⟨ob, vs, e, z, hd⟩ := fl.there
  exact ⟨n1, n2, ob, e, z, ⟨vs, hd⟩, c.inv.suite e hd c.new n1 n2⟩
theorem lands {M : Model} {A : Around} {E : Value → Shared → Prop} {Q : Unit → Shared → Prop} (c : Catch X pins p cls d σ H s) (h : ∀ h', Catch X pins p cls d σ H { s with heap := h' } → Q () { s with heap := h' }) : wpAny M A (setFlight (.ref p) none) Q E s := by
  obtain ⟨B, sI, I, nb, up, os, ag, fl⟩ := c.air
  exact HandSPX.lands_againZ fl fun h' fl' up' => h h' ⟨c.ok, c.new, B, sI, I, nb, up.trans up', os, ag, fl'⟩
theorem looks (c : Catch X pins p cls d σ H s) : PySem.W.Looks (model X.prog X.w) s.heap (typeOf (.ref p)) cls := by
  obtain ⟨B, sI, I, nb, up, os, ag, fl⟩ := c.air
  obtain ⟨ob, vs, e, z, hd⟩ := fl.there
  exact fun A Q E s' k q => wpAny_typeOf_ref (k _ _ e) (z.1.symm ▸ q)
/-- a clause's class is read -/
theorem reads {x : Str} {v : Value} {np : Pos} {Q E : Value → Shared → Prop} (c : Catch X pins p cls d σ H s) (hs : X.stack = X.env :: X.outer) (hf : X.env.frame = some X.env.locals) (hc : Names X x v) (q : Q v s) : wpAny (model X.prog X.w) (X.A.mark (some (.ref p))) (eval (.Name x np) X.env) Q E s := by
  obtain ⟨_, _, ob, _, _, _, S⟩ := c.held hs hf
  rcases hc with ⟨g, nd, m | ⟨m, b, nn⟩⟩
  · exact ld_glob (X := X.suite p ((p, ob) :: (X.pn ++ pins))) S g m q nd
  · exact ld_blt (X := X.suite p ((p, ob) :: (X.pn ++ pins))) S g m b q nn nd
end Catch
/-- the ways out of a block, told in another context -/
theorem sp_in {Y : Cx} {pn : List (Addr × Obj)} {f : Flow} (h : ∀ σ H s, Inv Y pn σ H s → Inv X pins σ H s) (q : SP Y pn D f s) : SP X pins D f s :=
  match f, q with
  | .next, ⟨σ, H, I, q⟩ => ⟨σ, H, h σ H s I, q⟩
  | .brk, ⟨σ, H, I, q⟩ => ⟨σ, H, h σ H s I, q⟩
  | .cont, ⟨σ, H, I, q⟩ => ⟨σ, H, h σ H s I, q⟩
  | .ret _, ⟨v, σ, H, I, r, q⟩ => ⟨v, σ, H, h σ H s I, r, q⟩
/-- a try, told by what its clauses do with what is caught -/
theorem try_by {body : List Stmt} {c1 : ExceptHandler} {cs : List ExceptHandler} {pos : Pos} {tb : WX → TS} {w : Ends → WX} (hs : X.stack = X.env :: X.outer) (hf : X.env.frame = some X.env.locals)
    (hb : ∀ (W : WX) (pn : List (Addr × Obj)) (xe : Value → Shared → Prop), Takes (X.tr pn xe) W → PassesOwn (model X.prog X.w) X.A X.env xe → PSs (X.tr pn xe) body (tb W))
    (hh : ∀ (pins : List (Addr × Obj)) (D : Ends) (p : Addr) (cls : Value) (d : Option Addr) (σ : L2.St) (H : Hp) (s : Shared), Catch X pins p cls d σ H s → w D cls d σ H → wpAny (model X.prog X.w) X.A (handleBy (.ref p) X.env (c1 :: cs)) (SP X pins D) X.xe s) :
    PS X (.Try body (c1 :: cs) [] [] pos) (fun D σ H => tb (w D) D σ H) := by
  (refine ⟨fun pins s σ H D I h => ?_⟩)
  have takes : Takes (X.tr (X.pn ++ pins) fun e s1 => wpAny (model X.prog X.w) X.A (noteFrame e X.env) (fun _ s2 => wpAny (model X.prog X.w) X.A (setFlight e none) (fun _ s3 => wpAny (model X.prog X.w) X.A (handleBy e X.env (c1 :: cs)) (SP X pins D) X.xe s3) X.xe s2) X.xe s1) (w D) := by
    rintro _ s1 ⟨p, B, sI, pn, σ1, H1, cls, d, rfl, J, nb, up, sky, new, os, ag, q⟩
    have sky : Sky B (X.env :: X.outer) p (Zc cls d) X.env.locals s1.heap := hs ▸ sky
    exact Sky.land Zc.steady (I.ok.frames.trans (congrArg some hs)) hf sky fun h3 fl up3 => hh pins D p cls d σ1 H1 _ ⟨I.ok, new, B, sI, J.ofTry I.ok, nb, up.trans up3, os, ag, by rw [hs]; exact fl⟩ q
  refine wpAny_Try_except (wpAny_mono ((hb (w D) (X.pn ++ pins) _ takes PassesOwn.looking).run [] s σ H D (I.toTry _) h) (fun f s1 q => ?_) fun _ _ q => q)
  have q := sp_in (fun _ _ _ J => J.ofTry I.ok) q
  exact match f, q with
  | .next, q => wpAny_execs_nil q
  | .brk, q => q
  | .cont, q => q
  | .ret _, q => q
end
end DL
namespace DL
open PySem L2 PyProof.Rows
/-- a clause: what it names, the slot of its own name (if it has one), what its suite does -/
inductive Cl
  | bare (c : Value) (ts : Addr → Value → Option Addr → TS)
  | as (c : Value) (i : Nat) (ts : Addr → Value → Option Addr → TS)
def lose (i : Nat) (D : Ends) : Ends := ⟨fun σ H => D.nx (σ.set i none) H, D.rt, fun σ H => D.bk (σ.set i none) H, fun σ H => D.ct (σ.set i none) H⟩
def wCl (K : PySem.W.Frag) (D : Ends) : List Cl → WX
  | [] => fun _ _ _ _ => False
  | .bare c ts :: r => fun cls d σ H => ∃ b, PySem.W.exmOne K cls c = some b ∧ (b = true → ∀ p, H p = none → ts p cls d D σ H) ∧ (b = false → wCl K D r cls d σ H)
  | .as c i ts :: r => fun cls d σ H => ∃ b, PySem.W.exmOne K cls c = some b ∧ (b = true → ∀ p, H p = none → ts p cls d (lose i D) (σ.set i (some (.ref p))) H) ∧ (b = false → wCl K D r cls d σ H)
/-- the suite of a clause -/
def Su (X : Cx) (sts : List Stmt) (ts : Addr → Value → Option Addr → TS) : Prop :=
  ∀ (p : Addr) (ob : Obj) (cls : Value) (d : Option Addr) (pn : List (Addr × Obj)), Zc cls d ob → (∃ vs, ob.data = .fields vs) → PSs (X.suite p ((p, ob) :: pn)) sts (ts p cls d)
inductive ClOk (X : Cx) : List ExceptHandler → List Cl → Prop
  | nil : ClOk X [] []
  | bare {x : Str} {c : Value} {ts : Addr → Value → Option Addr → TS} {st : Stmt} {sts : List Stmt} {p1 p2 : Pos} {hds : List ExceptHandler} {l : List Cl} (hc : Names X x c) (su : Su X (st :: sts) ts) (r : ClOk X hds l) :
      ClOk X (.ExceptHandler (some (.Name x p1)) none (st :: sts) p2 :: hds) (.bare c ts :: l)
  | as {x n : Str} {c : Value} {i : Nat} {ts : Addr → Value → Option Addr → TS} {st : Stmt} {sts : List Stmt} {p1 p2 : Pos} {hds : List ExceptHandler} {l : List Cl} (hi : X.N[i]? = some n) (hln : X.env.kindOf n = some .local)
      (hc : Names X x c) (su : Su X (st :: sts) ts) (r : ClOk X hds l) : ClOk X (.ExceptHandler (some (.Name x p1)) (some n) (st :: sts) p2 :: hds) (.as c i ts :: l)
section
variable {X : Cx} {body : List Stmt} {h₀ : ExceptHandler} {hds : List ExceptHandler} {l : List Cl} {pos : Pos} {tb : WX → TS}
theorem ps_try_cl (hs : X.stack = X.env :: X.outer) (hf : X.env.frame = some X.env.locals) (hN : X.N.Nodup)
    (hb : ∀ (W : WX) (pn : List (Addr × Obj)) (xe : Value → Shared → Prop), Takes (X.tr pn xe) W →
      PassesOwn (model X.prog X.w) X.A X.env xe → PSs (X.tr pn xe) body (tb W))
    (hh : ClOk X (h₀ :: hds) l) : PS X (.Try body (h₀ :: hds) [] [] pos) (fun D σ H => tb (wCl X.K D l) D σ H) := by
  refine try_by hs hf hb (w := fun D => wCl X.K D l) ?_
  intro pins D p cls d σ H s c
  clear hb
  suffices all : ∀ {cs : List ExceptHandler} {l : List Cl}, ClOk X cs l → wCl X.K D l cls d σ H → wpAny (model X.prog X.w) X.A (handleBy (.ref p) X.env cs) (SP X pins D) X.xe s from all hh
  intro cs l hh
  induction hh with
  | nil => exact False.elim
  | bare hc su _ more =>
    rintro ⟨b, e, yes, no⟩
    refine wpAny_handleBy_cons (codeAny_handlers_test (c.reads hs hf hc ((PySem.W.exm_one (M := model X.prog X.w) c.inv.kIn c.looks e).here ?_))) Value.noConfusion
    match b with
    | false => exact more (no rfl)
    | true =>
      refine codeAny_handlers_suite (c.lands fun h4 c4 => ?_)
      obtain ⟨n1, n2, ob, _, z, hd, S⟩ := c4.held hs hf
      exact wpAny_mono ((su p ob cls d (X.pn ++ pins) z hd).run [] _ σ H D S (yes rfl p c.new)) (fun f s6 q => sp_in (fun _ _ _ J => J.unsuite c.ok) q) fun _ _ => False.elim
  | as hi hln hc su _ more =>
    rintro ⟨b, e, yes, no⟩
    refine wpAny_handleBy_cons (codeAny_handlers_test (c.reads hs hf hc ((PySem.W.exm_one (M := model X.prog X.w) c.inv.kIn c.looks e).here ?_))) Value.noConfusion
    match b with
    | false => exact more (no rfl)
    | true =>
      refine codeAny_handlers_suite_as (c.lands fun h4 c4 => ?_)
      obtain ⟨n1, n2, ob, _, z, hd, S⟩ := c4.held hs hf
      refine store_ok (X := X.suite p ((p, ob) :: (X.pn ++ pins))) (v := .ref p) S hN hi (.inl hln) rfl (fun s5 S5 => ?_) (.inr hln)
      refine wpAny_mono ((su p ob cls d (X.pn ++ pins) z hd).run [] s5 _ H (lose _ D) S5 (yes rfl p c.new)) (fun f s6 q => ?_) fun _ _ => False.elim
      -- its name goes
      have q : SP X pins (lose _ D) f s6 := sp_in (fun _ _ _ J => J.unsuite c.ok) q
      exact match f, q with
      | .next, ⟨_, _, J, q⟩ => gone_ok J hN hi hln fun _ J7 => ⟨_, _, J7, q⟩
      | .brk, ⟨_, _, J, q⟩ => gone_ok J hN hi hln fun _ J7 => ⟨_, _, J7, q⟩
      | .cont, ⟨_, _, J, q⟩ => gone_ok J hN hi hln fun _ J7 => ⟨_, _, J7, q⟩
      | .ret _, ⟨_, _, _, J, r, q⟩ => gone_ok J hN hi hln fun _ J7 => ⟨_, _, _, J7, r, q⟩
end
end DL
namespace DL
open PySem L2 PyProof.Rows
theorem exm_other {K : PySem.W.Frag} {S T : PySem.Addr} (h1 : PySem.W.subIn K (.ref T) (.type "BaseException") = some true) (h2 : PySem.W.isClsIn K T = true) (h3 : PySem.W.typeIn K (.ref T) = some (.type "type")) (h4 : PySem.W.subIn K (.ref S) (.ref T) = some false) : PySem.W.exmOne K (.ref S) (.ref T) = some false := by
  have h2 : (PySem.W.clsIn K T).isSome = true := h2
  unfold PySem.W.exmOne PySem.W.kitCls
  simp [h1, h2, h3, h4]
/-- an exception of the class y does not match the class x -/
def Apart (K : PySem.W.Frag) (gl : Str → Option Value) (x y : Str) : Prop := ∃ C B, gl x = some (.ref C) ∧ gl y = some (.ref B) ∧ PySem.W.exmOne K (.ref B) (.ref C) = some false
/-- a clause, as data: its class, the classes that it lets pass, its suite -/
inductive CD
  | bare (cn : Str) (ot : List Str) (gs : SM)
  | as (cn : Str) (ot : List Str) (f : Str) (i j : Nat) (sh : D → D)
def pxC (E : DE) : List CD → Exn → Env → Prop
  | [] => fun _ _ => False
  | .bare cn ot gs :: r => fun x ρ => (x.c = cn ∧ gs E ρ) ∨ (x.c ∈ ot ∧ pxC E r x ρ)
  | .as cn ot f i j sh :: r => fun x ρ => (x.c = cn ∧ i < ρ.length ∧ ∃ y, x.v = some (f, y) ∧ E.nx (((ρ.set i .no).set j (.im (sh y))).set i .no)) ∨ (x.c ∈ ot ∧ pxC E r x ρ)
inductive CdOk (X : Cx) (c : Cn) : List ExceptHandler → List CD → Prop
  | nil : CdOk X c [] []
  | bare {cn : Str} {fld : Option Str} {ot : List Str} {gs : SM} {st : Stmt} {sts : List Stmt} {p1 p2 : Pos} {hds : List ExceptHandler} {l : List CD} (Ck : ClsAt X.prog X.w X.K X.mg X.base cn fld) (gx : Gl X cn)
      (hsu : ∀ (a : Addr) (pn : List (Addr × Obj)), PSs (X.suite a pn) (st :: sts) (tS0 c gs)) (ap : ∀ z ∈ ot, Apart X.K X.mg cn z) (r : CdOk X c hds l) (hdb : (cn == ("__debug__" : Str)) = false := by decide) :
      CdOk X c (.ExceptHandler (some (.Name cn p1)) none (st :: sts) p2 :: hds) (.bare cn ot gs :: l)
  | as {cn f n m : Str} {ot : List Str} {i j : Nat} {sh : D → D} {ev : Expr} {pm ps p1 p2 : Pos} {hds : List ExceptHandler} {l : List CD} (hN : X.N.Nodup) (hi : X.N[i]? = some n) (hln : X.env.kindOf n = some .local) (hj : X.N[j]? = some m) (hx : Loc X.env.scope m)
      (hfn : X.fn m = true ∨ X.env.scope.names.lookup m = some .local) (Ck : ClsAt X.prog X.w X.K X.mg X.base cn (some f)) (Fk : FldOf X.K X.mg cn f) (gx : Gl X cn)
      (hv : ∀ (a C : Addr) (oe : Obj) (cls : Value) (d : Option Addr) (pn : List (Addr × Obj)), XfC X.K C → PySem.W.findIn X.K (.ref C) f = some none → Zc cls d oe → (∃ vs, oe.data = .fields vs) → PE (X.suite a ((a, oe) :: pn)) ev (tFd c a C i cls d f sh))
      (ap : ∀ z ∈ ot, Apart X.K X.mg cn z) (r : CdOk X c hds l) (hsw : swapsWith ev (some (.Name m pm)) ps.line X.env = pure false := by rfl) (hdb : (cn == ("__debug__" : Str)) = false := by decide) :
      CdOk X c (.ExceptHandler (some (.Name cn p1)) (some n) [.Assign [.Name m pm] ev ps] p2 :: hds) (.as cn ot f i j sh :: l)
/-- try: body / clauses -/
def sTryC (l : List CD) (gb : (Exn → Env → Prop) → SM) : SM := fun E ρ => gb (pxC E l) E ρ
section
variable {X : Cx} {c : Cn}
theorem cd_use {hds : List ExceptHandler} {l : List CD} (h : CdOk X c hds l) : ∃ l' : List Cl, ClOk X hds l' ∧ ∀ (Z : Ends) (E : DE),
    (∀ (ρ' : Env) (σ' : L2.St) (F' H' : Hp), E.nx ρ' → Rel c F' H' σ' ρ' [] → Z.nx σ' H') → (∀ (d : D) (v : V) (ρ' : Env) (σ' : L2.St) (F' H' : Hp), E.rt d ρ' → Rel c F' H' σ' ρ' [] → At c.K F' v d → Z.rt v H') →
    (∀ (ρ' : Env) (σ' : L2.St) (F' H' : Hp), E.bk ρ' → Rel c F' H' σ' ρ' [] → Z.bk σ' H') → (∀ (ρ' : Env) (σ' : L2.St) (F' H' : Hp), E.ct ρ' → Rel c F' H' σ' ρ' [] → Z.ct σ' H') →
    ∀ cls d σ' H', wx X.mg c (pxC E l) cls d σ' H' → wCl X.K Z l' cls d σ' H' := by
  induction h with
  | nil => exact ⟨[], .nil, fun Z E _ _ _ _ cls d σ' H' ⟨F', ρ', xx', x, rel', p, _⟩ => p.elim⟩
  | @bare cn fld ot gs st sts p1 p2 hds l Ck gx hsu ap r hdb ih =>
    obtain ⟨l', ok, use⟩ := ih
    obtain ⟨C, fI, fd, ps, hm, T, iC, tI, F1, hbi, hex⟩ := Ck
    refine ⟨.bare (.ref C) (fun _ _ _ => tS0 c gs) :: l', .bare ⟨gx, hdb, .inl hm⟩ (fun p ob cls d pn _ _ => hsu p _) ok, fun Z E n r b t => ?_⟩
    rintro cls d σ' H' ⟨F', ρ', xx', x, rel', p, C', hm', rfl, hfd⟩
    rcases p with ⟨hx, q⟩ | ⟨hx, q⟩
    · rw [hx, hm] at hm'
      cases hm'
      exact ⟨true, hex, fun _ a _ => ⟨F', ρ', E, rel'.bare, q, n, r, b, t⟩, fun z => nomatch z⟩
    · obtain ⟨C2, B2, e1, e2, e3⟩ := ap _ hx
      rw [hm] at e1
      cases e1
      rw [hm'] at e2
      cases e2
      exact ⟨false, e3, (by intro z; cases z), fun _ => use Z E n r b t _ _ _ _ ⟨F', ρ', xx', x, rel', q, C', hm', rfl, hfd⟩⟩
  | @as cn f n0 m ot i j sh ev pm ps p1 p2 hds l hN hi hln hj hx0 hfn Ck Fk gx hv ap r hsw hdb ih =>
    obtain ⟨l', ok, use⟩ := ih
    obtain ⟨C, fI, fd, pps, hm, T, iC, tI, F1, hbi, hex⟩ := Ck
    obtain ⟨C9, hm9, xf, hno⟩ := Fk
    rw [hm] at hm9
    cases hm9
    refine ⟨.as (.ref C) i (fun a cls d => tAsg (tFd c a C i cls d f sh) (gName j)) :: l', .as hi hln ⟨gx, hdb, .inl hm⟩ (fun a oe cls d pn hz hfl => pss_one (ps_set (X := X.suite a ((a, oe) :: pn)) hN hj hx0 (hv a C oe cls d pn xf hno hz hfl) hsw hfn)) ok, fun Z E n r b t => ?_⟩
    rintro cls d σ' H' ⟨F', ρ', xx', x, rel', p, C', hm', rfl, hfd⟩
    rcases p with ⟨hx, hil, y, hxv, q⟩ | ⟨hx, q⟩
    · rw [hx, hm] at hm'
      cases hm'
      rw [hxv] at hfd
      obtain ⟨dd, v, h3, h4, h5⟩ := hfd
      refine ⟨true, hex, fun _ a _ => ?_, fun z => nomatch z⟩
      have rel0 : Rel c F' H' (σ'.set i (some (.ref a))) (ρ'.set i .no) [] := ⟨rel'.w, rel'.bare.s.put i (fun _ e => by cases e) (fun _ e => by cases e) (by intro m z; cases z)⟩
      refine ⟨F', _, [], y, rel0, ⟨get_set_eq (by rw [← rel'.s.len]; exact hil), rfl, dd, v, h3, h4, h5⟩, fun v' F2 H2 e2 r2 a2 => ?_⟩
      have r3 := r2.putI j a2
      exact n _ _ F2 H2 q ⟨r3.w, r3.s.forget i⟩
    · obtain ⟨C2, B2, e1, e2, e3⟩ := ap _ hx
      rw [hm] at e1
      cases e1
      rw [hm'] at e2
      cases e2
      exact ⟨false, e3, (by intro z; cases z), fun _ => use Z E n r b t _ _ _ _ ⟨F', ρ', xx', x, rel', q, C', hm', rfl, hfd⟩⟩
theorem dp_tryC {body : List Stmt} {h₀ : ExceptHandler} {hds : List ExceptHandler} {l : List CD} {pos : Pos} {gb : (Exn → Env → Prop) → SM} (hs : X.stack = X.env :: X.outer) (hf : X.env.frame = some X.env.locals) (hN : X.N.Nodup)
    (hb : ∀ (px : Exn → Env → Prop) (pn : List (Addr × Obj)) (xe : Value → Shared → Prop), Takes (X.tr pn xe) (wx X.mg c px) → PassesOwn (model X.prog X.w) X.A X.env xe → PSs (X.tr pn xe) body (tS c (gb px)))
    (hd : CdOk X c (h₀ :: hds) l) : PS X (.Try body (h₀ :: hds) [] [] pos) (tS0 c (sTryC l gb)) := by
  obtain ⟨l', ok, use⟩ := cd_use hd
  refine PS.to (ps_try_cl (tb := fun W Z σ H => ∃ px, (∀ cls d σ' H', wx X.mg c px cls d σ' H' → W cls d σ' H') ∧ tS c (gb px) Z σ H) hs hf hN (fun W pn xe tk po => ?_) ok) ?_
  · exact ⟨fun pins s σ H Z I ⟨px, hw, q⟩ => (hb px pn xe (tk.imp hw) po).run pins s σ H Z I q⟩
  · rintro Z σ H ⟨F, ρ, E, rel, q, n, r, b, t⟩
    exact ⟨pxC E l, use Z E n r b t, (show tS0 c (gb _) Z σ H from ⟨F, ρ, E, rel, q, n, r, b, t⟩).to⟩
variable {a C : Addr} {i : Nat} {oe : Obj} {cls : Value} {d : Option Addr} {pn : List (Addr × Obj)} {f : Str} {pos : Pos}
/-- ('word', e.f) -/
theorem fd_two {e : Expr} {z : Str} {k0 : Nat} {p0 : Pos} (h : PE (X.suite a ((a, oe) :: pn)) e (tFd c a C i cls d f fun y => y))
    (s1 : starEach [.Constant (.str z) k0 p0, e] X.env = (false, eval (.Constant (.str z) k0 p0) X.env) :: starEach [e] X.env := by rfl) (hs : starEach [e] X.env = (false, eval e X.env) :: starEach [] X.env := by rfl) :
    PE (X.suite a ((a, oe) :: pn)) (.Tuple [.Constant (.str z) k0 p0, e] 0 pos) (tFd c a C i cls d f fun y => .tuple [.str z, y]) := by
  refine PE.to (pe_tup (pa_cons pe_str (pa_cons h pa_nil hs) s1)) ?_
  rintro σ H Q ⟨F, ρ, xx, y, rel, ca, k⟩
  refine ⟨F, ρ, xx, y, rel, ca, fun v F1 H1 e1 r1 a1 => ⟨sz (by show 2 ≤ 1000000; decide), fun q hq => ?_⟩⟩
  have e2 := r1.efF (.tup [.str z, v]) hq
  exact k _ _ _ (e1.trans e2) (r1.newF _ hq) (.tup (.inl (.inl upd_same)) (.cons (.str _) (.cons (a1.mono e2) .nil)))
end
end DL
namespace DL
open PySem L2
theorem FnX.ofD {pr : Program} {wd : PySem.World} {K : PySem.W.Frag} {gl : Str → Option Value} {bas : Heap} {k : Nat} {f : Addr} {x qual : Str} {st : Stmt} {fd : FuncData} {N ps : List Str} {sp : Sp} {dvs : List V} (F : FunD K x qual (defArgs st) (defBody st) (defScope st) dvs [] f fd) (S : FnScope N ps (defScope st))
    (len : (∀ vs H Q E, sp vs H Q E → vs.length = ps.length))
    (body : ∀ (cdv : Value) (A : Around) (out : List PySem.Env) (sh : Shared) (H : Hp) (vs : List V) (Q : VK) (E : XK), A.guards = some [] → Room k (A.deeper (PyProof.Rows.envOfC qual (defScope st) sh.heap.objs.size f cdv)) → sp vs H Q E →
      ∃ t, PSs (cxOf (L2.CX pr wd) pr wd K gl bas N qual (defScope st) f cdv A out sh H E) (defBody st) t ∧ t { nx := fun _ H' => Q .non H', rt := Q } (start N vs) H) : FnX pr wd K gl bas (k + 1) f fd ps sp := by
  obtain ⟨oc, od, dV, kV, doc, pm, an, cdv, ct, osl, efd, lk, hc, _, _⟩ := F.ex
  refine ⟨len, fun A out sh H ar us vs Q E hg room env bnd vals says => ?_⟩
  have heapK : K.In sh.heap := PySem.W.Frag.In.keeps env.mod.kin fun b o e => (env.bs b o e).1
  have noLim : sh.heap.NoLimit := Heap.NoLimit.keeps env.mod.nolimit fun b o e => (env.bs b o e).1
  have kinds : ∀ y ∈ ps.zip us, (defScope st).names.lookup y.1 = some .local ∨ ((defScope st).names.lookup y.1 = some .cell ∧ ((cellsFrom (sh.heap.objs.size + 1) (defScope st).names []).lookup y.1).isSome = true) := by
    rintro ⟨n, v⟩ hy
    exact (S.par n (List.of_mem_zip hy).1).imp id fun q => ⟨q, PySem.W.cellsFrom_some _ _ _ (.inl q)⟩
  rw [efd] at lk bnd
  refine codeAny_call_function room.depth (heapK _ _ lk) rfl S.co S.gen rfl (PySem.W.codeRec_of heapK hc) (bnd _ _ _ _ (wpAny_newFunctionEnv_cells S.kind kinds ?_))
  intro env1 he s1 xc
  subst he
  refine ⟨noLim.keeps xc.toInCall.keep, codeAny_func ?_⟩
  obtain ⟨t, ht, hq⟩ := body cdv A out sh H vs Q E hg (room.deeper _) says
  have inv : Inv (cxOf (L2.CX pr wd) pr wd K gl bas N qual (defScope st) f cdv A out sh H E) [] (start N vs) H s1 := inv_start S room.hd env (len _ _ _ _ says) vals xc
  refine wpAny_mono (ht.run [] s1 (start N vs) H _ inv hq) ?_ fun _ _ z => z
  intro fl s2 hs
  cases fl with
  | ret u =>
    (obtain ⟨v, σ', H', J, rv, q⟩ := hs)
    exact ⟨v, H', J.os, J.bare, J.base, J.hok, rv, q⟩
  | next =>
    obtain ⟨σ', H', J, q⟩ := hs
    exact ⟨V.non, H', J.os, J.bare, J.base, J.hok, rfl, q⟩
  | brk => exact (hs.choose_spec.choose_spec.2 : False).elim
  | cont => exact (hs.choose_spec.choose_spec.2 : False).elim
theorem FnX.dataD {pr : Program} {wd : PySem.World} {K : PySem.W.Frag} {gl : Str → Option Value} {bas : Heap} {k n : Nat} {f : Addr} {x qual : Str} {st : Stmt} {fd : FuncData} {N ps : List Str} {R : Orc} {g : (Exn → Env → Prop) → SM} {dvs : List V} (F : FunD K x qual (defArgs st) (defBody st) (defScope st) dvs [] f fd) (Sc : FnScope N ps (defScope st)) (hn : n = ps.length)
    (body : ∀ (cdv : Value) (A : Around) (out : List PySem.Env) (sh : Shared) (H : Hp) (E : XK) (q : Option Addr) (F : Hp) (px : Exn → Env → Prop), A.guards = some [] → Room k (A.deeper (PyProof.Rows.envOfC qual (defScope st) sh.heap.objs.size f cdv)) →
      Takes (cxOf (L2.CX pr wd) pr wd K gl bas N qual (defScope st) f cdv A out sh H E) (wx gl ⟨K, R, q, F, H⟩ px) →
      PSs (cxOf (L2.CX pr wd) pr wd K gl bas N qual (defScope st) f cdv A out sh H E) (defBody st) (tS ⟨K, R, q, F, H⟩ (g px))) : FnX pr wd K gl bas (k + 1) f fd ps (spX K gl R n (rawX g N.length)) := by
  refine FnX.ofD F Sc (fun vs H Q E ⟨q, F0, as, m, P, PX, w, pa, hl, _⟩ => by rw [paired_len pa, hl, hn]) fun cdv A out sh H vs Q E hg hr ⟨q, F0, as, m, P, PX, w, pa, hl, ho, hq, hm, says, k0, kx⟩ => ?_
  have cnt : ∀ {ρ' : DL.Env} {σ' : L2.St} {F' H' : Hp} {xx : XX} {PP : Nat → Prop}, (match ρ'[0]? with
      | some (Sl.ora m') => PP m'
      | _ => as.head?.map isD ≠ some false ∧ PP 0) → Rel ⟨K, R, q, F0, H⟩ F' H' σ' ρ' xx → ∃ m', PP m' ∧ ∀ z, q = some z → R.cnt z H' ≤ m' := by
    intro ρ' σ' F' H' xx PP p r
    split at p
    · rename_i m' e
      obtain ⟨y, h1, _, h3⟩ := r.s.or 0 m' e
      refine ⟨m', p, fun z hz => ?_⟩
      have h1' : q = some y := h1
      rw [hz] at h1'
      cases h1'
      exact h3
    · obtain ⟨p1, p2⟩ := p
      have qn : q = none := hq.resolve_right fun z => p1 (by
        cases as with
        | nil => cases z
        | cons b t => cases z; rfl)
      exact ⟨0, p2, fun z hz => by rw [qn] at hz; cases hz⟩
  have fin : ∀ (d : D) (v : V) (ρ' : DL.Env) (σ' : L2.St) (F' H' : Hp), (match ρ'[0]? with
      | some (Sl.ora m') => P d m'
      | _ => as.head?.map isD ≠ some false ∧ P d 0) → Rel ⟨K, R, q, F0, H⟩ F' H' σ' ρ' [] → At K F' v d → Q v H' := by
    intro d v ρ' σ' F' H' p r a
    obtain ⟨m', h1, h2⟩ := cnt (PP := P d) p r
    exact k0 d m' v F' H' h1 r.w h2 a
  refine ⟨_, body cdv A out sh H E q F0 (fun x ρ => match ρ[0]? with
    | some (Sl.ora m') => PX x m'
    | _ => as.head?.map isD ≠ some false ∧ PX x 0) hg hr ?_, F0, _, [], _, rel_start w pa ho hm, says, ?_, ?_, ?_, ?_⟩
  · refine (takes_of (E := E) rfl rfl rfl rfl).imp fun cls dd σ H' ⟨F', ρ', xx, x, r, p, a⟩ => ?_
    obtain ⟨m', h1, h2⟩ := cnt (PP := PX x) p r
    exact kx x m' cls dd F' H' h1 r.w h2 a
  · exact fun ρ' σ' F' H' p e r => fin .none .non ρ' σ' F' H' p r .non
  · exact fun d v ρ' σ' F' H' p r a => fin d v ρ' σ' F' H' p r a
  · exact fun ρ' σ' F' H' p => p.elim
  · exact fun ρ' σ' F' H' p => p.elim
section
variable {X : Cx} {k : Nat} {f : Addr} {fd : FuncData} {ps : List Str} {sp : Sp} {E : L2.St → XK} {x : Str} {p pos : Pos} {e : Expr} {es : List Expr} {t : TA}
def tCallSd (sp : Sp) (dvs : List V) (E : L2.St → XK) (ta : TA) : TE := fun σ H Q => ta σ H fun vs H1 => sp (vs ++ dvs) H1 Q (E σ)
theorem pe_callXd {ds : List Value} {dvs : List V} (F : FnX X.prog X.w X.K X.mg X.base k f fd ps sp) (hg : X.A.guards = some []) (hr : Room k X.A) (gx : Gl X x) (hm : X.mg x = some (.ref f)) (hk : PySem.W.keepIn X.K (.ref f) = true) (hb : Binds X.K fd ps ds) (rd : Vals dvs ds) (hx : ∀ σ, PassesAt (L2.CX X.prog X.w) X σ (E σ))
    (ha : PA X (e :: es) t) (hdb : (x == ("__debug__" : Str)) = false := by decide)
    (he : starEach (e :: es) X.env = (false, eval e X.env) :: starEach es X.env
      := by rfl)
    (hpl : (backTo pos (starEach es X.env)).any (·.1) = false
      := by rfl) :
    PE X (.Call (.Name x p) (e :: es) [] pos)
      (tCallSd sp dvs E t) := by
  constructor
  intro pins s σ H Q I h
  refine wpAny_Call_Name_kw (ld_glob I gx hm (PySem.W.callWith_K (h₀ := X.base) I.ok.mod.kin hk (thn (ha.run pos pins s σ H _ I h) ?_) he hpl) hdb)
  rintro us s1 ⟨vs, H1, I1, r, q⟩
  have rr := r.append rd
  have hl : (us ++ ds).length = ps.length := by
    rw [← rr.length]
    exact F.many _ _ _ _ q
  refine ⟨I1.kIn, wpAny_call (codeAny_mono (F.go X.A X.stack s1 H1 ⟨us, []⟩ (us ++ ds) (vs ++ dvs) Q _ hg hr I1.env0 (hb s1 us I1.kIn hl) rr q) ?_)⟩
  intro res s' hq
  match res, hq with
  | .error er, z => exact hx σ pins H1 s1 er s' I1 z
  | .ok (.ret u), z => exact I1.after z
end
def CdXD (pr : Program) (wd : PySem.World) (K : PySem.W.Frag) (gl : Str → Option Value) (bas : Heap) (R : Orc) (k : Nat) (x : Str) (n : Nat) (dds : List D) (S : SpX) : Prop :=
  ∃ (f : Addr) (fd : FuncData) (ps : List Str) (ds : List Value) (dvs : List V), FnX pr wd K gl bas k f fd ps (spX K gl R (n + dds.length) S) ∧ gl x = some (.ref f) ∧ PySem.W.keepIn K (.ref f) = true ∧ Binds K fd ps ds ∧ Vals dvs ds ∧ ∀ F, AtAll K F dvs dds
theorem CdXD.more {pr : Program} {wd : PySem.World} {K : PySem.W.Frag} {gl : Str → Option Value} {bas : Heap} {R : Orc} {j k : Nat} {x : Str} {n : Nat} {dds : List D} {S : SpX} (C : CdXD pr wd K gl bas R j x n dds S) (h : j ≤ k) : CdXD pr wd K gl bas R k x n dds S := by
  obtain ⟨f, fd, ps, ds, dvs, F, a, b, d, e, u⟩ := C
  exact ⟨f, fd, ps, ds, dvs, F.more h, a, b, d, e, u⟩
def dCallXD (n : Nat) (dds : List D) (S : SpX) (px : Exn → Env → Prop) (f : AM) : DM := fun ρ P => f ρ fun as ρ1 => as.length = n ∧ as.all isD = true ∧ S (as ++ dds.map Ar.d) 0 (fun d _ => P d ρ1) (fun x _ => px x ρ1)
theorem de_cdXD {X : Cx} {c : Cn} {k n : Nat} {dds : List D} {S : SpX} {px : Exn → Env → Prop} {x : Str} {p pos : Pos} {e : Expr} {es : List Expr} {fa : AM} (tk : Takes X (wx X.mg c px)) (C : CdXD X.prog X.w X.K X.mg X.base c.R k x n dds S) (hK : X.K = c.K) (hg : X.A.guards = some []) (hr : Room k X.A) (gx : Gl X x)
    (ha : PA X (e :: es) (tAr c fa)) (hdb : (x == ("__debug__" : Str)) = false := by decide) (he : starEach (e :: es) X.env = (false, eval e X.env) :: starEach es X.env := by rfl) (hpl : (backTo pos (starEach es X.env)).any (·.1) = false := by rfl) :
    PE X (.Call (.Name x p) (e :: es) [] pos) (tD c (dCallXD n dds S px fa)) := by
  obtain ⟨f, fd, ps, ds, dvs, F, hm, hk, hb, rd, at_⟩ := C
  refine PE.to (pe_callXd F hg hr gx hm hk hb rd (fun σ => passAt tk σ) ha hdb he hpl) ?_
  rintro σ H Q ⟨F0, ρ, xx, P, rel, q, k0⟩
  refine ⟨F0, ρ, xx, _, rel, q, ?_⟩
  rintro as ρ1 vs F1 H1 ⟨hl, hd, hs⟩ e1 r1 pr
  have w0 : World c.R none F1 H1 F1 H1 := World.start r1.w.fh (fun _ _ z => z) fun _ z => nomatch z
  have pr1 : Paired (ArAt ⟨X.K, c.R, none, F1, H1⟩ F1) vs as := by
    clear hs hl
    induction pr with
    | nil => exact .nil
    | @cons v a vs' as' h1 h2 ih =>
      rw [List.all_cons, Bool.and_eq_true] at hd
      cases a with
      | d y =>
        refine .cons ?_ (ih hd.2)
        show At X.K F1 v y
        rw [hK]
        exact h1
      | ora => cases hd.1
  have pr2 := paired_app pr1 (paired_def (c := ⟨X.K, c.R, none, F1, H1⟩) rfl (at_ F1))
  have all2 : (as ++ dds.map Ar.d).all isD = true := by
    rw [List.all_append, hd, Bool.true_and, List.all_map]
    (exact List.all_eq_true.mpr fun _ _ => rfl)
  refine ⟨none, F1, as ++ dds.map Ar.d, 0, _, _, w0, pr2, by rw [List.length_append, List.length_map, hl], fun i z => absurd z (all_isD all2 i), .inl rfl, (fun _ z => nomatch z), hs, ?_, ?_⟩
  · intro d m' v F2 H2 pd wd _ a2
    rw [hK] at a2
    exact k0 d ρ1 v F2 H2 pd (e1.trans wd.ff) (r1.stepN wd) a2
  · intro x m' cls dd F2 H2 pd wd _ a2
    rw [hK] at a2
    exact ⟨F2, ρ1, xx, x, r1.stepN wd, pd, a2⟩
section
variable {X : Cx} {c : Cn} {a b : Expr} {pos : Pos}
def dCat (fa fb : HM) : DM := fun ρ P => fa ρ fun x ρ1 => fb ρ1 fun y ρ2 => see ρ2 x fun dx => see ρ2 y fun dy => match dx, dy with
  | .list xs, .list ys => xs.length + ys.length ≤ 1000000 ∧ P (.list (xs ++ ys)) ρ2
  | _, _ => False
theorem dn_cat {fa fb : HM} (hK : X.K = c.K) (ha : PE X a (tH c fa)) (hb : PE X b (tH c fb)) : PE X (.BinOp a .Add b pos) (tN c (dCat fa fb)) := by
  refine PE.to (pe_op op_catLL ha hb) ?_
  rintro σ H Q ⟨F, ρ, xx, P, rel, q, k⟩
  refine ⟨F, ρ, xx, _, rel, q, fun x ρ1 v F1 H1 q1 e1 r1 h1 => ⟨F1, ρ1, xx, _, r1, q1, fun y ρ2 u F2 H2 q2 e2 r2 h2 => ?_⟩⟩
  obtain ⟨dx, bx, q3⟩ := see_bo r2 (h1.mono e2) q2
  obtain ⟨dy, by_, q4⟩ := see_bo r2 h2 q3
  have ex := r2.w.fh
  split at q4
  · obtain ⟨p, xs, rfl, s1, t1⟩ := bo_lst ex bx
    obtain ⟨p2, ys, rfl, s2, t2⟩ := bo_lst ex by_
    refine ⟨p, p2, xs, ys, rfl, rfl, by rw [hK]; exact s1, by rw [hK]; exact s2, sz (by rw [t1.length, t2.length]; exact q4.1), fun p' hp => ?_⟩
    obtain ⟨r4, f4⟩ := Fresh.new (o := .lst (xs ++ ys)) (d := .d (.list _)) r2 hp ⟨_, upd_same, t1.append t2⟩
    exact k _ ρ2 p' F2 _ q4.2 (e1.trans e2) r4 f4
  · exact q4.elim
end
end DL
namespace DL
open PySem L2
end DL
namespace DL
open PySem L2 PySem.Spec PyProof.Rows
mutual
def nkD : D → Option NestedKey
  | .none => some .none
  | .int i => some (.num i)
  | .str x => some (.text x)
  | .tuple ds => (nkAll ds).map .tup
  | _ => none
def nkAll : List D → Option (List NestedKey)
  | [] => some []
  | d :: ds => match nkD d, nkAll ds with
    | some k, some ks => some (k :: ks)
    | _, _ => none
end
theorem nkAll_cons {d : D} {ds : List D} {ks : List NestedKey} (h : nkAll (d :: ds) = some ks) : ∃ k ks', nkD d = some k ∧ nkAll ds = some ks' ∧ ks = k :: ks' := by
  unfold nkAll at h
  split at h
  · rename_i k ks' h1 h2
    cases h
    exact ⟨k, ks', h1, h2, rfl⟩
  · cases h
mutual
theorem nk_inj : ∀ (d e : D) (k : NestedKey), nkD d = some k → nkD e = some k → d = e
  | .none, e, k, h1, h2 => by
    cases (show some NestedKey.none = some k from h1)
    cases e with
    | none => rfl
    | bool b => cases (show (none : Option NestedKey) = some _ from h2)
    | int i => cases (show some (NestedKey.num i) = some .none from h2)
    | str x => cases (show some (NestedKey.text x) = some .none from h2)
    | list xs => cases (show (none : Option NestedKey) = some _ from h2)
    | dict xs => cases (show (none : Option NestedKey) = some _ from h2)
    | tuple xs =>
      obtain ⟨ks, _, z⟩ := Option.map_eq_some_iff.mp (show (nkAll xs).map NestedKey.tup = some _ from h2)
      cases z
  | .bool b, e, k, h1, h2 => by cases (show (none : Option NestedKey) = some _ from h1)
  | .list xs, e, k, h1, h2 => by cases (show (none : Option NestedKey) = some _ from h1)
  | .dict xs, e, k, h1, h2 => by cases (show (none : Option NestedKey) = some _ from h1)
  | .int i, e, k, h1, h2 => by
    cases (show some (NestedKey.num i) = some k from h1)
    cases e with
    | none => cases (show some NestedKey.none = some (.num i) from h2)
    | bool b => cases (show (none : Option NestedKey) = some _ from h2)
    | int j => cases (show some (NestedKey.num j) = some (.num i) from h2); rfl
    | str x => cases (show some (NestedKey.text x) = some (.num i) from h2)
    | list xs => cases (show (none : Option NestedKey) = some _ from h2)
    | dict xs => cases (show (none : Option NestedKey) = some _ from h2)
    | tuple xs =>
      obtain ⟨ks, _, z⟩ := Option.map_eq_some_iff.mp (show (nkAll xs).map NestedKey.tup = some _ from h2)
      cases z
  | .str x, e, k, h1, h2 => by
    cases (show some (NestedKey.text x) = some k from h1)
    cases e with
    | none => cases (show some NestedKey.none = some (.text x) from h2)
    | bool b => cases (show (none : Option NestedKey) = some _ from h2)
    | int j => cases (show some (NestedKey.num j) = some (.text x) from h2)
    | str y => cases (show some (NestedKey.text y) = some (.text x) from h2); rfl
    | list xs => cases (show (none : Option NestedKey) = some _ from h2)
    | dict xs => cases (show (none : Option NestedKey) = some _ from h2)
    | tuple xs =>
      obtain ⟨ks, _, z⟩ := Option.map_eq_some_iff.mp (show (nkAll xs).map NestedKey.tup = some _ from h2)
      cases z
  | .tuple xs, e, k, h1, h2 => by
    obtain ⟨ks, h1', rfl⟩ := Option.map_eq_some_iff.mp (show (nkAll xs).map NestedKey.tup = some _ from h1)
    cases e with
    | none => cases (show some NestedKey.none = some (.tup ks) from h2)
    | bool b => cases (show (none : Option NestedKey) = some _ from h2)
    | int j => cases (show some (NestedKey.num j) = some (.tup ks) from h2)
    | str y => cases (show some (NestedKey.text y) = some (.tup ks) from h2)
    | list xs => cases (show (none : Option NestedKey) = some _ from h2)
    | dict xs => cases (show (none : Option NestedKey) = some _ from h2)
    | tuple ys =>
      obtain ⟨ks', h2', z⟩ := Option.map_eq_some_iff.mp (show (nkAll ys).map NestedKey.tup = some _ from h2)
      cases z
      rw [nkAll_inj xs ys ks h1' h2']
theorem nkAll_inj : ∀ (ds es : List D) (ks : List NestedKey), nkAll ds = some ks → nkAll es = some ks → ds = es
  | [], [], _, _, _ => rfl
  | [], e :: es, ks, h1, h2 => by
    obtain ⟨_, _, _, _, rfl⟩ := nkAll_cons h2
    cases (show some ([] : List NestedKey) = some _ from h1)
  | d :: ds, [], ks, h1, h2 => by
    obtain ⟨_, _, _, _, rfl⟩ := nkAll_cons h1
    cases (show some ([] : List NestedKey) = some _ from h2)
  | d :: ds, e :: es, ks, h1, h2 => by
    obtain ⟨k, ks', a1, a2, rfl⟩ := nkAll_cons h1
    obtain ⟨k', ks'', b1, b2, z⟩ := nkAll_cons h2
    cases z
    rw [nk_inj d e k a1 b1, nkAll_inj ds es ks' a2 b2]
end
section
variable {X : Cx} {pins : List (Addr × Obj)} {σ : L2.St} {H F : Hp} {s : Shared}
mutual
theorem nk_is (I : Inv X pins σ H s) (e : Ex F H) : ∀ (d : D) (v : V) (u : Value) (k : NestedKey), At X.K F v d → nkD d = some k → RelV v u → NestedIs s.heap k u
  | .none, v, u, k, a, h, r => by
    cases (show some NestedKey.none = some k from h)
    cases a
    cases (show u = Value.none from r)
    exact .none
  | .bool b, v, u, k, a, h, r => by cases (show (none : Option NestedKey) = some _ from h)
  | .list xs, v, u, k, a, h, r => by cases (show (none : Option NestedKey) = some _ from h)
  | .dict xs, v, u, k, a, h, r => by cases (show (none : Option NestedKey) = some _ from h)
  | .int i, v, u, k, a, h, r => by
    cases (show some (NestedKey.num i) = some k from h)
    cases a
    (obtain ⟨t, rfl⟩ := (show ∃ t, u = Value.int i t from r))
    exact .int i t
  | .str x, v, u, k, a, h, r => by
    cases (show some (NestedKey.text x) = some k from h)
    cases a
    (obtain ⟨t, rfl⟩ := (show ∃ t, u = Value.str x t from r))
    exact .text x t
  | .tuple ds, v, u, k, a, h, r => by
    obtain ⟨ks, h', rfl⟩ := Option.map_eq_some_iff.mp (show (nkAll ds).map NestedKey.tup = some _ from h)
    cases a with
    | tup sq al =>
      rename_i p xs
      cases (show u = Value.ref p from r)
      obtain ⟨its, rv, ⟨o, ho, hc, n, hd⟩, _⟩ := I.tuple (e.st sq)
      exact .tup ho hc hd (nkAll_is I e ds xs its ks al h' rv)
theorem nkAll_is (I : Inv X pins σ H s) (e : Ex F H) : ∀ (ds : List D) (vs : List V) (us : List Value) (ks : List NestedKey), AtAll X.K F vs ds → nkAll ds = some ks → Vals vs us → NestedAll s.heap ks us
  | [], vs, us, ks, a, h, r => by
    cases (show some ([] : List NestedKey) = some _ from h)
    cases a
    cases r
    exact .nil
  | d :: ds, vs, us, ks, a, h, r => by
    obtain ⟨k, ks', h1, h2, rfl⟩ := nkAll_cons h
    cases a with
    | cons ad al =>
      cases r with
      | cons r1 r2 => exact .cons (nk_is I e d _ _ k ad h1 r1) (nkAll_is I e ds _ _ ks' al h2 r2)
end
end
abbrev NE (β : Type) := NestedKey × Addr × β
def ndE (w : PySem.World) (x : NE Value) : DictEntry := ⟨x.1.hash w, .ref x.2.1, x.2.2⟩
def PV : NE V → NE Value → Prop := fun p q => p.1 = q.1 ∧ p.2.1 = q.2.1 ∧ RelV p.2.2 q.2.2
def NDV (w : PySem.World) (a : Addr) (xs : List (NE V)) (h : Heap) : Prop := xs.length ≤ sizeLine ∧ (a == sysModules) = false ∧ ∃ vs, Paired PV xs vs ∧ ∃ o es ep, h.get? a = some o ∧ o.ExactDict ∧ o.data = .dict es ep ∧ es.toList = vs.map (ndE w) ∧ (vs.map (·.1)).Nodup
def NDO (w : PySem.World) (a : Addr) (xs : List (NE V)) : HO := .ext (NDV w a xs)
/-- a datum whose object is a key -/
def KeyAt (K : PySem.W.Frag) (F : Hp) (b : Addr) (k : NestedKey) (d : D) : Prop := At K F (.ref b) d ∧ nkD d = some k ∧ k.depth ≤ 8
def KeysAt (K : PySem.W.Frag) (F : Hp) (xs : List (NE V)) : Prop := ∀ p ∈ xs, ∃ d, KeyAt K F p.2.1 p.1 d
theorem paired_mem {α β : Type} {R : α → β → Prop} : ∀ {xs : List α} {ys : List β} {y : β}, Paired R xs ys → y ∈ ys → ∃ x ∈ xs, R x y
  | _, _, _, .nil, h => nomatch h
  | x :: xs, z :: ys, y, .cons r t, h => by
    (rcases List.mem_cons.mp h with rfl | h)
    · exact ⟨x, List.mem_cons_self .., r⟩
    · obtain ⟨x', m, q⟩ := paired_mem t h
      exact ⟨x', List.mem_cons_of_mem _ m, q⟩
theorem nd_dict {X : Cx} {pins : List (Addr × Obj)} {σ : L2.St} {H F : Hp} {s : Shared} {a : Addr} {xs : List (NE V)} (I : Inv X pins σ H s) (e : Ex F H) (h : H a = some (NDO X.w a xs)) (hk : KeysAt X.K F xs) :
    xs.length ≤ sizeLine ∧ (a == sysModules) = false ∧ ∃ vs, Paired PV xs vs ∧ s.heap.DictOfH (nestedKind X.prog X.w) a vs := by
  obtain ⟨⟨z, hd, vs, pp, o, es, ep, ho, h1, h2, h3, h4⟩, _⟩ := (show ObjOk X.prog X.w H s.heap a (NDO X.w a xs) from I.hok a _ h)
  refine ⟨z, hd, vs, pp, o, es, ep, ho, h1, h2, h3, fun q hq => ?_, h4⟩
  obtain ⟨p, mp, e1, e2, _⟩ := paired_mem pp hq
  obtain ⟨d, a1, a2, a3⟩ := hk p mp
  rw [← e1, ← e2]
  exact ⟨nk_is I e d _ _ _ a1 a2 rfl, a3⟩
def valN (xs : List (NE V)) (k : NestedKey) : Option V := (xs.find? fun p => decide (p.1 = k)).map (·.2.2)
theorem paired_val {k : NestedKey} : ∀ {xs : List (NE V)} {vs : List (NE Value)}, Paired PV xs vs → RelO (valN xs k) ((atKey vs k).map (·.2))
  | _, _, .nil => True.intro
  | p :: ps, q :: qs, .cons ⟨h1, _, h2⟩ t => by
    by_cases e : p.1 = k
    · (have e' : q.1 = k := h1.symm.trans e)
      (have b : atKey (q :: qs) k = some q.2 := by simp [atKey, List.find?_cons, e'])
      have a : valN (p :: ps) k = some p.2.2 := by simp [valN, List.find?_cons, e]
      rw [a, b]
      exact h2
    · (have e' : ¬ q.1 = k := fun z => e (h1.trans z))
      (have b : atKey (q :: qs) k = atKey qs k := by simp [atKey, List.find?_cons, e'])
      have a : valN (p :: ps) k = valN ps k := by simp [valN, List.find?_cons, e]
      rw [a, b]
      exact paired_val t
theorem valN_some {xs : List (NE V)} {k : NestedKey} {v : V} (h : valN xs k = some v) : ∃ p ∈ xs, p.1 = k ∧ p.2.2 = v := by
  obtain ⟨p, hp, rfl⟩ := Option.map_eq_some_iff.mp h
  exact ⟨p, List.mem_of_find?_eq_some hp, by simpa using List.find?_some hp, rfl⟩
def rNotN (K : PySem.W.Frag) (w : PySem.World) : R2 := fun x y H Q => ∃ a b xs k d F, x = .ref b ∧ y = .ref a ∧ H a = some (NDO w a xs) ∧ Ex F H ∧ KeysAt K F xs ∧ KeyAt K F b k d ∧ Q (.bl (!(valN xs k).isSome)) H
section
variable {X : Cx} {od kx vx : PySem.Expr} {pos pos' : Pos} {td ty tv : TE}
theorem nd_room {A : Around} (hu : A.units + 64 < cLine) {P : Program} {w : PySem.World} : (nestedKind P w).room A.in1 := by
  show A.units + 1 + 8 < cLine
  omega
theorem op_notN (hu : X.A.units + 64 < cLine) : OpR X (compareOp .NotIn) (rNotN X.K X.w) := by
  rintro pins s σ H x y v u Q I rx ry ⟨a, b, xs, k, d, F, rfl, rfl, h, ex, hk, ⟨k1, k2, k3⟩, q⟩
  cases (show v = Value.ref b from rx)
  (cases (show u = Value.ref a from ry))
  obtain ⟨z, hd, vs, pp, dd⟩ := nd_dict I ex h hk
  refine wpAny_notIn_heap (nd_room hu) (k := k) ⟨nk_is I ex d _ _ _ k1 k2 rfl, k3⟩ hd dd ?_
  have qq := (paired_val (k := k) pp).isSome_eq
  rw [Option.isSome_map] at qq
  rw [← qq]
  exact ⟨.bl (!(valN xs k).isSome), H, I.tok _, rfl, q⟩
end
end DL
namespace DL
open PySem L2
section
variable {rs : SpD} {c : Cn} {w : PySem.World} {F H : Hp} {v0 v1 v2 : V} {a : Addr} {sc co : D} {ths : List D} {g : D → D}
/-- what the dict tells -/
def ThOk (K : PySem.W.Frag) (F : Hp) (g : D → D) (xs : List (NE V)) : Prop := ∀ p ∈ xs, ∃ d, KeyAt K F p.2.1 p.1 d ∧ At K F p.2.2 (g d)
theorem ThOk.mono {K : PySem.W.Frag} {F' : Hp} {xs : List (NE V)} (e : Ex F F') (h : ThOk K F g xs) : ThOk K F' g xs := fun p hp => let ⟨d, ⟨a, b, c⟩, z⟩ := h p hp; ⟨d, ⟨a.mono e, b, c⟩, z.mono e⟩
theorem ThOk.val {K : PySem.W.Frag} {xs : List (NE V)} {k : NestedKey} {v : V} {d : D} (h : ThOk K F g xs) (e : valN xs k = some v) (hk : nkD d = some k) : At K F v (g d) := by
  obtain ⟨p, mp, rfl, rfl⟩ := valN_some e
  obtain ⟨d', ⟨_, q, _⟩, z⟩ := h p mp
  rw [nk_inj d d' _ hk q]
  exact z
end
end DL
namespace DL
open PySem L2 PySem.Spec PyProof.Rows
end DL
namespace DL
open PySem L2 PySem.Spec PyProof.Rows
end DL
namespace DL
open PySem L2
end DL
namespace DL
open PySem L2
def rgOk (a b : Int) : Prop := -1000000 ≤ a ∧ a ≤ 1000000 ∧ -1000000 ≤ b ∧ b ≤ 1000000
theorem rgOk.ok {a b : Int} (h : rgOk a b) : RgOk a b := by
  obtain ⟨h1, h2, h3, h4⟩ := h
  exact ⟨by omega, by omega, by omega, by omega, by omega⟩
end DL
namespace DL
open PySem L2
end DL
namespace DL.Am
open PySem L2 DL
end DL.Am
namespace DL.Lz
open PySem Sem
section
variable {prog : Program} {w : PySem.World} {A : Around} {E : Value → Shared → Prop} {s : Shared} {z t u p q : Addr} {fa fb : List Addr} {na nb i : Nat} {Pa Pb : Nat → Value → Prop} {Sa Sb : Nat → Heap → Prop}
/-- where a zip stands: its parts, and no pair out or one that is alive -/
structure Zat (z t u p q L : Addr) (Sa Sb : Nat → Heap → Prop) (i : Nat) (h : Heap) : Prop where
  its : IsPair h t (.ref p) (.ref q)
  a : Sa i h
  b : Sb i h
  z : (IsZip h z t u .none ∧ ∃ x y, IsPair h u x y) ∨ ∃ (T : Addr) (f : Bool) (oT : Obj), IsZipHeld h z t u T f ∧ h.get? T = some oT ∧ T ≠ z ∧ T ≠ p ∧ T ≠ q ∧ T ≠ L
theorem Zat.keep {L : Addr} {h h' : Heap} {prog : Program} {w : PySem.World} {A : Around} (S : ZipSep2 z t u p q fa fb) (Da : Draws prog w A p fa na Pa Sa) (Db : Draws prog w A q fb nb Pb Sb) (st : Zat z t u p q L Sa Sb i h) (k : ∀ b o, b ≠ L → h.get? b = some o → h'.get? b = some o) (nz : L ≠ z) (nt : L ≠ t) (nu : L ≠ u) (na' : L ∉ fa) (nb' : L ∉ fb) : Zat z t u p q L Sa Sb i h' := by
  refine ⟨k _ _ (Ne.symm nt) st.its, Da.frame _ _ _ st.a fun b hb o e => k b o (fun x => na' (x ▸ hb)) e, Db.frame _ _ _ st.b fun b hb o e => k b o (fun x => nb' (x ▸ hb)) e, ?_⟩
  rcases st.z with ⟨hz, x0, y0, hu⟩ | ⟨T, f, oT, hz, hT, t1, t2, t3, t4⟩
  · exact .inl ⟨k _ _ (Ne.symm nz) hz, x0, y0, k _ _ (Ne.symm nu) hu⟩
  · exact .inr ⟨T, f, oT, k _ _ (Ne.symm nz) hz, k _ _ t4 hT, t1, t2, t3, t4⟩
end
end DL.Lz
namespace DL.Lz
open PySem PyProof.Rows L2 RZ
end DL.Lz
namespace DL
open PySem L2 PyProof.Rows
end DL
namespace DL.Lz
open PySem Sem PyProof.Rows L2 RZ
abbrev IsZf (h : Heap) (z t u : Addr) (v : Value) (f : Bool) : Prop := h.get? z = some { cls := .type "zip", dict := none, data := .fields #[v, .bool f, .bool false, .ref t, .ref u], slots := #[] }
section
variable {prog : Program} {w : PySem.World} {A : Around} {E : Value → Shared → Prop} {s : Shared} {z t u p q : Addr} {fa fb : List Addr} {na nb i : Nat} {Pa Pb : Nat → Value → Prop} {Sa Sb : Nat → Heap → Prop} {x0 y0 v : Value} {f : Bool}
/-- fresh, or with a pair out of which nothing is known -/
def Zn (z t u : Addr) (h : Heap) : Prop := ∃ v f, IsZf h z t u v f ∧ (v = .none ∨ ∃ T : Addr, v = rawInt T)
end
/-- how far both are gone -/
structure NmGone (z t u p q a b : Addr) (n : Nat) (h : Heap) : Prop where
  zip : Zn z t u h
  its : IsPair h t (.ref p) (.ref q)
  two : ∃ x y, IsPair h u x y
  fst : h.IsTupleIter p a n
  snd : h.IsTupleIter q b n
section
variable {z t u p q a b : Addr} {n : Nat} {h h' : Heap}
theorem NmGone.there (m : NmGone z t u p q a b n h) {c : Addr} (hc : c ∈ [z, t, u, p, q]) : ∃ o, h.get? c = some o ∧ ∀ v, o.data ≠ .cell v := by
  obtain ⟨⟨v1, f1, k1, _⟩, k2, ⟨x, y, k3⟩, ⟨o4, e4, _, f4⟩, ⟨o5, e5, _, f5⟩⟩ := m
  refine five (P := fun c => ∃ o, h.get? c = some o ∧ ∀ v, o.data ≠ .cell v) hc ⟨_, k1, nofun⟩ ⟨_, k2, nofun⟩ ⟨_, k3, nofun⟩ ⟨o4, e4, fun v e => ?_⟩ ⟨o5, e5, fun v e => ?_⟩
  · rw [f4] at e
    cases e
  · rw [f5] at e
    cases e
end
end DL.Lz
namespace DL
open PySem L2 PyProof.Rows
def Zk (H : Hp) (v : V) : Prop := ∃ (a : Addr) (o : Obj) (u : HO), v = .ref a ∧ H a = some (.frz o u) ∧ o.cls = .type "tuple" ∧ o.dict = none
/-- what a def promises that hands out such a tuple -/
def spZ (K : PySem.W.Frag) (R : Orc) (n : Nat) (S : SpD) : Sp := fun vs H Q _ => ∃ (q : Option Addr) (F : Hp) (as : List Ar) (m : Nat) (P : D → Nat → Prop), World R q F H F H ∧ Paired (ArAt ⟨K, R, q, F, H⟩ F) vs as ∧ as.length = n ∧ oraAt as ∧ (q = none ∨ as[0]? = some .ora) ∧ (∀ p, q = some p → R.cnt p H ≤ m) ∧ S as m P ∧
  ∀ d m' v F' H', P d m' → World R q F H F' H' → (∀ p, q = some p → R.cnt p H' ≤ m') → At K F' v d → Zk H' v → Q v H'
def CdZ (pr : Program) (wd : PySem.World) (K : PySem.W.Frag) (gl : Str → Option Value) (bas : Heap) (R : Orc) (k : Nat) (x : Str) (n : Nat) (S : SpD) : Prop :=
  ∃ (f : Addr) (fd : FuncData) (ps : List Str), FnG pr wd K gl bas k f fd ps (spZ K R n S) ∧ gl x = some (.ref f) ∧ PySem.W.keepIn K (.ref f) = true ∧ Binds K fd ps []
section
variable {pr : Program} {wd : PySem.World} {K : PySem.W.Frag} {gl : Str → Option Value} {bas : Heap} {R : Orc} {j k n : Nat} {x : Str} {S : SpD}
theorem CdZ.more (C : CdZ pr wd K gl bas R j x n S) (h : j ≤ k) : CdZ pr wd K gl bas R k x n S := by
  obtain ⟨f, fd, ps, F, rest⟩ := C
  exact ⟨f, fd, ps, F.more h, rest⟩
end
end DL
namespace DL.Ms
open PySem L2 PySem.Spec PyProof.Rows
end DL.Ms
namespace DL
open PySem L2 PySem.Spec PyProof.Rows
end DL
namespace DL
open PySem L2
end DL
namespace DL
open PySem L2
end DL
namespace DL
open PySem L2 PyProof.Rows
abbrev TD := List (List Key × D)
/-- what stands in the heap's dict, entry by entry -/
def TAt (K : PySem.W.Frag) (F : Hp) (kvs : List (List Key × V)) (xs : TD) : Prop := Paired (fun (p : List Key × V) (q : List Key × D) => p.1 = q.1 ∧ At K F p.2 q.2) kvs xs
section
variable {K : PySem.W.Frag} {F F' H : Hp} {a : Addr}
theorem TAt.mono (e : Ex F F') {kvs : List (List Key × V)} {xs : TD} (h : TAt K F kvs xs) : TAt K F' kvs xs := by
  unfold TAt at h ⊢
  induction h with
  | nil => exact .nil
  | cons h t ih => exact .cons ⟨h.1, h.2.mono e⟩ ih
end
end DL
namespace DL
open PySem L2
end DL
namespace DL
open PySem L2
section
variable {X : Cx} {c : Cn}
/-- arguments, some of them slots -/
abbrev Ar2 := Ar ⊕ Nat
abbrev AM2 := Env → (List Ar2 → Env → Prop) → Prop
def A2At (c : Cn) (F : Hp) (σ : L2.St) : V → Ar2 → Prop
  | v, .inl x => ArAt c F v x
  | v, .inr i => σ[i]? = some (some v)
theorem A2At.mono {F F' : Hp} {σ : L2.St} (e : Ex F F') {v : V} {x : Ar2} (h : A2At c F σ v x) : A2At c F' σ v x := by
  cases x with
  | inl x => exact ArAt.mono e h
  | inr i => exact h
variable {e : Expr} {es : List Expr}
variable {k : Nat} {f : Addr} {fd : FuncData} {ps : List Str} {S : SpD} {x : Str} {p pos : Pos} {fa : AM2} {n i : Nat}
end
end DL
namespace DL
open PySem L2
end DL
namespace DL
open PySem L2
end DL
namespace DL
open PySem L2 PyProof.Rows
end DL
namespace Q25
open PySem L2 DL
/-- the law's numbers: some integer below the total -/
def s_next : SpD := fun as m P => ∃ n : Int, as = [.ora, .d (.int n)] ∧ 0 < n ∧ n < 1073741824 ∧ m < 1048576 ∧ ∀ i : Int, 0 ≤ i → i < n → P (.int i) (m + 1)
/-- rolling_rows(mode), slots 0 mode -/
def g_rolling_rows : SM := sSeq (sIf (bD (d2 gEq (hV (dSl (hS 0) (oNo) (oI (dNeg (dC (.int 1)))))) (hV (dC (.str ("roll" : Str)))))) (sRet (dCB gIntU (DL.gCons (hV (d2 gIx (hS 0) (hV (dNeg (dC (.int 1)))))) (DL.gNil)))) (sNo)) (sRet (dC (.int 0)))
def r_rolling_rows : SpD := raw g_rolling_rows 1
/-- control_behind(screen, control, code), slots 0 screen 1 control 2 code 3 word 4 rows 5 columns 6 mode 7 row 8 column -/
def g_control_behind : SM := sSeq (sAsg (dV 0) (gTupT 2 (gConsT (gN 4) (gConsT (gN 5) (gNoT))))) (sSeq (sAsg (dV 1) (gTupT 3 (gConsT (gN 6) (gConsT (gN 7) (gConsT (gN 8) (gNoT)))))) (sSeq (sSet 3 (d2 gIx (hS 2) (hV (dC (.int 0))))) (sSeq (sIf (bD (d2 gEq (hS 3) (hV (dC (.str ("put" : Str)))))) (sRet (dTup (lCons (dV 6) (lCons (dV 7) (lCons (dCB gMin (DL.gCons (hV (d2 gAdd (hS 8) (hV (dC (.int 1))))) (DL.gCons (hV (d2 DL.gSub (hS 5) (hV (dC (.int 1))))) (DL.gNil)))) (lNil)))))) (sNo)) (sSeq (sIf (bD (d2 gEq (hS 3) (hV (dC (.str ("at" : Str)))))) (sRet (dTup (lCons (dV 6) (lCons (d2 gIx (hS 2) (hV (dC (.int 1)))) (lCons (d2 gIx (hS 2) (hV (dC (.int 2)))) (lNil)))))) (sNo)) (sSeq (sIf (bD (d2 gInU (hS 3) (hV (dTup (lCons (dC (.str ("hide" : Str))) (lCons (dC (.str ("paint" : Str))) (lNil))))))) (sRet (dTup (lCons (dV 3) (lCons (dV 7) (lCons (dV 8) (lNil)))))) (sNo)) (sSeq (sIf (bD (d2 gEq (hS 3) (hV (dC (.str ("roll" : Str)))))) (sRet (dTup (lCons (dJs [dFmt (dC (.str ("roll" : Str))), dFmt (d2 gIx (hS 2) (hV (dC (.int 1))))] "") (lCons (d2 DL.gSub (hS 4) (hV (dC (.int 1)))) (lCons (dC (.int 0)) (lNil)))))) (sNo)) (sSeq (sIf (bD (d2 gEq (hS 3) (hV (dC (.str ("line" : Str)))))) (sSeq (sIf (bD (d2 gGt (hV (dCall 1 r_rolling_rows (aCons (dV 6) (aNil)))) (hV (dC (.int 0))))) (sRet (dTup (lCons (dV 6) (lCons (d2 DL.gSub (hS 4) (hV (dC (.int 1)))) (lCons (dC (.int 0)) (lNil)))))) (sNo)) (sRet (dTup (lCons (dV 6) (lCons (dCB gMin (DL.gCons (hV (d2 gAdd (hS 7) (hV (dC (.int 1))))) (DL.gCons (hV (d2 DL.gSub (hS 4) (hV (dC (.int 1))))) (DL.gNil)))) (lCons (dC (.int 0)) (lNil))))))) (sNo)) (sSeq (sIf (bD (d2 gEq (hS 3) (hV (dC (.str ("swap" : Str)))))) (sRet (dTup (lCons (dC (.str ("hide" : Str))) (lCons (dV 7) (lCons (dV 8) (lNil)))))) (sNo)) (sSeq (sIf (bD (d2 gEq (hS 3) (hV (dC (.str ("rub" : Str)))))) (sRet (dTup (lCons (dV 6) (lCons (dV 7) (lCons (dCB gMax (DL.gCons (hV (d2 DL.gSub (hS 8) (hV (dC (.int 1))))) (DL.gCons (hV (dC (.int 0))) (DL.gNil)))) (lNil)))))) (sNo)) (sRet (dV 1)))))))))))
def r_control_behind : SpD := raw g_control_behind 9
/-- cursor_cell(screen, control), slots 0 screen 1 control 2 rows 3 columns 4 mode 5 row 6 column -/
def g_cursor_cell : SM := sSeq (sAsg (dV 0) (gTupT 2 (gConsT (gN 2) (gConsT (gN 3) (gNoT))))) (sSeq (sAsg (dV 1) (gTupT 3 (gConsT (gN 4) (gConsT (gN 5) (gConsT (gN 6) (gNoT)))))) (sSeq (sIf (bD (d2 gEq (hS 4) (hV (dC (.str ("hide" : Str)))))) (sAug 5 gIadd (hS 2)) (sNo)) (sRet (d2 gAdd (hV (d2 gMul (hS 5) (hS 3))) (hS 6)))))
def r_cursor_cell : SpD := raw g_cursor_cell 7
/-- with_cells(cells, place, others), slots 0 cells 1 place 2 others -/
def g_with_cells : SM := sRet (d2 gAdd (hV (d2 gAdd (hV (dSl (hS 0) (oNo) (oI (dV 1)))) (hS 2))) (hV (dSl (hS 0) (oI (d2 gAdd (hS 1) (hV (dCB gLen (DL.gCons (hS 2) (DL.gNil)))))) (oNo))))
def r_with_cells : SpD := raw g_with_cells 3
/-- cells_behind(screen, control, cells, code), slots 0 screen 1 control 2 cells 3 code 4 half 5 word 6 place 7 rows 8 columns 9 mode 10 _ 11 column 12 top -/
def g_cells_behind : SM := sSeq (sAsg (dV 0) (gTupT 2 (gConsT (gN 7) (gConsT (gN 8) (gNoT))))) (sSeq (sSet 4 (d2 gMul (hS 7) (hS 8))) (sSeq (sAsg (dV 1) (gTupT 3 (gConsT (gN 9) (gConsT (gN 10) (gConsT (gN 11) (gNoT)))))) (sSeq (sSet 5 (d2 gIx (hS 3) (hV (dC (.int 0))))) (sSeq (sSet 6 (dCall 2 r_cursor_cell (aCons (dV 0) (aCons (dV 1) (aNil))))) (sSeq (sIf (bD (d2 gEq (hS 5) (hV (dC (.str ("put" : Str)))))) (sRet (dCall 3 r_with_cells (aCons (dV 2) (aCons (dV 6) (aCons (dTup (lCons (d2 gIx (hS 3) (hV (dC (.int 1)))) (lNil))) (aNil)))))) (sNo)) (sSeq (sIf (bAnd (bD (d2 gEq (hS 5) (hV (dC (.str ("rub" : Str)))))) (bD (d2 gGt (hS 11) (hV (dC (.int 0)))))) (sRet (dCall 3 r_with_cells (aCons (dV 2) (aCons (d2 DL.gSub (hS 6) (hV (dC (.int 1)))) (aCons (dTup (lCons (dC (.str (" " : Str))) (lNil))) (aNil)))))) (sNo)) (sSeq (sIf (bD (d2 gEq (hS 5) (hV (dC (.str ("tail" : Str)))))) (sRet (dCall 3 r_with_cells (aCons (dV 2) (aCons (dV 6) (aCons (d2 gMulT (hV (dTup (lCons (dC (.str (" " : Str))) (lNil)))) (hV (d2 DL.gSub (hS 8) (hS 11)))) (aNil)))))) (sNo)) (sSeq (sIf (bAnd (bD (d2 gEq (hS 5) (hV (dC (.str ("line" : Str)))))) (bD (d2 gGt (hV (dCall 1 r_rolling_rows (aCons (dV 9) (aNil)))) (hV (dC (.int 0)))))) (sSeq (sSet 12 (d2 gMul (hV (d2 DL.gSub (hS 7) (hV (dCall 1 r_rolling_rows (aCons (dV 9) (aNil)))))) (hS 8))) (sRet (d2 gAdd (hV (d2 gAdd (hV (d2 gAdd (hV (dSl (hS 2) (oNo) (oI (dV 12)))) (hV (dSl (hS 2) (oI (d2 gAdd (hS 12) (hS 8))) (oI (dV 4)))))) (hV (d2 gMulT (hV (dTup (lCons (dC (.str (" " : Str))) (lNil)))) (hS 8))))) (hV (dSl (hS 2) (oI (dV 4)) (oNo)))))) (sNo)) (sSeq (sIf (bD (d2 gEq (hS 5) (hV (dC (.str ("swap" : Str)))))) (sRet (d2 gAdd (hV (dSl (hS 2) (oI (dV 4)) (oNo))) (hV (dSl (hS 2) (oNo) (oI (dV 4)))))) (sNo)) (sSeq (sIf (bD (d2 gEq (hS 5) (hV (dC (.str ("wipe" : Str)))))) (sRet (dCall 3 r_with_cells (aCons (dV 2) (aCons (dC (.int 0)) (aCons (d2 gMulT (hV (dTup (lCons (dC (.str (" " : Str))) (lNil)))) (hS 4)) (aNil)))))) (sNo)) (sSeq (sIf (bD (d2 gEq (hS 5) (hV (dC (.str ("clear" : Str)))))) (sRet (dCall 3 r_with_cells (aCons (dV 2) (aCons (dV 4) (aCons (d2 gMulT (hV (dTup (lCons (dC (.str (" " : Str))) (lNil)))) (hS 4)) (aNil)))))) (sNo)) (sRet (dV 2)))))))))))))
def r_cells_behind : SpD := raw g_cells_behind 13
/-- stepped(screen, control, cells, code), slots 0 screen 1 control 2 cells 3 code -/
def g_stepped : SM := sRet (dTup (lCons (dCall 3 r_control_behind (aCons (dV 0) (aCons (dV 1) (aCons (dV 3) (aNil))))) (lCons (dCall 4 r_cells_behind (aCons (dV 0) (aCons (dV 1) (aCons (dV 2) (aCons (dV 3) (aNil)))))) (lNil))))
def r_stepped : SpD := raw g_stepped 4
/-- is_integer(thing), slots 0 thing -/
def g_is_integer : SM := sRet (dAnd (dIsi "int" (hS 0)) (dNot (dIsi "bool" (hS 0))))
def r_is_integer : SpD := raw g_is_integer 1
/-- is_within(thing, least, most), slots 0 thing 1 least 2 most -/
def g_is_within : SM := sRet (dAnd (dCall 1 r_is_integer (aCons (dV 0) (aNil))) (dChain gLe gLe (hS 1) (hS 0) (hS 2)))
def r_is_within : SpD := raw g_is_within 3
/-- is_tuple(thing, least, most), slots 0 thing 1 least 2 most -/
def g_is_tuple : SM := sRet (dAnd (dIsi "tuple" (hS 0)) (dChain gLe gLe (hS 1) (hV (dCB gLen (DL.gCons (hS 0) (DL.gNil)))) (hS 2)))
def r_is_tuple : SpD := raw g_is_tuple 3
/-- is_one_of(thing, words), slots 0 thing 1 words -/
def g_is_one_of : SM := sRet (dAnd (dIsi "str" (hS 0)) (d2 gInU (hS 0) (hS 1)))
def r_is_one_of : SpD := raw g_is_one_of 2
/-- is_sign(sign, lowest), slots 0 sign 1 lowest -/
def g_is_sign : SM := sRet (dAnd (dChain gLe gLe (hS 1) (hV (dCB gOrd (DL.gCons (hS 0) (DL.gNil)))) (hV (dC (.int 126)))) (d2 gNe (hV (dCB gOrd (DL.gCons (hS 0) (DL.gNil)))) (hV (dC (.int 37)))))
def r_is_sign : SpD := raw g_is_sign 2
/-- has_signs(thing, lowest), slots 0 thing 1 lowest 2 sign -/
def g_has_signs : SM := sSeq (sIf (bOr (bNot (bTruth (hV (dIsi "str" (hS 0))))) (bNot (bD (dChain gLe gLe (hV (dC (.int 1))) (hV (dCB gLen (DL.gCons (hS 0) (DL.gNil)))) (hV (dC (.int 40))))))) (sRet (dC (.bool false))) (sNo)) (sRet (dCB gAll (DL.gCons (hV (dLc (iSeq (dV 0)) (gN 2) (bYes) (dCall 2 r_is_sign (aCons (dV 2) (aCons (dV 1) (aNil)))) [2])) (DL.gNil))))
def r_has_signs : SpD := raw g_has_signs 3
/-- need_screen(screen), slots 0 screen -/
def g_need_screen : SM := sSeq (sIf (bNot (bAnd (bTruth (hV (dCall 3 r_is_tuple (aCons (dV 0) (aCons (dC (.int 2)) (aCons (dC (.int 2)) (aNil))))))) (bAnd (bTruth (hV (dCall 3 r_is_within (aCons (d2 gIx (hS 0) (hV (dC (.int 0)))) (aCons (dC (.int 1)) (aCons (dC (.int 4)) (aNil))))))) (bTruth (hV (dCall 3 r_is_within (aCons (d2 gIx (hS 0) (hV (dC (.int 1)))) (aCons (dC (.int 1)) (aCons (dC (.int 40)) (aNil)))))))))) (sNever) (sNo)) (sRet (dV 0))
def r_need_screen : SpD := raw g_need_screen 1
def gx_need_screen (px : Exn → DL.Env → Prop) : SM := sSeq (sIf (bNot (bAnd (bTruth (hV (dCall 3 r_is_tuple (aCons (dV 0) (aCons (dC (.int 2)) (aCons (dC (.int 2)) (aNil))))))) (bAnd (bTruth (hV (dCall 3 r_is_within (aCons (d2 gIx (hS 0) (hV (dC (.int 0)))) (aCons (dC (.int 1)) (aCons (dC (.int 4)) (aNil))))))) (bTruth (hV (dCall 3 r_is_within (aCons (d2 gIx (hS 0) (hV (dC (.int 1)))) (aCons (dC (.int 1)) (aCons (dC (.int 40)) (aNil)))))))))) (sRaise "BadSize" (some "value") (dV 0) px) (sNo)) (sRet (dV 0))
def rx_need_screen : SpX := rawX gx_need_screen 1
/-- blank(screen), slots 0 screen 1 rows 2 columns -/
def g_blank : SM := sSeq (sExpr (dCall 1 r_need_screen (aCons (dV 0) (aNil)))) (sSeq (sAsg (dV 0) (gTupT 2 (gConsT (gN 1) (gConsT (gN 2) (gNoT))))) (sRet (d2 gMulT (hV (dTup (lCons (d2 gMulS (hV (dC (.str (" " : Str)))) (hS 2)) (lNil)))) (hS 1))))
def r_blank : SpD := raw g_blank 3
def gx_blank (px : Exn → DL.Env → Prop) : SM := sSeq (sExpr (dCallX 1 rx_need_screen px (aCons (dV 0) (aNil)))) (sSeq (sAsg (dV 0) (gTupT 2 (gConsT (gN 1) (gConsT (gN 2) (gNoT))))) (sRet (d2 gMulT (hV (dTup (lCons (d2 gMulS (hV (dC (.str (" " : Str)))) (hS 2)) (lNil)))) (hS 1))))
def rx_blank : SpX := rawX gx_blank 3
/-- first_state(screen), slots 0 screen 1 empty -/
def g_first_state : SM := sSeq (sSet 1 (dCall 1 r_blank (aCons (dV 0) (aNil)))) (sRet (dTup (lCons (dC (.str ("hide" : Str))) (lCons (dC (.int 0)) (lCons (dC (.int 0)) (lCons (dV 1) (lCons (dV 1) (lNil))))))))
def r_first_state : SpD := raw g_first_state 2
def gx_first_state (px : Exn → DL.Env → Prop) : SM := sSeq (sSet 1 (dCallX 1 rx_blank px (aCons (dV 0) (aNil)))) (sRet (dTup (lCons (dC (.str ("hide" : Str))) (lCons (dC (.int 0)) (lCons (dC (.int 0)) (lCons (dV 1) (lCons (dV 1) (lNil))))))))
def rx_first_state : SpX := rawX gx_first_state 2
/-- is_cell_sign(thing), slots 0 thing -/
def g_is_cell_sign : SM := sRet (dAnd (dIsi "str" (hS 0)) (dAnd (d2 gEq (hV (dCB gLen (DL.gCons (hS 0) (DL.gNil)))) (hV (dC (.int 1)))) (dCall 2 r_is_sign (aCons (dV 0) (aCons (dC (.int 32)) (aNil))))))
def r_is_cell_sign : SpD := raw g_is_cell_sign 1
/-- is_code_of(screen, value), slots 0 screen 1 value 2 word 3 rows 4 columns -/
def g_is_code_of : SM := sSeq (sAsg (dV 0) (gTupT 2 (gConsT (gN 3) (gConsT (gN 4) (gNoT))))) (sSeq (sIf (bOr (bNot (bTruth (hV (dCall 3 r_is_tuple (aCons (dV 1) (aCons (dC (.int 1)) (aCons (dC (.int 3)) (aNil)))))))) (bNot (bTruth (hV (dIsi "str" (hV (d2 gIx (hS 1) (hV (dC (.int 0)))))))))) (sRet (dC (.bool false))) (sNo)) (sSeq (sSet 2 (d2 gIx (hS 1) (hV (dC (.int 0))))) (sSeq (sIf (bD (d2 gEq (hV (dCB gLen (DL.gCons (hS 1) (DL.gNil)))) (hV (dC (.int 1))))) (sRet (d2 gInU (hS 2) (hV (dC (.tuple ([("hide" : Str), ("paint" : Str), ("line" : Str), ("swap" : Str), ("wipe" : Str), ("clear" : Str), ("rub" : Str), ("tail" : Str), ("idle" : Str)].map PyData.str)))))) (sNo)) (sSeq (sIf (bD (d2 gEq (hV (dCB gLen (DL.gCons (hS 1) (DL.gNil)))) (hV (dC (.int 2))))) (sRet (dOr (dAnd (d2 gEq (hS 2) (hV (dC (.str ("put" : Str))))) (dCall 1 r_is_cell_sign (aCons (d2 gIx (hS 1) (hV (dC (.int 1)))) (aNil)))) (dAnd (d2 gEq (hS 2) (hV (dC (.str ("roll" : Str))))) (dCall 3 r_is_within (aCons (d2 gIx (hS 1) (hV (dC (.int 1)))) (aCons (dC (.int 1)) (aCons (dV 3) (aNil)))))))) (sNo)) (sRet (dAnd (d2 gEq (hS 2) (hV (dC (.str ("at" : Str))))) (dAnd (dCall 3 r_is_within (aCons (d2 gIx (hS 1) (hV (dC (.int 1)))) (aCons (dC (.int 0)) (aCons (d2 DL.gSub (hS 3) (hV (dC (.int 1)))) (aNil))))) (dCall 3 r_is_within (aCons (d2 gIx (hS 1) (hV (dC (.int 2)))) (aCons (dC (.int 0)) (aCons (d2 DL.gSub (hS 4) (hV (dC (.int 1)))) (aNil))))))))))))
def r_is_code_of : SpD := raw g_is_code_of 5
/-- need_codes(screen, codes, least, most), slots 0 screen 1 codes 2 least 3 most 4 number 5 code -/
def g_need_codes : SM := sSeq (sIf (bNot (bTruth (hV (dCall 3 r_is_tuple (aCons (dV 1) (aCons (dV 2) (aCons (dV 3) (aNil)))))))) (sNever) (sNo)) (sFor (iEn (lCons (dV 1) (lNil))) (gTupT 2 (gConsT (gN 4) (gConsT (gN 5) (gNoT)))) (sIf (bNot (bTruth (hV (dCall 2 r_is_code_of (aCons (dV 0) (aCons (dV 5) (aNil))))))) (sNever) (sNo)))
def r_need_codes : SpD := raw g_need_codes 6
def gx_need_codes (px : Exn → DL.Env → Prop) : SM := sSeq (sIf (bNot (bTruth (hV (dCall 3 r_is_tuple (aCons (dV 1) (aCons (dV 2) (aCons (dV 3) (aNil)))))))) (sRaise "BadCode" (some "place") (dC .none) px) (sNo)) (sFor (iEn (lCons (dV 1) (lNil))) (gTupT 2 (gConsT (gN 4) (gConsT (gN 5) (gNoT)))) (sIf (bNot (bTruth (hV (dCall 2 r_is_code_of (aCons (dV 0) (aCons (dV 5) (aNil))))))) (sRaise "BadCode" (some "place") (dV 4) px) (sNo)))
def rx_need_codes : SpX := rawX gx_need_codes 6
/-- cells_of(state), slots 0 state -/
def g_cells_of : SM := sRet (dCB gTupS (DL.gCons (hV (dJoin (dC (.str ("" : Str))) (d2 gAdd (hV (d2 gIx (hS 0) (hV (dC (.int 3))))) (hV (d2 gIx (hS 0) (hV (dC (.int 4)))))))) (DL.gNil)))
def r_cells_of : SpD := raw g_cells_of 1
/-- memory_of(screen, cells, first), slots 0 screen 1 cells 2 first 3 rows 4 columns 5 row -/
def g_memory_of : SM := sSeq (sAsg (dV 0) (gTupT 2 (gConsT (gN 3) (gConsT (gN 4) (gNoT))))) (sRet (dCB gTuple (DL.gCons (hV (dLc (iRange2 (lCons (dV 2) (lCons (d2 gAdd (hS 2) (hS 3)) (lNil)))) (gN 5) (bYes) (dJoin (dC (.str ("" : Str))) (dSl (hS 1) (oI (d2 gMul (hS 5) (hS 4))) (oI (d2 gMul (hV (d2 gAdd (hS 5) (hV (dC (.int 1))))) (hS 4))))) [5])) (DL.gNil))))
def r_memory_of : SpD := raw g_memory_of 6
/-- pictures(screen, codes), slots 0 screen 1 codes 2 state 3 control 4 cells 5 found 6 code -/
def g_pictures : SM := sSeq (sSet 2 (dCall 1 r_first_state (aCons (dV 0) (aNil)))) (sSeq (sExpr (dCallD 2 [PyData.int 0, PyData.int 2000] r_need_codes (aCons (dV 0) (aCons (dV 1) (aNil))))) (sSeq (sSet 3 (dSl (hS 2) (oNo) (oI (dC (.int 3))))) (sSeq (sSet 4 (dCall 1 r_cells_of (aCons (dV 2) (aNil)))) (sSeq (sSetN 5 (dLst (lNil))) (sSeq (sFor (iSeq (dV 1)) (gN 6) (sSeq (sAsg (dCall 4 r_stepped (aCons (dV 0) (aCons (dV 3) (aCons (dV 4) (aCons (dV 6) (aNil)))))) (gTupT 2 (gConsT (gN 3) (gConsT (gN 4) (gNoT))))) (sApp 5 (dCall 3 r_memory_of (aCons (dV 0) (aCons (dV 4) (aCons (dC (.int 0)) (aNil)))))))) (sRet (dCB gTuple (DL.gCons (hS 5) (DL.gNil)))))))))
def r_pictures : SpD := raw g_pictures 7
def gx_pictures (px : Exn → DL.Env → Prop) : SM := sSeq (sSet 2 (dCallX 1 rx_first_state px (aCons (dV 0) (aNil)))) (sSeq (sExpr (dCallXD 2 [PyData.int 0, PyData.int 2000] rx_need_codes px (aCons (dV 0) (aCons (dV 1) (aNil))))) (sSeq (sSet 3 (dSl (hS 2) (oNo) (oI (dC (.int 3))))) (sSeq (sSet 4 (dCall 1 r_cells_of (aCons (dV 2) (aNil)))) (sSeq (sSetN 5 (dLst (lNil))) (sSeq (sFor (iSeq (dV 1)) (gN 6) (sSeq (sAsg (dCall 4 r_stepped (aCons (dV 0) (aCons (dV 3) (aCons (dV 4) (aCons (dV 6) (aNil)))))) (gTupT 2 (gConsT (gN 3) (gConsT (gN 4) (gNoT))))) (sApp 5 (dCall 3 r_memory_of (aCons (dV 0) (aCons (dV 4) (aCons (dC (.int 0)) (aNil)))))))) (sRet (dCB gTuple (DL.gCons (hS 5) (DL.gNil)))))))))
def rx_pictures : SpX := rawX gx_pictures 7
/-- are_codes(screen, value, least, most), slots 0 screen 1 value 2 least 3 most 4 code -/
def g_are_codes : SM := sRet (dAnd (dCall 3 r_is_tuple (aCons (dV 1) (aCons (dV 2) (aCons (dV 3) (aNil))))) (dCB gAll (DL.gCons (hV (dLc (iSeq (dV 1)) (gN 4) (bYes) (dCall 2 r_is_code_of (aCons (dV 0) (aCons (dV 4) (aNil)))) [4])) (DL.gNil))))
def r_are_codes : SpD := raw g_are_codes 5
/-- _is_row(thing, columns), slots 0 thing 1 columns 2 sign -/
def g__is_row : SM := sSeq (sIf (bOr (bNot (bTruth (hV (dIsi "str" (hS 0))))) (bD (d2 gNe (hV (dCB gLen (DL.gCons (hS 0) (DL.gNil)))) (hS 1)))) (sRet (dC (.bool false))) (sNo)) (sRet (dCB gAll (DL.gCons (hV (dLc (iSeq (dV 0)) (gN 2) (bYes) (dCall 2 r_is_sign (aCons (dV 2) (aCons (dC (.int 32)) (aNil)))) [2])) (DL.gNil))))
def r__is_row : SpD := raw g__is_row 3
/-- is_memory_of(screen, value), slots 0 screen 1 value 2 rows 3 columns 4 row -/
def g_is_memory_of : SM := sSeq (sAsg (dV 0) (gTupT 2 (gConsT (gN 2) (gConsT (gN 3) (gNoT))))) (sRet (dAnd (dCall 3 r_is_tuple (aCons (dV 1) (aCons (dV 2) (aCons (dV 2) (aNil))))) (dCB gAll (DL.gCons (hV (dLc (iSeq (dV 1)) (gN 4) (bYes) (dCall 2 r__is_row (aCons (dV 4) (aCons (dV 3) (aNil)))) [4])) (DL.gNil)))))
def r_is_memory_of : SpD := raw g_is_memory_of 5
/-- _is_line(thing), slots 0 thing -/
def g__is_line : SM := sRet (dAnd (dCall 2 r_has_signs (aCons (dV 0) (aCons (dC (.int 32)) (aNil)))) (dAnd (d2 gNe (hV (d2 gIx (hS 0) (hV (dC (.int 0))))) (hV (dC (.str (" " : Str))))) (d2 gNe (hV (d2 gIx (hS 0) (hV (dNeg (dC (.int 1)))))) (hV (dC (.str (" " : Str)))))))
def r__is_line : SpD := raw g__is_line 1
/-- is_text(thing), slots 0 thing 1 line -/
def g_is_text : SM := sRet (dAnd (dCall 3 r_is_tuple (aCons (dV 0) (aCons (dC (.int 1)) (aCons (dC (.int 4)) (aNil))))) (dCB gAll (DL.gCons (hV (dLc (iSeq (dV 0)) (gN 1) (bYes) (dCall 1 r__is_line (aCons (dV 1) (aNil))) [1])) (DL.gNil))))
def r_is_text : SpD := raw g_is_text 2
/-- _has_room(screen, thing), slots 0 screen 1 thing 2 rows 3 columns 4 line -/
def g__has_room : SM := sSeq (sAsg (dV 0) (gTupT 2 (gConsT (gN 2) (gConsT (gN 3) (gNoT))))) (sRet (dAnd (dCall 1 r_is_text (aCons (dV 1) (aNil))) (dAnd (d2 gLe (hV (dCB gLen (DL.gCons (hS 1) (DL.gNil)))) (hS 2)) (dCB gAll (DL.gCons (hV (dLc (iSeq (dV 1)) (gN 4) (bYes) (d2 gLe (hV (dCB gLen (DL.gCons (hS 4) (DL.gNil)))) (hS 3)) [4])) (DL.gNil))))))
def r__has_room : SpD := raw g__has_room 5
/-- _need_text(screen, text), slots 0 screen 1 text -/
def g__need_text : SM := sSeq (sExpr (dCall 1 r_need_screen (aCons (dV 0) (aNil)))) (sIf (bNot (bTruth (hV (dCall 2 r__has_room (aCons (dV 0) (aCons (dV 1) (aNil))))))) (sNever) (sNo))
def r__need_text : SpD := raw g__need_text 2
def gx__need_text (px : Exn → DL.Env → Prop) : SM := sSeq (sExpr (dCallX 1 rx_need_screen px (aCons (dV 0) (aNil)))) (sIf (bNot (bTruth (hV (dCall 2 r__has_room (aCons (dV 0) (aCons (dV 1) (aNil))))))) (sRaise "OutOfPlace" none (dC (.str ("no text that the screen has room for" : Str))) px) (sNo))
def rx__need_text : SpX := rawX gx__need_text 2
/-- _load_of(text), slots 0 text 1 codes 2 row 3 line 4 sign -/
def g__load_of : SM := sSeq (sSetN 1 (dLst (lCons (dTup (lCons (dC (.str ("hide" : Str))) (lNil))) (lCons (dTup (lCons (dC (.str ("clear" : Str))) (lNil))) (lNil))))) (sSeq (sFor (iEn (lCons (dV 0) (lNil))) (gTupT 2 (gConsT (gN 2) (gConsT (gN 3) (gNoT)))) (sSeq (sApp 1 (dTup (lCons (dC (.str ("at" : Str))) (lCons (dV 2) (lCons (dC (.int 0)) (lNil)))))) (sExt 1 (dLc (iSeq (dV 3)) (gN 4) (bYes) (dTup (lCons (dC (.str ("put" : Str))) (lCons (dV 4) (lNil)))) [4])))) (sRet (dCB gTuple (DL.gCons (hS 1) (DL.gNil)))))
def r__load_of : SpD := raw g__load_of 5
/-- load(screen, text), slots 0 screen 1 text -/
def g_load : SM := sSeq (sExpr (dCall 2 r__need_text (aCons (dV 0) (aCons (dV 1) (aNil))))) (sRet (dCall 1 r__load_of (aCons (dV 1) (aNil))))
def r_load : SpD := raw g_load 2
def gx_load (px : Exn → DL.Env → Prop) : SM := sSeq (sExpr (dCallX 2 rx__need_text px (aCons (dV 0) (aCons (dV 1) (aNil))))) (sRet (dCall 1 r__load_of (aCons (dV 1) (aNil))))
def rx_load : SpX := rawX gx_load 2
/-- _picture_of(screen, text), slots 0 screen 1 text 2 empty 3 lines 4 rows 5 columns 6 line -/
def g__picture_of : SM := sSeq (sAsg (dV 0) (gTupT 2 (gConsT (gN 4) (gConsT (gN 5) (gNoT))))) (sSeq (sSet 2 (d2 gMulS (hV (dC (.str (" " : Str)))) (hS 5))) (sSeq (sSet 3 (dLc (iSeq (dV 1)) (gN 6) (bYes) (dSl (hV (d2 gAdd (hS 6) (hS 2))) (oNo) (oI (dV 5))) [6])) (sRet (dCB gTuple (DL.gCons (hV (d2 gAdd (hS 3) (hV (d2 gMul (hV (dLst (lCons (dV 2) (lNil)))) (hV (d2 DL.gSub (hS 4) (hV (dCB gLen (DL.gCons (hS 3) (DL.gNil)))))))))) (DL.gNil))))))
def r__picture_of : SpD := raw g__picture_of 7
/-- picture_of(screen, text), slots 0 screen 1 text -/
def g_picture_of : SM := sSeq (sExpr (dCall 2 r__need_text (aCons (dV 0) (aCons (dV 1) (aNil))))) (sRet (dCall 2 r__picture_of (aCons (dV 0) (aCons (dV 1) (aNil)))))
def r_picture_of : SpD := raw g_picture_of 2
def gx_picture_of (px : Exn → DL.Env → Prop) : SM := sSeq (sExpr (dCallX 2 rx__need_text px (aCons (dV 0) (aCons (dV 1) (aNil))))) (sRet (dCall 2 r__picture_of (aCons (dV 0) (aCons (dV 1) (aNil)))))
def rx_picture_of : SpX := rawX gx_picture_of 2
/-- text_of(screen, picture), slots 0 screen 1 picture 2 lines 3 row -/
def g_text_of : SM := sSeq (sExpr (dCall 1 r_need_screen (aCons (dV 0) (aNil)))) (sSeq (sIf (bNot (bTruth (hV (dCall 2 r_is_memory_of (aCons (dV 0) (aCons (dV 1) (aNil))))))) (sNever) (sNo)) (sSeq (sSetN 2 (dLc (iSeq (dV 1)) (gN 3) (bYes) (dStrip Txt.rstripChars (dV 3) (dC (.str (" " : Str)))) [3])) (sSeq (sWhile (bAnd (bTruth (hS 2)) (bD (d2 gEq (hV (d2 gIx (hS 2) (hV (dNeg (dC (.int 1)))))) (hV (dC (.str ("" : Str))))))) (sExpr (dPop 2))) (sSeq (sIf (bNot (bTruth (hV (dCall 1 r_is_text (aCons (dCB gTuple (DL.gCons (hS 2) (DL.gNil))) (aNil)))))) (sRet (dC .none)) (sNo)) (sRet (dCB gTuple (DL.gCons (hS 2) (DL.gNil))))))))
def r_text_of : SpD := raw g_text_of 4
def gx_text_of (px : Exn → DL.Env → Prop) : SM := sSeq (sExpr (dCallX 1 rx_need_screen px (aCons (dV 0) (aNil)))) (sSeq (sIf (bNot (bTruth (hV (dCall 2 r_is_memory_of (aCons (dV 0) (aCons (dV 1) (aNil))))))) (sRaise "OutOfPlace" none (dC (.str ("no memory" : Str))) px) (sNo)) (sSeq (sSetN 2 (dLc (iSeq (dV 1)) (gN 3) (bYes) (dStrip Txt.rstripChars (dV 3) (dC (.str (" " : Str)))) [3])) (sSeq (sWhile (bAnd (bTruth (hS 2)) (bD (d2 gEq (hV (d2 gIx (hS 2) (hV (dNeg (dC (.int 1)))))) (hV (dC (.str ("" : Str))))))) (sExpr (dPop 2))) (sSeq (sIf (bNot (bTruth (hV (dCall 1 r_is_text (aCons (dCB gTuple (DL.gCons (hS 2) (DL.gNil))) (aNil)))))) (sRet (dC .none)) (sNo)) (sRet (dCB gTuple (DL.gCons (hS 2) (DL.gNil))))))))
def rx_text_of : SpX := rawX gx_text_of 4
/-- _is_sendable(screen, thing), slots 0 screen 1 thing -/
def g__is_sendable : SM := sSeq (sIf (bOr (bNot (bTruth (hV (dCall 3 r_is_tuple (aCons (dV 1) (aCons (dC (.int 3)) (aCons (dC (.int 3)) (aNil)))))))) (bNot (bTruth (hV (dCall 3 r_is_within (aCons (d2 gIx (hS 1) (hV (dC (.int 0)))) (aCons (dC (.int 0)) (aCons (dC (.int 1999)) (aNil))))))))) (sRet (dC (.bool false))) (sNo)) (sRet (dAnd (dCall 3 r_is_within (aCons (d2 gIx (hS 1) (hV (dC (.int 1)))) (aCons (d2 gAdd (hV (d2 gIx (hS 1) (hV (dC (.int 0))))) (hV (dC (.int 1)))) (aCons (dC (.int 1999)) (aNil))))) (dCall 2 r__has_room (aCons (dV 0) (aCons (d2 gIx (hS 1) (hV (dC (.int 2)))) (aNil))))))
def r__is_sendable : SpD := raw g__is_sendable 2
/-- _need_cues(screen, cues), slots 0 screen 1 cues 2 free 3 number 4 cue -/
def g__need_cues : SM := sSeq (sExpr (dCall 1 r_need_screen (aCons (dV 0) (aNil)))) (sSeq (sIf (bNot (bTruth (hV (dCall 3 r_is_tuple (aCons (dV 1) (aCons (dC (.int 0)) (aCons (dC (.int 200)) (aNil)))))))) (sNever) (sNo)) (sSeq (sSet 2 (dC (.int 0))) (sFor (iEn (lCons (dV 1) (lNil))) (gTupT 2 (gConsT (gN 3) (gConsT (gN 4) (gNoT)))) (sSeq (sIf (bOr (bNot (bTruth (hV (dCall 2 r__is_sendable (aCons (dV 0) (aCons (dV 4) (aNil))))))) (bD (d2 gLt (hV (d2 gIx (hS 4) (hV (dC (.int 0))))) (hS 2)))) (sNever) (sNo)) (sSet 2 (d2 gIx (hS 4) (hV (dC (.int 1)))))))))
def r__need_cues : SpD := raw g__need_cues 5
def gx__need_cues (px : Exn → DL.Env → Prop) : SM := sSeq (sExpr (dCallX 1 rx_need_screen px (aCons (dV 0) (aNil)))) (sSeq (sIf (bNot (bTruth (hV (dCall 3 r_is_tuple (aCons (dV 1) (aCons (dC (.int 0)) (aCons (dC (.int 200)) (aNil)))))))) (sRaise "BadCues" (some "number") (dC .none) px) (sNo)) (sSeq (sSet 2 (dC (.int 0))) (sFor (iEn (lCons (dV 1) (lNil))) (gTupT 2 (gConsT (gN 3) (gConsT (gN 4) (gNoT)))) (sSeq (sIf (bOr (bNot (bTruth (hV (dCall 2 r__is_sendable (aCons (dV 0) (aCons (dV 4) (aNil))))))) (bD (d2 gLt (hV (d2 gIx (hS 4) (hV (dC (.int 0))))) (hS 2)))) (sRaise "BadCues" (some "number") (dV 3) px) (sNo)) (sSet 2 (d2 gIx (hS 4) (hV (dC (.int 1)))))))))
def rx__need_cues : SpX := rawX gx__need_cues 5
/-- _free_frames(ahead, start), slots 0 ahead 1 start 2 between -/
def g__free_frames : SM := sSeq (sIf (bD (d2 gIs (hS 0) (hV (dC .none)))) (sRet (dV 1)) (sNo)) (sSeq (sSet 2 (d2 DL.gSub (hV (d2 DL.gSub (hS 1) (hV (d2 gIx (hS 0) (hV (dC (.int 0))))))) (hV (dC (.int 1))))) (sSeq (sIf (bD (d2 gLt (hV (d2 gIx (hS 0) (hV (dC (.int 1))))) (hS 1))) (sRet (d2 DL.gSub (hS 2) (hV (dC (.int 1))))) (sNo)) (sRet (dV 2))))
def r__free_frames : SpD := raw g__free_frames 3
/-- _first_short(cues), slots 0 cues 1 ahead 2 number 3 cue -/
def g__first_short : SM := sSeq (sSet 1 (dC .none)) (sSeq (sFor (iEn (lCons (dV 0) (lNil))) (gTupT 2 (gConsT (gN 2) (gConsT (gN 3) (gNoT)))) (sSeq (sIf (bD (d2 gLt (hV (dCall 2 r__free_frames (aCons (dV 1) (aCons (d2 gIx (hS 3) (hV (dC (.int 0)))) (aNil))))) (hV (dCB gLen (DL.gCons (hV (dCall 1 r__load_of (aCons (d2 gIx (hS 3) (hV (dC (.int 2)))) (aNil)))) (DL.gNil)))))) (sRet (dV 2)) (sNo)) (sSet 1 (dV 3)))) (sRet (dC .none)))
def r__first_short : SpD := raw g__first_short 4
/-- _stream_of(cues), slots 0 cues 1 codes 2 start 3 end 4 _ 5 text 6 left 7 frame 8 code -/
def g__stream_of : SM := sSeq (sIf (bNot (bTruth (hS 0))) (sRet (dTup (lNil))) (sNo)) (sSeq (sSetN 1 (dRep (dLst (lCons (dC .none) (lNil))) (d2 gAdd (hV (d2 gIx (hV (d2 gIx (hS 0) (hV (dNeg (dC (.int 1)))))) (hV (dC (.int 1))))) (hV (dC (.int 1)))))) (sSeq (sFor (iSeq (dV 0)) (gTupT 3 (gConsT (gN 2) (gConsT (gN 3) (gConsT (gN 4) (gNoT))))) (sSeq (sPut 1 (dV 2) (dTup (lCons (dC (.str ("swap" : Str))) (lNil)))) (sPut 1 (dV 3) (dTup (lCons (dC (.str ("wipe" : Str))) (lNil)))))) (sSeq (sFor (iSeq (dV 0)) (gTupT 3 (gConsT (gN 2) (gConsT (gN 4) (gConsT (gN 5) (gNoT))))) (sSeq (sSetN 6 (dCB gList (DL.gCons (hV (dCall 1 r__load_of (aCons (dV 5) (aNil)))) (DL.gNil)))) (sSeq (sSet 7 (d2 DL.gSub (hS 2) (hV (dC (.int 1))))) (sWhile (bTruth (hS 6)) (sSeq (sIf (bD (d2 gIs (hV (d2 gIx (hS 1) (hS 7))) (hV (dC .none)))) (sPut 1 (dV 7) (dPop 6)) (sNo)) (sAug 7 gIsub (hV (dC (.int 1))))))))) (sRet (dCB gTuple (DL.gCons (hV (dLc (iSeq (dV 1)) (gN 8) (bYes) (dIf (bD (d2 gIs (hS 8) (hV (dC .none)))) (dTup (lCons (dC (.str ("idle" : Str))) (lNil))) (dV 8)) [8])) (DL.gNil)))))))
def r__stream_of : SpD := raw g__stream_of 9
/-- send_paper(screen, cues), slots 0 screen 1 cues 2 short -/
def g_send_paper : SM := sSeq (sExpr (dCall 2 r__need_cues (aCons (dV 0) (aCons (dV 1) (aNil))))) (sSeq (sSet 2 (dCall 1 r__first_short (aCons (dV 1) (aNil)))) (sSeq (sIf (bD (d2 gIsNot (hS 2) (hV (dC .none)))) (sRet (dTup (lCons (dC (.str ("short" : Str))) (lCons (dV 2) (lNil))))) (sNo)) (sRet (dTup (lCons (dC (.str ("stream" : Str))) (lCons (dCall 1 r__stream_of (aCons (dV 1) (aNil))) (lNil)))))))
def r_send_paper : SpD := raw g_send_paper 3
def gx_send_paper (px : Exn → DL.Env → Prop) : SM := sSeq (sExpr (dCallX 2 rx__need_cues px (aCons (dV 0) (aCons (dV 1) (aNil))))) (sSeq (sSet 2 (dCall 1 r__first_short (aCons (dV 1) (aNil)))) (sSeq (sIf (bD (d2 gIsNot (hS 2) (hV (dC .none)))) (sRet (dTup (lCons (dC (.str ("short" : Str))) (lCons (dV 2) (lNil))))) (sNo)) (sRet (dTup (lCons (dC (.str ("stream" : Str))) (lCons (dCall 1 r__stream_of (aCons (dV 1) (aNil))) (lNil)))))))
def rx_send_paper : SpX := rawX gx_send_paper 3
/-- _sends(screen, cues, thing), slots 0 screen 1 cues 2 thing 3 many 4 told 5 start 6 end 7 text -/
def g__sends : SM := sSeq (sSet 3 (dC (.int 0))) (sSeq (sIf (bTruth (hS 1)) (sSet 3 (d2 gAdd (hV (d2 gIx (hV (d2 gIx (hS 1) (hV (dNeg (dC (.int 1)))))) (hV (dC (.int 1))))) (hV (dC (.int 1))))) (sNo)) (sSeq (sIf (bNot (bTruth (hV (dCall 4 r_are_codes (aCons (dV 0) (aCons (dV 2) (aCons (dV 3) (aCons (dV 3) (aNil))))))))) (sRet (dC (.bool false))) (sNo)) (sSeq (sSetN 4 (dRep (dLst (lCons (dCall 1 r_blank (aCons (dV 0) (aNil))) (lNil))) (dV 3))) (sSeq (sFor (iSeq (dV 1)) (gTupT 3 (gConsT (gN 5) (gConsT (gN 6) (gConsT (gN 7) (gNoT))))) (sCutS 4 (dRep (dLst (lCons (dCall 2 r__picture_of (aCons (dV 0) (aCons (dV 7) (aNil)))) (lNil))) (d2 DL.gSub (hS 6) (hS 5))) (oI (dV 5)) (oI (dV 6)))) (sRet (d2 gEq (hV (dCB gList (DL.gCons (hV (dCall 2 r_pictures (aCons (dV 0) (aCons (dV 2) (aNil))))) (DL.gNil)))) (hS 4)))))))
def r__sends : SpD := raw g__sends 8
/-- check_send(screen, cues, paper), slots 0 screen 1 cues 2 paper 3 word 4 told -/
def g_check_send : SM := sSeq (sExpr (dCall 2 r__need_cues (aCons (dV 0) (aCons (dV 1) (aNil))))) (sSeq (sIf (bOr (bNot (bTruth (hV (dCall 3 r_is_tuple (aCons (dV 2) (aCons (dC (.int 2)) (aCons (dC (.int 2)) (aNil)))))))) (bNot (bTruth (hV (dCall 2 r_is_one_of (aCons (d2 gIx (hS 2) (hV (dC (.int 0)))) (aCons (dTup (lCons (dC (.str ("stream" : Str))) (lCons (dC (.str ("short" : Str))) (lNil)))) (aNil)))))))) (sNever) (sNo)) (sSeq (sAsg (dV 2) (gTupT 2 (gConsT (gN 3) (gConsT (gN 4) (gNoT))))) (sSeq (sIf (bAnd (bD (d2 gEq (hS 3) (hV (dC (.str ("stream" : Str)))))) (bNot (bTruth (hV (dCall 3 r__sends (aCons (dV 0) (aCons (dV 1) (aCons (dV 4) (aNil))))))))) (sNever) (sNo)) (sSeq (sIf (bAnd (bD (d2 gEq (hS 3) (hV (dC (.str ("short" : Str)))))) (bNot (bAnd (bTruth (hV (dCall 1 r_is_integer (aCons (dV 4) (aNil))))) (bD (d2 gEq (hS 4) (hV (dCall 1 r__first_short (aCons (dV 1) (aNil))))))))) (sNever) (sNo)) (sRet (dV 3))))))
def r_check_send : SpD := raw g_check_send 5
def gx_check_send (px : Exn → DL.Env → Prop) : SM := sSeq (sExpr (dCallX 2 rx__need_cues px (aCons (dV 0) (aCons (dV 1) (aNil))))) (sSeq (sIf (bOr (bNot (bTruth (hV (dCall 3 r_is_tuple (aCons (dV 2) (aCons (dC (.int 2)) (aCons (dC (.int 2)) (aNil)))))))) (bNot (bTruth (hV (dCall 2 r_is_one_of (aCons (d2 gIx (hS 2) (hV (dC (.int 0)))) (aCons (dTup (lCons (dC (.str ("stream" : Str))) (lCons (dC (.str ("short" : Str))) (lNil)))) (aNil)))))))) (sRaise "BadPaper" (some "part") (dC (.str ("form" : Str))) px) (sNo)) (sSeq (sAsg (dV 2) (gTupT 2 (gConsT (gN 3) (gConsT (gN 4) (gNoT))))) (sSeq (sIf (bAnd (bD (d2 gEq (hS 3) (hV (dC (.str ("stream" : Str)))))) (bNot (bTruth (hV (dCall 3 r__sends (aCons (dV 0) (aCons (dV 1) (aCons (dV 4) (aNil))))))))) (sRaise "BadPaper" (some "part") (dC (.str ("stream" : Str))) px) (sNo)) (sSeq (sIf (bAnd (bD (d2 gEq (hS 3) (hV (dC (.str ("short" : Str)))))) (bNot (bAnd (bTruth (hV (dCall 1 r_is_integer (aCons (dV 4) (aNil))))) (bD (d2 gEq (hS 4) (hV (dCall 1 r__first_short (aCons (dV 1) (aNil))))))))) (sRaise "BadPaper" (some "part") (dC (.str ("short" : Str))) px) (sNo)) (sRet (dV 3))))))
def rx_check_send : SpX := rawX gx_check_send 5
/-- put_off(screen, cues), slots 0 screen 1 cues 2 found 3 ahead 4 cue 5 start -/
def g_put_off : SM := sSeq (sExpr (dCall 2 r__need_cues (aCons (dV 0) (aCons (dV 1) (aNil))))) (sSeq (sSetN 2 (dLst (lNil))) (sSeq (sSet 3 (dC .none)) (sSeq (sFor (iSeq (dV 1)) (gN 4) (sSeq (sSet 5 (d2 gIx (hS 4) (hV (dC (.int 0))))) (sSeq (sWhile (bAnd (bD (d2 gLt (hS 5) (hV (d2 gIx (hS 4) (hV (dC (.int 1))))))) (bD (d2 gLt (hV (dCall 2 r__free_frames (aCons (dV 3) (aCons (dV 5) (aNil))))) (hV (dCB gLen (DL.gCons (hV (dCall 1 r__load_of (aCons (d2 gIx (hS 4) (hV (dC (.int 2)))) (aNil)))) (DL.gNil))))))) (sAug 5 gIadd (hV (dC (.int 1))))) (sSeq (sIf (bD (d2 gEq (hS 5) (hV (d2 gIx (hS 4) (hV (dC (.int 1))))))) (sRet (dC .none)) (sNo)) (sSeq (sSet 3 (dTup (lCons (dV 5) (lCons (d2 gIx (hS 4) (hV (dC (.int 1)))) (lCons (d2 gIx (hS 4) (hV (dC (.int 2)))) (lNil)))))) (sApp 2 (dV 3))))))) (sRet (dCB gTuple (DL.gCons (hS 2) (DL.gNil)))))))
def r_put_off : SpD := raw g_put_off 6
def gx_put_off (px : Exn → DL.Env → Prop) : SM := sSeq (sExpr (dCallX 2 rx__need_cues px (aCons (dV 0) (aCons (dV 1) (aNil))))) (sSeq (sSetN 2 (dLst (lNil))) (sSeq (sSet 3 (dC .none)) (sSeq (sFor (iSeq (dV 1)) (gN 4) (sSeq (sSet 5 (d2 gIx (hS 4) (hV (dC (.int 0))))) (sSeq (sWhile (bAnd (bD (d2 gLt (hS 5) (hV (d2 gIx (hS 4) (hV (dC (.int 1))))))) (bD (d2 gLt (hV (dCall 2 r__free_frames (aCons (dV 3) (aCons (dV 5) (aNil))))) (hV (dCB gLen (DL.gCons (hV (dCall 1 r__load_of (aCons (d2 gIx (hS 4) (hV (dC (.int 2)))) (aNil)))) (DL.gNil))))))) (sAug 5 gIadd (hV (dC (.int 1))))) (sSeq (sIf (bD (d2 gEq (hS 5) (hV (d2 gIx (hS 4) (hV (dC (.int 1))))))) (sRet (dC .none)) (sNo)) (sSeq (sSet 3 (dTup (lCons (dV 5) (lCons (d2 gIx (hS 4) (hV (dC (.int 1)))) (lCons (d2 gIx (hS 4) (hV (dC (.int 2)))) (lNil)))))) (sApp 2 (dV 3))))))) (sRet (dCB gTuple (DL.gCons (hS 2) (DL.gNil)))))))
def rx_put_off : SpX := rawX gx_put_off 6
/-- shows(screen, codes), slots 0 screen 1 codes 2 empty 3 found 4 ahead 5 frame 6 picture -/
def g_shows : SM := sSeq (sSet 2 (dCall 1 r_blank (aCons (dV 0) (aNil)))) (sSeq (sSetN 3 (dLst (lNil))) (sSeq (sSet 4 (dV 2)) (sSeq (sFor (iEn (lCons (dCall 2 r_pictures (aCons (dV 0) (aCons (dV 1) (aNil)))) (lNil))) (gTupT 2 (gConsT (gN 5) (gConsT (gN 6) (gNoT)))) (sSeq (sIf (bAnd (bD (d2 gNe (hS 6) (hS 2))) (bD (d2 gEq (hS 6) (hS 4)))) (sPut 3 (dNeg (dC (.int 1))) (dTup (lCons (d2 gIx (hV (d2 gIx (hS 3) (hV (dNeg (dC (.int 1)))))) (hV (dC (.int 0)))) (lCons (d2 gAdd (hS 5) (hV (dC (.int 1)))) (lCons (dV 6) (lNil)))))) (sIf (bD (d2 gNe (hS 6) (hS 2))) (sApp 3 (dTup (lCons (dV 5) (lCons (d2 gAdd (hS 5) (hV (dC (.int 1)))) (lCons (dV 6) (lNil)))))) (sNo))) (sSet 4 (dV 6)))) (sRet (dCB gTuple (DL.gCons (hS 3) (DL.gNil)))))))
def r_shows : SpD := raw g_shows 7
def gx_shows (px : Exn → DL.Env → Prop) : SM := sSeq (sSet 2 (dCallX 1 rx_blank px (aCons (dV 0) (aNil)))) (sSeq (sSetN 3 (dLst (lNil))) (sSeq (sSet 4 (dV 2)) (sSeq (sFor (iEn (lCons (dCallX 2 rx_pictures px (aCons (dV 0) (aCons (dV 1) (aNil)))) (lNil))) (gTupT 2 (gConsT (gN 5) (gConsT (gN 6) (gNoT)))) (sSeq (sIf (bAnd (bD (d2 gNe (hS 6) (hS 2))) (bD (d2 gEq (hS 6) (hS 4)))) (sPut 3 (dNeg (dC (.int 1))) (dTup (lCons (d2 gIx (hV (d2 gIx (hS 3) (hV (dNeg (dC (.int 1)))))) (hV (dC (.int 0)))) (lCons (d2 gAdd (hS 5) (hV (dC (.int 1)))) (lCons (dV 6) (lNil)))))) (sIf (bD (d2 gNe (hS 6) (hS 2))) (sApp 3 (dTup (lCons (dV 5) (lCons (d2 gAdd (hS 5) (hV (dC (.int 1)))) (lCons (dV 6) (lNil)))))) (sNo))) (sSet 4 (dV 6)))) (sRet (dCB gTuple (DL.gCons (hS 3) (DL.gNil)))))))
def rx_shows : SpX := rawX gx_shows 7
/-- _law_size(_law_m, _law_most), slots 0 _law_m 1 _law_most -/
def g__law_size : SM := sRet (dTup (lCons (d2 gAdd (hV (dC (.int 1))) (hV (dCallO 0 2 s_next (aOra 0 (aCons (dC (.int 2)) (aNil)))))) (lCons (d2 gAdd (hV (dC (.int 1))) (hV (dCallO 0 2 s_next (aOra 0 (aCons (dV 1) (aNil)))))) (lNil))))
def r__law_size : SpD := raw g__law_size 2
/-- _law_text(_law_m, _law_size_here), slots 0 _law_m 1 _law_size_here 2 _law_found 3 _law_k 4 _law_line 5 _law_j -/
def g__law_text : SM := sSeq (sSetN 2 (dLst (lNil))) (sSeq (sFor (iRange1 (lCons (d2 gAdd (hV (dC (.int 1))) (hV (dCallO 0 2 s_next (aOra 0 (aCons (d2 gIx (hS 1) (hV (dC (.int 0)))) (aNil)))))) (lNil))) (gN 3) (sSeq (sSet 4 (dStrip Txt.stripChars (dJoin (dC (.str ("" : Str))) (dLc (iRange1 (lCons (d2 gAdd (hV (dC (.int 1))) (hV (dCallO 0 2 s_next (aOra 0 (aCons (d2 gIx (hS 1) (hV (dC (.int 1)))) (aNil)))))) (lNil))) (gN 5) (bYes) (d2 gIx (hV (dC (.str ("ab x" : Str)))) (hV (dCallO 0 2 s_next (aOra 0 (aCons (dC (.int 4)) (aNil)))))) [5])) (dC (.str (" " : Str))))) (sApp 2 (dIf (bD (d2 gNe (hS 4) (hV (dC (.str ("" : Str)))))) (dV 4) (dC (.str ("x" : Str))))))) (sRet (dCB gTuple (DL.gCons (hS 2) (DL.gNil)))))
def r__law_text : SpD := raw g__law_text 6
/-- _law_outcome(_law_way, _law_size_here, _law_thing), slots 0 _law_way 1 _law_size_here 2 _law_thing 3 _law_found 4 e -/
def g__law_outcome : SM := sSeq (sSet 3 (dC .none)) (sSeq (sTryC [CD.as "BadSize" ["BadCues", "BadCode", "OutOfPlace"] "value" 4 3 (fun y => .tuple [.str ("size" : Str), y]), CD.as "BadCues" ["BadSize", "BadCode", "OutOfPlace"] "number" 4 3 (fun y => .tuple [.str ("cues" : Str), y]), CD.as "BadCode" ["BadSize", "BadCues", "OutOfPlace"] "place" 4 3 (fun y => .tuple [.str ("code" : Str), y]), CD.bare "OutOfPlace" ["BadSize", "BadCues", "BadCode"] (sSet 3 (dC (.str ("place" : Str))))] (fun px => sIf (bD (d2 gEq (hS 0) (hV (dC (.int 0))))) (sExpr (dCallX 2 rx_load px (aCons (dV 1) (aCons (dV 2) (aNil))))) (sIf (bD (d2 gEq (hS 0) (hV (dC (.int 1))))) (sExpr (dCallX 2 rx_picture_of px (aCons (dV 1) (aCons (dV 2) (aNil))))) (sIf (bD (d2 gEq (hS 0) (hV (dC (.int 2))))) (sExpr (dCallX 2 rx_text_of px (aCons (dV 1) (aCons (dV 2) (aNil))))) (sIf (bD (d2 gEq (hS 0) (hV (dC (.int 3))))) (sExpr (dCallX 2 rx_send_paper px (aCons (dV 1) (aCons (dV 2) (aNil))))) (sIf (bD (d2 gEq (hS 0) (hV (dC (.int 4))))) (sExpr (dCallX 2 rx_put_off px (aCons (dV 1) (aCons (dV 2) (aNil))))) (sExpr (dIf (bD (d2 gEq (hS 0) (hV (dC (.int 5))))) (dCallX 2 rx_shows px (aCons (dV 1) (aCons (dV 2) (aNil)))) (dCallX 3 rx_check_send px (aCons (dV 1) (aCons (dV 2) (aCons (dC .none) (aNil))))))))))))) (sRet (dV 3)))
def r__law_outcome : SpD := raw g__law_outcome 5
/-- _law_cues_right(_law_m, _law_size_here), slots 0 _law_m 1 _law_size_here 2 _law_text_here 3 _law_first 4 _law_last 5 _law_odds 6 _law_odd 7 _law_bad 8 _law_cues 9 _law_at 10 _law_way -/
def g__law_cues_right : SM := sSeq (sSet 2 (dCallO 0 2 r__law_text (aOra 0 (aCons (dV 1) (aNil))))) (sSeq (sPar 8 9 (lCons (dTup (lCons (dTup (lCons (dC (.int 0)) (lCons (dC (.int 3)) (lCons (dV 2) (lNil))))) (lCons (dTup (lCons (dC (.int 5)) (lCons (dC (.int 9)) (lCons (dV 2) (lNil))))) (lCons (dTup (lCons (dC (.int 9)) (lCons (dC (.int 20)) (lCons (dV 2) (lNil))))) (lNil))))) (lCons (dCallO 0 2 s_next (aOra 0 (aCons (dC (.int 3)) (aNil)))) (lNil)))) (sSeq (sSet 3 (d2 gIx (hV (d2 gIx (hS 8) (hS 9))) (hV (dC (.int 0))))) (sSeq (sSet 4 (d2 gIx (hV (d2 gIx (hS 8) (hS 9))) (hV (dC (.int 1))))) (sSeq (sSetN 5 (dLst (lCons (dC .none) (lCons (dTup (lNil)) (lCons (dSl (hV (d2 gIx (hS 8) (hS 9))) (oNo) (oI (dC (.int 2)))) (lCons (dTup (lCons (dV 3) (lCons (dV 3) (lCons (dV 2) (lNil))))) (lCons (dTup (lCons (dV 3) (lCons (dC (.int 2000)) (lCons (dV 2) (lNil))))) (lCons (dTup (lCons (dV 3) (lCons (dV 4) (lCons (dTup (lNil)) (lNil))))) (lCons (dTup (lCons (dNeg (dC (.int 1))) (lCons (dC (.int 1)) (lCons (dV 2) (lNil))))) (lNil)))))))))) (sSeq (sSetN 5 (dCat (hS 5) (hV (dLst (lCons (dTup (lCons (dV 3) (lCons (dV 4) (lCons (dTup (lCons (d2 gMulS (hV (dC (.str ("a" : Str)))) (hV (d2 gAdd (hV (d2 gIx (hS 1) (hV (dC (.int 1))))) (hV (dC (.int 1)))))) (lNil))) (lNil))))) (lCons (dTup (lCons (dV 3) (lCons (dV 4) (lCons (dTup (lCons (dC (.str (" a" : Str))) (lNil))) (lNil))))) (lCons (dTup (lCons (dC (.bool true)) (lCons (dC (.int 4)) (lCons (dV 2) (lNil))))) (lNil)))))))) (sSeq (sSetN 5 (dCat (hS 5) (hV (dLst (lCons (dTup (lCons (dV 3) (lCons (dV 4) (lCons (d2 gMulT (hV (dTup (lCons (dC (.str ("a" : Str))) (lNil)))) (hV (d2 gAdd (hV (d2 gIx (hS 1) (hV (dC (.int 0))))) (hV (dC (.int 1)))))) (lNil))))) (lCons (dTup (lCons (dV 3) (lCons (dV 4) (lCons (dC (.str ("a" : Str))) (lNil))))) (lCons (dTup (lCons (dV 3) (lCons (dCB gStrI (DL.gCons (hV (d2 gAdd (hS 3) (hV (dC (.int 1))))) (DL.gNil))) (lCons (dV 2) (lNil))))) (lNil)))))))) (sSeq (sApp 5 (dCB gList (DL.gCons (hV (d2 gIx (hS 8) (hS 9))) (DL.gNil)))) (sSeq (sFor (iSeq (dV 5)) (gN 6) (sSeq (sSet 7 (d2 gAdd (hV (d2 gAdd (hV (dSl (hS 8) (oNo) (oI (dV 9)))) (hV (dTup (lCons (dV 6) (lNil)))))) (hV (dSl (hS 8) (oI (d2 gAdd (hS 9) (hV (dC (.int 1))))) (oNo))))) (sIf (bD (d2 gNe (hV (dLc (iSeq (dTup (lCons (dC (.int 3)) (lCons (dC (.int 4)) (lCons (dC (.int 6)) (lNil)))))) (gN 10) (bYes) (dCall 3 r__law_outcome (aCons (dV 10) (aCons (dV 1) (aCons (dV 7) (aNil))))) [10])) (hV (d2 gMul (hV (dLst (lCons (dTup (lCons (dC (.str ("cues" : Str))) (lCons (dV 9) (lNil)))) (lNil)))) (hV (dC (.int 3))))))) (sRet (dC (.bool false))) (sNo)))) (sSeq (sSet 7 (dTup (lCons (dTup (lCons (dC (.int 0)) (lCons (dC (.int 3)) (lCons (dV 2) (lNil))))) (lCons (dTup (lCons (dC (.int 2)) (lCons (dC (.int 5)) (lCons (dV 2) (lNil))))) (lNil))))) (sRet (d2 gEq (hV (dLc (iSeq (dTup (lCons (dC (.int 3)) (lCons (dC (.int 4)) (lCons (dC (.int 6)) (lNil)))))) (gN 10) (bYes) (dCall 3 r__law_outcome (aCons (dV 10) (aCons (dV 1) (aCons (dV 7) (aNil))))) [10])) (hV (d2 gMul (hV (dLst (lCons (dTup (lCons (dC (.str ("cues" : Str))) (lCons (dC (.int 1)) (lNil)))) (lNil)))) (hV (dC (.int 3))))))))))))))))
def r__law_cues_right : SpD := raw g__law_cues_right 11
/-- law behind its first row, slots 0 _law_script 1 _law_m 2 _law_turn 3 _law_size_here 4 _law_odd 5 _law_odds 6 _law_right 7 _law_way 8 _law_k -/
def g_law : SM := sSeq (sFor (iRange1 (lCons (d2 gAdd (hV (dC (.int 1))) (hV (dCB gMin (DL.gCons (hV (dCB gLen (DL.gCons (hS 0) (DL.gNil)))) (DL.gCons (hV (dC (.int 3))) (DL.gNil)))))) (lNil))) (gN 2) (sSeq (sSet 3 (dCallO 1 2 r__law_size (aOra 1 (aCons (dC (.int 4)) (aNil))))) (sSeq (sFor (iSeq (dLst (lCons (dC .none) (lCons (dTup (lCons (dC (.int 5)) (lCons (dC (.int 1)) (lNil)))) (lCons (dTup (lCons (dC (.int 1)) (lCons (dC (.int 41)) (lNil)))) (lNil)))))) (gN 4) (sIf (bD (d2 gNeS (hV (dCB gReprA (DL.gCons (hV (dLc (iRange1 (lCons (dC (.int 7)) (lNil))) (gN 7) (bYes) (dCall 3 r__law_outcome (aCons (dV 7) (aCons (dV 4) (aCons (dC .none) (aNil))))) [7])) (DL.gNil)))) (hV (dCB gReprA (DL.gCons (hV (d2 gMul (hV (dLst (lCons (dTup (lCons (dC (.str ("size" : Str))) (lCons (dV 4) (lNil)))) (lNil)))) (hV (dC (.int 7))))) (DL.gNil)))))) (sRet (dC (.bool false))) (sNo))) (sSeq (sSet 5 (dLst (lCons (dC .none) (lCons (dTup (lNil)) (lCons (dC (.str ("a" : Str))) (lCons (dTup (lCons (dC (.str ("" : Str))) (lNil))) (lCons (dTup (lCons (dC (.str (" a" : Str))) (lNil))) (lCons (dTup (lCons (dC (.str ("a " : Str))) (lNil))) (lCons (dTup (lCons (d2 gMulS (hV (dC (.str ("a" : Str)))) (hV (d2 gAdd (hV (d2 gIx (hS 3) (hV (dC (.int 1))))) (hV (dC (.int 1)))))) (lNil))) (lCons (d2 gMulT (hV (dTup (lCons (dC (.str ("a" : Str))) (lNil)))) (hV (d2 gAdd (hV (d2 gIx (hS 3) (hV (dC (.int 0))))) (hV (dC (.int 1)))))) (lNil))))))))))) (sSeq (sFor (iSeq (d2 gAdd (hS 5) (hV (dLst (lCons (dTup (lCons (dC (.int 5)) (lNil))) (lCons (dLst (lCons (dC (.str ("a" : Str))) (lNil))) (lNil))))))) (gN 4) (sIf (bD (d2 gNe (hV (dLc (iSeq (dTup (lCons (dC (.int 0)) (lCons (dC (.int 1)) (lNil))))) (gN 7) (bYes) (dCall 3 r__law_outcome (aCons (dV 7) (aCons (dV 3) (aCons (dV 4) (aNil))))) [7])) (hV (d2 gMul (hV (dLst (lCons (dC (.str ("place" : Str))) (lNil)))) (hV (dC (.int 2))))))) (sRet (dC (.bool false))) (sNo))) (sSeq (sSet 6 (d2 gMulT (hV (dTup (lCons (d2 gMulS (hV (dC (.str (" " : Str)))) (hV (d2 gIx (hS 3) (hV (dC (.int 1)))))) (lNil)))) (hV (d2 gIx (hS 3) (hV (dC (.int 0))))))) (sSeq (sSet 5 (dLst (lCons (dC .none) (lCons (dSl (hS 6) (oI (dC (.int 1))) (oNo)) (lCons (d2 gAdd (hS 6) (hS 6)) (lCons (dCB gList (DL.gCons (hS 6) (DL.gNil))) (lCons (d2 gMulT (hV (dTup (lCons (d2 gAdd (hV (d2 gIx (hS 6) (hV (dC (.int 0))))) (hV (dC (.str (" " : Str))))) (lNil)))) (hV (d2 gIx (hS 3) (hV (dC (.int 0)))))) (lCons (d2 gMulT (hV (dTup (lCons (dC (.int 5)) (lNil)))) (hV (d2 gIx (hS 3) (hV (dC (.int 0)))))) (lNil))))))))) (sSeq (sFor (iSeq (d2 gAdd (hS 5) (hV (dLst (lCons (d2 gMulT (hV (dTup (lCons (d2 gMulS (hV (dC (.str ("\n" : Str)))) (hV (d2 gIx (hS 3) (hV (dC (.int 1)))))) (lNil)))) (hV (d2 gIx (hS 3) (hV (dC (.int 0)))))) (lNil)))))) (gN 4) (sIf (bD (d2 gNe (hV (dCall 3 r__law_outcome (aCons (dC (.int 2)) (aCons (dV 3) (aCons (dV 4) (aNil)))))) (hV (dC (.str ("place" : Str)))))) (sRet (dC (.bool false))) (sNo))) (sSeq (sIf (bNot (bTruth (hV (dCallO 1 2 r__law_cues_right (aOra 1 (aCons (dV 3) (aNil))))))) (sRet (dC (.bool false))) (sNo)) (sSeq (sFor (iSeq (dLst (lCons (dC .none) (lCons (dLst (lNil)) (lCons (dC (.str ("" : Str))) (lCons (dC (.int 5)) (lCons (dCB gTuple (DL.gCons (hV (dLc (iRange1 (lCons (dC (.int 201)) (lNil))) (gN 8) (bYes) (dTup (lCons (dV 8) (lCons (d2 gAdd (hS 8) (hV (dC (.int 1)))) (lCons (dTup (lCons (dC (.str ("a" : Str))) (lNil))) (lNil))))) [8])) (DL.gNil))) (lNil)))))))) (gN 4) (sIf (bD (d2 gNe (hV (dLc (iSeq (dTup (lCons (dC (.int 3)) (lCons (dC (.int 4)) (lCons (dC (.int 6)) (lNil)))))) (gN 7) (bYes) (dCall 3 r__law_outcome (aCons (dV 7) (aCons (dV 3) (aCons (dV 4) (aNil))))) [7])) (hV (d2 gMul (hV (dLst (lCons (dTup (lCons (dC (.str ("cues" : Str))) (lCons (dC .none) (lNil)))) (lNil)))) (hV (dC (.int 3))))))) (sRet (dC (.bool false))) (sNo))) (sSeq (sIf (bD (d2 gNe (hV (dCall 3 r__law_outcome (aCons (dC (.int 5)) (aCons (dV 3) (aCons (dTup (lCons (dTup (lCons (dC (.str ("idle" : Str))) (lNil))) (lCons (dTup (lCons (dC (.str ("jump" : Str))) (lNil))) (lNil)))) (aNil)))))) (hV (dTup (lCons (dC (.str ("code" : Str))) (lCons (dC (.int 1)) (lNil))))))) (sRet (dC (.bool false))) (sNo)) (sIf (bD (d2 gNe (hV (dCall 3 r__law_outcome (aCons (dC (.int 5)) (aCons (dV 3) (aCons (dC .none) (aNil)))))) (hV (dTup (lCons (dC (.str ("code" : Str))) (lCons (dC .none) (lNil))))))) (sRet (dC (.bool false))) (sNo))))))))))))) (sRet (dC (.bool true)))
def lawSays (ns : List Int) : Prop := g_law ⟨fun _ => False, fun d _ => d = .bool true, fun _ => False, fun _ => False⟩ [.im (.list (ns.map PyData.int)), .ora 0, .no, .no, .no, .no, .no, .no, .no]
end Q25
namespace Q25
open PySem L2 DL
def topS (i : Nat) : Stmt := PySem.Challenge.pw_captionhouse_k25_sending_refused.main.body.getD i (.Pass ⟨0, 0, 0, 0⟩)
structure Tx (K : PySem.W.Frag) (gl : Str → Option Value) : Prop where
  n_ValueError : gl "ValueError" = none
  n_all : gl "all" = none
  n_bool : gl "bool" = none
  n_enumerate : gl "enumerate" = none
  n_int : gl "int" = none
  n_isinstance : gl "isinstance" = none
  n_len : gl "len" = none
  n_list : gl "list" = none
  n_max : gl "max" = none
  n_min : gl "min" = none
  n_ord : gl "ord" = none
  n_range : gl "range" = none
  n_repr : gl "repr" = none
  n_str : gl "str" = none
  n_tuple : gl "tuple" = none
  s_BLANK_SIGN : ∃ t, gl "BLANK_SIGN" = some (.str (" " : Str) t)
  s_HIDE : ∃ t, gl "HIDE" = some (.str ("hide" : Str) t)
  c_LAST_FRAME : ∃ t, gl "LAST_FRAME" = some (.int 1999 t)
  t_LONE_WORDS : ∃ u, gl "LONE_WORDS" = some (.ref u) ∧ ∀ F, At K F (.ref u) (.tuple ([("hide" : Str), ("paint" : Str), ("line" : Str), ("swap" : Str), ("wipe" : Str), ("clear" : Str), ("rub" : Str), ("tail" : Str), ("idle" : Str)].map PyData.str))
  c_LOWEST_OF_CELLS : ∃ t, gl "LOWEST_OF_CELLS" = some (.int 32 t)
  c_LOWEST_OF_LINES : ∃ t, gl "LOWEST_OF_LINES" = some (.int 32 t)
  c_MOST_COLUMNS : ∃ t, gl "MOST_COLUMNS" = some (.int 40 t)
  c_MOST_LINES : ∃ t, gl "MOST_LINES" = some (.int 4 t)
  c_MOST_ROWS : ∃ t, gl "MOST_ROWS" = some (.int 4 t)
  c_MOST_SENDABLE : ∃ t, gl "MOST_SENDABLE" = some (.int 200 t)
  c_MOST_SIGNS : ∃ t, gl "MOST_SIGNS" = some (.int 40 t)
  c_PERCENT : ∃ t, gl "PERCENT" = some (.int 37 t)
  s_ROLL : ∃ t, gl "ROLL" = some (.str ("roll" : Str) t)
  c_TILDE : ∃ t, gl "TILDE" = some (.int 126 t)
def initOf : Stmt → Stmt
  | .ClassDef _ _ _ body _ _ _ _ _ _ _ => body.getD 0 (.Pass ⟨0, 0, 0, 0⟩)
  | s => s
section
variable {pr : Program} {wd : PySem.World} {K : PySem.W.Frag} {gl : Str → Option Value} {bas : Heap} {R : Orc}
abbrev st_BadSize : Stmt := initOf (topS 21)
def names_BadSize : List Str := ["self", "value"]
theorem sc_BadSize : FnScope names_BadSize ["self", "value"] (defScope st_BadSize) := ⟨rfl, rfl, rfl, by decide +kernel, rfl, by decide +kernel, by decide +kernel⟩
theorem init_BadSize {C fI : Addr} {fd : FuncData} (T : Tx K gl) (F : L2.Fun K "__init__" "BadSize.__init__" st_BadSize fI fd) (vV : PySem.W.findCls K (.type "ValueError") (.type "type") "__init__" = some (.val (.builtin "ValueError.__init__"))) (hno : PySem.W.findIn K (.ref C) "value" = some none) : FnOk pr wd K gl bas CX0 1 fI fd ["self", "value"] (spInit K C (some "value")) := by
  have sc := sc_BadSize
  refine F.ok sc (fun vs H Q E h => ?_) fun cdv A out sh H vs Q E hr h => ?_
  · obtain ⟨a, v, rfl, _⟩ := h
    rfl
  obtain ⟨a, v, rfl, ha, TC, q⟩ := h
  exact ⟨_, pss_cons (ps_expr (pe_veinit rfl T.n_ValueError vV (pa_cons (pv 0) (pa_cons pe_str pa_nil)))) (pss_one (ps_ost (pv 0) (pv 1))), .ref a, rfl, a, C, [_], rfl, (by show 1 ≤ 1000; omega), TC, ha, v, rfl, .ref a, rfl, a, C, rfl, TC, hno, .inl ⟨ha, fun dx hd ne => q dx hd ne⟩⟩
abbrev st_BadCode : Stmt := initOf (topS 23)
def names_BadCode : List Str := ["self", "place"]
theorem sc_BadCode : FnScope names_BadCode ["self", "place"] (defScope st_BadCode) := ⟨rfl, rfl, rfl, by decide +kernel, rfl, by decide +kernel, by decide +kernel⟩
theorem init_BadCode {C fI : Addr} {fd : FuncData} (T : Tx K gl) (F : L2.Fun K "__init__" "BadCode.__init__" st_BadCode fI fd) (vV : PySem.W.findCls K (.type "ValueError") (.type "type") "__init__" = some (.val (.builtin "ValueError.__init__"))) (hno : PySem.W.findIn K (.ref C) "place" = some none) : FnOk pr wd K gl bas CX0 1 fI fd ["self", "place"] (spInit K C (some "place")) := by
  have sc := sc_BadCode
  refine F.ok sc (fun vs H Q E h => ?_) fun cdv A out sh H vs Q E hr h => ?_
  · obtain ⟨a, v, rfl, _⟩ := h
    rfl
  obtain ⟨a, v, rfl, ha, TC, q⟩ := h
  exact ⟨_, pss_cons (ps_expr (pe_veinit rfl T.n_ValueError vV (pa_cons (pv 0) (pa_cons pe_str pa_nil)))) (pss_one (ps_ost (pv 0) (pv 1))), .ref a, rfl, a, C, [_], rfl, (by show 1 ≤ 1000; omega), TC, ha, v, rfl, .ref a, rfl, a, C, rfl, TC, hno, .inl ⟨ha, fun dx hd ne => q dx hd ne⟩⟩
abbrev st_OutOfPlace : Stmt := initOf (topS 25)
def names_OutOfPlace : List Str := ["self", "text"]
theorem sc_OutOfPlace : FnScope names_OutOfPlace ["self", "text"] (defScope st_OutOfPlace) := ⟨rfl, rfl, rfl, by decide +kernel, rfl, by decide +kernel, by decide +kernel⟩
theorem init_OutOfPlace {C fI : Addr} {fd : FuncData} (T : Tx K gl) (F : L2.Fun K "__init__" "OutOfPlace.__init__" st_OutOfPlace fI fd) (vV : PySem.W.findCls K (.type "ValueError") (.type "type") "__init__" = some (.val (.builtin "ValueError.__init__"))) : FnOk pr wd K gl bas CX0 1 fI fd ["self", "text"] (spInit K C none) := by
  have sc := sc_OutOfPlace
  refine F.ok sc (fun vs H Q E h => ?_) fun cdv A out sh H vs Q E hr h => ?_
  · obtain ⟨a, v, rfl, _⟩ := h
    rfl
  obtain ⟨a, v, rfl, ha, TC, q⟩ := h
  exact ⟨_, pss_one (ps_expr (pe_veinit rfl T.n_ValueError vV (pa_cons (pv 0) (pa_cons (pv 1) pa_nil)))), .ref a, rfl, v, rfl, a, C, [v], rfl, (by show 1 ≤ 1000; omega), TC, ha, q⟩
abbrev st_BadCues : Stmt := initOf (topS 24)
def names_BadCues : List Str := ["self", "number"]
theorem sc_BadCues : FnScope names_BadCues ["self", "number"] (defScope st_BadCues) := ⟨rfl, rfl, rfl, by decide +kernel, rfl, by decide +kernel, by decide +kernel⟩
theorem init_BadCues {C fI : Addr} {fd : FuncData} (T : Tx K gl) (F : L2.Fun K "__init__" "BadCues.__init__" st_BadCues fI fd) (vV : PySem.W.findCls K (.type "ValueError") (.type "type") "__init__" = some (.val (.builtin "ValueError.__init__"))) (hno : PySem.W.findIn K (.ref C) "number" = some none) : FnOk pr wd K gl bas CX0 1 fI fd ["self", "number"] (spInit K C (some "number")) := by
  have sc := sc_BadCues
  refine F.ok sc (fun vs H Q E h => ?_) fun cdv A out sh H vs Q E hr h => ?_
  · obtain ⟨a, v, rfl, _⟩ := h
    rfl
  obtain ⟨a, v, rfl, ha, TC, q⟩ := h
  exact ⟨_, pss_cons (ps_expr (pe_veinit rfl T.n_ValueError vV (pa_cons (pv 0) (pa_cons pe_str pa_nil)))) (pss_one (ps_ost (pv 0) (pv 1))), .ref a, rfl, a, C, [_], rfl, (by show 1 ≤ 1000; omega), TC, ha, v, rfl, .ref a, rfl, a, C, rfl, TC, hno, .inl ⟨ha, fun dx hd ne => q dx hd ne⟩⟩
abbrev st_BadPaper : Stmt := initOf (topS 22)
def names_BadPaper : List Str := ["self", "part"]
theorem sc_BadPaper : FnScope names_BadPaper ["self", "part"] (defScope st_BadPaper) := ⟨rfl, rfl, rfl, by decide +kernel, rfl, by decide +kernel, by decide +kernel⟩
theorem init_BadPaper {C fI : Addr} {fd : FuncData} (T : Tx K gl) (F : L2.Fun K "__init__" "BadPaper.__init__" st_BadPaper fI fd) (vV : PySem.W.findCls K (.type "ValueError") (.type "type") "__init__" = some (.val (.builtin "ValueError.__init__"))) (hno : PySem.W.findIn K (.ref C) "part" = some none) : FnOk pr wd K gl bas CX0 1 fI fd ["self", "part"] (spInit K C (some "part")) := by
  have sc := sc_BadPaper
  refine F.ok sc (fun vs H Q E h => ?_) fun cdv A out sh H vs Q E hr h => ?_
  · obtain ⟨a, v, rfl, _⟩ := h
    rfl
  obtain ⟨a, v, rfl, ha, TC, q⟩ := h
  exact ⟨_, pss_cons (ps_expr (pe_veinit rfl T.n_ValueError vV (pa_cons (pv 0) (pa_cons pe_str pa_nil)))) (pss_one (ps_ost (pv 0) (pv 1))), .ref a, rfl, a, C, [_], rfl, (by show 1 ≤ 1000; omega), TC, ha, v, rfl, .ref a, rfl, a, C, rfl, TC, hno, .inl ⟨ha, fun dx hd ne => q dx hd ne⟩⟩
abbrev st_rolling_rows : Stmt := topS 8
def names_rolling_rows : List Str := ["mode"]
theorem sc_rolling_rows : FnScope names_rolling_rows ["mode"] (defScope st_rolling_rows) := ⟨rfl, rfl, rfl, by decide +kernel, rfl, by decide +kernel, by decide +kernel⟩
theorem ok_rolling_rows {fa : Addr} {fd : FuncData} (T : Tx K gl) (F : L2.Fun K "rolling_rows" "rolling_rows" st_rolling_rows fa fd) : FnG pr wd K gl bas 1 fa fd ["mode"] (spD K R 1 r_rolling_rows) := by
  have sc := sc_rolling_rows
  refine FnG.data (g := g_rolling_rows) F sc rfl fun cdv A out sh H E q F hg hr => ?_
  exact (ds_cons (dp_if (dt_cmp (sem_eq rfl (hu64 hr)) (dh_of (de_sl rfl (dh_v (pv 0)) do_no (do_i (de_neg de_int)))) (dh_of (de_gstr rfl T.s_ROLL)) (nomark _)) (ds_one (dp_ret (de_ct (sem_intU) rfl T.n_int (by decide +kernel) (dg_cons (dh_of (de_ix rfl (dh_v (pv 0)) (dh_of (de_neg de_int)) (fun _ _ => rfl))) dg_nil)))) ds_nil)
    (ds_one (dp_ret de_int)))
abbrev st_control_behind : Stmt := topS 5
def names_control_behind : List Str := ["screen", "control", "code", "word", "rows", "columns", "mode", "row", "column"]
theorem sc_control_behind : FnScope names_control_behind ["screen", "control", "code"] (defScope st_control_behind) := ⟨rfl, rfl, rfl, by decide +kernel, rfl, by decide +kernel, by decide +kernel⟩
theorem ok_control_behind {fa : Addr} {fd : FuncData} (T : Tx K gl) (F : L2.Fun K "control_behind" "control_behind" st_control_behind fa fd) (C_rolling_rows : Cd pr wd K gl bas R 1 "rolling_rows" 1 r_rolling_rows) : FnG pr wd K gl bas 2 fa fd ["screen", "control", "code"] (spD K R 3 r_control_behind) := by
  have sc := sc_control_behind
  refine FnG.data (g := g_control_behind) F sc rfl fun cdv A out sh H E q F hg hr => ?_
  exact (ds_cons (dp_asg (de_v (pv 0)) (dg_tup rfl rfl (dgs_cons (dg_name sc.nd (i := 4) rfl (by first | exact Or.inl rfl | exact Or.inr rfl)) (dgs_cons (dg_name sc.nd (i := 5) rfl (by first | exact Or.inl rfl | exact Or.inr rfl)) dgs_nil))))
    (ds_cons (dp_asg (de_v (pv 1)) (dg_tup rfl rfl (dgs_cons (dg_name sc.nd (i := 6) rfl (by first | exact Or.inl rfl | exact Or.inr rfl)) (dgs_cons (dg_name sc.nd (i := 7) rfl (by first | exact Or.inl rfl | exact Or.inr rfl)) (dgs_cons (dg_name sc.nd (i := 8) rfl (by first | exact Or.inl rfl | exact Or.inr rfl)) dgs_nil)))))
    (ds_cons (dp_set sc.nd (i := 3) rfl (by first | exact Or.inl rfl | exact Or.inr rfl) (de_ix rfl (dh_v (pv 2)) (dh_of de_int) (fun _ _ => rfl)))
    (ds_cons (dp_if (dt_cmp (sem_eq rfl (hu64 hr)) (dh_v (pv 3)) (dh_of de_str) (nomark _)) (ds_one (dp_ret (de_tup (dl_cons (de_v (pv 6)) (dl_cons (de_v (pv 7)) (dl_cons (de_cb (sem_min rfl rfl) rfl T.n_min (by decide +kernel) (dg_cons (dh_of (de_bin (sem_add rfl) (dh_v (pv 8)) (dh_of de_int))) (dg_cons (dh_of (de_bin (sem_sub) (dh_v (pv 5)) (dh_of de_int))) dg_nil))) dl_nil)))))) ds_nil)
    (ds_cons (dp_if (dt_cmp (sem_eq rfl (hu64 hr)) (dh_v (pv 3)) (dh_of de_str) (nomark _)) (ds_one (dp_ret (de_tup (dl_cons (de_v (pv 6)) (dl_cons (de_ix rfl (dh_v (pv 2)) (dh_of de_int) (fun _ _ => rfl)) (dl_cons (de_ix rfl (dh_v (pv 2)) (dh_of de_int) (fun _ _ => rfl)) dl_nil)))))) ds_nil)
    (ds_cons (dp_if (dt_cmp (sem_inU rfl (hu65 hr)) (dh_v (pv 3)) (dh_of (de_tup (dl_cons de_str (dl_cons de_str dl_nil)))) rfl) (ds_one (dp_ret (de_tup (dl_cons (de_v (pv 3)) (dl_cons (de_v (pv 7)) (dl_cons (de_v (pv 8)) dl_nil)))))) ds_nil)
    (ds_cons (dp_if (dt_cmp (sem_eq rfl (hu64 hr)) (dh_v (pv 3)) (dh_of de_str) (nomark _)) (ds_one (dp_ret (de_tup (dl_cons (de_fs (pj_cons (de_fmt (de_gstr rfl T.s_ROLL)) (pj_cons (de_fmt (de_ix rfl (dh_v (pv 2)) (dh_of de_int) (fun _ _ => rfl))) pj_nil))) (dl_cons (de_bin (sem_sub) (dh_v (pv 4)) (dh_of de_int)) (dl_cons de_int dl_nil)))))) ds_nil)
    (ds_cons (dp_if (dt_cmp (sem_eq rfl (hu64 hr)) (dh_v (pv 3)) (dh_of de_str) (nomark _)) (ds_cons (dp_if (dt_cmp (sem_gt) (dh_of (de_cd (C_rolling_rows.more (by decide)) rfl hg hr rfl (da_cons (de_v (pv 6)) da_nil))) (dh_of de_int) (nomark _)) (ds_one (dp_ret (de_tup (dl_cons (de_v (pv 6)) (dl_cons (de_bin (sem_sub) (dh_v (pv 4)) (dh_of de_int)) (dl_cons de_int dl_nil)))))) ds_nil)
    (ds_one (dp_ret (de_tup (dl_cons (de_v (pv 6)) (dl_cons (de_cb (sem_min rfl rfl) rfl T.n_min (by decide +kernel) (dg_cons (dh_of (de_bin (sem_add rfl) (dh_v (pv 7)) (dh_of de_int))) (dg_cons (dh_of (de_bin (sem_sub) (dh_v (pv 4)) (dh_of de_int))) dg_nil))) (dl_cons de_int dl_nil))))))) ds_nil)
    (ds_cons (dp_if (dt_cmp (sem_eq rfl (hu64 hr)) (dh_v (pv 3)) (dh_of de_str) (nomark _)) (ds_one (dp_ret (de_tup (dl_cons (de_gstr rfl T.s_HIDE) (dl_cons (de_v (pv 7)) (dl_cons (de_v (pv 8)) dl_nil)))))) ds_nil)
    (ds_cons (dp_if (dt_cmp (sem_eq rfl (hu64 hr)) (dh_v (pv 3)) (dh_of de_str) (nomark _)) (ds_one (dp_ret (de_tup (dl_cons (de_v (pv 6)) (dl_cons (de_v (pv 7)) (dl_cons (de_cb (sem_max rfl rfl) rfl T.n_max (by decide +kernel) (dg_cons (dh_of (de_bin (sem_sub) (dh_v (pv 8)) (dh_of de_int))) (dg_cons (dh_of de_int) dg_nil))) dl_nil)))))) ds_nil)
    (ds_one (dp_ret (de_v (pv 1))))))))))))))
abbrev st_cursor_cell : Stmt := topS 7
def names_cursor_cell : List Str := ["screen", "control", "rows", "columns", "mode", "row", "column"]
theorem sc_cursor_cell : FnScope names_cursor_cell ["screen", "control"] (defScope st_cursor_cell) := ⟨rfl, rfl, rfl, by decide +kernel, rfl, by decide +kernel, by decide +kernel⟩
theorem ok_cursor_cell {fa : Addr} {fd : FuncData} (T : Tx K gl) (F : L2.Fun K "cursor_cell" "cursor_cell" st_cursor_cell fa fd) : FnG pr wd K gl bas 1 fa fd ["screen", "control"] (spD K R 2 r_cursor_cell) := by
  have sc := sc_cursor_cell
  refine FnG.data (g := g_cursor_cell) F sc rfl fun cdv A out sh H E q F hg hr => ?_
  exact (ds_cons (dp_asg (de_v (pv 0)) (dg_tup rfl rfl (dgs_cons (dg_name sc.nd (i := 2) rfl (by first | exact Or.inl rfl | exact Or.inr rfl)) (dgs_cons (dg_name sc.nd (i := 3) rfl (by first | exact Or.inl rfl | exact Or.inr rfl)) dgs_nil))))
    (ds_cons (dp_asg (de_v (pv 1)) (dg_tup rfl rfl (dgs_cons (dg_name sc.nd (i := 4) rfl (by first | exact Or.inl rfl | exact Or.inr rfl)) (dgs_cons (dg_name sc.nd (i := 5) rfl (by first | exact Or.inl rfl | exact Or.inr rfl)) (dgs_cons (dg_name sc.nd (i := 6) rfl (by first | exact Or.inl rfl | exact Or.inr rfl)) dgs_nil)))))
    (ds_cons (dp_if (dt_cmp (sem_eq rfl (hu64 hr)) (dh_v (pv 4)) (dh_of (de_gstr rfl T.s_HIDE)) (nomark _)) (ds_one (dp_aug sc.nd (i := 5) rfl (by first | exact Or.inl rfl | exact Or.inr rfl) (dh_v (pv 2)) sem_iadd)) ds_nil)
    (ds_one (dp_ret (de_bin (sem_add rfl) (dh_of (de_bin (sem_mul rfl) (dh_v (pv 5)) (dh_v (pv 3)))) (dh_v (pv 6))))))))
abbrev st_with_cells : Stmt := topS 9
def names_with_cells : List Str := ["cells", "place", "others"]
theorem sc_with_cells : FnScope names_with_cells ["cells", "place", "others"] (defScope st_with_cells) := ⟨rfl, rfl, rfl, by decide +kernel, rfl, by decide +kernel, by decide +kernel⟩
theorem ok_with_cells {fa : Addr} {fd : FuncData} (T : Tx K gl) (F : L2.Fun K "with_cells" "with_cells" st_with_cells fa fd) : FnG pr wd K gl bas 1 fa fd ["cells", "place", "others"] (spD K R 3 r_with_cells) := by
  have sc := sc_with_cells
  refine FnG.data (g := g_with_cells) F sc rfl fun cdv A out sh H E q F hg hr => ?_
  exact (ds_one (dp_ret (de_bin (sem_add rfl) (dh_of (de_bin (sem_add rfl) (dh_of (de_sl rfl (dh_v (pv 0)) do_no (do_i (de_v (pv 1))))) (dh_v (pv 2)))) (dh_of (de_sl rfl (dh_v (pv 0)) (do_i (de_bin (sem_add rfl) (dh_v (pv 1)) (dh_of (de_cb (sem_len rfl) rfl T.n_len (by decide +kernel) (dg_cons (dh_v (pv 2)) dg_nil))))) do_no)))))
abbrev st_cells_behind : Stmt := topS 6
def names_cells_behind : List Str := ["screen", "control", "cells", "code", "half", "word", "place", "rows", "columns", "mode", "_", "column", "top"]
theorem sc_cells_behind : FnScope names_cells_behind ["screen", "control", "cells", "code"] (defScope st_cells_behind) := ⟨rfl, rfl, rfl, by decide +kernel, rfl, by decide +kernel, by decide +kernel⟩
theorem ok_cells_behind {fa : Addr} {fd : FuncData} (T : Tx K gl) (F : L2.Fun K "cells_behind" "cells_behind" st_cells_behind fa fd) (C_cursor_cell : Cd pr wd K gl bas R 1 "cursor_cell" 2 r_cursor_cell) (C_with_cells : Cd pr wd K gl bas R 1 "with_cells" 3 r_with_cells) (C_rolling_rows : Cd pr wd K gl bas R 1 "rolling_rows" 1 r_rolling_rows) : FnG pr wd K gl bas 2 fa fd ["screen", "control", "cells", "code"] (spD K R 4 r_cells_behind) := by
  have sc := sc_cells_behind
  refine FnG.data (g := g_cells_behind) F sc rfl fun cdv A out sh H E q F hg hr => ?_
  exact (ds_cons (dp_asg (de_v (pv 0)) (dg_tup rfl rfl (dgs_cons (dg_name sc.nd (i := 7) rfl (by first | exact Or.inl rfl | exact Or.inr rfl)) (dgs_cons (dg_name sc.nd (i := 8) rfl (by first | exact Or.inl rfl | exact Or.inr rfl)) dgs_nil))))
    (ds_cons (dp_set sc.nd (i := 4) rfl (by first | exact Or.inl rfl | exact Or.inr rfl) (de_bin (sem_mul rfl) (dh_v (pv 7)) (dh_v (pv 8))))
    (ds_cons (dp_asg (de_v (pv 1)) (dg_tup rfl rfl (dgs_cons (dg_name sc.nd (i := 9) rfl (by first | exact Or.inl rfl | exact Or.inr rfl)) (dgs_cons (dg_name sc.nd (i := 10) rfl (by first | exact Or.inl rfl | exact Or.inr rfl)) (dgs_cons (dg_name sc.nd (i := 11) rfl (by first | exact Or.inl rfl | exact Or.inr rfl)) dgs_nil)))))
    (ds_cons (dp_set sc.nd (i := 5) rfl (by first | exact Or.inl rfl | exact Or.inr rfl) (de_ix rfl (dh_v (pv 3)) (dh_of de_int) (fun _ _ => rfl)))
    (ds_cons (dp_set sc.nd (i := 6) rfl (by first | exact Or.inl rfl | exact Or.inr rfl) (de_cd (C_cursor_cell.more (by decide)) rfl hg hr rfl (da_cons (de_v (pv 0)) (da_cons (de_v (pv 1)) da_nil))))
    (ds_cons (dp_if (dt_cmp (sem_eq rfl (hu64 hr)) (dh_v (pv 5)) (dh_of de_str) (nomark _)) (ds_one (dp_ret (de_cd (C_with_cells.more (by decide)) rfl hg hr rfl (da_cons (de_v (pv 2)) (da_cons (de_v (pv 6)) (da_cons (de_tup (dl_cons (de_ix rfl (dh_v (pv 3)) (dh_of de_int) (fun _ _ => rfl)) dl_nil)) da_nil)))))) ds_nil)
    (ds_cons (dp_if (PW.pt (dw_and (dt_cmp (sem_eq rfl (hu64 hr)) (dh_v (pv 5)) (dh_of de_str) (nomark _)) (pw_and1 (dt_cmp (sem_gt) (dh_v (pv 11)) (dh_of de_int) (nomark _))))) (ds_one (dp_ret (de_cd (C_with_cells.more (by decide)) rfl hg hr rfl (da_cons (de_v (pv 2)) (da_cons (de_bin (sem_sub) (dh_v (pv 6)) (dh_of de_int)) (da_cons (de_tup (dl_cons (de_gstr rfl T.s_BLANK_SIGN) dl_nil)) da_nil)))))) ds_nil)
    (ds_cons (dp_if (dt_cmp (sem_eq rfl (hu64 hr)) (dh_v (pv 5)) (dh_of de_str) (nomark _)) (ds_one (dp_ret (de_cd (C_with_cells.more (by decide)) rfl hg hr rfl (da_cons (de_v (pv 2)) (da_cons (de_v (pv 6)) (da_cons (de_bin (sem_mulT rfl) (dh_of (de_tup (dl_cons (de_gstr rfl T.s_BLANK_SIGN) dl_nil))) (dh_of (de_bin (sem_sub) (dh_v (pv 8)) (dh_v (pv 11))))) da_nil)))))) ds_nil)
    (ds_cons (dp_if (PW.pt (dw_and (dt_cmp (sem_eq rfl (hu64 hr)) (dh_v (pv 5)) (dh_of de_str) (nomark _)) (pw_and1 (dt_cmp (sem_gt) (dh_of (de_cd (C_rolling_rows.more (by decide)) rfl hg hr rfl (da_cons (de_v (pv 9)) da_nil))) (dh_of de_int) (nomark _))))) (ds_cons (dp_set sc.nd (i := 12) rfl (by first | exact Or.inl rfl | exact Or.inr rfl) (de_bin (sem_mul rfl) (dh_of (de_bin (sem_sub) (dh_v (pv 7)) (dh_of (de_cd (C_rolling_rows.more (by decide)) rfl hg hr rfl (da_cons (de_v (pv 9)) da_nil))))) (dh_v (pv 8))))
    (ds_one (dp_ret (de_bin (sem_add rfl) (dh_of (de_bin (sem_add rfl) (dh_of (de_bin (sem_add rfl) (dh_of (de_sl rfl (dh_v (pv 2)) do_no (do_i (de_v (pv 12))))) (dh_of (de_sl rfl (dh_v (pv 2)) (do_i (de_bin (sem_add rfl) (dh_v (pv 12)) (dh_v (pv 8)))) (do_i (de_v (pv 4))))))) (dh_of (de_bin (sem_mulT rfl) (dh_of (de_tup (dl_cons (de_gstr rfl T.s_BLANK_SIGN) dl_nil))) (dh_v (pv 8)))))) (dh_of (de_sl rfl (dh_v (pv 2)) (do_i (de_v (pv 4))) do_no)))))) ds_nil)
    (ds_cons (dp_if (dt_cmp (sem_eq rfl (hu64 hr)) (dh_v (pv 5)) (dh_of de_str) (nomark _)) (ds_one (dp_ret (de_bin (sem_add rfl) (dh_of (de_sl rfl (dh_v (pv 2)) (do_i (de_v (pv 4))) do_no)) (dh_of (de_sl rfl (dh_v (pv 2)) do_no (do_i (de_v (pv 4)))))))) ds_nil)
    (ds_cons (dp_if (dt_cmp (sem_eq rfl (hu64 hr)) (dh_v (pv 5)) (dh_of de_str) (nomark _)) (ds_one (dp_ret (de_cd (C_with_cells.more (by decide)) rfl hg hr rfl (da_cons (de_v (pv 2)) (da_cons de_int (da_cons (de_bin (sem_mulT rfl) (dh_of (de_tup (dl_cons (de_gstr rfl T.s_BLANK_SIGN) dl_nil))) (dh_v (pv 4))) da_nil)))))) ds_nil)
    (ds_cons (dp_if (dt_cmp (sem_eq rfl (hu64 hr)) (dh_v (pv 5)) (dh_of de_str) (nomark _)) (ds_one (dp_ret (de_cd (C_with_cells.more (by decide)) rfl hg hr rfl (da_cons (de_v (pv 2)) (da_cons (de_v (pv 4)) (da_cons (de_bin (sem_mulT rfl) (dh_of (de_tup (dl_cons (de_gstr rfl T.s_BLANK_SIGN) dl_nil))) (dh_v (pv 4))) da_nil)))))) ds_nil)
    (ds_one (dp_ret (de_v (pv 2))))))))))))))))
abbrev st_stepped : Stmt := topS 4
def names_stepped : List Str := ["screen", "control", "cells", "code"]
theorem sc_stepped : FnScope names_stepped ["screen", "control", "cells", "code"] (defScope st_stepped) := ⟨rfl, rfl, rfl, by decide +kernel, rfl, by decide +kernel, by decide +kernel⟩
theorem ok_stepped {fa : Addr} {fd : FuncData} (T : Tx K gl) (F : L2.Fun K "stepped" "stepped" st_stepped fa fd) (C_cells_behind : Cd pr wd K gl bas R 2 "cells_behind" 4 r_cells_behind) (C_control_behind : Cd pr wd K gl bas R 2 "control_behind" 3 r_control_behind) : FnG pr wd K gl bas 3 fa fd ["screen", "control", "cells", "code"] (spD K R 4 r_stepped) := by
  have sc := sc_stepped
  refine FnG.data (g := g_stepped) F sc rfl fun cdv A out sh H E q F hg hr => ?_
  exact (ds_one (dp_ret (de_tup (dl_cons (de_cd (C_control_behind.more (by decide)) rfl hg hr rfl (da_cons (de_v (pv 0)) (da_cons (de_v (pv 1)) (da_cons (de_v (pv 3)) da_nil)))) (dl_cons (de_cd (C_cells_behind.more (by decide)) rfl hg hr rfl (da_cons (de_v (pv 0)) (da_cons (de_v (pv 1)) (da_cons (de_v (pv 2)) (da_cons (de_v (pv 3)) da_nil))))) dl_nil)))))
abbrev st_is_integer : Stmt := topS 14
def names_is_integer : List Str := ["thing"]
theorem sc_is_integer : FnScope names_is_integer ["thing"] (defScope st_is_integer) := ⟨rfl, rfl, rfl, by decide +kernel, rfl, by decide +kernel, by decide +kernel⟩
theorem ok_is_integer {fa : Addr} {fd : FuncData} (T : Tx K gl) (F : L2.Fun K "is_integer" "is_integer" st_is_integer fa fd) : FnG pr wd K gl bas 1 fa fd ["thing"] (spD K R 1 r_is_integer) := by
  have sc := sc_is_integer
  refine FnG.data (g := g_is_integer) F sc rfl fun cdv A out sh H E q F hg hr => ?_
  exact (ds_one (dp_ret (de_and (de_isi rfl rfl T.n_isinstance rfl T.n_int (by decide +kernel) (dh_v (pv 0))) (pe_one (de_not (de_isi rfl rfl T.n_isinstance rfl T.n_bool (by decide +kernel) (dh_v (pv 0))))))))
abbrev st_is_within : Stmt := topS 15
def names_is_within : List Str := ["thing", "least", "most"]
theorem sc_is_within : FnScope names_is_within ["thing", "least", "most"] (defScope st_is_within) := ⟨rfl, rfl, rfl, by decide +kernel, rfl, by decide +kernel, by decide +kernel⟩
theorem ok_is_within {fa : Addr} {fd : FuncData} (T : Tx K gl) (F : L2.Fun K "is_within" "is_within" st_is_within fa fd) (C_is_integer : Cd pr wd K gl bas R 1 "is_integer" 1 r_is_integer) : FnG pr wd K gl bas 2 fa fd ["thing", "least", "most"] (spD K R 3 r_is_within) := by
  have sc := sc_is_within
  refine FnG.data (g := g_is_within) F sc rfl fun cdv A out sh H E q F hg hr => ?_
  exact (ds_one (dp_ret (de_and (de_cd (C_is_integer.more (by decide)) rfl hg hr rfl (da_cons (de_v (pv 0)) da_nil)) (pe_one (de_chain (sem_le) (sem_le) (dh_v (pv 1)) (dh_v (pv 0)) (dh_v (pv 2)) rfl)))))
abbrev st_is_tuple : Stmt := topS 16
def names_is_tuple : List Str := ["thing", "least", "most"]
theorem sc_is_tuple : FnScope names_is_tuple ["thing", "least", "most"] (defScope st_is_tuple) := ⟨rfl, rfl, rfl, by decide +kernel, rfl, by decide +kernel, by decide +kernel⟩
theorem ok_is_tuple {fa : Addr} {fd : FuncData} (T : Tx K gl) (F : L2.Fun K "is_tuple" "is_tuple" st_is_tuple fa fd) : FnG pr wd K gl bas 1 fa fd ["thing", "least", "most"] (spD K R 3 r_is_tuple) := by
  have sc := sc_is_tuple
  refine FnG.data (g := g_is_tuple) F sc rfl fun cdv A out sh H E q F hg hr => ?_
  exact (ds_one (dp_ret (de_and (de_isi rfl rfl T.n_isinstance rfl T.n_tuple (by decide +kernel) (dh_v (pv 0))) (pe_one (de_chain (sem_le) (sem_le) (dh_v (pv 1)) (dh_of (de_cb (sem_len rfl) rfl T.n_len (by decide +kernel) (dg_cons (dh_v (pv 0)) dg_nil))) (dh_v (pv 2)) rfl)))))
abbrev st_is_one_of : Stmt := topS 17
def names_is_one_of : List Str := ["thing", "words"]
theorem sc_is_one_of : FnScope names_is_one_of ["thing", "words"] (defScope st_is_one_of) := ⟨rfl, rfl, rfl, by decide +kernel, rfl, by decide +kernel, by decide +kernel⟩
theorem ok_is_one_of {fa : Addr} {fd : FuncData} (T : Tx K gl) (F : L2.Fun K "is_one_of" "is_one_of" st_is_one_of fa fd) : FnG pr wd K gl bas 1 fa fd ["thing", "words"] (spD K R 2 r_is_one_of) := by
  have sc := sc_is_one_of
  refine FnG.data (g := g_is_one_of) F sc rfl fun cdv A out sh H E q F hg hr => ?_
  exact (ds_one (dp_ret (de_and (de_isi rfl rfl T.n_isinstance rfl T.n_str (by decide +kernel) (dh_v (pv 0))) (pe_one (de_cmp (sem_inU rfl (hu65 hr)) (dh_v (pv 0)) (dh_v (pv 1)) rfl)))))
abbrev st_is_sign : Stmt := topS 18
def names_is_sign : List Str := ["sign", "lowest"]
theorem sc_is_sign : FnScope names_is_sign ["sign", "lowest"] (defScope st_is_sign) := ⟨rfl, rfl, rfl, by decide +kernel, rfl, by decide +kernel, by decide +kernel⟩
theorem ok_is_sign {fa : Addr} {fd : FuncData} (T : Tx K gl) (F : L2.Fun K "is_sign" "is_sign" st_is_sign fa fd) : FnG pr wd K gl bas 1 fa fd ["sign", "lowest"] (spD K R 2 r_is_sign) := by
  have sc := sc_is_sign
  refine FnG.data (g := g_is_sign) F sc rfl fun cdv A out sh H E q F hg hr => ?_
  exact (ds_one (dp_ret (de_and (de_chain (sem_le) (sem_le) (dh_v (pv 1)) (dh_of (de_cb (sem_ord) rfl T.n_ord (by decide +kernel) (dg_cons (dh_v (pv 0)) dg_nil))) (dh_of (de_gint rfl T.c_TILDE)) rfl) (pe_one (de_cmp (sem_ne rfl (hu64 hr)) (dh_of (de_cb (sem_ord) rfl T.n_ord (by decide +kernel) (dg_cons (dh_v (pv 0)) dg_nil))) (dh_of (de_gint rfl T.c_PERCENT)) (nomark _))))))
abbrev st_has_signs : Stmt := topS 19
def names_has_signs : List Str := ["thing", "lowest", "sign"]
theorem sc_has_signs : FnScope names_has_signs ["thing", "lowest"] (defScope st_has_signs) := ⟨rfl, rfl, rfl, by decide +kernel, rfl, by decide +kernel, by decide +kernel⟩
theorem ok_has_signs {fa : Addr} {fd : FuncData} (T : Tx K gl) (F : L2.Fun K "has_signs" "has_signs" st_has_signs fa fd) (C_is_sign : Cd pr wd K gl bas R 1 "is_sign" 2 r_is_sign) : FnG pr wd K gl bas 2 fa fd ["thing", "lowest"] (spD K R 2 r_has_signs) := by
  have sc := sc_has_signs
  refine FnG.data (g := g_has_signs) F sc rfl fun cdv A out sh H E q F hg hr => ?_
  exact (ds_cons (dp_if (PW.pt (dw_or (dt_not (dt_truth rfl (dh_of (de_isi rfl rfl T.n_isinstance rfl T.n_str (by decide +kernel) (dh_v (pv 0)))))) (pw_or1 (dt_not (dt_chain (sem_le) (sem_le) (dh_of de_int) (dh_of (de_cb (sem_len rfl) rfl T.n_len (by decide +kernel) (dg_cons (dh_v (pv 0)) dg_nil))) (dh_of (de_gint rfl T.c_MOST_SIGNS)) rfl))))) (ds_one (dp_ret de_bl)) ds_nil)
    (ds_one (dp_ret (de_cb (sem_all rfl rfl) rfl T.n_all (by decide +kernel) (dg_cons (dh_of (de_n (dn_lc (own := [("sign", 2)]) rfl sc.nd (di_seq rfl (de_v (pv 0))) (blkOk_by (own := [("sign", 2)]) (N := names_has_signs) (sc := defScope st_has_signs) (by decide +kernel)) (by decide) (fun _ _ _ _ _ => (dg_name sc.nd (i := 2) rfl (by first | exact Or.inl rfl | exact Or.inr rfl))) (fun _ _ _ _ _ => dts_nil) (fun _ _ _ _ _ => (de_cd (C_is_sign.more (by decide)) rfl hg hr rfl (da_cons (de_v (pv 2)) (da_cons (de_v (pv 1)) da_nil))))))) dg_nil)))))
abbrev st_need_screen : Stmt := topS 32
def names_need_screen : List Str := ["screen"]
theorem sc_need_screen : FnScope names_need_screen ["screen"] (defScope st_need_screen) := ⟨rfl, rfl, rfl, by decide +kernel, rfl, by decide +kernel, by decide +kernel⟩
theorem okX_need_screen {fa : Addr} {fd : FuncData} (T : Tx K gl) (F : L2.Fun K "need_screen" "need_screen" st_need_screen fa fd) (C_is_tuple : Cd pr wd K gl bas R 1 "is_tuple" 3 r_is_tuple) (C_is_within : Cd pr wd K gl bas R 2 "is_within" 3 r_is_within) (K_BadSize : ClsAt pr wd K gl bas "BadSize" (some "value")) : FnX pr wd K gl bas 4 fa fd ["screen"] (spX K gl R 1 rx_need_screen) := by
  have sc := sc_need_screen
  refine FnX.data (g := gx_need_screen) F sc rfl fun cdv A out sh H E q F px hg hr tk => ?_
  exact (ds_cons (dp_if (dt_not (PW.pt (dw_and (dt_truth rfl (dh_of (de_cd (C_is_tuple.more (by decide)) rfl hg hr rfl (da_cons (de_v (pv 0)) (da_cons de_int (da_cons de_int da_nil)))))) (dw_and (dt_truth rfl (dh_of (de_cd (C_is_within.more (by decide)) rfl hg hr rfl (da_cons (de_ix rfl (dh_v (pv 0)) (dh_of de_int) (fun _ _ => rfl)) (da_cons de_int (da_cons (de_gint rfl T.c_MOST_ROWS) da_nil)))))) (pw_and1 (dt_truth rfl (dh_of (de_cd (C_is_within.more (by decide)) rfl hg hr rfl (da_cons (de_ix rfl (dh_v (pv 0)) (dh_of de_int) (fun _ _ => rfl)) (da_cons de_int (da_cons (de_gint rfl T.c_MOST_COLUMNS) da_nil))))))))))) (ds_one (dp_raise1 K_BadSize tk rfl rfl (hr.mono (by decide)) rfl (de_v (pv 0)))) ds_nil)
    (ds_one (dp_ret (de_v (pv 0)))))
theorem ok_need_screen {fa : Addr} {fd : FuncData} (T : Tx K gl) (F : L2.Fun K "need_screen" "need_screen" st_need_screen fa fd) (C_is_tuple : Cd pr wd K gl bas R 1 "is_tuple" 3 r_is_tuple) (C_is_within : Cd pr wd K gl bas R 2 "is_within" 3 r_is_within) : FnG pr wd K gl bas 3 fa fd ["screen"] (spD K R 1 r_need_screen) := by
  have sc := sc_need_screen
  refine FnG.data (g := g_need_screen) F sc rfl fun cdv A out sh H E q F hg hr => ?_
  exact (ds_cons (dp_if (dt_not (PW.pt (dw_and (dt_truth rfl (dh_of (de_cd (C_is_tuple.more (by decide)) rfl hg hr rfl (da_cons (de_v (pv 0)) (da_cons de_int (da_cons de_int da_nil)))))) (dw_and (dt_truth rfl (dh_of (de_cd (C_is_within.more (by decide)) rfl hg hr rfl (da_cons (de_ix rfl (dh_v (pv 0)) (dh_of de_int) (fun _ _ => rfl)) (da_cons de_int (da_cons (de_gint rfl T.c_MOST_ROWS) da_nil)))))) (pw_and1 (dt_truth rfl (dh_of (de_cd (C_is_within.more (by decide)) rfl hg hr rfl (da_cons (de_ix rfl (dh_v (pv 0)) (dh_of de_int) (fun _ _ => rfl)) (da_cons de_int (da_cons (de_gint rfl T.c_MOST_COLUMNS) da_nil))))))))))) ds_never ds_nil)
    (ds_one (dp_ret (de_v (pv 0)))))
abbrev st_blank : Stmt := topS 33
def names_blank : List Str := ["screen", "rows", "columns"]
theorem sc_blank : FnScope names_blank ["screen"] (defScope st_blank) := ⟨rfl, rfl, rfl, by decide +kernel, rfl, by decide +kernel, by decide +kernel⟩
theorem okX_blank {fa : Addr} {fd : FuncData} (T : Tx K gl) (F : L2.Fun K "blank" "blank" st_blank fa fd) (CX_need_screen : CdX pr wd K gl bas R 4 "need_screen" 1 rx_need_screen) : FnX pr wd K gl bas 5 fa fd ["screen"] (spX K gl R 1 rx_blank) := by
  have sc := sc_blank
  refine FnX.data (g := gx_blank) F sc rfl fun cdv A out sh H E q F px hg hr tk => ?_
  exact (ds_cons (dp_expr (de_cdX tk (CX_need_screen.more (by decide)) rfl hg hr rfl (da_cons (de_v (pv 0)) da_nil)))
    (ds_cons (dp_asg (de_v (pv 0)) (dg_tup rfl rfl (dgs_cons (dg_name sc.nd (i := 1) rfl (by first | exact Or.inl rfl | exact Or.inr rfl)) (dgs_cons (dg_name sc.nd (i := 2) rfl (by first | exact Or.inl rfl | exact Or.inr rfl)) dgs_nil))))
    (ds_one (dp_ret (de_bin (sem_mulT rfl) (dh_of (de_tup (dl_cons (de_bin (sem_mulS) (dh_of (de_gstr rfl T.s_BLANK_SIGN)) (dh_v (pv 2))) dl_nil))) (dh_v (pv 1)))))))
theorem ok_blank {fa : Addr} {fd : FuncData} (T : Tx K gl) (F : L2.Fun K "blank" "blank" st_blank fa fd) (C_need_screen : Cd pr wd K gl bas R 3 "need_screen" 1 r_need_screen) : FnG pr wd K gl bas 4 fa fd ["screen"] (spD K R 1 r_blank) := by
  have sc := sc_blank
  refine FnG.data (g := g_blank) F sc rfl fun cdv A out sh H E q F hg hr => ?_
  exact (ds_cons (dp_expr (de_cd (C_need_screen.more (by decide)) rfl hg hr rfl (da_cons (de_v (pv 0)) da_nil)))
    (ds_cons (dp_asg (de_v (pv 0)) (dg_tup rfl rfl (dgs_cons (dg_name sc.nd (i := 1) rfl (by first | exact Or.inl rfl | exact Or.inr rfl)) (dgs_cons (dg_name sc.nd (i := 2) rfl (by first | exact Or.inl rfl | exact Or.inr rfl)) dgs_nil))))
    (ds_one (dp_ret (de_bin (sem_mulT rfl) (dh_of (de_tup (dl_cons (de_bin (sem_mulS) (dh_of (de_gstr rfl T.s_BLANK_SIGN)) (dh_v (pv 2))) dl_nil))) (dh_v (pv 1)))))))
abbrev st_first_state : Stmt := topS 34
def names_first_state : List Str := ["screen", "empty"]
theorem sc_first_state : FnScope names_first_state ["screen"] (defScope st_first_state) := ⟨rfl, rfl, rfl, by decide +kernel, rfl, by decide +kernel, by decide +kernel⟩
theorem okX_first_state {fa : Addr} {fd : FuncData} (T : Tx K gl) (F : L2.Fun K "first_state" "first_state" st_first_state fa fd) (CX_blank : CdX pr wd K gl bas R 5 "blank" 1 rx_blank) : FnX pr wd K gl bas 6 fa fd ["screen"] (spX K gl R 1 rx_first_state) := by
  have sc := sc_first_state
  refine FnX.data (g := gx_first_state) F sc rfl fun cdv A out sh H E q F px hg hr tk => ?_
  exact (ds_cons (dp_set sc.nd (i := 1) rfl (by first | exact Or.inl rfl | exact Or.inr rfl) (de_cdX tk (CX_blank.more (by decide)) rfl hg hr rfl (da_cons (de_v (pv 0)) da_nil)))
    (ds_one (dp_ret (de_tup (dl_cons de_str (dl_cons de_int (dl_cons de_int (dl_cons (de_v (pv 1)) (dl_cons (de_v (pv 1)) dl_nil)))))))))
theorem ok_first_state {fa : Addr} {fd : FuncData} (T : Tx K gl) (F : L2.Fun K "first_state" "first_state" st_first_state fa fd) (C_blank : Cd pr wd K gl bas R 4 "blank" 1 r_blank) : FnG pr wd K gl bas 5 fa fd ["screen"] (spD K R 1 r_first_state) := by
  have sc := sc_first_state
  refine FnG.data (g := g_first_state) F sc rfl fun cdv A out sh H E q F hg hr => ?_
  exact (ds_cons (dp_set sc.nd (i := 1) rfl (by first | exact Or.inl rfl | exact Or.inr rfl) (de_cd (C_blank.more (by decide)) rfl hg hr rfl (da_cons (de_v (pv 0)) da_nil)))
    (ds_one (dp_ret (de_tup (dl_cons de_str (dl_cons de_int (dl_cons de_int (dl_cons (de_v (pv 1)) (dl_cons (de_v (pv 1)) dl_nil)))))))))
abbrev st_is_cell_sign : Stmt := topS 40
def names_is_cell_sign : List Str := ["thing"]
theorem sc_is_cell_sign : FnScope names_is_cell_sign ["thing"] (defScope st_is_cell_sign) := ⟨rfl, rfl, rfl, by decide +kernel, rfl, by decide +kernel, by decide +kernel⟩
theorem ok_is_cell_sign {fa : Addr} {fd : FuncData} (T : Tx K gl) (F : L2.Fun K "is_cell_sign" "is_cell_sign" st_is_cell_sign fa fd) (C_is_sign : Cd pr wd K gl bas R 1 "is_sign" 2 r_is_sign) : FnG pr wd K gl bas 2 fa fd ["thing"] (spD K R 1 r_is_cell_sign) := by
  have sc := sc_is_cell_sign
  refine FnG.data (g := g_is_cell_sign) F sc rfl fun cdv A out sh H E q F hg hr => ?_
  exact (ds_one (dp_ret (de_and (de_isi rfl rfl T.n_isinstance rfl T.n_str (by decide +kernel) (dh_v (pv 0))) (de_and (de_cmp (sem_eq rfl (hu64 hr)) (dh_of (de_cb (sem_len rfl) rfl T.n_len (by decide +kernel) (dg_cons (dh_v (pv 0)) dg_nil))) (dh_of de_int) (nomark _)) (pe_one (de_cd (C_is_sign.more (by decide)) rfl hg hr rfl (da_cons (de_v (pv 0)) (da_cons (de_gint rfl T.c_LOWEST_OF_CELLS) da_nil))))))))
abbrev st_is_code_of : Stmt := topS 38
def names_is_code_of : List Str := ["screen", "value", "word", "rows", "columns"]
theorem sc_is_code_of : FnScope names_is_code_of ["screen", "value"] (defScope st_is_code_of) := ⟨rfl, rfl, rfl, by decide +kernel, rfl, by decide +kernel, by decide +kernel⟩
theorem ok_is_code_of {fa : Addr} {fd : FuncData} (T : Tx K gl) (F : L2.Fun K "is_code_of" "is_code_of" st_is_code_of fa fd) (C_is_tuple : Cd pr wd K gl bas R 1 "is_tuple" 3 r_is_tuple) (C_is_cell_sign : Cd pr wd K gl bas R 2 "is_cell_sign" 1 r_is_cell_sign) (C_is_within : Cd pr wd K gl bas R 2 "is_within" 3 r_is_within) : FnG pr wd K gl bas 3 fa fd ["screen", "value"] (spD K R 2 r_is_code_of) := by
  have sc := sc_is_code_of
  refine FnG.data (g := g_is_code_of) F sc rfl fun cdv A out sh H E q F hg hr => ?_
  exact (ds_cons (dp_asg (de_v (pv 0)) (dg_tup rfl rfl (dgs_cons (dg_name sc.nd (i := 3) rfl (by first | exact Or.inl rfl | exact Or.inr rfl)) (dgs_cons (dg_name sc.nd (i := 4) rfl (by first | exact Or.inl rfl | exact Or.inr rfl)) dgs_nil))))
    (ds_cons (dp_if (PW.pt (dw_or (dt_not (dt_truth rfl (dh_of (de_cd (C_is_tuple.more (by decide)) rfl hg hr rfl (da_cons (de_v (pv 1)) (da_cons de_int (da_cons de_int da_nil))))))) (pw_or1 (dt_not (dt_truth rfl (dh_of (de_isi rfl rfl T.n_isinstance rfl T.n_str (by decide +kernel) (dh_of (de_ix rfl (dh_v (pv 1)) (dh_of de_int) (fun _ _ => rfl)))))))))) (ds_one (dp_ret de_bl)) ds_nil)
    (ds_cons (dp_set sc.nd (i := 2) rfl (by first | exact Or.inl rfl | exact Or.inr rfl) (de_ix rfl (dh_v (pv 1)) (dh_of de_int) (fun _ _ => rfl)))
    (ds_cons (dp_if (dt_cmp (sem_eq rfl (hu64 hr)) (dh_of (de_cb (sem_len rfl) rfl T.n_len (by decide +kernel) (dg_cons (dh_v (pv 1)) dg_nil))) (dh_of de_int) (nomark _)) (ds_one (dp_ret (de_cmp (sem_inU rfl (hu65 hr)) (dh_v (pv 2)) (dh_of (de_gtop rfl T.t_LONE_WORDS)) rfl))) ds_nil)
    (ds_cons (dp_if (dt_cmp (sem_eq rfl (hu64 hr)) (dh_of (de_cb (sem_len rfl) rfl T.n_len (by decide +kernel) (dg_cons (dh_v (pv 1)) dg_nil))) (dh_of de_int) (nomark _)) (ds_one (dp_ret (de_or (de_and (de_cmp (sem_eq rfl (hu64 hr)) (dh_v (pv 2)) (dh_of de_str) (nomark _)) (pe_one (de_cd (C_is_cell_sign.more (by decide)) rfl hg hr rfl (da_cons (de_ix rfl (dh_v (pv 1)) (dh_of de_int) (fun _ _ => rfl)) da_nil)))) (pe_one (de_and (de_cmp (sem_eq rfl (hu64 hr)) (dh_v (pv 2)) (dh_of de_str) (nomark _)) (pe_one (de_cd (C_is_within.more (by decide)) rfl hg hr rfl (da_cons (de_ix rfl (dh_v (pv 1)) (dh_of de_int) (fun _ _ => rfl)) (da_cons de_int (da_cons (de_v (pv 3)) da_nil)))))))))) ds_nil)
    (ds_one (dp_ret (de_and (de_cmp (sem_eq rfl (hu64 hr)) (dh_v (pv 2)) (dh_of de_str) (nomark _)) (de_and (de_cd (C_is_within.more (by decide)) rfl hg hr rfl (da_cons (de_ix rfl (dh_v (pv 1)) (dh_of de_int) (fun _ _ => rfl)) (da_cons de_int (da_cons (de_bin (sem_sub) (dh_v (pv 3)) (dh_of de_int)) da_nil)))) (pe_one (de_cd (C_is_within.more (by decide)) rfl hg hr rfl (da_cons (de_ix rfl (dh_v (pv 1)) (dh_of de_int) (fun _ _ => rfl)) (da_cons de_int (da_cons (de_bin (sem_sub) (dh_v (pv 4)) (dh_of de_int)) da_nil))))))))))))))
abbrev st_need_codes : Stmt := topS 36
def names_need_codes : List Str := ["screen", "codes", "least", "most", "number", "code"]
theorem sc_need_codes : FnScope names_need_codes ["screen", "codes", "least", "most"] (defScope st_need_codes) := ⟨rfl, rfl, rfl, by decide +kernel, rfl, by decide +kernel, by decide +kernel⟩
theorem okX_need_codes {fa : Addr} {fd : FuncData} (T : Tx K gl) (F : L2.FunD K "need_codes" "need_codes" (defArgs st_need_codes) (defBody st_need_codes) (defScope st_need_codes) [V.int 0, V.int 2000] [] fa fd) (C_is_tuple : Cd pr wd K gl bas R 1 "is_tuple" 3 r_is_tuple) (C_is_code_of : Cd pr wd K gl bas R 3 "is_code_of" 2 r_is_code_of) (K_BadCode : ClsAt pr wd K gl bas "BadCode" (some "place")) : FnX pr wd K gl bas 5 fa fd ["screen", "codes", "least", "most"] (spX K gl R 4 rx_need_codes) := by
  have sc := sc_need_codes
  refine FnX.dataD (g := gx_need_codes) F sc rfl fun cdv A out sh H E q F px hg hr tk => ?_
  exact (ds_cons (dp_if (dt_not (dt_truth rfl (dh_of (de_cd (C_is_tuple.more (by decide)) rfl hg hr rfl (da_cons (de_v (pv 1)) (da_cons (de_v (pv 2)) (da_cons (de_v (pv 3)) da_nil))))))) (ds_one (dp_raise1 K_BadCode tk rfl rfl (hr.mono (by decide)) rfl de_non)) ds_nil)
    (ds_one (dp_for (passes_of rfl) rfl (di_enum rfl rfl T.n_enumerate (dl_cons (de_v (pv 1)) dl_nil)) (dg_tup rfl rfl (dgs_cons (dg_name sc.nd (i := 4) rfl (by first | exact Or.inl rfl | exact Or.inr rfl)) (dgs_cons (dg_name sc.nd (i := 5) rfl (by first | exact Or.inl rfl | exact Or.inr rfl)) dgs_nil))) (ds_one (dp_if (dt_not (dt_truth rfl (dh_of (de_cd (C_is_code_of.more (by decide)) rfl hg hr rfl (da_cons (de_v (pv 0)) (da_cons (de_v (pv 5)) da_nil)))))) (ds_one (dp_raise1 K_BadCode tk rfl rfl (hr.mono (by decide)) rfl (de_v (pv 4)))) ds_nil)))))
theorem ok_need_codes {fa : Addr} {fd : FuncData} (T : Tx K gl) (F : L2.FunD K "need_codes" "need_codes" (defArgs st_need_codes) (defBody st_need_codes) (defScope st_need_codes) [V.int 0, V.int 2000] [] fa fd) (C_is_tuple : Cd pr wd K gl bas R 1 "is_tuple" 3 r_is_tuple) (C_is_code_of : Cd pr wd K gl bas R 3 "is_code_of" 2 r_is_code_of) : FnG pr wd K gl bas 4 fa fd ["screen", "codes", "least", "most"] (spD K R 4 r_need_codes) := by
  have sc := sc_need_codes
  refine FnG.dataD (g := g_need_codes) F sc rfl fun cdv A out sh H E q F hg hr => ?_
  exact (ds_cons (dp_if (dt_not (dt_truth rfl (dh_of (de_cd (C_is_tuple.more (by decide)) rfl hg hr rfl (da_cons (de_v (pv 1)) (da_cons (de_v (pv 2)) (da_cons (de_v (pv 3)) da_nil))))))) ds_never ds_nil)
    (ds_one (dp_for PassesOwn.never rfl (di_enum rfl rfl T.n_enumerate (dl_cons (de_v (pv 1)) dl_nil)) (dg_tup rfl rfl (dgs_cons (dg_name sc.nd (i := 4) rfl (by first | exact Or.inl rfl | exact Or.inr rfl)) (dgs_cons (dg_name sc.nd (i := 5) rfl (by first | exact Or.inl rfl | exact Or.inr rfl)) dgs_nil))) (ds_one (dp_if (dt_not (dt_truth rfl (dh_of (de_cd (C_is_code_of.more (by decide)) rfl hg hr rfl (da_cons (de_v (pv 0)) (da_cons (de_v (pv 5)) da_nil)))))) ds_never ds_nil)))))
abbrev st_cells_of : Stmt := topS 41
def names_cells_of : List Str := ["state"]
theorem sc_cells_of : FnScope names_cells_of ["state"] (defScope st_cells_of) := ⟨rfl, rfl, rfl, by decide +kernel, rfl, by decide +kernel, by decide +kernel⟩
theorem ok_cells_of {fa : Addr} {fd : FuncData} (T : Tx K gl) (F : L2.Fun K "cells_of" "cells_of" st_cells_of fa fd) : FnG pr wd K gl bas 1 fa fd ["state"] (spD K R 1 r_cells_of) := by
  have sc := sc_cells_of
  refine FnG.data (g := g_cells_of) F sc rfl fun cdv A out sh H E q F hg hr => ?_
  exact (ds_one (dp_ret (de_ct (sem_tupS rfl) rfl T.n_tuple (by decide +kernel) (dg_cons (dh_of (de_join rfl de_str (de_bin (sem_add rfl) (dh_of (de_ix rfl (dh_v (pv 0)) (dh_of de_int) (fun _ _ => rfl))) (dh_of (de_ix rfl (dh_v (pv 0)) (dh_of de_int) (fun _ _ => rfl)))))) dg_nil))))
abbrev st_memory_of : Stmt := topS 42
def names_memory_of : List Str := ["screen", "cells", "first", "rows", "columns", "row"]
theorem sc_memory_of : FnScope names_memory_of ["screen", "cells", "first"] (defScope st_memory_of) := ⟨rfl, rfl, rfl, by decide +kernel, rfl, by decide +kernel, by decide +kernel⟩
theorem ok_memory_of {fa : Addr} {fd : FuncData} (T : Tx K gl) (F : L2.Fun K "memory_of" "memory_of" st_memory_of fa fd) : FnG pr wd K gl bas 1 fa fd ["screen", "cells", "first"] (spD K R 3 r_memory_of) := by
  have sc := sc_memory_of
  refine FnG.data (g := g_memory_of) F sc rfl fun cdv A out sh H E q F hg hr => ?_
  exact (ds_cons (dp_asg (de_v (pv 0)) (dg_tup rfl rfl (dgs_cons (dg_name sc.nd (i := 3) rfl (by first | exact Or.inl rfl | exact Or.inr rfl)) (dgs_cons (dg_name sc.nd (i := 4) rfl (by first | exact Or.inl rfl | exact Or.inr rfl)) dgs_nil))))
    (ds_one (dp_ret (de_ct (sem_tuple rfl) rfl T.n_tuple (by decide +kernel) (dg_cons (dh_of (de_n (dn_lc (own := [("row", 5)]) rfl sc.nd (di_range2 rfl T.n_range (dl_cons (de_v (pv 2)) (dl_cons (de_bin (sem_add rfl) (dh_v (pv 2)) (dh_v (pv 3))) dl_nil))) (blkOk_by (own := [("row", 5)]) (N := names_memory_of) (sc := defScope st_memory_of) (by decide +kernel)) (by decide) (fun _ _ _ _ _ => (dg_name sc.nd (i := 5) rfl (by first | exact Or.inl rfl | exact Or.inr rfl))) (fun _ _ _ _ _ => dts_nil) (fun _ _ _ _ _ => (de_join rfl de_str (de_sl rfl (dh_v (pv 1)) (do_i (de_bin (sem_mul rfl) (dh_v (pv 5)) (dh_v (pv 4)))) (do_i (de_bin (sem_mul rfl) (dh_of (de_bin (sem_add rfl) (dh_v (pv 5)) (dh_of de_int))) (dh_v (pv 4)))))))))) dg_nil)))))
abbrev st_pictures : Stmt := topS 35
def names_pictures : List Str := ["screen", "codes", "state", "control", "cells", "found", "code"]
theorem sc_pictures : FnScope names_pictures ["screen", "codes"] (defScope st_pictures) := ⟨rfl, rfl, rfl, by decide +kernel, rfl, by decide +kernel, by decide +kernel⟩
theorem okX_pictures {fa : Addr} {fd : FuncData} (T : Tx K gl) (F : L2.Fun K "pictures" "pictures" st_pictures fa fd) (C_cells_of : Cd pr wd K gl bas R 1 "cells_of" 1 r_cells_of) (C_stepped : Cd pr wd K gl bas R 3 "stepped" 4 r_stepped) (C_memory_of : Cd pr wd K gl bas R 1 "memory_of" 3 r_memory_of) (CXD_need_codes : CdXD pr wd K gl bas R 5 "need_codes" 2 [PyData.int 0, PyData.int 2000] rx_need_codes) (CX_first_state : CdX pr wd K gl bas R 6 "first_state" 1 rx_first_state) : FnX pr wd K gl bas 7 fa fd ["screen", "codes"] (spX K gl R 2 rx_pictures) := by
  have sc := sc_pictures
  refine FnX.data (g := gx_pictures) F sc rfl fun cdv A out sh H E q F px hg hr tk => ?_
  exact (ds_cons (dp_set sc.nd (i := 2) rfl (by first | exact Or.inl rfl | exact Or.inr rfl) (de_cdX tk (CX_first_state.more (by decide)) rfl hg hr rfl (da_cons (de_v (pv 0)) da_nil)))
    (ds_cons (dp_expr (de_cdXD tk (CXD_need_codes.more (by decide)) rfl hg hr rfl (da_cons (de_v (pv 0)) (da_cons (de_v (pv 1)) da_nil))))
    (ds_cons (dp_set sc.nd (i := 3) rfl (by first | exact Or.inl rfl | exact Or.inr rfl) (de_sl rfl (dh_v (pv 2)) do_no (do_i de_int)))
    (ds_cons (dp_set sc.nd (i := 4) rfl (by first | exact Or.inl rfl | exact Or.inr rfl) (de_cd (C_cells_of.more (by decide)) rfl hg hr rfl (da_cons (de_v (pv 2)) da_nil)))
    (ds_cons (dp_setN sc.nd (i := 5) rfl (by first | exact Or.inl rfl | exact Or.inr rfl) (dn_lst dl_nil))
    (ds_cons (dp_for (passes_of rfl) rfl (di_seq rfl (de_v (pv 1))) (dg_name sc.nd (i := 6) rfl (by first | exact Or.inl rfl | exact Or.inr rfl)) (ds_cons (dp_asg (de_cd (C_stepped.more (by decide)) rfl hg hr rfl (da_cons (de_v (pv 0)) (da_cons (de_v (pv 3)) (da_cons (de_v (pv 4)) (da_cons (de_v (pv 6)) da_nil))))) (dg_tup rfl rfl (dgs_cons (dg_name sc.nd (i := 3) rfl (by first | exact Or.inl rfl | exact Or.inr rfl)) (dgs_cons (dg_name sc.nd (i := 4) rfl (by first | exact Or.inl rfl | exact Or.inr rfl)) dgs_nil))))
    (ds_one (dp_app rfl (pv 5) (de_cd (C_memory_of.more (by decide)) rfl hg hr rfl (da_cons (de_v (pv 0)) (da_cons (de_v (pv 4)) (da_cons de_int da_nil))))))))
    (ds_one (dp_ret (de_ct (sem_tuple rfl) rfl T.n_tuple (by decide +kernel) (dg_cons (dh_v (pv 5)) dg_nil))))))))))
theorem ok_pictures {fa : Addr} {fd : FuncData} (T : Tx K gl) (F : L2.Fun K "pictures" "pictures" st_pictures fa fd) (CD_need_codes : CdD pr wd K gl bas R 4 "need_codes" 2 [PyData.int 0, PyData.int 2000] r_need_codes) (C_first_state : Cd pr wd K gl bas R 5 "first_state" 1 r_first_state) (C_cells_of : Cd pr wd K gl bas R 1 "cells_of" 1 r_cells_of) (C_stepped : Cd pr wd K gl bas R 3 "stepped" 4 r_stepped) (C_memory_of : Cd pr wd K gl bas R 1 "memory_of" 3 r_memory_of) : FnG pr wd K gl bas 6 fa fd ["screen", "codes"] (spD K R 2 r_pictures) := by
  have sc := sc_pictures
  refine FnG.data (g := g_pictures) F sc rfl fun cdv A out sh H E q F hg hr => ?_
  exact (ds_cons (dp_set sc.nd (i := 2) rfl (by first | exact Or.inl rfl | exact Or.inr rfl) (de_cd (C_first_state.more (by decide)) rfl hg hr rfl (da_cons (de_v (pv 0)) da_nil)))
    (ds_cons (dp_expr (de_cdD (CD_need_codes.more (by decide)) rfl hg hr rfl (da_cons (de_v (pv 0)) (da_cons (de_v (pv 1)) da_nil))))
    (ds_cons (dp_set sc.nd (i := 3) rfl (by first | exact Or.inl rfl | exact Or.inr rfl) (de_sl rfl (dh_v (pv 2)) do_no (do_i de_int)))
    (ds_cons (dp_set sc.nd (i := 4) rfl (by first | exact Or.inl rfl | exact Or.inr rfl) (de_cd (C_cells_of.more (by decide)) rfl hg hr rfl (da_cons (de_v (pv 2)) da_nil)))
    (ds_cons (dp_setN sc.nd (i := 5) rfl (by first | exact Or.inl rfl | exact Or.inr rfl) (dn_lst dl_nil))
    (ds_cons (dp_for PassesOwn.never rfl (di_seq rfl (de_v (pv 1))) (dg_name sc.nd (i := 6) rfl (by first | exact Or.inl rfl | exact Or.inr rfl)) (ds_cons (dp_asg (de_cd (C_stepped.more (by decide)) rfl hg hr rfl (da_cons (de_v (pv 0)) (da_cons (de_v (pv 3)) (da_cons (de_v (pv 4)) (da_cons (de_v (pv 6)) da_nil))))) (dg_tup rfl rfl (dgs_cons (dg_name sc.nd (i := 3) rfl (by first | exact Or.inl rfl | exact Or.inr rfl)) (dgs_cons (dg_name sc.nd (i := 4) rfl (by first | exact Or.inl rfl | exact Or.inr rfl)) dgs_nil))))
    (ds_one (dp_app rfl (pv 5) (de_cd (C_memory_of.more (by decide)) rfl hg hr rfl (da_cons (de_v (pv 0)) (da_cons (de_v (pv 4)) (da_cons de_int da_nil))))))))
    (ds_one (dp_ret (de_ct (sem_tuple rfl) rfl T.n_tuple (by decide +kernel) (dg_cons (dh_v (pv 5)) dg_nil))))))))))
abbrev st_are_codes : Stmt := topS 37
def names_are_codes : List Str := ["screen", "value", "least", "most", "code"]
theorem sc_are_codes : FnScope names_are_codes ["screen", "value", "least", "most"] (defScope st_are_codes) := ⟨rfl, rfl, rfl, by decide +kernel, rfl, by decide +kernel, by decide +kernel⟩
theorem ok_are_codes {fa : Addr} {fd : FuncData} (T : Tx K gl) (F : L2.FunD K "are_codes" "are_codes" (defArgs st_are_codes) (defBody st_are_codes) (defScope st_are_codes) [V.int 0, V.int 2000] [] fa fd) (C_is_tuple : Cd pr wd K gl bas R 1 "is_tuple" 3 r_is_tuple) (C_is_code_of : Cd pr wd K gl bas R 3 "is_code_of" 2 r_is_code_of) : FnG pr wd K gl bas 4 fa fd ["screen", "value", "least", "most"] (spD K R 4 r_are_codes) := by
  have sc := sc_are_codes
  refine FnG.dataD (g := g_are_codes) F sc rfl fun cdv A out sh H E q F hg hr => ?_
  exact (ds_one (dp_ret (de_and (de_cd (C_is_tuple.more (by decide)) rfl hg hr rfl (da_cons (de_v (pv 1)) (da_cons (de_v (pv 2)) (da_cons (de_v (pv 3)) da_nil)))) (pe_one (de_cb (sem_all rfl rfl) rfl T.n_all (by decide +kernel) (dg_cons (dh_of (de_n (dn_lc (own := [("code", 4)]) rfl sc.nd (di_seq rfl (de_v (pv 1))) (blkOk_by (own := [("code", 4)]) (N := names_are_codes) (sc := defScope st_are_codes) (by decide +kernel)) (by decide) (fun _ _ _ _ _ => (dg_name sc.nd (i := 4) rfl (by first | exact Or.inl rfl | exact Or.inr rfl))) (fun _ _ _ _ _ => dts_nil) (fun _ _ _ _ _ => (de_cd (C_is_code_of.more (by decide)) rfl hg hr rfl (da_cons (de_v (pv 0)) (da_cons (de_v (pv 4)) da_nil))))))) dg_nil))))))
abbrev st__is_row : Stmt := topS 43
def names__is_row : List Str := ["thing", "columns", "sign"]
theorem sc__is_row : FnScope names__is_row ["thing", "columns"] (defScope st__is_row) := ⟨rfl, rfl, rfl, by decide +kernel, rfl, by decide +kernel, by decide +kernel⟩
theorem ok__is_row {fa : Addr} {fd : FuncData} (T : Tx K gl) (F : L2.Fun K "_is_row" "_is_row" st__is_row fa fd) (C_is_sign : Cd pr wd K gl bas R 1 "is_sign" 2 r_is_sign) : FnG pr wd K gl bas 2 fa fd ["thing", "columns"] (spD K R 2 r__is_row) := by
  have sc := sc__is_row
  refine FnG.data (g := g__is_row) F sc rfl fun cdv A out sh H E q F hg hr => ?_
  exact (ds_cons (dp_if (PW.pt (dw_or (dt_not (dt_truth rfl (dh_of (de_isi rfl rfl T.n_isinstance rfl T.n_str (by decide +kernel) (dh_v (pv 0)))))) (pw_or1 (dt_cmp (sem_ne rfl (hu64 hr)) (dh_of (de_cb (sem_len rfl) rfl T.n_len (by decide +kernel) (dg_cons (dh_v (pv 0)) dg_nil))) (dh_v (pv 1)) (nomark _))))) (ds_one (dp_ret de_bl)) ds_nil)
    (ds_one (dp_ret (de_cb (sem_all rfl rfl) rfl T.n_all (by decide +kernel) (dg_cons (dh_of (de_n (dn_lc (own := [("sign", 2)]) rfl sc.nd (di_seq rfl (de_v (pv 0))) (blkOk_by (own := [("sign", 2)]) (N := names__is_row) (sc := defScope st__is_row) (by decide +kernel)) (by decide) (fun _ _ _ _ _ => (dg_name sc.nd (i := 2) rfl (by first | exact Or.inl rfl | exact Or.inr rfl))) (fun _ _ _ _ _ => dts_nil) (fun _ _ _ _ _ => (de_cd (C_is_sign.more (by decide)) rfl hg hr rfl (da_cons (de_v (pv 2)) (da_cons (de_gint rfl T.c_LOWEST_OF_CELLS) da_nil))))))) dg_nil)))))
abbrev st_is_memory_of : Stmt := topS 39
def names_is_memory_of : List Str := ["screen", "value", "rows", "columns", "row"]
theorem sc_is_memory_of : FnScope names_is_memory_of ["screen", "value"] (defScope st_is_memory_of) := ⟨rfl, rfl, rfl, by decide +kernel, rfl, by decide +kernel, by decide +kernel⟩
theorem ok_is_memory_of {fa : Addr} {fd : FuncData} (T : Tx K gl) (F : L2.Fun K "is_memory_of" "is_memory_of" st_is_memory_of fa fd) (C_is_tuple : Cd pr wd K gl bas R 1 "is_tuple" 3 r_is_tuple) (C__is_row : Cd pr wd K gl bas R 2 "_is_row" 2 r__is_row) : FnG pr wd K gl bas 3 fa fd ["screen", "value"] (spD K R 2 r_is_memory_of) := by
  have sc := sc_is_memory_of
  refine FnG.data (g := g_is_memory_of) F sc rfl fun cdv A out sh H E q F hg hr => ?_
  exact (ds_cons (dp_asg (de_v (pv 0)) (dg_tup rfl rfl (dgs_cons (dg_name sc.nd (i := 2) rfl (by first | exact Or.inl rfl | exact Or.inr rfl)) (dgs_cons (dg_name sc.nd (i := 3) rfl (by first | exact Or.inl rfl | exact Or.inr rfl)) dgs_nil))))
    (ds_one (dp_ret (de_and (de_cd (C_is_tuple.more (by decide)) rfl hg hr rfl (da_cons (de_v (pv 1)) (da_cons (de_v (pv 2)) (da_cons (de_v (pv 2)) da_nil)))) (pe_one (de_cb (sem_all rfl rfl) rfl T.n_all (by decide +kernel) (dg_cons (dh_of (de_n (dn_lc (own := [("row", 4)]) rfl sc.nd (di_seq rfl (de_v (pv 1))) (blkOk_by (own := [("row", 4)]) (N := names_is_memory_of) (sc := defScope st_is_memory_of) (by decide +kernel)) (by decide) (fun _ _ _ _ _ => (dg_name sc.nd (i := 4) rfl (by first | exact Or.inl rfl | exact Or.inr rfl))) (fun _ _ _ _ _ => dts_nil) (fun _ _ _ _ _ => (de_cd (C__is_row.more (by decide)) rfl hg hr rfl (da_cons (de_v (pv 4)) (da_cons (de_v (pv 3)) da_nil))))))) dg_nil)))))))
abbrev st__is_line : Stmt := topS 48
def names__is_line : List Str := ["thing"]
theorem sc__is_line : FnScope names__is_line ["thing"] (defScope st__is_line) := ⟨rfl, rfl, rfl, by decide +kernel, rfl, by decide +kernel, by decide +kernel⟩
theorem ok__is_line {fa : Addr} {fd : FuncData} (T : Tx K gl) (F : L2.Fun K "_is_line" "_is_line" st__is_line fa fd) (C_has_signs : Cd pr wd K gl bas R 2 "has_signs" 2 r_has_signs) : FnG pr wd K gl bas 3 fa fd ["thing"] (spD K R 1 r__is_line) := by
  have sc := sc__is_line
  refine FnG.data (g := g__is_line) F sc rfl fun cdv A out sh H E q F hg hr => ?_
  exact (ds_one (dp_ret (de_and (de_cd (C_has_signs.more (by decide)) rfl hg hr rfl (da_cons (de_v (pv 0)) (da_cons (de_gint rfl T.c_LOWEST_OF_LINES) da_nil))) (de_and (de_cmp (sem_ne rfl (hu64 hr)) (dh_of (de_ix rfl (dh_v (pv 0)) (dh_of de_int) (fun _ _ => rfl))) (dh_of de_str) (nomark _)) (pe_one (de_cmp (sem_ne rfl (hu64 hr)) (dh_of (de_ix rfl (dh_v (pv 0)) (dh_of (de_neg de_int)) (fun _ _ => rfl))) (dh_of de_str) (nomark _)))))))
abbrev st_is_text : Stmt := topS 47
def names_is_text : List Str := ["thing", "line"]
theorem sc_is_text : FnScope names_is_text ["thing"] (defScope st_is_text) := ⟨rfl, rfl, rfl, by decide +kernel, rfl, by decide +kernel, by decide +kernel⟩
theorem ok_is_text {fa : Addr} {fd : FuncData} (T : Tx K gl) (F : L2.Fun K "is_text" "is_text" st_is_text fa fd) (C_is_tuple : Cd pr wd K gl bas R 1 "is_tuple" 3 r_is_tuple) (C__is_line : Cd pr wd K gl bas R 3 "_is_line" 1 r__is_line) : FnG pr wd K gl bas 4 fa fd ["thing"] (spD K R 1 r_is_text) := by
  have sc := sc_is_text
  refine FnG.data (g := g_is_text) F sc rfl fun cdv A out sh H E q F hg hr => ?_
  exact (ds_one (dp_ret (de_and (de_cd (C_is_tuple.more (by decide)) rfl hg hr rfl (da_cons (de_v (pv 0)) (da_cons de_int (da_cons (de_gint rfl T.c_MOST_LINES) da_nil)))) (pe_one (de_cb (sem_all rfl rfl) rfl T.n_all (by decide +kernel) (dg_cons (dh_of (de_n (dn_lc (own := [("line", 1)]) rfl sc.nd (di_seq rfl (de_v (pv 0))) (blkOk_by (own := [("line", 1)]) (N := names_is_text) (sc := defScope st_is_text) (by decide +kernel)) (by decide) (fun _ _ _ _ _ => (dg_name sc.nd (i := 1) rfl (by first | exact Or.inl rfl | exact Or.inr rfl))) (fun _ _ _ _ _ => dts_nil) (fun _ _ _ _ _ => (de_cd (C__is_line.more (by decide)) rfl hg hr rfl (da_cons (de_v (pv 1)) da_nil)))))) dg_nil))))))
abbrev st__has_room : Stmt := topS 62
def names__has_room : List Str := ["screen", "thing", "rows", "columns", "line"]
theorem sc__has_room : FnScope names__has_room ["screen", "thing"] (defScope st__has_room) := ⟨rfl, rfl, rfl, by decide +kernel, rfl, by decide +kernel, by decide +kernel⟩
theorem ok__has_room {fa : Addr} {fd : FuncData} (T : Tx K gl) (F : L2.Fun K "_has_room" "_has_room" st__has_room fa fd) (C_is_text : Cd pr wd K gl bas R 4 "is_text" 1 r_is_text) : FnG pr wd K gl bas 5 fa fd ["screen", "thing"] (spD K R 2 r__has_room) := by
  have sc := sc__has_room
  refine FnG.data (g := g__has_room) F sc rfl fun cdv A out sh H E q F hg hr => ?_
  exact (ds_cons (dp_asg (de_v (pv 0)) (dg_tup rfl rfl (dgs_cons (dg_name sc.nd (i := 2) rfl (by first | exact Or.inl rfl | exact Or.inr rfl)) (dgs_cons (dg_name sc.nd (i := 3) rfl (by first | exact Or.inl rfl | exact Or.inr rfl)) dgs_nil))))
    (ds_one (dp_ret (de_and (de_cd (C_is_text.more (by decide)) rfl hg hr rfl (da_cons (de_v (pv 1)) da_nil)) (de_and (de_cmp (sem_le) (dh_of (de_cb (sem_len rfl) rfl T.n_len (by decide +kernel) (dg_cons (dh_v (pv 1)) dg_nil))) (dh_v (pv 2)) (nomark _)) (pe_one (de_cb (sem_all rfl rfl) rfl T.n_all (by decide +kernel) (dg_cons (dh_of (de_n (dn_lc (own := [("line", 4)]) rfl sc.nd (di_seq rfl (de_v (pv 1))) (blkOk_by (own := [("line", 4)]) (N := names__has_room) (sc := defScope st__has_room) (by decide +kernel)) (by decide) (fun _ _ _ _ _ => (dg_name sc.nd (i := 4) rfl (by first | exact Or.inl rfl | exact Or.inr rfl))) (fun _ _ _ _ _ => dts_nil) (fun _ _ _ _ _ => (de_cmp (sem_le) (dh_of (de_cb (sem_len rfl) rfl T.n_len (by decide +kernel) (dg_cons (dh_v (pv 4)) dg_nil))) (dh_v (pv 3)) (nomark _)))))) dg_nil))))))))
abbrev st__need_text : Stmt := topS 59
def names__need_text : List Str := ["screen", "text"]
theorem sc__need_text : FnScope names__need_text ["screen", "text"] (defScope st__need_text) := ⟨rfl, rfl, rfl, by decide +kernel, rfl, by decide +kernel, by decide +kernel⟩
theorem okX__need_text {fa : Addr} {fd : FuncData} (T : Tx K gl) (F : L2.Fun K "_need_text" "_need_text" st__need_text fa fd) (C__has_room : Cd pr wd K gl bas R 5 "_has_room" 2 r__has_room) (CX_need_screen : CdX pr wd K gl bas R 4 "need_screen" 1 rx_need_screen) (K_OutOfPlace : ClsAt pr wd K gl bas "OutOfPlace" none) : FnX pr wd K gl bas 7 fa fd ["screen", "text"] (spX K gl R 2 rx__need_text) := by
  have sc := sc__need_text
  refine FnX.data (g := gx__need_text) F sc rfl fun cdv A out sh H E q F px hg hr tk => ?_
  exact (ds_cons (dp_expr (de_cdX tk (CX_need_screen.more (by decide)) rfl hg hr rfl (da_cons (de_v (pv 0)) da_nil)))
    (ds_one (dp_if (dt_not (dt_truth rfl (dh_of (de_cd (C__has_room.more (by decide)) rfl hg hr rfl (da_cons (de_v (pv 0)) (da_cons (de_v (pv 1)) da_nil)))))) (ds_one (dp_raise0 K_OutOfPlace tk rfl rfl (hr.mono (by decide)) rfl de_str)) ds_nil)))
theorem ok__need_text {fa : Addr} {fd : FuncData} (T : Tx K gl) (F : L2.Fun K "_need_text" "_need_text" st__need_text fa fd) (C_need_screen : Cd pr wd K gl bas R 3 "need_screen" 1 r_need_screen) (C__has_room : Cd pr wd K gl bas R 5 "_has_room" 2 r__has_room) : FnG pr wd K gl bas 6 fa fd ["screen", "text"] (spD K R 2 r__need_text) := by
  have sc := sc__need_text
  refine FnG.data (g := g__need_text) F sc rfl fun cdv A out sh H E q F hg hr => ?_
  exact (ds_cons (dp_expr (de_cd (C_need_screen.more (by decide)) rfl hg hr rfl (da_cons (de_v (pv 0)) da_nil)))
    (ds_one (dp_if (dt_not (dt_truth rfl (dh_of (de_cd (C__has_room.more (by decide)) rfl hg hr rfl (da_cons (de_v (pv 0)) (da_cons (de_v (pv 1)) da_nil)))))) ds_never ds_nil)))
abbrev st__load_of : Stmt := topS 63
def names__load_of : List Str := ["text", "codes", "row", "line", "sign"]
theorem sc__load_of : FnScope names__load_of ["text"] (defScope st__load_of) := ⟨rfl, rfl, rfl, by decide +kernel, rfl, by decide +kernel, by decide +kernel⟩
theorem ok__load_of {fa : Addr} {fd : FuncData} (T : Tx K gl) (F : L2.Fun K "_load_of" "_load_of" st__load_of fa fd) : FnG pr wd K gl bas 1 fa fd ["text"] (spD K R 1 r__load_of) := by
  have sc := sc__load_of
  refine FnG.data (g := g__load_of) F sc rfl fun cdv A out sh H E q F hg hr => ?_
  exact (ds_cons (dp_setN sc.nd (i := 1) rfl (by first | exact Or.inl rfl | exact Or.inr rfl) (dn_lst (dl_cons (de_tup (dl_cons de_str dl_nil)) (dl_cons (de_tup (dl_cons de_str dl_nil)) dl_nil))))
    (ds_cons (dp_for PassesOwn.never rfl (di_enum rfl rfl T.n_enumerate (dl_cons (de_v (pv 0)) dl_nil)) (dg_tup rfl rfl (dgs_cons (dg_name sc.nd (i := 2) rfl (by first | exact Or.inl rfl | exact Or.inr rfl)) (dgs_cons (dg_name sc.nd (i := 3) rfl (by first | exact Or.inl rfl | exact Or.inr rfl)) dgs_nil))) (ds_cons (dp_app rfl (pv 1) (de_tup (dl_cons de_str (dl_cons (de_v (pv 2)) (dl_cons de_int dl_nil)))))
    (ds_one (dp_ext (pv 1) (dn_lc (own := [("sign", 4)]) rfl sc.nd (di_seq rfl (de_v (pv 3))) (blkOk_by (own := [("sign", 4)]) (N := names__load_of) (sc := defScope st__load_of) (by decide +kernel)) (by decide) (fun _ _ _ _ _ => (dg_name sc.nd (i := 4) rfl (by first | exact Or.inl rfl | exact Or.inr rfl))) (fun _ _ _ _ _ => dts_nil) (fun _ _ _ _ _ => (de_tup (dl_cons de_str (dl_cons (de_v (pv 4)) dl_nil)))))))))
    (ds_one (dp_ret (de_ct (sem_tuple rfl) rfl T.n_tuple (by decide +kernel) (dg_cons (dh_v (pv 1)) dg_nil))))))
abbrev st_load : Stmt := topS 52
def names_load : List Str := ["screen", "text"]
theorem sc_load : FnScope names_load ["screen", "text"] (defScope st_load) := ⟨rfl, rfl, rfl, by decide +kernel, rfl, by decide +kernel, by decide +kernel⟩
theorem okX_load {fa : Addr} {fd : FuncData} (T : Tx K gl) (F : L2.Fun K "load" "load" st_load fa fd) (C__load_of : Cd pr wd K gl bas R 1 "_load_of" 1 r__load_of) (CX__need_text : CdX pr wd K gl bas R 7 "_need_text" 2 rx__need_text) : FnX pr wd K gl bas 8 fa fd ["screen", "text"] (spX K gl R 2 rx_load) := by
  have sc := sc_load
  refine FnX.data (g := gx_load) F sc rfl fun cdv A out sh H E q F px hg hr tk => ?_
  exact (ds_cons (dp_expr (de_cdX tk (CX__need_text.more (by decide)) rfl hg hr rfl (da_cons (de_v (pv 0)) (da_cons (de_v (pv 1)) da_nil))))
    (ds_one (dp_ret (de_cd (C__load_of.more (by decide)) rfl hg hr rfl (da_cons (de_v (pv 1)) da_nil)))))
theorem ok_load {fa : Addr} {fd : FuncData} (T : Tx K gl) (F : L2.Fun K "load" "load" st_load fa fd) (C__need_text : Cd pr wd K gl bas R 6 "_need_text" 2 r__need_text) (C__load_of : Cd pr wd K gl bas R 1 "_load_of" 1 r__load_of) : FnG pr wd K gl bas 7 fa fd ["screen", "text"] (spD K R 2 r_load) := by
  have sc := sc_load
  refine FnG.data (g := g_load) F sc rfl fun cdv A out sh H E q F hg hr => ?_
  exact (ds_cons (dp_expr (de_cd (C__need_text.more (by decide)) rfl hg hr rfl (da_cons (de_v (pv 0)) (da_cons (de_v (pv 1)) da_nil))))
    (ds_one (dp_ret (de_cd (C__load_of.more (by decide)) rfl hg hr rfl (da_cons (de_v (pv 1)) da_nil)))))
abbrev st__picture_of : Stmt := topS 64
def names__picture_of : List Str := ["screen", "text", "empty", "lines", "rows", "columns", "line"]
theorem sc__picture_of : FnScope names__picture_of ["screen", "text"] (defScope st__picture_of) := ⟨rfl, rfl, rfl, by decide +kernel, rfl, by decide +kernel, by decide +kernel⟩
theorem ok__picture_of {fa : Addr} {fd : FuncData} (T : Tx K gl) (F : L2.Fun K "_picture_of" "_picture_of" st__picture_of fa fd) : FnG pr wd K gl bas 1 fa fd ["screen", "text"] (spD K R 2 r__picture_of) := by
  have sc := sc__picture_of
  refine FnG.data (g := g__picture_of) F sc rfl fun cdv A out sh H E q F hg hr => ?_
  exact (ds_cons (dp_asg (de_v (pv 0)) (dg_tup rfl rfl (dgs_cons (dg_name sc.nd (i := 4) rfl (by first | exact Or.inl rfl | exact Or.inr rfl)) (dgs_cons (dg_name sc.nd (i := 5) rfl (by first | exact Or.inl rfl | exact Or.inr rfl)) dgs_nil))))
    (ds_cons (dp_set sc.nd (i := 2) rfl (by first | exact Or.inl rfl | exact Or.inr rfl) (de_bin (sem_mulS) (dh_of (de_gstr rfl T.s_BLANK_SIGN)) (dh_v (pv 5))))
    (ds_cons (dp_setLc (n := 3) (own := [("line", 6)]) rfl sc.nd rfl rfl (sw_true rfl rfl rfl (by decide +kernel)) (di_seq rfl (de_v (pv 1))) (blkOk_by (own := [("line", 6)]) (N := names__picture_of) (sc := defScope st__picture_of) (by decide +kernel)) (by decide) (fun _ _ _ _ _ => (dg_name sc.nd (i := 6) rfl (by first | exact Or.inl rfl | exact Or.inr rfl))) (fun _ _ _ _ _ => dts_nil) (fun _ _ _ _ _ => (de_sl rfl (dh_of (de_bin (sem_add rfl) (dh_v (pv 6)) (dh_v (pv 2)))) do_no (do_i (de_v (pv 5))))))
    (ds_one (dp_ret (de_ct (sem_tuple rfl) rfl T.n_tuple (by decide +kernel) (dg_cons (dh_of (de_bin (sem_add rfl) (dh_v (pv 3)) (dh_of (de_bin (sem_mul rfl) (dh_of (de_n (dn_lst (dl_cons (de_v (pv 2)) dl_nil)))) (dh_of (de_bin (sem_sub) (dh_v (pv 4)) (dh_of (de_cb (sem_len rfl) rfl T.n_len (by decide +kernel) (dg_cons (dh_v (pv 3)) dg_nil))))))))) dg_nil)))))))
abbrev st_picture_of : Stmt := topS 53
def names_picture_of : List Str := ["screen", "text"]
theorem sc_picture_of : FnScope names_picture_of ["screen", "text"] (defScope st_picture_of) := ⟨rfl, rfl, rfl, by decide +kernel, rfl, by decide +kernel, by decide +kernel⟩
theorem okX_picture_of {fa : Addr} {fd : FuncData} (T : Tx K gl) (F : L2.Fun K "picture_of" "picture_of" st_picture_of fa fd) (C__picture_of : Cd pr wd K gl bas R 1 "_picture_of" 2 r__picture_of) (CX__need_text : CdX pr wd K gl bas R 7 "_need_text" 2 rx__need_text) : FnX pr wd K gl bas 8 fa fd ["screen", "text"] (spX K gl R 2 rx_picture_of) := by
  have sc := sc_picture_of
  refine FnX.data (g := gx_picture_of) F sc rfl fun cdv A out sh H E q F px hg hr tk => ?_
  exact (ds_cons (dp_expr (de_cdX tk (CX__need_text.more (by decide)) rfl hg hr rfl (da_cons (de_v (pv 0)) (da_cons (de_v (pv 1)) da_nil))))
    (ds_one (dp_ret (de_cd (C__picture_of.more (by decide)) rfl hg hr rfl (da_cons (de_v (pv 0)) (da_cons (de_v (pv 1)) da_nil))))))
theorem ok_picture_of {fa : Addr} {fd : FuncData} (T : Tx K gl) (F : L2.Fun K "picture_of" "picture_of" st_picture_of fa fd) (C__need_text : Cd pr wd K gl bas R 6 "_need_text" 2 r__need_text) (C__picture_of : Cd pr wd K gl bas R 1 "_picture_of" 2 r__picture_of) : FnG pr wd K gl bas 7 fa fd ["screen", "text"] (spD K R 2 r_picture_of) := by
  have sc := sc_picture_of
  refine FnG.data (g := g_picture_of) F sc rfl fun cdv A out sh H E q F hg hr => ?_
  exact (ds_cons (dp_expr (de_cd (C__need_text.more (by decide)) rfl hg hr rfl (da_cons (de_v (pv 0)) (da_cons (de_v (pv 1)) da_nil))))
    (ds_one (dp_ret (de_cd (C__picture_of.more (by decide)) rfl hg hr rfl (da_cons (de_v (pv 0)) (da_cons (de_v (pv 1)) da_nil))))))
abbrev st_text_of : Stmt := topS 54
def names_text_of : List Str := ["screen", "picture", "lines", "row"]
theorem sc_text_of : FnScope names_text_of ["screen", "picture"] (defScope st_text_of) := ⟨rfl, rfl, rfl, by decide +kernel, rfl, by decide +kernel, by decide +kernel⟩
theorem okX_text_of {fa : Addr} {fd : FuncData} (T : Tx K gl) (F : L2.Fun K "text_of" "text_of" st_text_of fa fd) (C_is_memory_of : Cd pr wd K gl bas R 3 "is_memory_of" 2 r_is_memory_of) (C_is_text : Cd pr wd K gl bas R 4 "is_text" 1 r_is_text) (CX_need_screen : CdX pr wd K gl bas R 4 "need_screen" 1 rx_need_screen) (K_OutOfPlace : ClsAt pr wd K gl bas "OutOfPlace" none) : FnX pr wd K gl bas 6 fa fd ["screen", "picture"] (spX K gl R 2 rx_text_of) := by
  have sc := sc_text_of
  refine FnX.data (g := gx_text_of) F sc rfl fun cdv A out sh H E q F px hg hr tk => ?_
  exact (ds_cons (dp_expr (de_cdX tk (CX_need_screen.more (by decide)) rfl hg hr rfl (da_cons (de_v (pv 0)) da_nil)))
    (ds_cons (dp_if (dt_not (dt_truth rfl (dh_of (de_cd (C_is_memory_of.more (by decide)) rfl hg hr rfl (da_cons (de_v (pv 0)) (da_cons (de_v (pv 1)) da_nil)))))) (ds_one (dp_raise0 K_OutOfPlace tk rfl rfl (hr.mono (by decide)) rfl de_str)) ds_nil)
    (ds_cons (dp_setLcN (n := 2) (own := [("row", 3)]) rfl sc.nd rfl rfl (sw_true rfl rfl rfl (by decide +kernel)) (di_seq rfl (de_v (pv 1))) (blkOk_by (own := [("row", 3)]) (N := names_text_of) (sc := defScope st_text_of) (by decide +kernel)) (by decide) (fun _ _ _ _ _ => (dg_name sc.nd (i := 3) rfl (by first | exact Or.inl rfl | exact Or.inr rfl))) (fun _ _ _ _ _ => dts_nil) (fun _ _ _ _ _ => (de_rstrip (de_v (pv 3)) (de_gstr rfl T.s_BLANK_SIGN))))
    (ds_cons (dp_while (passes_of rfl) (PW.pt (dw_and (dt_truth rfl (dh_v (pv 2))) (pw_and1 (dt_cmp (sem_eq rfl (hu64 hr)) (dh_of (de_ix rfl (dh_v (pv 2)) (dh_of (de_neg de_int)) (fun _ _ => rfl))) (dh_of de_str) (nomark _))))) (ds_one (dp_expr (de_pop (pv 2)))))
    (ds_cons (dp_if (dt_not (dt_truth rfl (dh_of (de_cd (C_is_text.more (by decide)) rfl hg hr rfl (da_cons (de_ct (sem_tuple rfl) rfl T.n_tuple (by decide +kernel) (dg_cons (dh_v (pv 2)) dg_nil)) da_nil))))) (ds_one (dp_ret de_non)) ds_nil)
    (ds_one (dp_ret (de_ct (sem_tuple rfl) rfl T.n_tuple (by decide +kernel) (dg_cons (dh_v (pv 2)) dg_nil)))))))))
theorem ok_text_of {fa : Addr} {fd : FuncData} (T : Tx K gl) (F : L2.Fun K "text_of" "text_of" st_text_of fa fd) (C_need_screen : Cd pr wd K gl bas R 3 "need_screen" 1 r_need_screen) (C_is_memory_of : Cd pr wd K gl bas R 3 "is_memory_of" 2 r_is_memory_of) (C_is_text : Cd pr wd K gl bas R 4 "is_text" 1 r_is_text) : FnG pr wd K gl bas 5 fa fd ["screen", "picture"] (spD K R 2 r_text_of) := by
  have sc := sc_text_of
  refine FnG.data (g := g_text_of) F sc rfl fun cdv A out sh H E q F hg hr => ?_
  exact (ds_cons (dp_expr (de_cd (C_need_screen.more (by decide)) rfl hg hr rfl (da_cons (de_v (pv 0)) da_nil)))
    (ds_cons (dp_if (dt_not (dt_truth rfl (dh_of (de_cd (C_is_memory_of.more (by decide)) rfl hg hr rfl (da_cons (de_v (pv 0)) (da_cons (de_v (pv 1)) da_nil)))))) ds_never ds_nil)
    (ds_cons (dp_setLcN (n := 2) (own := [("row", 3)]) rfl sc.nd rfl rfl (sw_true rfl rfl rfl (by decide +kernel)) (di_seq rfl (de_v (pv 1))) (blkOk_by (own := [("row", 3)]) (N := names_text_of) (sc := defScope st_text_of) (by decide +kernel)) (by decide) (fun _ _ _ _ _ => (dg_name sc.nd (i := 3) rfl (by first | exact Or.inl rfl | exact Or.inr rfl))) (fun _ _ _ _ _ => dts_nil) (fun _ _ _ _ _ => (de_rstrip (de_v (pv 3)) (de_gstr rfl T.s_BLANK_SIGN))))
    (ds_cons (dp_while PassesOwn.never (PW.pt (dw_and (dt_truth rfl (dh_v (pv 2))) (pw_and1 (dt_cmp (sem_eq rfl (hu64 hr)) (dh_of (de_ix rfl (dh_v (pv 2)) (dh_of (de_neg de_int)) (fun _ _ => rfl))) (dh_of de_str) (nomark _))))) (ds_one (dp_expr (de_pop (pv 2)))))
    (ds_cons (dp_if (dt_not (dt_truth rfl (dh_of (de_cd (C_is_text.more (by decide)) rfl hg hr rfl (da_cons (de_ct (sem_tuple rfl) rfl T.n_tuple (by decide +kernel) (dg_cons (dh_v (pv 2)) dg_nil)) da_nil))))) (ds_one (dp_ret de_non)) ds_nil)
    (ds_one (dp_ret (de_ct (sem_tuple rfl) rfl T.n_tuple (by decide +kernel) (dg_cons (dh_v (pv 2)) dg_nil)))))))))
abbrev st__is_sendable : Stmt := topS 61
def names__is_sendable : List Str := ["screen", "thing"]
theorem sc__is_sendable : FnScope names__is_sendable ["screen", "thing"] (defScope st__is_sendable) := ⟨rfl, rfl, rfl, by decide +kernel, rfl, by decide +kernel, by decide +kernel⟩
theorem ok__is_sendable {fa : Addr} {fd : FuncData} (T : Tx K gl) (F : L2.Fun K "_is_sendable" "_is_sendable" st__is_sendable fa fd) (C_is_tuple : Cd pr wd K gl bas R 1 "is_tuple" 3 r_is_tuple) (C_is_within : Cd pr wd K gl bas R 2 "is_within" 3 r_is_within) (C__has_room : Cd pr wd K gl bas R 5 "_has_room" 2 r__has_room) : FnG pr wd K gl bas 6 fa fd ["screen", "thing"] (spD K R 2 r__is_sendable) := by
  have sc := sc__is_sendable
  refine FnG.data (g := g__is_sendable) F sc rfl fun cdv A out sh H E q F hg hr => ?_
  exact (ds_cons (dp_if (PW.pt (dw_or (dt_not (dt_truth rfl (dh_of (de_cd (C_is_tuple.more (by decide)) rfl hg hr rfl (da_cons (de_v (pv 1)) (da_cons de_int (da_cons de_int da_nil))))))) (pw_or1 (dt_not (dt_truth rfl (dh_of (de_cd (C_is_within.more (by decide)) rfl hg hr rfl (da_cons (de_ix rfl (dh_v (pv 1)) (dh_of de_int) (fun _ _ => rfl)) (da_cons de_int (da_cons (de_gint rfl T.c_LAST_FRAME) da_nil)))))))))) (ds_one (dp_ret de_bl)) ds_nil)
    (ds_one (dp_ret (de_and (de_cd (C_is_within.more (by decide)) rfl hg hr rfl (da_cons (de_ix rfl (dh_v (pv 1)) (dh_of de_int) (fun _ _ => rfl)) (da_cons (de_bin (sem_add rfl) (dh_of (de_ix rfl (dh_v (pv 1)) (dh_of de_int) (fun _ _ => rfl))) (dh_of de_int)) (da_cons (de_gint rfl T.c_LAST_FRAME) da_nil)))) (pe_one (de_cd (C__has_room.more (by decide)) rfl hg hr rfl (da_cons (de_v (pv 0)) (da_cons (de_ix rfl (dh_v (pv 1)) (dh_of de_int) (fun _ _ => rfl)) da_nil))))))))
abbrev st__need_cues : Stmt := topS 60
def names__need_cues : List Str := ["screen", "cues", "free", "number", "cue"]
theorem sc__need_cues : FnScope names__need_cues ["screen", "cues"] (defScope st__need_cues) := ⟨rfl, rfl, rfl, by decide +kernel, rfl, by decide +kernel, by decide +kernel⟩
theorem okX__need_cues {fa : Addr} {fd : FuncData} (T : Tx K gl) (F : L2.Fun K "_need_cues" "_need_cues" st__need_cues fa fd) (C_is_tuple : Cd pr wd K gl bas R 1 "is_tuple" 3 r_is_tuple) (C__is_sendable : Cd pr wd K gl bas R 6 "_is_sendable" 2 r__is_sendable) (CX_need_screen : CdX pr wd K gl bas R 4 "need_screen" 1 rx_need_screen) (K_BadCues : ClsAt pr wd K gl bas "BadCues" (some "number")) : FnX pr wd K gl bas 8 fa fd ["screen", "cues"] (spX K gl R 2 rx__need_cues) := by
  have sc := sc__need_cues
  refine FnX.data (g := gx__need_cues) F sc rfl fun cdv A out sh H E q F px hg hr tk => ?_
  exact (ds_cons (dp_expr (de_cdX tk (CX_need_screen.more (by decide)) rfl hg hr rfl (da_cons (de_v (pv 0)) da_nil)))
    (ds_cons (dp_if (dt_not (dt_truth rfl (dh_of (de_cd (C_is_tuple.more (by decide)) rfl hg hr rfl (da_cons (de_v (pv 1)) (da_cons de_int (da_cons (de_gint rfl T.c_MOST_SENDABLE) da_nil))))))) (ds_one (dp_raise1 K_BadCues tk rfl rfl (hr.mono (by decide)) rfl de_non)) ds_nil)
    (ds_cons (dp_set sc.nd (i := 2) rfl (by first | exact Or.inl rfl | exact Or.inr rfl) de_int)
    (ds_one (dp_for (passes_of rfl) rfl (di_enum rfl rfl T.n_enumerate (dl_cons (de_v (pv 1)) dl_nil)) (dg_tup rfl rfl (dgs_cons (dg_name sc.nd (i := 3) rfl (by first | exact Or.inl rfl | exact Or.inr rfl)) (dgs_cons (dg_name sc.nd (i := 4) rfl (by first | exact Or.inl rfl | exact Or.inr rfl)) dgs_nil))) (ds_cons (dp_if (PW.pt (dw_or (dt_not (dt_truth rfl (dh_of (de_cd (C__is_sendable.more (by decide)) rfl hg hr rfl (da_cons (de_v (pv 0)) (da_cons (de_v (pv 4)) da_nil)))))) (pw_or1 (dt_cmp (sem_lt) (dh_of (de_ix rfl (dh_v (pv 4)) (dh_of de_int) (fun _ _ => rfl))) (dh_v (pv 2)) (nomark _))))) (ds_one (dp_raise1 K_BadCues tk rfl rfl (hr.mono (by decide)) rfl (de_v (pv 3)))) ds_nil)
    (ds_one (dp_set sc.nd (i := 2) rfl (by first | exact Or.inl rfl | exact Or.inr rfl) (de_ix rfl (dh_v (pv 4)) (dh_of de_int) (fun _ _ => rfl))))))))))
theorem ok__need_cues {fa : Addr} {fd : FuncData} (T : Tx K gl) (F : L2.Fun K "_need_cues" "_need_cues" st__need_cues fa fd) (C_need_screen : Cd pr wd K gl bas R 3 "need_screen" 1 r_need_screen) (C_is_tuple : Cd pr wd K gl bas R 1 "is_tuple" 3 r_is_tuple) (C__is_sendable : Cd pr wd K gl bas R 6 "_is_sendable" 2 r__is_sendable) : FnG pr wd K gl bas 7 fa fd ["screen", "cues"] (spD K R 2 r__need_cues) := by
  have sc := sc__need_cues
  refine FnG.data (g := g__need_cues) F sc rfl fun cdv A out sh H E q F hg hr => ?_
  exact (ds_cons (dp_expr (de_cd (C_need_screen.more (by decide)) rfl hg hr rfl (da_cons (de_v (pv 0)) da_nil)))
    (ds_cons (dp_if (dt_not (dt_truth rfl (dh_of (de_cd (C_is_tuple.more (by decide)) rfl hg hr rfl (da_cons (de_v (pv 1)) (da_cons de_int (da_cons (de_gint rfl T.c_MOST_SENDABLE) da_nil))))))) ds_never ds_nil)
    (ds_cons (dp_set sc.nd (i := 2) rfl (by first | exact Or.inl rfl | exact Or.inr rfl) de_int)
    (ds_one (dp_for PassesOwn.never rfl (di_enum rfl rfl T.n_enumerate (dl_cons (de_v (pv 1)) dl_nil)) (dg_tup rfl rfl (dgs_cons (dg_name sc.nd (i := 3) rfl (by first | exact Or.inl rfl | exact Or.inr rfl)) (dgs_cons (dg_name sc.nd (i := 4) rfl (by first | exact Or.inl rfl | exact Or.inr rfl)) dgs_nil))) (ds_cons (dp_if (PW.pt (dw_or (dt_not (dt_truth rfl (dh_of (de_cd (C__is_sendable.more (by decide)) rfl hg hr rfl (da_cons (de_v (pv 0)) (da_cons (de_v (pv 4)) da_nil)))))) (pw_or1 (dt_cmp (sem_lt) (dh_of (de_ix rfl (dh_v (pv 4)) (dh_of de_int) (fun _ _ => rfl))) (dh_v (pv 2)) (nomark _))))) ds_never ds_nil)
    (ds_one (dp_set sc.nd (i := 2) rfl (by first | exact Or.inl rfl | exact Or.inr rfl) (de_ix rfl (dh_v (pv 4)) (dh_of de_int) (fun _ _ => rfl))))))))))
abbrev st__free_frames : Stmt := topS 65
def names__free_frames : List Str := ["ahead", "start", "between"]
theorem sc__free_frames : FnScope names__free_frames ["ahead", "start"] (defScope st__free_frames) := ⟨rfl, rfl, rfl, by decide +kernel, rfl, by decide +kernel, by decide +kernel⟩
theorem ok__free_frames {fa : Addr} {fd : FuncData} (T : Tx K gl) (F : L2.Fun K "_free_frames" "_free_frames" st__free_frames fa fd) : FnG pr wd K gl bas 1 fa fd ["ahead", "start"] (spD K R 2 r__free_frames) := by
  have sc := sc__free_frames
  refine FnG.data (g := g__free_frames) F sc rfl fun cdv A out sh H E q F hg hr => ?_
  exact (ds_cons (dp_if (dt_cmp (sem_is) (dh_v (pv 0)) (dh_of de_non) (nomark _)) (ds_one (dp_ret (de_v (pv 1)))) ds_nil)
    (ds_cons (dp_set sc.nd (i := 2) rfl (by first | exact Or.inl rfl | exact Or.inr rfl) (de_bin (sem_sub) (dh_of (de_bin (sem_sub) (dh_v (pv 1)) (dh_of (de_ix rfl (dh_v (pv 0)) (dh_of de_int) (fun _ _ => rfl))))) (dh_of de_int)))
    (ds_cons (dp_if (dt_cmp (sem_lt) (dh_of (de_ix rfl (dh_v (pv 0)) (dh_of de_int) (fun _ _ => rfl))) (dh_v (pv 1)) (nomark _)) (ds_one (dp_ret (de_bin (sem_sub) (dh_v (pv 2)) (dh_of de_int)))) ds_nil)
    (ds_one (dp_ret (de_v (pv 2)))))))
abbrev st__first_short : Stmt := topS 66
def names__first_short : List Str := ["cues", "ahead", "number", "cue"]
theorem sc__first_short : FnScope names__first_short ["cues"] (defScope st__first_short) := ⟨rfl, rfl, rfl, by decide +kernel, rfl, by decide +kernel, by decide +kernel⟩
theorem ok__first_short {fa : Addr} {fd : FuncData} (T : Tx K gl) (F : L2.Fun K "_first_short" "_first_short" st__first_short fa fd) (C__free_frames : Cd pr wd K gl bas R 1 "_free_frames" 2 r__free_frames) (C__load_of : Cd pr wd K gl bas R 1 "_load_of" 1 r__load_of) : FnG pr wd K gl bas 2 fa fd ["cues"] (spD K R 1 r__first_short) := by
  have sc := sc__first_short
  refine FnG.data (g := g__first_short) F sc rfl fun cdv A out sh H E q F hg hr => ?_
  exact (ds_cons (dp_set sc.nd (i := 1) rfl (by first | exact Or.inl rfl | exact Or.inr rfl) de_non)
    (ds_cons (dp_for PassesOwn.never rfl (di_enum rfl rfl T.n_enumerate (dl_cons (de_v (pv 0)) dl_nil)) (dg_tup rfl rfl (dgs_cons (dg_name sc.nd (i := 2) rfl (by first | exact Or.inl rfl | exact Or.inr rfl)) (dgs_cons (dg_name sc.nd (i := 3) rfl (by first | exact Or.inl rfl | exact Or.inr rfl)) dgs_nil))) (ds_cons (dp_if (dt_cmp (sem_lt) (dh_of (de_cd (C__free_frames.more (by decide)) rfl hg hr rfl (da_cons (de_v (pv 1)) (da_cons (de_ix rfl (dh_v (pv 3)) (dh_of de_int) (fun _ _ => rfl)) da_nil)))) (dh_of (de_cb (sem_len rfl) rfl T.n_len (by decide +kernel) (dg_cons (dh_of (de_cd (C__load_of.more (by decide)) rfl hg hr rfl (da_cons (de_ix rfl (dh_v (pv 3)) (dh_of de_int) (fun _ _ => rfl)) da_nil))) dg_nil))) (nomark _)) (ds_one (dp_ret (de_v (pv 2)))) ds_nil)
    (ds_one (dp_set sc.nd (i := 1) rfl (by first | exact Or.inl rfl | exact Or.inr rfl) (de_v (pv 3))))))
    (ds_one (dp_ret de_non))))
abbrev st__stream_of : Stmt := topS 67
def names__stream_of : List Str := ["cues", "codes", "start", "end", "_", "text", "left", "frame", "code"]
theorem sc__stream_of : FnScope names__stream_of ["cues"] (defScope st__stream_of) := ⟨rfl, rfl, rfl, by decide +kernel, rfl, by decide +kernel, by decide +kernel⟩
theorem ok__stream_of {fa : Addr} {fd : FuncData} (T : Tx K gl) (F : L2.Fun K "_stream_of" "_stream_of" st__stream_of fa fd) (C__load_of : Cd pr wd K gl bas R 1 "_load_of" 1 r__load_of) : FnG pr wd K gl bas 2 fa fd ["cues"] (spD K R 1 r__stream_of) := by
  have sc := sc__stream_of
  refine FnG.data (g := g__stream_of) F sc rfl fun cdv A out sh H E q F hg hr => ?_
  exact (ds_cons (dp_if (dt_not (dt_truth rfl (dh_v (pv 0)))) (ds_one (dp_ret (de_tup dl_nil))) ds_nil)
    (ds_cons (dp_setN sc.nd (i := 1) rfl (by first | exact Or.inl rfl | exact Or.inr rfl) (dn_rep (dn_lst (dl_cons de_non dl_nil)) (de_bin (sem_add rfl) (dh_of (de_ix rfl (dh_of (de_ix rfl (dh_v (pv 0)) (dh_of (de_neg de_int)) (fun _ _ => rfl))) (dh_of de_int) (fun _ _ => rfl))) (dh_of de_int))))
    (ds_cons (dp_for PassesOwn.never rfl (di_seq rfl (de_v (pv 0))) (dg_tup rfl rfl (dgs_cons (dg_name sc.nd (i := 2) rfl (by first | exact Or.inl rfl | exact Or.inr rfl)) (dgs_cons (dg_name sc.nd (i := 3) rfl (by first | exact Or.inl rfl | exact Or.inr rfl)) (dgs_cons (dg_name sc.nd (i := 4) rfl (by first | exact Or.inl rfl | exact Or.inr rfl)) dgs_nil)))) (ds_cons (dp_put (pv 1) (de_v (pv 2)) (de_tup (dl_cons de_str dl_nil)))
    (ds_one (dp_put (pv 1) (de_v (pv 3)) (de_tup (dl_cons de_str dl_nil))))))
    (ds_cons (dp_for PassesOwn.never rfl (di_seq rfl (de_v (pv 0))) (dg_tup rfl rfl (dgs_cons (dg_name sc.nd (i := 2) rfl (by first | exact Or.inl rfl | exact Or.inr rfl)) (dgs_cons (dg_name sc.nd (i := 4) rfl (by first | exact Or.inl rfl | exact Or.inr rfl)) (dgs_cons (dg_name sc.nd (i := 5) rfl (by first | exact Or.inl rfl | exact Or.inr rfl)) dgs_nil)))) (ds_cons (dp_setN sc.nd (i := 6) rfl (by first | exact Or.inl rfl | exact Or.inr rfl) (dn_list rfl rfl T.n_list (dg_cons (dh_of (de_cd (C__load_of.more (by decide)) rfl hg hr rfl (da_cons (de_v (pv 5)) da_nil))) dg_nil)))
    (ds_cons (dp_set sc.nd (i := 7) rfl (by first | exact Or.inl rfl | exact Or.inr rfl) (de_bin (sem_sub) (dh_v (pv 2)) (dh_of de_int)))
    (ds_one (dp_while PassesOwn.never (dt_truth rfl (dh_v (pv 6))) (ds_cons (dp_if (dt_cmp (sem_is) (dh_of (de_ix rfl (dh_v (pv 1)) (dh_v (pv 7)) (fun _ _ => rfl))) (dh_of de_non) (nomark _)) (ds_one (dp_put (pv 1) (de_v (pv 7)) (de_pop (pv 6)))) ds_nil)
    (ds_one (dp_aug sc.nd (i := 7) rfl (by first | exact Or.inl rfl | exact Or.inr rfl) (dh_of de_int) sem_isub))))))))
    (ds_one (dp_ret (de_ct (sem_tuple rfl) rfl T.n_tuple (by decide +kernel) (dg_cons (dh_of (de_n (dn_lc (own := [("code", 8)]) rfl sc.nd (di_seq rfl (de_v (pv 1))) (blkOk_by (own := [("code", 8)]) (N := names__stream_of) (sc := defScope st__stream_of) (by decide +kernel)) (by decide) (fun _ _ _ _ _ => (dg_name sc.nd (i := 8) rfl (by first | exact Or.inl rfl | exact Or.inr rfl))) (fun _ _ _ _ _ => dts_nil) (fun _ _ _ _ _ => (de_if (dt_cmp (sem_is) (dh_v (pv 8)) (dh_of de_non) (nomark _)) (de_tup (dl_cons de_str dl_nil)) (de_v (pv 8))))))) dg_nil))))))))
abbrev st_send_paper : Stmt := topS 55
def names_send_paper : List Str := ["screen", "cues", "short"]
theorem sc_send_paper : FnScope names_send_paper ["screen", "cues"] (defScope st_send_paper) := ⟨rfl, rfl, rfl, by decide +kernel, rfl, by decide +kernel, by decide +kernel⟩
theorem okX_send_paper {fa : Addr} {fd : FuncData} (T : Tx K gl) (F : L2.Fun K "send_paper" "send_paper" st_send_paper fa fd) (C__first_short : Cd pr wd K gl bas R 2 "_first_short" 1 r__first_short) (C__stream_of : Cd pr wd K gl bas R 2 "_stream_of" 1 r__stream_of) (CX__need_cues : CdX pr wd K gl bas R 8 "_need_cues" 2 rx__need_cues) : FnX pr wd K gl bas 9 fa fd ["screen", "cues"] (spX K gl R 2 rx_send_paper) := by
  have sc := sc_send_paper
  refine FnX.data (g := gx_send_paper) F sc rfl fun cdv A out sh H E q F px hg hr tk => ?_
  exact (ds_cons (dp_expr (de_cdX tk (CX__need_cues.more (by decide)) rfl hg hr rfl (da_cons (de_v (pv 0)) (da_cons (de_v (pv 1)) da_nil))))
    (ds_cons (dp_set sc.nd (i := 2) rfl (by first | exact Or.inl rfl | exact Or.inr rfl) (de_cd (C__first_short.more (by decide)) rfl hg hr rfl (da_cons (de_v (pv 1)) da_nil)))
    (ds_cons (dp_if (dt_cmp (sem_isnot) (dh_v (pv 2)) (dh_of de_non) (nomark _)) (ds_one (dp_ret (de_tup (dl_cons de_str (dl_cons (de_v (pv 2)) dl_nil))))) ds_nil)
    (ds_one (dp_ret (de_tup (dl_cons de_str (dl_cons (de_cd (C__stream_of.more (by decide)) rfl hg hr rfl (da_cons (de_v (pv 1)) da_nil)) dl_nil))))))))
theorem ok_send_paper {fa : Addr} {fd : FuncData} (T : Tx K gl) (F : L2.Fun K "send_paper" "send_paper" st_send_paper fa fd) (C__need_cues : Cd pr wd K gl bas R 7 "_need_cues" 2 r__need_cues) (C__first_short : Cd pr wd K gl bas R 2 "_first_short" 1 r__first_short) (C__stream_of : Cd pr wd K gl bas R 2 "_stream_of" 1 r__stream_of) : FnG pr wd K gl bas 8 fa fd ["screen", "cues"] (spD K R 2 r_send_paper) := by
  have sc := sc_send_paper
  refine FnG.data (g := g_send_paper) F sc rfl fun cdv A out sh H E q F hg hr => ?_
  exact (ds_cons (dp_expr (de_cd (C__need_cues.more (by decide)) rfl hg hr rfl (da_cons (de_v (pv 0)) (da_cons (de_v (pv 1)) da_nil))))
    (ds_cons (dp_set sc.nd (i := 2) rfl (by first | exact Or.inl rfl | exact Or.inr rfl) (de_cd (C__first_short.more (by decide)) rfl hg hr rfl (da_cons (de_v (pv 1)) da_nil)))
    (ds_cons (dp_if (dt_cmp (sem_isnot) (dh_v (pv 2)) (dh_of de_non) (nomark _)) (ds_one (dp_ret (de_tup (dl_cons de_str (dl_cons (de_v (pv 2)) dl_nil))))) ds_nil)
    (ds_one (dp_ret (de_tup (dl_cons de_str (dl_cons (de_cd (C__stream_of.more (by decide)) rfl hg hr rfl (da_cons (de_v (pv 1)) da_nil)) dl_nil))))))))
abbrev st__sends : Stmt := topS 68
def names__sends : List Str := ["screen", "cues", "thing", "many", "told", "start", "end", "text"]
theorem sc__sends : FnScope names__sends ["screen", "cues", "thing"] (defScope st__sends) := ⟨rfl, rfl, rfl, by decide +kernel, rfl, by decide +kernel, by decide +kernel⟩
theorem ok__sends {fa : Addr} {fd : FuncData} (T : Tx K gl) (F : L2.Fun K "_sends" "_sends" st__sends fa fd) (C_are_codes : Cd pr wd K gl bas R 4 "are_codes" 4 r_are_codes) (C_blank : Cd pr wd K gl bas R 4 "blank" 1 r_blank) (C__picture_of : Cd pr wd K gl bas R 1 "_picture_of" 2 r__picture_of) (C_pictures : Cd pr wd K gl bas R 6 "pictures" 2 r_pictures) : FnG pr wd K gl bas 7 fa fd ["screen", "cues", "thing"] (spD K R 3 r__sends) := by
  have sc := sc__sends
  refine FnG.data (g := g__sends) F sc rfl fun cdv A out sh H E q F hg hr => ?_
  exact (ds_cons (dp_set sc.nd (i := 3) rfl (by first | exact Or.inl rfl | exact Or.inr rfl) de_int)
    (ds_cons (dp_if (dt_truth rfl (dh_v (pv 1))) (ds_one (dp_set sc.nd (i := 3) rfl (by first | exact Or.inl rfl | exact Or.inr rfl) (de_bin (sem_add rfl) (dh_of (de_ix rfl (dh_of (de_ix rfl (dh_v (pv 1)) (dh_of (de_neg de_int)) (fun _ _ => rfl))) (dh_of de_int) (fun _ _ => rfl))) (dh_of de_int)))) ds_nil)
    (ds_cons (dp_if (dt_not (dt_truth rfl (dh_of (de_cd (C_are_codes.more (by decide)) rfl hg hr rfl (da_cons (de_v (pv 0)) (da_cons (de_v (pv 2)) (da_cons (de_v (pv 3)) (da_cons (de_v (pv 3)) da_nil)))))))) (ds_one (dp_ret de_bl)) ds_nil)
    (ds_cons (dp_setN sc.nd (i := 4) rfl (by first | exact Or.inl rfl | exact Or.inr rfl) (dn_rep (dn_lst (dl_cons (de_cd (C_blank.more (by decide)) rfl hg hr rfl (da_cons (de_v (pv 0)) da_nil)) dl_nil)) (de_v (pv 3))))
    (ds_cons (dp_for PassesOwn.never rfl (di_seq rfl (de_v (pv 1))) (dg_tup rfl rfl (dgs_cons (dg_name sc.nd (i := 5) rfl (by first | exact Or.inl rfl | exact Or.inr rfl)) (dgs_cons (dg_name sc.nd (i := 6) rfl (by first | exact Or.inl rfl | exact Or.inr rfl)) (dgs_cons (dg_name sc.nd (i := 7) rfl (by first | exact Or.inl rfl | exact Or.inr rfl)) dgs_nil)))) (ds_one (dp_cutS (pv 4) (do_i (de_v (pv 5))) (do_i (de_v (pv 6))) (dn_rep (dn_lst (dl_cons (de_cd (C__picture_of.more (by decide)) rfl hg hr rfl (da_cons (de_v (pv 0)) (da_cons (de_v (pv 7)) da_nil))) dl_nil)) (de_bin (sem_sub) (dh_v (pv 6)) (dh_v (pv 5)))))))
    (ds_one (dp_ret (de_cmp (sem_eq rfl (hu64 hr)) (dh_of (de_n (dn_list rfl rfl T.n_list (dg_cons (dh_of (de_cd (C_pictures.more (by decide)) rfl hg hr rfl (da_cons (de_v (pv 0)) (da_cons (de_v (pv 2)) da_nil)))) dg_nil)))) (dh_v (pv 4)) (nomark _)))))))))
abbrev st_check_send : Stmt := topS 56
def names_check_send : List Str := ["screen", "cues", "paper", "word", "told"]
theorem sc_check_send : FnScope names_check_send ["screen", "cues", "paper"] (defScope st_check_send) := ⟨rfl, rfl, rfl, by decide +kernel, rfl, by decide +kernel, by decide +kernel⟩
theorem okX_check_send {fa : Addr} {fd : FuncData} (T : Tx K gl) (F : L2.Fun K "check_send" "check_send" st_check_send fa fd) (C_is_tuple : Cd pr wd K gl bas R 1 "is_tuple" 3 r_is_tuple) (C_is_one_of : Cd pr wd K gl bas R 1 "is_one_of" 2 r_is_one_of) (C__sends : Cd pr wd K gl bas R 7 "_sends" 3 r__sends) (C_is_integer : Cd pr wd K gl bas R 1 "is_integer" 1 r_is_integer) (C__first_short : Cd pr wd K gl bas R 2 "_first_short" 1 r__first_short) (CX__need_cues : CdX pr wd K gl bas R 8 "_need_cues" 2 rx__need_cues) (K_BadPaper : ClsAt pr wd K gl bas "BadPaper" (some "part")) : FnX pr wd K gl bas 9 fa fd ["screen", "cues", "paper"] (spX K gl R 3 rx_check_send) := by
  have sc := sc_check_send
  refine FnX.data (g := gx_check_send) F sc rfl fun cdv A out sh H E q F px hg hr tk => ?_
  exact (ds_cons (dp_expr (de_cdX tk (CX__need_cues.more (by decide)) rfl hg hr rfl (da_cons (de_v (pv 0)) (da_cons (de_v (pv 1)) da_nil))))
    (ds_cons (dp_if (PW.pt (dw_or (dt_not (dt_truth rfl (dh_of (de_cd (C_is_tuple.more (by decide)) rfl hg hr rfl (da_cons (de_v (pv 2)) (da_cons de_int (da_cons de_int da_nil))))))) (pw_or1 (dt_not (dt_truth rfl (dh_of (de_cd (C_is_one_of.more (by decide)) rfl hg hr rfl (da_cons (de_ix rfl (dh_v (pv 2)) (dh_of de_int) (fun _ _ => rfl)) (da_cons (de_tup (dl_cons de_str (dl_cons de_str dl_nil))) da_nil))))))))) (ds_one (dp_raise1 K_BadPaper tk rfl rfl (hr.mono (by decide)) rfl de_str)) ds_nil)
    (ds_cons (dp_asg (de_v (pv 2)) (dg_tup rfl rfl (dgs_cons (dg_name sc.nd (i := 3) rfl (by first | exact Or.inl rfl | exact Or.inr rfl)) (dgs_cons (dg_name sc.nd (i := 4) rfl (by first | exact Or.inl rfl | exact Or.inr rfl)) dgs_nil))))
    (ds_cons (dp_if (PW.pt (dw_and (dt_cmp (sem_eq rfl (hu64 hr)) (dh_v (pv 3)) (dh_of de_str) (nomark _)) (pw_and1 (dt_not (dt_truth rfl (dh_of (de_cd (C__sends.more (by decide)) rfl hg hr rfl (da_cons (de_v (pv 0)) (da_cons (de_v (pv 1)) (da_cons (de_v (pv 4)) da_nil)))))))))) (ds_one (dp_raise1 K_BadPaper tk rfl rfl (hr.mono (by decide)) rfl de_str)) ds_nil)
    (ds_cons (dp_if (PW.pt (dw_and (dt_cmp (sem_eq rfl (hu64 hr)) (dh_v (pv 3)) (dh_of de_str) (nomark _)) (pw_and1 (dt_not (PW.pt (dw_and (dt_truth rfl (dh_of (de_cd (C_is_integer.more (by decide)) rfl hg hr rfl (da_cons (de_v (pv 4)) da_nil)))) (pw_and1 (dt_cmp (sem_eq rfl (hu64 hr)) (dh_v (pv 4)) (dh_of (de_cd (C__first_short.more (by decide)) rfl hg hr rfl (da_cons (de_v (pv 1)) da_nil))) (nomark _))))))))) (ds_one (dp_raise1 K_BadPaper tk rfl rfl (hr.mono (by decide)) rfl de_str)) ds_nil)
    (ds_one (dp_ret (de_v (pv 3)))))))))
theorem ok_check_send {fa : Addr} {fd : FuncData} (T : Tx K gl) (F : L2.Fun K "check_send" "check_send" st_check_send fa fd) (C__need_cues : Cd pr wd K gl bas R 7 "_need_cues" 2 r__need_cues) (C_is_tuple : Cd pr wd K gl bas R 1 "is_tuple" 3 r_is_tuple) (C_is_one_of : Cd pr wd K gl bas R 1 "is_one_of" 2 r_is_one_of) (C__sends : Cd pr wd K gl bas R 7 "_sends" 3 r__sends) (C_is_integer : Cd pr wd K gl bas R 1 "is_integer" 1 r_is_integer) (C__first_short : Cd pr wd K gl bas R 2 "_first_short" 1 r__first_short) : FnG pr wd K gl bas 8 fa fd ["screen", "cues", "paper"] (spD K R 3 r_check_send) := by
  have sc := sc_check_send
  refine FnG.data (g := g_check_send) F sc rfl fun cdv A out sh H E q F hg hr => ?_
  exact (ds_cons (dp_expr (de_cd (C__need_cues.more (by decide)) rfl hg hr rfl (da_cons (de_v (pv 0)) (da_cons (de_v (pv 1)) da_nil))))
    (ds_cons (dp_if (PW.pt (dw_or (dt_not (dt_truth rfl (dh_of (de_cd (C_is_tuple.more (by decide)) rfl hg hr rfl (da_cons (de_v (pv 2)) (da_cons de_int (da_cons de_int da_nil))))))) (pw_or1 (dt_not (dt_truth rfl (dh_of (de_cd (C_is_one_of.more (by decide)) rfl hg hr rfl (da_cons (de_ix rfl (dh_v (pv 2)) (dh_of de_int) (fun _ _ => rfl)) (da_cons (de_tup (dl_cons de_str (dl_cons de_str dl_nil))) da_nil))))))))) ds_never ds_nil)
    (ds_cons (dp_asg (de_v (pv 2)) (dg_tup rfl rfl (dgs_cons (dg_name sc.nd (i := 3) rfl (by first | exact Or.inl rfl | exact Or.inr rfl)) (dgs_cons (dg_name sc.nd (i := 4) rfl (by first | exact Or.inl rfl | exact Or.inr rfl)) dgs_nil))))
    (ds_cons (dp_if (PW.pt (dw_and (dt_cmp (sem_eq rfl (hu64 hr)) (dh_v (pv 3)) (dh_of de_str) (nomark _)) (pw_and1 (dt_not (dt_truth rfl (dh_of (de_cd (C__sends.more (by decide)) rfl hg hr rfl (da_cons (de_v (pv 0)) (da_cons (de_v (pv 1)) (da_cons (de_v (pv 4)) da_nil)))))))))) ds_never ds_nil)
    (ds_cons (dp_if (PW.pt (dw_and (dt_cmp (sem_eq rfl (hu64 hr)) (dh_v (pv 3)) (dh_of de_str) (nomark _)) (pw_and1 (dt_not (PW.pt (dw_and (dt_truth rfl (dh_of (de_cd (C_is_integer.more (by decide)) rfl hg hr rfl (da_cons (de_v (pv 4)) da_nil)))) (pw_and1 (dt_cmp (sem_eq rfl (hu64 hr)) (dh_v (pv 4)) (dh_of (de_cd (C__first_short.more (by decide)) rfl hg hr rfl (da_cons (de_v (pv 1)) da_nil))) (nomark _))))))))) ds_never ds_nil)
    (ds_one (dp_ret (de_v (pv 3)))))))))
abbrev st_put_off : Stmt := topS 57
def names_put_off : List Str := ["screen", "cues", "found", "ahead", "cue", "start"]
theorem sc_put_off : FnScope names_put_off ["screen", "cues"] (defScope st_put_off) := ⟨rfl, rfl, rfl, by decide +kernel, rfl, by decide +kernel, by decide +kernel⟩
theorem okX_put_off {fa : Addr} {fd : FuncData} (T : Tx K gl) (F : L2.Fun K "put_off" "put_off" st_put_off fa fd) (C__free_frames : Cd pr wd K gl bas R 1 "_free_frames" 2 r__free_frames) (C__load_of : Cd pr wd K gl bas R 1 "_load_of" 1 r__load_of) (CX__need_cues : CdX pr wd K gl bas R 8 "_need_cues" 2 rx__need_cues) : FnX pr wd K gl bas 9 fa fd ["screen", "cues"] (spX K gl R 2 rx_put_off) := by
  have sc := sc_put_off
  refine FnX.data (g := gx_put_off) F sc rfl fun cdv A out sh H E q F px hg hr tk => ?_
  exact (ds_cons (dp_expr (de_cdX tk (CX__need_cues.more (by decide)) rfl hg hr rfl (da_cons (de_v (pv 0)) (da_cons (de_v (pv 1)) da_nil))))
    (ds_cons (dp_setN sc.nd (i := 2) rfl (by first | exact Or.inl rfl | exact Or.inr rfl) (dn_lst dl_nil))
    (ds_cons (dp_set sc.nd (i := 3) rfl (by first | exact Or.inl rfl | exact Or.inr rfl) de_non)
    (ds_cons (dp_for (passes_of rfl) rfl (di_seq rfl (de_v (pv 1))) (dg_name sc.nd (i := 4) rfl (by first | exact Or.inl rfl | exact Or.inr rfl)) (ds_cons (dp_set sc.nd (i := 5) rfl (by first | exact Or.inl rfl | exact Or.inr rfl) (de_ix rfl (dh_v (pv 4)) (dh_of de_int) (fun _ _ => rfl)))
    (ds_cons (dp_while (passes_of rfl) (PW.pt (dw_and (dt_cmp (sem_lt) (dh_v (pv 5)) (dh_of (de_ix rfl (dh_v (pv 4)) (dh_of de_int) (fun _ _ => rfl))) (nomark _)) (pw_and1 (dt_cmp (sem_lt) (dh_of (de_cd (C__free_frames.more (by decide)) rfl hg hr rfl (da_cons (de_v (pv 3)) (da_cons (de_v (pv 5)) da_nil)))) (dh_of (de_cb (sem_len rfl) rfl T.n_len (by decide +kernel) (dg_cons (dh_of (de_cd (C__load_of.more (by decide)) rfl hg hr rfl (da_cons (de_ix rfl (dh_v (pv 4)) (dh_of de_int) (fun _ _ => rfl)) da_nil))) dg_nil))) (nomark _))))) (ds_one (dp_aug sc.nd (i := 5) rfl (by first | exact Or.inl rfl | exact Or.inr rfl) (dh_of de_int) sem_iadd)))
    (ds_cons (dp_if (dt_cmp (sem_eq rfl (hu64 hr)) (dh_v (pv 5)) (dh_of (de_ix rfl (dh_v (pv 4)) (dh_of de_int) (fun _ _ => rfl))) (nomark _)) (ds_one (dp_ret de_non)) ds_nil)
    (ds_cons (dp_set sc.nd (i := 3) rfl (by first | exact Or.inl rfl | exact Or.inr rfl) (de_tup (dl_cons (de_v (pv 5)) (dl_cons (de_ix rfl (dh_v (pv 4)) (dh_of de_int) (fun _ _ => rfl)) (dl_cons (de_ix rfl (dh_v (pv 4)) (dh_of de_int) (fun _ _ => rfl)) dl_nil)))))
    (ds_one (dp_app rfl (pv 2) (de_v (pv 3)))))))))
    (ds_one (dp_ret (de_ct (sem_tuple rfl) rfl T.n_tuple (by decide +kernel) (dg_cons (dh_v (pv 2)) dg_nil))))))))
theorem ok_put_off {fa : Addr} {fd : FuncData} (T : Tx K gl) (F : L2.Fun K "put_off" "put_off" st_put_off fa fd) (C__need_cues : Cd pr wd K gl bas R 7 "_need_cues" 2 r__need_cues) (C__free_frames : Cd pr wd K gl bas R 1 "_free_frames" 2 r__free_frames) (C__load_of : Cd pr wd K gl bas R 1 "_load_of" 1 r__load_of) : FnG pr wd K gl bas 8 fa fd ["screen", "cues"] (spD K R 2 r_put_off) := by
  have sc := sc_put_off
  refine FnG.data (g := g_put_off) F sc rfl fun cdv A out sh H E q F hg hr => ?_
  exact (ds_cons (dp_expr (de_cd (C__need_cues.more (by decide)) rfl hg hr rfl (da_cons (de_v (pv 0)) (da_cons (de_v (pv 1)) da_nil))))
    (ds_cons (dp_setN sc.nd (i := 2) rfl (by first | exact Or.inl rfl | exact Or.inr rfl) (dn_lst dl_nil))
    (ds_cons (dp_set sc.nd (i := 3) rfl (by first | exact Or.inl rfl | exact Or.inr rfl) de_non)
    (ds_cons (dp_for PassesOwn.never rfl (di_seq rfl (de_v (pv 1))) (dg_name sc.nd (i := 4) rfl (by first | exact Or.inl rfl | exact Or.inr rfl)) (ds_cons (dp_set sc.nd (i := 5) rfl (by first | exact Or.inl rfl | exact Or.inr rfl) (de_ix rfl (dh_v (pv 4)) (dh_of de_int) (fun _ _ => rfl)))
    (ds_cons (dp_while PassesOwn.never (PW.pt (dw_and (dt_cmp (sem_lt) (dh_v (pv 5)) (dh_of (de_ix rfl (dh_v (pv 4)) (dh_of de_int) (fun _ _ => rfl))) (nomark _)) (pw_and1 (dt_cmp (sem_lt) (dh_of (de_cd (C__free_frames.more (by decide)) rfl hg hr rfl (da_cons (de_v (pv 3)) (da_cons (de_v (pv 5)) da_nil)))) (dh_of (de_cb (sem_len rfl) rfl T.n_len (by decide +kernel) (dg_cons (dh_of (de_cd (C__load_of.more (by decide)) rfl hg hr rfl (da_cons (de_ix rfl (dh_v (pv 4)) (dh_of de_int) (fun _ _ => rfl)) da_nil))) dg_nil))) (nomark _))))) (ds_one (dp_aug sc.nd (i := 5) rfl (by first | exact Or.inl rfl | exact Or.inr rfl) (dh_of de_int) sem_iadd)))
    (ds_cons (dp_if (dt_cmp (sem_eq rfl (hu64 hr)) (dh_v (pv 5)) (dh_of (de_ix rfl (dh_v (pv 4)) (dh_of de_int) (fun _ _ => rfl))) (nomark _)) (ds_one (dp_ret de_non)) ds_nil)
    (ds_cons (dp_set sc.nd (i := 3) rfl (by first | exact Or.inl rfl | exact Or.inr rfl) (de_tup (dl_cons (de_v (pv 5)) (dl_cons (de_ix rfl (dh_v (pv 4)) (dh_of de_int) (fun _ _ => rfl)) (dl_cons (de_ix rfl (dh_v (pv 4)) (dh_of de_int) (fun _ _ => rfl)) dl_nil)))))
    (ds_one (dp_app rfl (pv 2) (de_v (pv 3)))))))))
    (ds_one (dp_ret (de_ct (sem_tuple rfl) rfl T.n_tuple (by decide +kernel) (dg_cons (dh_v (pv 2)) dg_nil))))))))
abbrev st_shows : Stmt := topS 58
def names_shows : List Str := ["screen", "codes", "empty", "found", "ahead", "frame", "picture"]
theorem sc_shows : FnScope names_shows ["screen", "codes"] (defScope st_shows) := ⟨rfl, rfl, rfl, by decide +kernel, rfl, by decide +kernel, by decide +kernel⟩
theorem okX_shows {fa : Addr} {fd : FuncData} (T : Tx K gl) (F : L2.Fun K "shows" "shows" st_shows fa fd) (CX_blank : CdX pr wd K gl bas R 5 "blank" 1 rx_blank) (CX_pictures : CdX pr wd K gl bas R 7 "pictures" 2 rx_pictures) : FnX pr wd K gl bas 8 fa fd ["screen", "codes"] (spX K gl R 2 rx_shows) := by
  have sc := sc_shows
  refine FnX.data (g := gx_shows) F sc rfl fun cdv A out sh H E q F px hg hr tk => ?_
  exact (ds_cons (dp_set sc.nd (i := 2) rfl (by first | exact Or.inl rfl | exact Or.inr rfl) (de_cdX tk (CX_blank.more (by decide)) rfl hg hr rfl (da_cons (de_v (pv 0)) da_nil)))
    (ds_cons (dp_setN sc.nd (i := 3) rfl (by first | exact Or.inl rfl | exact Or.inr rfl) (dn_lst dl_nil))
    (ds_cons (dp_set sc.nd (i := 4) rfl (by first | exact Or.inl rfl | exact Or.inr rfl) (de_v (pv 2)))
    (ds_cons (dp_for (passes_of rfl) rfl (di_enum rfl rfl T.n_enumerate (dl_cons (de_cdX tk (CX_pictures.more (by decide)) rfl hg hr rfl (da_cons (de_v (pv 0)) (da_cons (de_v (pv 1)) da_nil))) dl_nil)) (dg_tup rfl rfl (dgs_cons (dg_name sc.nd (i := 5) rfl (by first | exact Or.inl rfl | exact Or.inr rfl)) (dgs_cons (dg_name sc.nd (i := 6) rfl (by first | exact Or.inl rfl | exact Or.inr rfl)) dgs_nil))) (ds_cons (dp_if (PW.pt (dw_and (dt_cmp (sem_ne rfl (hu64 hr)) (dh_v (pv 6)) (dh_v (pv 2)) (nomark _)) (pw_and1 (dt_cmp (sem_eq rfl (hu64 hr)) (dh_v (pv 6)) (dh_v (pv 4)) (nomark _))))) (ds_one (dp_put (pv 3) (de_neg de_int) (de_tup (dl_cons (de_ix rfl (dh_of (de_ix rfl (dh_v (pv 3)) (dh_of (de_neg de_int)) (fun _ _ => rfl))) (dh_of de_int) (fun _ _ => rfl)) (dl_cons (de_bin (sem_add rfl) (dh_v (pv 5)) (dh_of de_int)) (dl_cons (de_v (pv 6)) dl_nil)))))) (ds_one (dp_if (dt_cmp (sem_ne rfl (hu64 hr)) (dh_v (pv 6)) (dh_v (pv 2)) (nomark _)) (ds_one (dp_app rfl (pv 3) (de_tup (dl_cons (de_v (pv 5)) (dl_cons (de_bin (sem_add rfl) (dh_v (pv 5)) (dh_of de_int)) (dl_cons (de_v (pv 6)) dl_nil)))))) ds_nil)))
    (ds_one (dp_set sc.nd (i := 4) rfl (by first | exact Or.inl rfl | exact Or.inr rfl) (de_v (pv 6))))))
    (ds_one (dp_ret (de_ct (sem_tuple rfl) rfl T.n_tuple (by decide +kernel) (dg_cons (dh_v (pv 3)) dg_nil))))))))
theorem ok_shows {fa : Addr} {fd : FuncData} (T : Tx K gl) (F : L2.Fun K "shows" "shows" st_shows fa fd) (C_blank : Cd pr wd K gl bas R 4 "blank" 1 r_blank) (C_pictures : Cd pr wd K gl bas R 6 "pictures" 2 r_pictures) : FnG pr wd K gl bas 7 fa fd ["screen", "codes"] (spD K R 2 r_shows) := by
  have sc := sc_shows
  refine FnG.data (g := g_shows) F sc rfl fun cdv A out sh H E q F hg hr => ?_
  exact (ds_cons (dp_set sc.nd (i := 2) rfl (by first | exact Or.inl rfl | exact Or.inr rfl) (de_cd (C_blank.more (by decide)) rfl hg hr rfl (da_cons (de_v (pv 0)) da_nil)))
    (ds_cons (dp_setN sc.nd (i := 3) rfl (by first | exact Or.inl rfl | exact Or.inr rfl) (dn_lst dl_nil))
    (ds_cons (dp_set sc.nd (i := 4) rfl (by first | exact Or.inl rfl | exact Or.inr rfl) (de_v (pv 2)))
    (ds_cons (dp_for PassesOwn.never rfl (di_enum rfl rfl T.n_enumerate (dl_cons (de_cd (C_pictures.more (by decide)) rfl hg hr rfl (da_cons (de_v (pv 0)) (da_cons (de_v (pv 1)) da_nil))) dl_nil)) (dg_tup rfl rfl (dgs_cons (dg_name sc.nd (i := 5) rfl (by first | exact Or.inl rfl | exact Or.inr rfl)) (dgs_cons (dg_name sc.nd (i := 6) rfl (by first | exact Or.inl rfl | exact Or.inr rfl)) dgs_nil))) (ds_cons (dp_if (PW.pt (dw_and (dt_cmp (sem_ne rfl (hu64 hr)) (dh_v (pv 6)) (dh_v (pv 2)) (nomark _)) (pw_and1 (dt_cmp (sem_eq rfl (hu64 hr)) (dh_v (pv 6)) (dh_v (pv 4)) (nomark _))))) (ds_one (dp_put (pv 3) (de_neg de_int) (de_tup (dl_cons (de_ix rfl (dh_of (de_ix rfl (dh_v (pv 3)) (dh_of (de_neg de_int)) (fun _ _ => rfl))) (dh_of de_int) (fun _ _ => rfl)) (dl_cons (de_bin (sem_add rfl) (dh_v (pv 5)) (dh_of de_int)) (dl_cons (de_v (pv 6)) dl_nil)))))) (ds_one (dp_if (dt_cmp (sem_ne rfl (hu64 hr)) (dh_v (pv 6)) (dh_v (pv 2)) (nomark _)) (ds_one (dp_app rfl (pv 3) (de_tup (dl_cons (de_v (pv 5)) (dl_cons (de_bin (sem_add rfl) (dh_v (pv 5)) (dh_of de_int)) (dl_cons (de_v (pv 6)) dl_nil)))))) ds_nil)))
    (ds_one (dp_set sc.nd (i := 4) rfl (by first | exact Or.inl rfl | exact Or.inr rfl) (de_v (pv 6))))))
    (ds_one (dp_ret (de_ct (sem_tuple rfl) rfl T.n_tuple (by decide +kernel) (dg_cons (dh_v (pv 3)) dg_nil))))))))
abbrev st__law_size : Stmt := topS 72
def names__law_size : List Str := ["_law_m", "_law_most"]
theorem sc__law_size : FnScope names__law_size ["_law_m", "_law_most"] (defScope st__law_size) := ⟨rfl, rfl, rfl, by decide +kernel, rfl, by decide +kernel, by decide +kernel⟩
theorem ok__law_size {fa : Addr} {fd : FuncData} (T : Tx K gl) (F : L2.Fun K "_law_size" "_law_size" st__law_size fa fd) (C__law_next : Cd pr wd K gl bas R 1 "_law_next" 2 s_next) : FnG pr wd K gl bas 2 fa fd ["_law_m", "_law_most"] (spD K R 2 r__law_size) := by
  have sc := sc__law_size
  refine FnG.data (g := g__law_size) F sc rfl fun cdv A out sh H E q F hg hr => ?_
  exact (ds_one (dp_ret (de_tup (dl_cons (de_bin (sem_add rfl) (dh_of de_int) (dh_of (de_cdO (i := 0) (C__law_next.more (by decide)) rfl hg hr rfl (da_ora (pv 0) (da_cons de_int da_nil))))) (dl_cons (de_bin (sem_add rfl) (dh_of de_int) (dh_of (de_cdO (i := 0) (C__law_next.more (by decide)) rfl hg hr rfl (da_ora (pv 0) (da_cons (de_v (pv 1)) da_nil))))) dl_nil)))))
abbrev st__law_text : Stmt := topS 73
def names__law_text : List Str := ["_law_m", "_law_size_here", "_law_found", "_law_k", "_law_line", "_law_j"]
theorem sc__law_text : FnScope names__law_text ["_law_m", "_law_size_here"] (defScope st__law_text) := ⟨rfl, rfl, rfl, by decide +kernel, rfl, by decide +kernel, by decide +kernel⟩
theorem ok__law_text {fa : Addr} {fd : FuncData} (T : Tx K gl) (F : L2.Fun K "_law_text" "_law_text" st__law_text fa fd) (C__law_next : Cd pr wd K gl bas R 1 "_law_next" 2 s_next) : FnG pr wd K gl bas 2 fa fd ["_law_m", "_law_size_here"] (spD K R 2 r__law_text) := by
  have sc := sc__law_text
  refine FnG.data (g := g__law_text) F sc rfl fun cdv A out sh H E q F hg hr => ?_
  exact (ds_cons (dp_setN sc.nd (i := 2) rfl (by first | exact Or.inl rfl | exact Or.inr rfl) (dn_lst dl_nil))
    (ds_cons (dp_for PassesOwn.never rfl (di_range1 rfl T.n_range (dl_cons (de_bin (sem_add rfl) (dh_of de_int) (dh_of (de_cdO (i := 0) (C__law_next.more (by decide)) rfl hg hr rfl (da_ora (pv 0) (da_cons (de_ix rfl (dh_v (pv 1)) (dh_of de_int) (fun _ _ => rfl)) da_nil))))) dl_nil)) (dg_name sc.nd (i := 3) rfl (by first | exact Or.inl rfl | exact Or.inr rfl)) (ds_cons (dp_set sc.nd (i := 4) rfl (by first | exact Or.inl rfl | exact Or.inr rfl) (de_strip (de_join rfl de_str (de_n (dn_lc (own := [("_law_j", 5)]) rfl sc.nd (di_range1 rfl T.n_range (dl_cons (de_bin (sem_add rfl) (dh_of de_int) (dh_of (de_cdO (i := 0) (C__law_next.more (by decide)) rfl hg hr rfl (da_ora (pv 0) (da_cons (de_ix rfl (dh_v (pv 1)) (dh_of de_int) (fun _ _ => rfl)) da_nil))))) dl_nil)) (blkOk_by (own := [("_law_j", 5)]) (N := names__law_text) (sc := defScope st__law_text) (by decide +kernel)) (by decide) (fun _ _ _ _ _ => (dg_name sc.nd (i := 5) rfl (by first | exact Or.inl rfl | exact Or.inr rfl))) (fun _ _ _ _ _ => dts_nil) (fun _ _ _ _ _ => (de_ix rfl (dh_of de_str) (dh_of (de_cdO (i := 0) (C__law_next.more (by decide)) rfl hg hr rfl (da_ora (pv 0) (da_cons de_int da_nil)))) (fun _ _ => rfl)))))) de_str))
    (ds_one (dp_app rfl (pv 2) (de_if (dt_cmp (sem_ne rfl (hu64 hr)) (dh_v (pv 4)) (dh_of de_str) (nomark _)) (de_v (pv 4)) de_str)))))
    (ds_one (dp_ret (de_ct (sem_tuple rfl) rfl T.n_tuple (by decide +kernel) (dg_cons (dh_v (pv 2)) dg_nil))))))
abbrev st__law_outcome : Stmt := topS 74
def names__law_outcome : List Str := ["_law_way", "_law_size_here", "_law_thing", "_law_found", "e"]
theorem sc__law_outcome : FnScope names__law_outcome ["_law_way", "_law_size_here", "_law_thing"] (defScope st__law_outcome) := ⟨rfl, rfl, rfl, by decide +kernel, rfl, by decide +kernel, by decide +kernel⟩
theorem ok__law_outcome {fa : Addr} {fd : FuncData} (T : Tx K gl) (F : L2.Fun K "_law_outcome" "_law_outcome" st__law_outcome fa fd) (CX_load : CdX pr wd K gl bas R 8 "load" 2 rx_load) (CX_picture_of : CdX pr wd K gl bas R 8 "picture_of" 2 rx_picture_of) (CX_text_of : CdX pr wd K gl bas R 6 "text_of" 2 rx_text_of) (CX_send_paper : CdX pr wd K gl bas R 9 "send_paper" 2 rx_send_paper) (CX_put_off : CdX pr wd K gl bas R 9 "put_off" 2 rx_put_off) (CX_shows : CdX pr wd K gl bas R 8 "shows" 2 rx_shows) (CX_check_send : CdX pr wd K gl bas R 9 "check_send" 3 rx_check_send) (K_BadSize : ClsAt pr wd K gl bas "BadSize" (some "value")) (K_BadCues : ClsAt pr wd K gl bas "BadCues" (some "number")) (K_BadCode : ClsAt pr wd K gl bas "BadCode" (some "place")) (K_OutOfPlace : ClsAt pr wd K gl bas "OutOfPlace" none) (KF_BadSize : FldOf K gl "BadSize" "value") (KF_BadCues : FldOf K gl "BadCues" "number") (KF_BadCode : FldOf K gl "BadCode" "place") (A_BadSize_OutOfPlace : Apart K gl "BadSize" "OutOfPlace") (A_BadSize_BadCode : Apart K gl "BadSize" "BadCode") (A_BadSize_BadCues : Apart K gl "BadSize" "BadCues") (A_BadCues_OutOfPlace : Apart K gl "BadCues" "OutOfPlace") (A_BadCues_BadCode : Apart K gl "BadCues" "BadCode") (A_BadCues_BadSize : Apart K gl "BadCues" "BadSize") (A_BadCode_OutOfPlace : Apart K gl "BadCode" "OutOfPlace") (A_BadCode_BadCues : Apart K gl "BadCode" "BadCues") (A_BadCode_BadSize : Apart K gl "BadCode" "BadSize") (A_OutOfPlace_BadCode : Apart K gl "OutOfPlace" "BadCode") (A_OutOfPlace_BadCues : Apart K gl "OutOfPlace" "BadCues") (A_OutOfPlace_BadSize : Apart K gl "OutOfPlace" "BadSize") : FnG pr wd K gl bas 10 fa fd ["_law_way", "_law_size_here", "_law_thing"] (spD K R 3 r__law_outcome) := by
  have sc := sc__law_outcome
  refine FnG.data0 (g := g__law_outcome) F sc rfl fun cdv A out sh H E q F hg hr => ?_
  exact (s0_cons (s0_of (dp_set sc.nd (i := 3) rfl (by first | exact Or.inl rfl | exact Or.inr rfl) de_non))
    (s0_cons (dp_tryC rfl rfl sc.nd (fun px pn xe tk po => (ds_one (dp_if (dt_cmp (sem_eq rfl (hu64 hr)) (dh_v (pv 0)) (dh_of de_int) (nomark _)) (ds_one (dp_expr (de_cdX tk (CX_load.more (by decide)) rfl hg hr rfl (da_cons (de_v (pv 1)) (da_cons (de_v (pv 2)) da_nil))))) (ds_one (dp_if (dt_cmp (sem_eq rfl (hu64 hr)) (dh_v (pv 0)) (dh_of de_int) (nomark _)) (ds_one (dp_expr (de_cdX tk (CX_picture_of.more (by decide)) rfl hg hr rfl (da_cons (de_v (pv 1)) (da_cons (de_v (pv 2)) da_nil))))) (ds_one (dp_if (dt_cmp (sem_eq rfl (hu64 hr)) (dh_v (pv 0)) (dh_of de_int) (nomark _)) (ds_one (dp_expr (de_cdX tk (CX_text_of.more (by decide)) rfl hg hr rfl (da_cons (de_v (pv 1)) (da_cons (de_v (pv 2)) da_nil))))) (ds_one (dp_if (dt_cmp (sem_eq rfl (hu64 hr)) (dh_v (pv 0)) (dh_of de_int) (nomark _)) (ds_one (dp_expr (de_cdX tk (CX_send_paper.more (by decide)) rfl hg hr rfl (da_cons (de_v (pv 1)) (da_cons (de_v (pv 2)) da_nil))))) (ds_one (dp_if (dt_cmp (sem_eq rfl (hu64 hr)) (dh_v (pv 0)) (dh_of de_int) (nomark _)) (ds_one (dp_expr (de_cdX tk (CX_put_off.more (by decide)) rfl hg hr rfl (da_cons (de_v (pv 1)) (da_cons (de_v (pv 2)) da_nil))))) (ds_one (dp_expr (de_if (dt_cmp (sem_eq rfl (hu64 hr)) (dh_v (pv 0)) (dh_of de_int) (nomark _)) (de_cdX tk (CX_shows.more (by decide)) rfl hg hr rfl (da_cons (de_v (pv 1)) (da_cons (de_v (pv 2)) da_nil))) (de_cdX tk (CX_check_send.more (by decide)) rfl hg hr rfl (da_cons (de_v (pv 1)) (da_cons (de_v (pv 2)) (da_cons de_non da_nil)))))))))))))))))) (CdOk.as sc.nd (i := 4) rfl rfl (j := 3) rfl (by first | exact Or.inl rfl | exact Or.inr rfl) (by first | exact Or.inl rfl | exact Or.inr rfl) K_BadSize KF_BadSize rfl (fun a C oe cls d pn T1 T2 T3 T4 => (fd_two (fd_bare rfl T1 T2 T3 T4 (pv 4)))) (List.forall_mem_cons.mpr ⟨A_BadSize_BadCues, (List.forall_mem_cons.mpr ⟨A_BadSize_BadCode, (List.forall_mem_cons.mpr ⟨A_BadSize_OutOfPlace, (fun _ z => nomatch z)⟩)⟩)⟩) (CdOk.as sc.nd (i := 4) rfl rfl (j := 3) rfl (by first | exact Or.inl rfl | exact Or.inr rfl) (by first | exact Or.inl rfl | exact Or.inr rfl) K_BadCues KF_BadCues rfl (fun a C oe cls d pn T1 T2 T3 T4 => (fd_two (fd_bare rfl T1 T2 T3 T4 (pv 4)))) (List.forall_mem_cons.mpr ⟨A_BadCues_BadSize, (List.forall_mem_cons.mpr ⟨A_BadCues_BadCode, (List.forall_mem_cons.mpr ⟨A_BadCues_OutOfPlace, (fun _ z => nomatch z)⟩)⟩)⟩) (CdOk.as sc.nd (i := 4) rfl rfl (j := 3) rfl (by first | exact Or.inl rfl | exact Or.inr rfl) (by first | exact Or.inl rfl | exact Or.inr rfl) K_BadCode KF_BadCode rfl (fun a C oe cls d pn T1 T2 T3 T4 => (fd_two (fd_bare rfl T1 T2 T3 T4 (pv 4)))) (List.forall_mem_cons.mpr ⟨A_BadCode_BadSize, (List.forall_mem_cons.mpr ⟨A_BadCode_BadCues, (List.forall_mem_cons.mpr ⟨A_BadCode_OutOfPlace, (fun _ z => nomatch z)⟩)⟩)⟩) (CdOk.bare K_OutOfPlace rfl (fun a pn => s0_all (ds_one (dp_set sc.nd (i := 3) rfl (by first | exact Or.inl rfl | exact Or.inr rfl) de_str))) (List.forall_mem_cons.mpr ⟨A_OutOfPlace_BadSize, (List.forall_mem_cons.mpr ⟨A_OutOfPlace_BadCues, (List.forall_mem_cons.mpr ⟨A_OutOfPlace_BadCode, (fun _ z => nomatch z)⟩)⟩)⟩) CdOk.nil)))))
    (s0_one (s0_of (dp_ret (de_v (pv 3)))))))
abbrev st__law_cues_right : Stmt := topS 75
def names__law_cues_right : List Str := ["_law_m", "_law_size_here", "_law_text_here", "_law_first", "_law_last", "_law_odds", "_law_odd", "_law_bad", "_law_cues", "_law_at", "_law_way"]
theorem sc__law_cues_right : FnScope names__law_cues_right ["_law_m", "_law_size_here"] (defScope st__law_cues_right) := ⟨rfl, rfl, rfl, by decide +kernel, rfl, by decide +kernel, by decide +kernel⟩
theorem ok__law_cues_right {fa : Addr} {fd : FuncData} (T : Tx K gl) (F : L2.Fun K "_law_cues_right" "_law_cues_right" st__law_cues_right fa fd) (C__law_text : Cd pr wd K gl bas R 2 "_law_text" 2 r__law_text) (C__law_next : Cd pr wd K gl bas R 1 "_law_next" 2 s_next) (C__law_outcome : Cd pr wd K gl bas R 10 "_law_outcome" 3 r__law_outcome) : FnG pr wd K gl bas 11 fa fd ["_law_m", "_law_size_here"] (spD K R 2 r__law_cues_right) := by
  have sc := sc__law_cues_right
  refine FnG.data (g := g__law_cues_right) F sc rfl fun cdv A out sh H E q F hg hr => ?_
  exact (ds_cons (dp_set sc.nd (i := 2) rfl (by first | exact Or.inl rfl | exact Or.inr rfl) (de_cdO (i := 0) (C__law_text.more (by decide)) rfl hg hr rfl (da_ora (pv 0) (da_cons (de_v (pv 1)) da_nil))))
    (ds_cons (dp_par rfl sc.nd (i := 8) (j := 9) rfl rfl (by decide) rfl rfl (dl_cons (de_tup (dl_cons (de_tup (dl_cons de_int (dl_cons de_int (dl_cons (de_v (pv 2)) dl_nil)))) (dl_cons (de_tup (dl_cons de_int (dl_cons de_int (dl_cons (de_v (pv 2)) dl_nil)))) (dl_cons (de_tup (dl_cons de_int (dl_cons de_int (dl_cons (de_v (pv 2)) dl_nil)))) dl_nil)))) (dl_cons (de_cdO (i := 0) (C__law_next.more (by decide)) rfl hg hr rfl (da_ora (pv 0) (da_cons de_int da_nil))) dl_nil)) rfl)
    (ds_cons (dp_set sc.nd (i := 3) rfl (by first | exact Or.inl rfl | exact Or.inr rfl) (de_ix rfl (dh_of (de_ix rfl (dh_v (pv 8)) (dh_v (pv 9)) (fun _ _ => rfl))) (dh_of de_int) (fun _ _ => rfl)))
    (ds_cons (dp_set sc.nd (i := 4) rfl (by first | exact Or.inl rfl | exact Or.inr rfl) (de_ix rfl (dh_of (de_ix rfl (dh_v (pv 8)) (dh_v (pv 9)) (fun _ _ => rfl))) (dh_of de_int) (fun _ _ => rfl)))
    (ds_cons (dp_setN sc.nd (i := 5) rfl (by first | exact Or.inl rfl | exact Or.inr rfl) (dn_lst (dl_cons de_non (dl_cons (de_tup dl_nil) (dl_cons (de_sl rfl (dh_of (de_ix rfl (dh_v (pv 8)) (dh_v (pv 9)) (fun _ _ => rfl))) do_no (do_i de_int)) (dl_cons (de_tup (dl_cons (de_v (pv 3)) (dl_cons (de_v (pv 3)) (dl_cons (de_v (pv 2)) dl_nil)))) (dl_cons (de_tup (dl_cons (de_v (pv 3)) (dl_cons de_int (dl_cons (de_v (pv 2)) dl_nil)))) (dl_cons (de_tup (dl_cons (de_v (pv 3)) (dl_cons (de_v (pv 4)) (dl_cons (de_tup dl_nil) dl_nil)))) (dl_cons (de_tup (dl_cons (de_neg de_int) (dl_cons de_int (dl_cons (de_v (pv 2)) dl_nil)))) dl_nil)))))))))
    (ds_cons (dp_setN sc.nd (i := 5) rfl (by first | exact Or.inl rfl | exact Or.inr rfl) (dn_cat rfl (dh_v (pv 5)) (dh_of (de_n (dn_lst (dl_cons (de_tup (dl_cons (de_v (pv 3)) (dl_cons (de_v (pv 4)) (dl_cons (de_tup (dl_cons (de_bin (sem_mulS) (dh_of de_str) (dh_of (de_bin (sem_add rfl) (dh_of (de_ix rfl (dh_v (pv 1)) (dh_of de_int) (fun _ _ => rfl))) (dh_of de_int)))) dl_nil)) dl_nil)))) (dl_cons (de_tup (dl_cons (de_v (pv 3)) (dl_cons (de_v (pv 4)) (dl_cons (de_tup (dl_cons de_str dl_nil)) dl_nil)))) (dl_cons (de_tup (dl_cons de_bl (dl_cons de_int (dl_cons (de_v (pv 2)) dl_nil)))) dl_nil))))))))
    (ds_cons (dp_setN sc.nd (i := 5) rfl (by first | exact Or.inl rfl | exact Or.inr rfl) (dn_cat rfl (dh_v (pv 5)) (dh_of (de_n (dn_lst (dl_cons (de_tup (dl_cons (de_v (pv 3)) (dl_cons (de_v (pv 4)) (dl_cons (de_bin (sem_mulT rfl) (dh_of (de_tup (dl_cons de_str dl_nil))) (dh_of (de_bin (sem_add rfl) (dh_of (de_ix rfl (dh_v (pv 1)) (dh_of de_int) (fun _ _ => rfl))) (dh_of de_int)))) dl_nil)))) (dl_cons (de_tup (dl_cons (de_v (pv 3)) (dl_cons (de_v (pv 4)) (dl_cons de_str dl_nil)))) (dl_cons (de_tup (dl_cons (de_v (pv 3)) (dl_cons (de_ct (sem_strI) rfl T.n_str (by decide +kernel) (dg_cons (dh_of (de_bin (sem_add rfl) (dh_v (pv 3)) (dh_of de_int))) dg_nil)) (dl_cons (de_v (pv 2)) dl_nil)))) dl_nil))))))))
    (ds_cons (dp_app rfl (pv 5) (de_n (dn_list rfl rfl T.n_list (dg_cons (dh_of (de_ix rfl (dh_v (pv 8)) (dh_v (pv 9)) (fun _ _ => rfl))) dg_nil))))
    (ds_cons (dp_for PassesOwn.never rfl (di_seq rfl (de_v (pv 5))) (dg_name sc.nd (i := 6) rfl (by first | exact Or.inl rfl | exact Or.inr rfl)) (ds_cons (dp_set sc.nd (i := 7) rfl (by first | exact Or.inl rfl | exact Or.inr rfl) (de_bin (sem_add rfl) (dh_of (de_bin (sem_add rfl) (dh_of (de_sl rfl (dh_v (pv 8)) do_no (do_i (de_v (pv 9))))) (dh_of (de_tup (dl_cons (de_v (pv 6)) dl_nil))))) (dh_of (de_sl rfl (dh_v (pv 8)) (do_i (de_bin (sem_add rfl) (dh_v (pv 9)) (dh_of de_int))) do_no))))
    (ds_one (dp_if (dt_cmp (sem_ne rfl (hu64 hr)) (dh_of (de_n (dn_lc (own := [("_law_way", 10)]) rfl sc.nd (di_seq rfl (de_tup (dl_cons de_int (dl_cons de_int (dl_cons de_int dl_nil))))) (blkOk_by (own := [("_law_way", 10)]) (N := names__law_cues_right) (sc := defScope st__law_cues_right) (by decide +kernel)) (by decide) (fun _ _ _ _ _ => (dg_name sc.nd (i := 10) rfl (by first | exact Or.inl rfl | exact Or.inr rfl))) (fun _ _ _ _ _ => dts_nil) (fun _ _ _ _ _ => (de_cd (C__law_outcome.more (by decide)) rfl hg hr rfl (da_cons (de_v (pv 10)) (da_cons (de_v (pv 1)) (da_cons (de_v (pv 7)) da_nil)))))))) (dh_of (de_bin (sem_mul rfl) (dh_of (de_n (dn_lst (dl_cons (de_tup (dl_cons de_str (dl_cons (de_v (pv 9)) dl_nil))) dl_nil)))) (dh_of de_int))) (nomark _)) (ds_one (dp_ret de_bl)) ds_nil))))
    (ds_cons (dp_set sc.nd (i := 7) rfl (by first | exact Or.inl rfl | exact Or.inr rfl) (de_tup (dl_cons (de_tup (dl_cons de_int (dl_cons de_int (dl_cons (de_v (pv 2)) dl_nil)))) (dl_cons (de_tup (dl_cons de_int (dl_cons de_int (dl_cons (de_v (pv 2)) dl_nil)))) dl_nil))))
    (ds_one (dp_ret (de_cmp (sem_eq rfl (hu64 hr)) (dh_of (de_n (dn_lc (own := [("_law_way", 10)]) rfl sc.nd (di_seq rfl (de_tup (dl_cons de_int (dl_cons de_int (dl_cons de_int dl_nil))))) (blkOk_by (own := [("_law_way", 10)]) (N := names__law_cues_right) (sc := defScope st__law_cues_right) (by decide +kernel)) (by decide) (fun _ _ _ _ _ => (dg_name sc.nd (i := 10) rfl (by first | exact Or.inl rfl | exact Or.inr rfl))) (fun _ _ _ _ _ => dts_nil) (fun _ _ _ _ _ => (de_cd (C__law_outcome.more (by decide)) rfl hg hr rfl (da_cons (de_v (pv 10)) (da_cons (de_v (pv 1)) (da_cons (de_v (pv 7)) da_nil)))))))) (dh_of (de_bin (sem_mul rfl) (dh_of (de_n (dn_lst (dl_cons (de_tup (dl_cons de_str (dl_cons de_int dl_nil))) dl_nil)))) (dh_of de_int))) (nomark _))))))))))))))
abbrev st__law_next : Stmt := topS 71
def names__law_next : List Str := ["_law_m", "_law_total", "_law_k", "_law_cell", "_law_mixed", "_law_rest"]
theorem sc__law_next : FnScope names__law_next ["_law_m", "_law_total"] (defScope st__law_next) := ⟨rfl, rfl, rfl, by decide +kernel, rfl, by decide +kernel, by decide +kernel⟩
theorem ok__law_next {fa : Addr} {fd : FuncData} (T : Tx K gl) (F : L2.Fun K "_law_next" "_law_next" st__law_next fa fd) : FnG pr wd K gl bas 1 fa fd ["_law_m", "_law_total"] (spD K srcOrc 2 s_next) := by
  have nd := sc__law_next.nd
  refine FnG.of F sc__law_next (fun vs H Q E ⟨q, F0, as, m, P, w, pa, hl, _⟩ => by rw [paired_len pa, hl]; rfl) fun cdv A out sh H vs Q E hg hr ⟨qo, F0, as, m, P, w, pa, hl, ho, hq, hm, ⟨n, eas, n0, n1, m1, kP⟩, k0⟩ => ?_
  subst eas
  obtain ⟨v1, vs, rfl, a1, pa⟩ : ∃ v1 vs', vs = v1 :: vs' ∧ ArAt ⟨K, srcOrc, qo, F0, H⟩ F0 v1 .ora ∧ Paired (ArAt ⟨K, srcOrc, qo, F0, H⟩ F0) vs' [.d (.int n)] := by
    cases pa with
    | cons a b => (exact ⟨_, _, rfl, a, b⟩)
  obtain ⟨v2, rfl, a2⟩ : ∃ v2, vs = [v2] ∧ ArAt ⟨K, srcOrc, qo, F0, H⟩ F0 v2 (.d (.int n)) := by
    cases pa with
    | cons a b => cases b; exact ⟨_, rfl, a⟩
  obtain ⟨q, eq, rfl⟩ := a1
  cases (show qo = some q from eq)
  have e2 : v2 = .int n := by
    have z : At K F0 v2 (.int n) := a2
    cases z
    rfl
  subst e2
  obtain ⟨c, l, cs, ls, k, s0⟩ := w.or q rfl
  have hk : k ≤ m := by have := hm q rfl; rw [s0.spot] at this; exact this
  refine ⟨_, pss_cons (ps_while PassesOwn.never (PW.pt (pw_and (pt_cmpR (op_neD (hu64 hr)) (pe_dget (hu_of hr) (pv 0) pe_str (fun _ _ => rfl)) (pe_lst pa_nil) (nomark _)) (pw_and1 (pt_cmpR op_eq (pe_ix ix_list (pe_dget (hu_of hr) (pv 0) pe_str (fun _ _ => rfl)) pe_int (fun _ _ => rfl)) pe_int (nomark _)))))
      (pss_one (ps_dput (hu_of hr) (pv 0) pe_str (pe_slice sl_list (pe_dget (hu_of hr) (pv 0) pe_str (fun _ _ => rfl)) (po_some pe_int) po_none) rfl)))
    (pss_cons (ps_if (pt_cmpR (op_neD (hu64 hr)) (pe_dget (hu_of hr) (pv 0) pe_str (fun _ _ => rfl)) (pe_lst pa_nil) (nomark _))
      (pss_cons (ps_set (i := 5) nd rfl (Or.inl rfl) (pe_callTy call_int1 rfl T.n_int (by decide +kernel) (pa_cons (pe_ix ix_list (pe_dget (hu_of hr) (pv 0) pe_str (fun _ _ => rfl)) pe_int (fun _ _ => rfl)) pa_nil)))
        (pss_cons (ps_asg (pe_op op_fdiv (pv 5) (pv 1)) (pg_sub (pe_dget (hu_of hr) (pv 0) pe_str (fun _ _ => rfl)) pe_int set_list))
          (pss_one (ps_ret (pe_op op_mod (pv 5) (pv 1)))))) pss_nil)
    (pss_cons (ps_set (i := 2) nd rfl (Or.inl rfl) (pe_op op_add (pe_dget (hu_of hr) (pv 0) pe_str (fun _ _ => rfl)) pe_int))
    (pss_cons (ps_dput (hu_of hr) (pv 0) pe_str (pv 2) rfl)
    (pss_cons (ps_set (i := 3) nd rfl (Or.inl rfl) (pe_ifExp (pt_cmpR (op_neD (hu64 hr)) (pe_dget (hu_of hr) (pv 0) pe_str (fun _ _ => rfl)) (pe_lst pa_nil) (nomark _))
        (pe_ix ix_list (pe_dget (hu_of hr) (pv 0) pe_str (fun _ _ => rfl)) (pe_op op_mod (pe_callTy call_int1 rfl T.n_int (by decide +kernel) (pa_cons (pv 2) pa_nil)) (pe_callB call_len_seq rfl T.n_len (by decide +kernel) (pa_cons (pe_dget (hu_of hr) (pv 0) pe_str (fun _ _ => rfl)) pa_nil))) (fun _ _ => rfl)) pe_int))
    (pss_cons (ps_set (i := 4) nd rfl (Or.inl rfl) (pe_op op_mul (pe_callTy call_int1 rfl T.n_int (by decide +kernel) (pa_cons (pe_op op_add (pe_op op_add (pe_op op_mod (pe_callTy call_int1 rfl T.n_int (by decide +kernel) (pa_cons (pv 3) pa_nil)) pe_int) (pe_op op_mul pe_int (pv 2))) (pe_op op_mul (pe_op op_mul pe_int (pv 2)) (pv 2))) pa_nil)) pe_int))
    (pss_cons (ps_set (i := 4) nd rfl (Or.inl rfl) (pe_op op_mul (pe_callTy call_int1 rfl T.n_int (by decide +kernel) (pa_cons (pe_op op_add (pe_op op_mod (pe_callTy call_int1 rfl T.n_int (by decide +kernel) (pa_cons (pv 4) pa_nil)) pe_int) (pe_op op_mul pe_int (pv 2))) pa_nil)) pe_int))
    (pss_one (ps_ret (pe_op op_mod (pe_callTy call_int1 rfl T.n_int (by decide +kernel) (pa_cons (pe_op op_fdiv (pe_op op_mod (pe_callTy call_int1 rfl T.n_int (by decide +kernel) (pa_cons (pv 4) pa_nil)) pe_int) pe_int) pa_nil)) (pv 1)))))))))), ?_⟩
  have fin : ∀ (r : Int) (H' : Hp) (l' : Addr) (ls' : List Int) (k' : Nat), 0 ≤ r → r < n → SrcAt H' q c l' cs ls' k' → k' ≤ k + 1 → Tou q H H' → Q (.int r) H' := by
    intro r H' l' ls' k' r0 r1 s' hk' t'
    refine k0 (.int r) (m + 1) _ F0 H' (kP r r0 r1) (t'.world w ⟨_, _, _, _, _, s'⟩) (fun p e => ?_) (.int r)
    cases e
    rw [s'.spot]
    omega
  have modn : ∀ x : Int, 0 ≤ x % n ∧ x % n < n := fun x => ⟨Int.emod_nonneg x (by omega), Int.emod_lt_of_pos x n0⟩
  refine next_while s0 rfl fun l1 ls1 H1 s1 t1 => ?_
  refine ne_left s1 rfl fun H2 s2 t2 => ?_
  have t12 := t1.trans t2
  cases ls1 with
  | cons x r =>
    refine rdL s2 rfl ⟨l1, _, 0, .int x, rfl, rfl, SqL.of s2.dl, by simp [atI, ixN], .inl ⟨_, rfl, ?_⟩⟩
    refine ⟨_, rfl, _, rfl, _, _, rfl, rfl, ⟨n0, n1⟩, ?_⟩
    refine rdL s2 rfl ⟨l1, _, 0, 0, rfl, rfl, s2.dl, by simp [ixN], ?_⟩
    have e1 : ((x :: r).map V.int).set 0 (V.int (x / n)) = ((x / n) :: r).map V.int := rfl
    rw [e1]
    have s3 := s2.setV ((x / n) :: r) s2.nl
    refine ⟨_, rfl, _, rfl, _, _, rfl, rfl, n0, ?_⟩
    exact fin _ _ _ _ _ (modn x).1 (modn x).2 s3 (Nat.le_succ k) (t12.trans (Tou.putL s2))
  | nil =>
    refine rdS s2 rfl ⟨_, _, rfl, rfl, ?_⟩
    change L2.gName 2 (V.int ((k + 1 : Nat) : Int)) _ H2 _
    refine ⟨_, rfl, _, rfl, q, _, rfl, DPut.k (k := kS) s2.dq small3, ?_⟩
    have s3 : SrcAt (upd H2 q (.dK [(kC, .ref c), (kL, .ref l1), (kS, .int ((k + 1 : Nat) : Int))])) q c l1 cs [] (k + 1) := s2.setS (k + 1)
    have t3 := t12.trans (Tou.putQ (l' := l1) (v := .int ((k + 1 : Nat) : Int)) s2 (.inl rfl) (fun _ z => by cases z))
    rw [put_kS]
    have kb : ((k + 1 : Nat) : Int) < 2097152 := by omega
    have kn : (0 : Int) ≤ ((k + 1 : Nat) : Int) := by omega
    generalize ((k + 1 : Nat) : Int) = j at kb kn s3 t3
    refine cell_use s3 rfl rfl fun z H4 s4 t4 => ?_
    have small : ∀ i : Int, 0 ≤ i → i < 2097152 → (-(2 ^ 64) < i ∧ i < 2 ^ 64) := fun i a b => ⟨by omega, by omega⟩
    refine ⟨_, rfl, .inl ⟨_, rfl, ?_⟩⟩
    refine ⟨_, _, rfl, rfl, (by decide : (0 : Int) < 2147483629), ?_⟩
    refine ⟨_, rfl, _, _, rfl, rfl, .inl ⟨by decide, by decide⟩, ?_⟩
    refine ⟨_, _, rfl, rfl, ?_⟩
    refine ⟨_, rfl, _, _, rfl, rfl, .inl ⟨by decide, by decide⟩, ?_⟩
    refine ⟨_, rfl, _, _, rfl, rfl, .inr (small j kn kb), ?_⟩
    refine ⟨_, _, rfl, rfl, .inl ⟨_, rfl, ?_⟩⟩
    refine ⟨_, _, rfl, rfl, .inr ⟨by decide, by decide⟩, ?_⟩
    refine ⟨_, rfl, .inl ⟨_, rfl, ?_⟩⟩
    refine ⟨_, _, rfl, rfl, (by decide : (0 : Int) < 2147483647), ?_⟩
    refine ⟨_, rfl, _, _, rfl, rfl, .inl ⟨by decide, by decide⟩, ?_⟩
    refine ⟨_, _, rfl, rfl, .inl ⟨_, rfl, ?_⟩⟩
    refine ⟨_, _, rfl, rfl, .inr ⟨by decide, by decide⟩, ?_⟩
    refine ⟨_, rfl, .inl ⟨_, rfl, ?_⟩⟩
    refine ⟨_, _, rfl, rfl, (by decide : (0 : Int) < 2147483587), ?_⟩
    refine ⟨_, _, rfl, rfl, ⟨by decide, by decide⟩, .inl ⟨_, rfl, ?_⟩⟩
    refine ⟨_, rfl, _, _, rfl, rfl, n0, ?_⟩
    exact fin _ _ _ _ _ (modn _).1 (modn _).2 s4 (Nat.le_refl _) (t3.trans t4)
abbrev st__law_begun : Stmt := topS 70
def names__law_begun : List Str := ["_law_script", "_law_cell"]
theorem sc__law_begun : FnScope names__law_begun ["_law_script"] (defScope st__law_begun) := ⟨rfl, rfl, rfl, by decide +kernel, rfl, by decide +kernel, by decide +kernel⟩
theorem ok__law_begun {fa : Addr} {fd : FuncData} (T : Tx K gl) (F : L2.Fun K "_law_begun" "_law_begun" st__law_begun fa fd) : FnG pr wd K gl bas 1 fa fd ["_law_script"] (spBegun K) := by
  have sc := sc__law_begun
  refine FnG.of F sc (fun vs H Q E h => ?_) fun cdv A out sh H vs Q E hg hr h => ?_
  · obtain ⟨a, ns, rfl, _⟩ := h
    rfl
  obtain ⟨a, ns, rfl, sq, hl, k⟩ := h
  refine ⟨_, pss_one (ps_ret (pe_disp (pps_cons pe_str (dn_list (c := ⟨K, Orc.nil, none, H, H⟩) rfl rfl T.n_list (dg_cons (dh_v (pv 0)) dg_nil)) (pps_cons pe_str (dn_lc (c := ⟨K, Orc.nil, none, H, H⟩) (own := [("_law_cell", 1)]) rfl sc.nd (di_seq rfl (de_v (pv 0))) (blkOk_by (own := [("_law_cell", 1)]) (N := names__law_begun) (sc := defScope st__law_begun) (by decide +kernel)) (by decide) (fun _ _ _ _ _ => (dg_name sc.nd (i := 1) rfl (by first | exact Or.inl rfl | exact Or.inr rfl))) (fun _ _ _ _ _ => (dts_one (dt_cmp (sem_ge) (dh_v (pv 1)) (dh_of (de_bin (sem_pow) (dh_of de_int) (dh_of de_int))) (nomark _)))) (fun _ _ _ _ _ => (de_v (pv 1)))) (pps_cons pe_str pe_int pps_nil))) rfl rfl (by decide) (by decide))), ?_⟩
  have w : World Orc.nil none H H H H := World.start (Ex.refl H) (fun _ _ z => z) fun _ z => nomatch z
  have r : Rel ⟨K, Orc.nil, none, H, H⟩ H H (start names__law_begun [.ref a]) (startE names__law_begun.length [.d (.list (ns.map PyData.int))] 0) [] :=
    rel_start w (.cons (.lst sq (AtAll.ofInts ns)) .nil) (fun i z => by cases i with | zero => rfl | succ i => cases z) fun _ z => nomatch z
  exact disp_use r rfl rfl (made_data ns hl) (by omega) (Nat.le_trans (great_len ns) (by omega)) fun q c l H' e1 e2 e3 e4 s => k q c l _ _ H' e1 e2 e3 e4 s
abbrev st_law : Stmt := topS 76
def names_law : List Str := ["_law_script", "_law_m", "_law_turn", "_law_size_here", "_law_odd", "_law_odds", "_law_right", "_law_way", "_law_k"]
theorem sc_law : FnScope names_law ["_law_script"] (defScope st_law) := ⟨rfl, rfl, rfl, by decide +kernel, rfl, by decide +kernel, by decide +kernel⟩
theorem noIm (i : Nat) (d : D) : ([.ora 0, .no, .no, .no, .no, .no, .no, .no] : List Sl)[i]? ≠ some (.im d) := by
  intro e
  have := List.mem_of_getElem? e
  simp at this
theorem noOw {ns : List Int} (i : Nat) (d : D) : ([.im (.list (ns.map PyData.int)), .ora 0, .no, .no, .no, .no, .no, .no, .no] : List Sl)[i]? ≠ some (.ow d) := by
  intro e
  have := List.mem_of_getElem? e
  simp at this
theorem oneOra {ns : List Int} (i m : Nat) (e : ([.im (.list (ns.map PyData.int)), .ora 0, .no, .no, .no, .no, .no, .no, .no] : List Sl)[i]? = some (.ora m)) : i = 1 ∧ m = 0 := by
  have hi : i < 9 := by
    have := (List.getElem?_eq_some_iff.mp e).1
    simpa using this
  have : i = 0 ∨ i = 1 ∨ i = 2 ∨ i = 3 ∨ i = 4 ∨ i = 5 ∨ i = 6 ∨ i = 7 ∨ i = 8 := by omega
  rcases this with rfl | rfl | rfl | rfl | rfl | rfl | rfl | rfl | rfl <;> simp at e <;> simp [e]
theorem rel_law {K : PySem.W.Frag} {q c l a : Addr} {H H1 : Hp} {cs ls ns : List Int} (w : World srcOrc (some q) H H1 H H1) (sq : SqL K H a (ns.map V.int)) (s : SrcAt H1 q c l cs ls 0) :
    Rel ⟨K, srcOrc, some q, H, H1⟩ H H1 ((start names_law [.ref a]).set 1 (some (.ref q))) [.im (.list (ns.map PyData.int)), .ora 0, .no, .no, .no, .no, .no, .no, .no] [] := by
  refine ⟨w, ⟨rfl, fun i d e => ?_, fun i d e => ?_, fun i j d e b z => ?_, fun i n e => ?_, fun i j m n e1 e2 => ?_, (fun _ hp => nomatch hp), List.nodup_nil⟩⟩
  · rcases i with _ | i
    · cases e
      exact ⟨_, rfl, .lst sq (AtAll.ofInts ns)⟩
    · exact absurd e (noIm i d)
  · exact absurd e (noOw i d)
  · exact absurd z (noOw i d)
  · obtain ⟨rfl, rfl⟩ := oneOra i n e
    exact ⟨q, rfl, rfl, by rw [s.spot]; exact Nat.le_refl _⟩
  · rw [(oneOra i m e1).1, (oneOra j n e2).1]
def spLawG (K : PySem.W.Frag) : Sp := fun vs H Q _ => ∃ (a : Addr) (ns : List Int), vs = [.ref a] ∧ SqL K H a (ns.map V.int) ∧ ns.length ≤ 63 ∧ ∀ H', Q (.bl true) H'
theorem ok_law {fa fb : Addr} {fd fdb : FuncData} (T : Tx K gl) (F : L2.Fun K "law" "law" st_law fa fd) (Fb : FnG pr wd K gl bas 1 fb fdb ["_law_script"] (spBegun K)) (gb : gl "_law_begun" = some (.ref fb)) (kb : PySem.W.keepIn K (.ref fb) = true) (bb : Binds K fdb ["_law_script"] []) (C__law_size : Cd pr wd K gl bas srcOrc 2 "_law_size" 2 r__law_size) (C__law_outcome : Cd pr wd K gl bas srcOrc 10 "_law_outcome" 3 r__law_outcome) (C__law_cues_right : Cd pr wd K gl bas srcOrc 11 "_law_cues_right" 2 r__law_cues_right)
    (says : ∀ ns : List Int, ns.length ≤ 63 → lawSays ns) : FnG pr wd K gl bas 12 fa fd ["_law_script"] (spLawG K) := by
  have sc := sc_law
  refine FnG.of F sc (fun vs H Q E h => ?_) fun cdv A out sh H vs Q E hg hr h => ?_
  · obtain ⟨a, ns, rfl, _⟩ := h
    rfl
  obtain ⟨a, ns, rfl, sq, hl, k⟩ := h
  refine ⟨_, pss_cons (ps_set (i := 1) sc.nd rfl (by first | exact Or.inl rfl | exact Or.inr rfl) (pe_callG Fb hg (hr.mono (by decide)) rfl gb kb bb (pa_cons (pv 0) pa_nil)))
    (pss_some (ι := Option Addr × Hp × Hp) (t := fun i => tS ⟨K, srcOrc, i.1, i.2.1, i.2.2⟩ g_law) fun ⟨qo, F0, H0⟩ => ?_), ?_⟩
  · exact (ds_cons (dp_for PassesOwn.never rfl (di_range1 rfl T.n_range (dl_cons (de_bin (sem_add rfl) (dh_of de_int) (dh_of (de_cb (sem_min rfl rfl) rfl T.n_min (by decide +kernel) (dg_cons (dh_of (de_cb (sem_len rfl) rfl T.n_len (by decide +kernel) (dg_cons (dh_v (pv 0)) dg_nil))) (dg_cons (dh_of de_int) dg_nil))))) dl_nil)) (dg_name sc.nd (i := 2) rfl (by first | exact Or.inl rfl | exact Or.inr rfl)) (ds_cons (dp_set sc.nd (i := 3) rfl (by first | exact Or.inl rfl | exact Or.inr rfl) (de_cdO (i := 1) (C__law_size.more (by decide)) rfl hg hr rfl (da_ora (pv 1) (da_cons de_int da_nil))))
    (ds_cons (dp_for PassesOwn.never rfl (di_seq rfl (de_n (dn_lst (dl_cons de_non (dl_cons (de_tup (dl_cons de_int (dl_cons de_int dl_nil))) (dl_cons (de_tup (dl_cons de_int (dl_cons de_int dl_nil))) dl_nil)))))) (dg_name sc.nd (i := 4) rfl (by first | exact Or.inl rfl | exact Or.inr rfl)) (ds_one (dp_if (dt_cmp (sem_neS) (dh_of (de_cb (sem_reprA rfl hg (hu64 hr)) rfl T.n_repr (by decide +kernel) (dg_cons (dh_of (de_n (dn_lc (own := [("_law_way", 7)]) rfl sc.nd (di_range1 rfl T.n_range (dl_cons de_int dl_nil)) (blkOk_by (own := [("_law_way", 7)]) (N := names_law) (sc := defScope st_law) (by decide +kernel)) (by decide) (fun _ _ _ _ _ => (dg_name sc.nd (i := 7) rfl (by first | exact Or.inl rfl | exact Or.inr rfl))) (fun _ _ _ _ _ => dts_nil) (fun _ _ _ _ _ => (de_cd (C__law_outcome.more (by decide)) rfl hg hr rfl (da_cons (de_v (pv 7)) (da_cons (de_v (pv 4)) (da_cons de_non da_nil)))))))) dg_nil))) (dh_of (de_cb (sem_reprA rfl hg (hu64 hr)) rfl T.n_repr (by decide +kernel) (dg_cons (dh_of (de_bin (sem_mul rfl) (dh_of (de_n (dn_lst (dl_cons (de_tup (dl_cons de_str (dl_cons (de_v (pv 4)) dl_nil))) dl_nil)))) (dh_of de_int))) dg_nil))) (nomark _)) (ds_one (dp_ret de_bl)) ds_nil)))
    (ds_cons (dp_set sc.nd (i := 5) rfl (by first | exact Or.inl rfl | exact Or.inr rfl) (de_n (dn_lst (dl_cons de_non (dl_cons (de_tup dl_nil) (dl_cons de_str (dl_cons (de_tup (dl_cons de_str dl_nil)) (dl_cons (de_tup (dl_cons de_str dl_nil)) (dl_cons (de_tup (dl_cons de_str dl_nil)) (dl_cons (de_tup (dl_cons (de_bin (sem_mulS) (dh_of de_str) (dh_of (de_bin (sem_add rfl) (dh_of (de_ix rfl (dh_v (pv 3)) (dh_of de_int) (fun _ _ => rfl))) (dh_of de_int)))) dl_nil)) (dl_cons (de_bin (sem_mulT rfl) (dh_of (de_tup (dl_cons de_str dl_nil))) (dh_of (de_bin (sem_add rfl) (dh_of (de_ix rfl (dh_v (pv 3)) (dh_of de_int) (fun _ _ => rfl))) (dh_of de_int)))) dl_nil)))))))))))
    (ds_cons (dp_for PassesOwn.never rfl (di_seq rfl (de_bin (sem_add rfl) (dh_v (pv 5)) (dh_of (de_n (dn_lst (dl_cons (de_tup (dl_cons de_int dl_nil)) (dl_cons (de_n (dn_lst (dl_cons de_str dl_nil))) dl_nil))))))) (dg_name sc.nd (i := 4) rfl (by first | exact Or.inl rfl | exact Or.inr rfl)) (ds_one (dp_if (dt_cmp (sem_ne rfl (hu64 hr)) (dh_of (de_n (dn_lc (own := [("_law_way", 7)]) rfl sc.nd (di_seq rfl (de_tup (dl_cons de_int (dl_cons de_int dl_nil)))) (blkOk_by (own := [("_law_way", 7)]) (N := names_law) (sc := defScope st_law) (by decide +kernel)) (by decide) (fun _ _ _ _ _ => (dg_name sc.nd (i := 7) rfl (by first | exact Or.inl rfl | exact Or.inr rfl))) (fun _ _ _ _ _ => dts_nil) (fun _ _ _ _ _ => (de_cd (C__law_outcome.more (by decide)) rfl hg hr rfl (da_cons (de_v (pv 7)) (da_cons (de_v (pv 3)) (da_cons (de_v (pv 4)) da_nil)))))))) (dh_of (de_bin (sem_mul rfl) (dh_of (de_n (dn_lst (dl_cons de_str dl_nil)))) (dh_of de_int))) (nomark _)) (ds_one (dp_ret de_bl)) ds_nil)))
    (ds_cons (dp_set sc.nd (i := 6) rfl (by first | exact Or.inl rfl | exact Or.inr rfl) (de_bin (sem_mulT rfl) (dh_of (de_tup (dl_cons (de_bin (sem_mulS) (dh_of de_str) (dh_of (de_ix rfl (dh_v (pv 3)) (dh_of de_int) (fun _ _ => rfl)))) dl_nil))) (dh_of (de_ix rfl (dh_v (pv 3)) (dh_of de_int) (fun _ _ => rfl)))))
    (ds_cons (dp_set sc.nd (i := 5) rfl (by first | exact Or.inl rfl | exact Or.inr rfl) (de_n (dn_lst (dl_cons de_non (dl_cons (de_sl rfl (dh_v (pv 6)) (do_i de_int) do_no) (dl_cons (de_bin (sem_add rfl) (dh_v (pv 6)) (dh_v (pv 6))) (dl_cons (de_n (dn_list rfl rfl T.n_list (dg_cons (dh_v (pv 6)) dg_nil))) (dl_cons (de_bin (sem_mulT rfl) (dh_of (de_tup (dl_cons (de_bin (sem_add rfl) (dh_of (de_ix rfl (dh_v (pv 6)) (dh_of de_int) (fun _ _ => rfl))) (dh_of de_str)) dl_nil))) (dh_of (de_ix rfl (dh_v (pv 3)) (dh_of de_int) (fun _ _ => rfl)))) (dl_cons (de_bin (sem_mulT rfl) (dh_of (de_tup (dl_cons de_int dl_nil))) (dh_of (de_ix rfl (dh_v (pv 3)) (dh_of de_int) (fun _ _ => rfl)))) dl_nil)))))))))
    (ds_cons (dp_for PassesOwn.never rfl (di_seq rfl (de_bin (sem_add rfl) (dh_v (pv 5)) (dh_of (de_n (dn_lst (dl_cons (de_bin (sem_mulT rfl) (dh_of (de_tup (dl_cons (de_bin (sem_mulS) (dh_of de_str) (dh_of (de_ix rfl (dh_v (pv 3)) (dh_of de_int) (fun _ _ => rfl)))) dl_nil))) (dh_of (de_ix rfl (dh_v (pv 3)) (dh_of de_int) (fun _ _ => rfl)))) dl_nil)))))) (dg_name sc.nd (i := 4) rfl (by first | exact Or.inl rfl | exact Or.inr rfl)) (ds_one (dp_if (dt_cmp (sem_ne rfl (hu64 hr)) (dh_of (de_cd (C__law_outcome.more (by decide)) rfl hg hr rfl (da_cons de_int (da_cons (de_v (pv 3)) (da_cons (de_v (pv 4)) da_nil))))) (dh_of de_str) (nomark _)) (ds_one (dp_ret de_bl)) ds_nil)))
    (ds_cons (dp_if (dt_not (dt_truth rfl (dh_of (de_cdO (i := 1) (C__law_cues_right.more (by decide)) rfl hg hr rfl (da_ora (pv 1) (da_cons (de_v (pv 3)) da_nil)))))) (ds_one (dp_ret de_bl)) ds_nil)
    (ds_cons (dp_for PassesOwn.never rfl (di_seq rfl (de_n (dn_lst (dl_cons de_non (dl_cons (de_n (dn_lst dl_nil)) (dl_cons de_str (dl_cons de_int (dl_cons (de_ct (sem_tuple rfl) rfl T.n_tuple (by decide +kernel) (dg_cons (dh_of (de_n (dn_lc (own := [("_law_k", 8)]) rfl sc.nd (di_range1 rfl T.n_range (dl_cons de_int dl_nil)) (blkOk_by (own := [("_law_k", 8)]) (N := names_law) (sc := defScope st_law) (by decide +kernel)) (by decide) (fun _ _ _ _ _ => (dg_name sc.nd (i := 8) rfl (by first | exact Or.inl rfl | exact Or.inr rfl))) (fun _ _ _ _ _ => dts_nil) (fun _ _ _ _ _ => (de_tup (dl_cons (de_v (pv 8)) (dl_cons (de_bin (sem_add rfl) (dh_v (pv 8)) (dh_of de_int)) (dl_cons (de_tup (dl_cons de_str dl_nil)) dl_nil)))))))) dg_nil)) dl_nil)))))))) (dg_name sc.nd (i := 4) rfl (by first | exact Or.inl rfl | exact Or.inr rfl)) (ds_one (dp_if (dt_cmp (sem_ne rfl (hu64 hr)) (dh_of (de_n (dn_lc (own := [("_law_way", 7)]) rfl sc.nd (di_seq rfl (de_tup (dl_cons de_int (dl_cons de_int (dl_cons de_int dl_nil))))) (blkOk_by (own := [("_law_way", 7)]) (N := names_law) (sc := defScope st_law) (by decide +kernel)) (by decide) (fun _ _ _ _ _ => (dg_name sc.nd (i := 7) rfl (by first | exact Or.inl rfl | exact Or.inr rfl))) (fun _ _ _ _ _ => dts_nil) (fun _ _ _ _ _ => (de_cd (C__law_outcome.more (by decide)) rfl hg hr rfl (da_cons (de_v (pv 7)) (da_cons (de_v (pv 3)) (da_cons (de_v (pv 4)) da_nil)))))))) (dh_of (de_bin (sem_mul rfl) (dh_of (de_n (dn_lst (dl_cons (de_tup (dl_cons de_str (dl_cons de_non dl_nil))) dl_nil)))) (dh_of de_int))) (nomark _)) (ds_one (dp_ret de_bl)) ds_nil)))
    (ds_cons (dp_if (dt_cmp (sem_ne rfl (hu64 hr)) (dh_of (de_cd (C__law_outcome.more (by decide)) rfl hg hr rfl (da_cons de_int (da_cons (de_v (pv 3)) (da_cons (de_tup (dl_cons (de_tup (dl_cons de_str dl_nil)) (dl_cons (de_tup (dl_cons de_str dl_nil)) dl_nil))) da_nil))))) (dh_of (de_tup (dl_cons de_str (dl_cons de_int dl_nil)))) (nomark _)) (ds_one (dp_ret de_bl)) ds_nil)
    (ds_one (dp_if (dt_cmp (sem_ne rfl (hu64 hr)) (dh_of (de_cd (C__law_outcome.more (by decide)) rfl hg hr rfl (da_cons de_int (da_cons (de_v (pv 3)) (da_cons de_non da_nil))))) (dh_of (de_tup (dl_cons de_str (dl_cons de_non dl_nil)))) (nomark _)) (ds_one (dp_ret de_bl)) ds_nil)))))))))))))
    (ds_one (dp_ret de_bl)))
  refine ⟨.ref a, rfl, a, ns, rfl, sq, hl, fun q c l cs ls H1 ex hq hc hL s => ⟨(some q, H, H1), H, _, [], _, ?_, says ns hl, ?_, ?_, ?_, ?_⟩⟩
  · have w : World srcOrc (some q) H H1 H H1 := by
      refine World.start ex (fun b hb z => ?_) fun p e => ?_
      · rcases s.foot z with rfl | rfl | rfl
        · exact hb hq
        · exact hb hc
        · exact hb hL
      · cases e
        exact ⟨_, _, _, _, _, s⟩
    exact rel_law w sq s
  · exact fun _ _ _ _ z => z.elim
  · rintro d v ρ' σ' F' H' rfl _ at_
    cases at_
    exact k _
  · exact fun _ _ _ _ z => z.elim
  · exact fun _ _ _ _ z => z.elim
end
end Q25
namespace Q25
open PySem L2 DL
open PySem.W (nsIn keepIn codeIn fnOf)
theorem all_mk {l : PySem.W.OpenLaw} {wd : PySem.World} {K : PySem.W.Frag} {h : Heap} {gl : Str → Option Value} {fa : Addr} (X : K.In h) (G : h.Ns mainGlobals gl) (hfa : gl "law" = some (.ref fa))
    {f0 : Addr} {od0 an0 : Option Addr} {sl0 : Array (Option Value)} {oc0 kV0 dc0 pm0 cd0 ct0 : Value}
    (a0 : nsIn K mainGlobals "rolling_rows" = some (some (.ref f0))) (l0 : K.lookup f0 = some ⟨oc0, od0, .func (fnOf "rolling_rows" "rolling_rows" (defArgs st_rolling_rows) (defBody st_rolling_rows) (defScope st_rolling_rows) .none kV0 dc0 pm0 an0 cd0 ct0), sl0⟩) (c0 : codeIn K cd0 "rolling_rows" = true) (k0 : keepIn K (.ref f0) = true)
    {f1 : Addr} {od1 an1 : Option Addr} {sl1 : Array (Option Value)} {oc1 kV1 dc1 pm1 cd1 ct1 : Value}
    (a1 : nsIn K mainGlobals "control_behind" = some (some (.ref f1))) (l1 : K.lookup f1 = some ⟨oc1, od1, .func (fnOf "control_behind" "control_behind" (defArgs st_control_behind) (defBody st_control_behind) (defScope st_control_behind) .none kV1 dc1 pm1 an1 cd1 ct1), sl1⟩) (c1 : codeIn K cd1 "control_behind" = true) (k1 : keepIn K (.ref f1) = true)
    {f2 : Addr} {od2 an2 : Option Addr} {sl2 : Array (Option Value)} {oc2 kV2 dc2 pm2 cd2 ct2 : Value}
    (a2 : nsIn K mainGlobals "cursor_cell" = some (some (.ref f2))) (l2 : K.lookup f2 = some ⟨oc2, od2, .func (fnOf "cursor_cell" "cursor_cell" (defArgs st_cursor_cell) (defBody st_cursor_cell) (defScope st_cursor_cell) .none kV2 dc2 pm2 an2 cd2 ct2), sl2⟩) (c2 : codeIn K cd2 "cursor_cell" = true) (k2 : keepIn K (.ref f2) = true)
    {f3 : Addr} {od3 an3 : Option Addr} {sl3 : Array (Option Value)} {oc3 kV3 dc3 pm3 cd3 ct3 : Value}
    (a3 : nsIn K mainGlobals "with_cells" = some (some (.ref f3))) (l3 : K.lookup f3 = some ⟨oc3, od3, .func (fnOf "with_cells" "with_cells" (defArgs st_with_cells) (defBody st_with_cells) (defScope st_with_cells) .none kV3 dc3 pm3 an3 cd3 ct3), sl3⟩) (c3 : codeIn K cd3 "with_cells" = true) (k3 : keepIn K (.ref f3) = true)
    {f4 : Addr} {od4 an4 : Option Addr} {sl4 : Array (Option Value)} {oc4 kV4 dc4 pm4 cd4 ct4 : Value}
    (a4 : nsIn K mainGlobals "cells_behind" = some (some (.ref f4))) (l4 : K.lookup f4 = some ⟨oc4, od4, .func (fnOf "cells_behind" "cells_behind" (defArgs st_cells_behind) (defBody st_cells_behind) (defScope st_cells_behind) .none kV4 dc4 pm4 an4 cd4 ct4), sl4⟩) (c4 : codeIn K cd4 "cells_behind" = true) (k4 : keepIn K (.ref f4) = true)
    {f5 : Addr} {od5 an5 : Option Addr} {sl5 : Array (Option Value)} {oc5 kV5 dc5 pm5 cd5 ct5 : Value}
    (a5 : nsIn K mainGlobals "stepped" = some (some (.ref f5))) (l5 : K.lookup f5 = some ⟨oc5, od5, .func (fnOf "stepped" "stepped" (defArgs st_stepped) (defBody st_stepped) (defScope st_stepped) .none kV5 dc5 pm5 an5 cd5 ct5), sl5⟩) (c5 : codeIn K cd5 "stepped" = true) (k5 : keepIn K (.ref f5) = true)
    {f6 : Addr} {od6 an6 : Option Addr} {sl6 : Array (Option Value)} {oc6 kV6 dc6 pm6 cd6 ct6 : Value}
    (a6 : nsIn K mainGlobals "is_integer" = some (some (.ref f6))) (l6 : K.lookup f6 = some ⟨oc6, od6, .func (fnOf "is_integer" "is_integer" (defArgs st_is_integer) (defBody st_is_integer) (defScope st_is_integer) .none kV6 dc6 pm6 an6 cd6 ct6), sl6⟩) (c6 : codeIn K cd6 "is_integer" = true) (k6 : keepIn K (.ref f6) = true)
    {f7 : Addr} {od7 an7 : Option Addr} {sl7 : Array (Option Value)} {oc7 kV7 dc7 pm7 cd7 ct7 : Value}
    (a7 : nsIn K mainGlobals "is_within" = some (some (.ref f7))) (l7 : K.lookup f7 = some ⟨oc7, od7, .func (fnOf "is_within" "is_within" (defArgs st_is_within) (defBody st_is_within) (defScope st_is_within) .none kV7 dc7 pm7 an7 cd7 ct7), sl7⟩) (c7 : codeIn K cd7 "is_within" = true) (k7 : keepIn K (.ref f7) = true)
    {f8 : Addr} {od8 an8 : Option Addr} {sl8 : Array (Option Value)} {oc8 kV8 dc8 pm8 cd8 ct8 : Value}
    (a8 : nsIn K mainGlobals "is_tuple" = some (some (.ref f8))) (l8 : K.lookup f8 = some ⟨oc8, od8, .func (fnOf "is_tuple" "is_tuple" (defArgs st_is_tuple) (defBody st_is_tuple) (defScope st_is_tuple) .none kV8 dc8 pm8 an8 cd8 ct8), sl8⟩) (c8 : codeIn K cd8 "is_tuple" = true) (k8 : keepIn K (.ref f8) = true)
    {f9 : Addr} {od9 an9 : Option Addr} {sl9 : Array (Option Value)} {oc9 kV9 dc9 pm9 cd9 ct9 : Value}
    (a9 : nsIn K mainGlobals "is_one_of" = some (some (.ref f9))) (l9 : K.lookup f9 = some ⟨oc9, od9, .func (fnOf "is_one_of" "is_one_of" (defArgs st_is_one_of) (defBody st_is_one_of) (defScope st_is_one_of) .none kV9 dc9 pm9 an9 cd9 ct9), sl9⟩) (c9 : codeIn K cd9 "is_one_of" = true) (k9 : keepIn K (.ref f9) = true)
    {f10 : Addr} {od10 an10 : Option Addr} {sl10 : Array (Option Value)} {oc10 kV10 dc10 pm10 cd10 ct10 : Value}
    (a10 : nsIn K mainGlobals "is_sign" = some (some (.ref f10))) (l10 : K.lookup f10 = some ⟨oc10, od10, .func (fnOf "is_sign" "is_sign" (defArgs st_is_sign) (defBody st_is_sign) (defScope st_is_sign) .none kV10 dc10 pm10 an10 cd10 ct10), sl10⟩) (c10 : codeIn K cd10 "is_sign" = true) (k10 : keepIn K (.ref f10) = true)
    {f11 : Addr} {od11 an11 : Option Addr} {sl11 : Array (Option Value)} {oc11 kV11 dc11 pm11 cd11 ct11 : Value}
    (a11 : nsIn K mainGlobals "has_signs" = some (some (.ref f11))) (l11 : K.lookup f11 = some ⟨oc11, od11, .func (fnOf "has_signs" "has_signs" (defArgs st_has_signs) (defBody st_has_signs) (defScope st_has_signs) .none kV11 dc11 pm11 an11 cd11 ct11), sl11⟩) (c11 : codeIn K cd11 "has_signs" = true) (k11 : keepIn K (.ref f11) = true)
    {f12 : Addr} {od12 an12 : Option Addr} {sl12 : Array (Option Value)} {oc12 kV12 dc12 pm12 cd12 ct12 : Value}
    (a12 : nsIn K mainGlobals "need_screen" = some (some (.ref f12))) (l12 : K.lookup f12 = some ⟨oc12, od12, .func (fnOf "need_screen" "need_screen" (defArgs st_need_screen) (defBody st_need_screen) (defScope st_need_screen) .none kV12 dc12 pm12 an12 cd12 ct12), sl12⟩) (c12 : codeIn K cd12 "need_screen" = true) (k12 : keepIn K (.ref f12) = true)
    {f13 : Addr} {od13 an13 : Option Addr} {sl13 : Array (Option Value)} {oc13 kV13 dc13 pm13 cd13 ct13 : Value}
    (a13 : nsIn K mainGlobals "blank" = some (some (.ref f13))) (l13 : K.lookup f13 = some ⟨oc13, od13, .func (fnOf "blank" "blank" (defArgs st_blank) (defBody st_blank) (defScope st_blank) .none kV13 dc13 pm13 an13 cd13 ct13), sl13⟩) (c13 : codeIn K cd13 "blank" = true) (k13 : keepIn K (.ref f13) = true)
    {f14 : Addr} {od14 an14 : Option Addr} {sl14 : Array (Option Value)} {oc14 kV14 dc14 pm14 cd14 ct14 : Value}
    (a14 : nsIn K mainGlobals "first_state" = some (some (.ref f14))) (l14 : K.lookup f14 = some ⟨oc14, od14, .func (fnOf "first_state" "first_state" (defArgs st_first_state) (defBody st_first_state) (defScope st_first_state) .none kV14 dc14 pm14 an14 cd14 ct14), sl14⟩) (c14 : codeIn K cd14 "first_state" = true) (k14 : keepIn K (.ref f14) = true)
    {f15 : Addr} {od15 an15 : Option Addr} {sl15 : Array (Option Value)} {oc15 kV15 dc15 pm15 cd15 ct15 : Value}
    (a15 : nsIn K mainGlobals "is_cell_sign" = some (some (.ref f15))) (l15 : K.lookup f15 = some ⟨oc15, od15, .func (fnOf "is_cell_sign" "is_cell_sign" (defArgs st_is_cell_sign) (defBody st_is_cell_sign) (defScope st_is_cell_sign) .none kV15 dc15 pm15 an15 cd15 ct15), sl15⟩) (c15 : codeIn K cd15 "is_cell_sign" = true) (k15 : keepIn K (.ref f15) = true)
    {f16 : Addr} {od16 an16 : Option Addr} {sl16 : Array (Option Value)} {oc16 kV16 dc16 pm16 cd16 ct16 : Value}
    (a16 : nsIn K mainGlobals "is_code_of" = some (some (.ref f16))) (l16 : K.lookup f16 = some ⟨oc16, od16, .func (fnOf "is_code_of" "is_code_of" (defArgs st_is_code_of) (defBody st_is_code_of) (defScope st_is_code_of) .none kV16 dc16 pm16 an16 cd16 ct16), sl16⟩) (c16 : codeIn K cd16 "is_code_of" = true) (k16 : keepIn K (.ref f16) = true)
    {f17 : Addr} {od17 an17 : Option Addr} {sl17 : Array (Option Value)} {oc17 kV17 dc17 pm17 cd17 ct17 : Value}
    {T17 : Addr} {dT17 : Option Addr} {nT17 : Nat} {sT17 : Array (Option Value)} {u17_0 : Tok} {u17_1 : Tok} (a17 : nsIn K mainGlobals "need_codes" = some (some (.ref f17))) (l17 : K.lookup f17 = some ⟨oc17, od17, .func (fnOf "need_codes" "need_codes" (defArgs st_need_codes) (defBody st_need_codes) (defScope st_need_codes) (.ref T17) kV17 dc17 pm17 an17 cd17 ct17), sl17⟩) (d17 : K.lookup T17 = some ⟨.type "tuple", dT17, .seq #[.int 0 u17_0, .int 2000 u17_1] nT17, sT17⟩) (c17 : codeIn K cd17 "need_codes" = true) (k17 : keepIn K (.ref f17) = true)
    {f18 : Addr} {od18 an18 : Option Addr} {sl18 : Array (Option Value)} {oc18 kV18 dc18 pm18 cd18 ct18 : Value}
    (a18 : nsIn K mainGlobals "cells_of" = some (some (.ref f18))) (l18 : K.lookup f18 = some ⟨oc18, od18, .func (fnOf "cells_of" "cells_of" (defArgs st_cells_of) (defBody st_cells_of) (defScope st_cells_of) .none kV18 dc18 pm18 an18 cd18 ct18), sl18⟩) (c18 : codeIn K cd18 "cells_of" = true) (k18 : keepIn K (.ref f18) = true)
    {f19 : Addr} {od19 an19 : Option Addr} {sl19 : Array (Option Value)} {oc19 kV19 dc19 pm19 cd19 ct19 : Value}
    (a19 : nsIn K mainGlobals "memory_of" = some (some (.ref f19))) (l19 : K.lookup f19 = some ⟨oc19, od19, .func (fnOf "memory_of" "memory_of" (defArgs st_memory_of) (defBody st_memory_of) (defScope st_memory_of) .none kV19 dc19 pm19 an19 cd19 ct19), sl19⟩) (c19 : codeIn K cd19 "memory_of" = true) (k19 : keepIn K (.ref f19) = true)
    {f20 : Addr} {od20 an20 : Option Addr} {sl20 : Array (Option Value)} {oc20 kV20 dc20 pm20 cd20 ct20 : Value}
    (a20 : nsIn K mainGlobals "pictures" = some (some (.ref f20))) (l20 : K.lookup f20 = some ⟨oc20, od20, .func (fnOf "pictures" "pictures" (defArgs st_pictures) (defBody st_pictures) (defScope st_pictures) .none kV20 dc20 pm20 an20 cd20 ct20), sl20⟩) (c20 : codeIn K cd20 "pictures" = true) (k20 : keepIn K (.ref f20) = true)
    {f21 : Addr} {od21 an21 : Option Addr} {sl21 : Array (Option Value)} {oc21 kV21 dc21 pm21 cd21 ct21 : Value}
    {T21 : Addr} {dT21 : Option Addr} {nT21 : Nat} {sT21 : Array (Option Value)} {u21_0 : Tok} {u21_1 : Tok} (a21 : nsIn K mainGlobals "are_codes" = some (some (.ref f21))) (l21 : K.lookup f21 = some ⟨oc21, od21, .func (fnOf "are_codes" "are_codes" (defArgs st_are_codes) (defBody st_are_codes) (defScope st_are_codes) (.ref T21) kV21 dc21 pm21 an21 cd21 ct21), sl21⟩) (d21 : K.lookup T21 = some ⟨.type "tuple", dT21, .seq #[.int 0 u21_0, .int 2000 u21_1] nT21, sT21⟩) (c21 : codeIn K cd21 "are_codes" = true) (k21 : keepIn K (.ref f21) = true)
    {f22 : Addr} {od22 an22 : Option Addr} {sl22 : Array (Option Value)} {oc22 kV22 dc22 pm22 cd22 ct22 : Value}
    (a22 : nsIn K mainGlobals "_is_row" = some (some (.ref f22))) (l22 : K.lookup f22 = some ⟨oc22, od22, .func (fnOf "_is_row" "_is_row" (defArgs st__is_row) (defBody st__is_row) (defScope st__is_row) .none kV22 dc22 pm22 an22 cd22 ct22), sl22⟩) (c22 : codeIn K cd22 "_is_row" = true) (k22 : keepIn K (.ref f22) = true)
    {f23 : Addr} {od23 an23 : Option Addr} {sl23 : Array (Option Value)} {oc23 kV23 dc23 pm23 cd23 ct23 : Value}
    (a23 : nsIn K mainGlobals "is_memory_of" = some (some (.ref f23))) (l23 : K.lookup f23 = some ⟨oc23, od23, .func (fnOf "is_memory_of" "is_memory_of" (defArgs st_is_memory_of) (defBody st_is_memory_of) (defScope st_is_memory_of) .none kV23 dc23 pm23 an23 cd23 ct23), sl23⟩) (c23 : codeIn K cd23 "is_memory_of" = true) (k23 : keepIn K (.ref f23) = true)
    {f24 : Addr} {od24 an24 : Option Addr} {sl24 : Array (Option Value)} {oc24 kV24 dc24 pm24 cd24 ct24 : Value}
    (a24 : nsIn K mainGlobals "_is_line" = some (some (.ref f24))) (l24 : K.lookup f24 = some ⟨oc24, od24, .func (fnOf "_is_line" "_is_line" (defArgs st__is_line) (defBody st__is_line) (defScope st__is_line) .none kV24 dc24 pm24 an24 cd24 ct24), sl24⟩) (c24 : codeIn K cd24 "_is_line" = true) (k24 : keepIn K (.ref f24) = true)
    {f25 : Addr} {od25 an25 : Option Addr} {sl25 : Array (Option Value)} {oc25 kV25 dc25 pm25 cd25 ct25 : Value}
    (a25 : nsIn K mainGlobals "is_text" = some (some (.ref f25))) (l25 : K.lookup f25 = some ⟨oc25, od25, .func (fnOf "is_text" "is_text" (defArgs st_is_text) (defBody st_is_text) (defScope st_is_text) .none kV25 dc25 pm25 an25 cd25 ct25), sl25⟩) (c25 : codeIn K cd25 "is_text" = true) (k25 : keepIn K (.ref f25) = true)
    {f26 : Addr} {od26 an26 : Option Addr} {sl26 : Array (Option Value)} {oc26 kV26 dc26 pm26 cd26 ct26 : Value}
    (a26 : nsIn K mainGlobals "_has_room" = some (some (.ref f26))) (l26 : K.lookup f26 = some ⟨oc26, od26, .func (fnOf "_has_room" "_has_room" (defArgs st__has_room) (defBody st__has_room) (defScope st__has_room) .none kV26 dc26 pm26 an26 cd26 ct26), sl26⟩) (c26 : codeIn K cd26 "_has_room" = true) (k26 : keepIn K (.ref f26) = true)
    {f27 : Addr} {od27 an27 : Option Addr} {sl27 : Array (Option Value)} {oc27 kV27 dc27 pm27 cd27 ct27 : Value}
    (a27 : nsIn K mainGlobals "_need_text" = some (some (.ref f27))) (l27 : K.lookup f27 = some ⟨oc27, od27, .func (fnOf "_need_text" "_need_text" (defArgs st__need_text) (defBody st__need_text) (defScope st__need_text) .none kV27 dc27 pm27 an27 cd27 ct27), sl27⟩) (c27 : codeIn K cd27 "_need_text" = true) (k27 : keepIn K (.ref f27) = true)
    {f28 : Addr} {od28 an28 : Option Addr} {sl28 : Array (Option Value)} {oc28 kV28 dc28 pm28 cd28 ct28 : Value}
    (a28 : nsIn K mainGlobals "_load_of" = some (some (.ref f28))) (l28 : K.lookup f28 = some ⟨oc28, od28, .func (fnOf "_load_of" "_load_of" (defArgs st__load_of) (defBody st__load_of) (defScope st__load_of) .none kV28 dc28 pm28 an28 cd28 ct28), sl28⟩) (c28 : codeIn K cd28 "_load_of" = true) (k28 : keepIn K (.ref f28) = true)
    {f29 : Addr} {od29 an29 : Option Addr} {sl29 : Array (Option Value)} {oc29 kV29 dc29 pm29 cd29 ct29 : Value}
    (a29 : nsIn K mainGlobals "load" = some (some (.ref f29))) (l29 : K.lookup f29 = some ⟨oc29, od29, .func (fnOf "load" "load" (defArgs st_load) (defBody st_load) (defScope st_load) .none kV29 dc29 pm29 an29 cd29 ct29), sl29⟩) (c29 : codeIn K cd29 "load" = true) (k29 : keepIn K (.ref f29) = true)
    {f30 : Addr} {od30 an30 : Option Addr} {sl30 : Array (Option Value)} {oc30 kV30 dc30 pm30 cd30 ct30 : Value}
    (a30 : nsIn K mainGlobals "_picture_of" = some (some (.ref f30))) (l30 : K.lookup f30 = some ⟨oc30, od30, .func (fnOf "_picture_of" "_picture_of" (defArgs st__picture_of) (defBody st__picture_of) (defScope st__picture_of) .none kV30 dc30 pm30 an30 cd30 ct30), sl30⟩) (c30 : codeIn K cd30 "_picture_of" = true) (k30 : keepIn K (.ref f30) = true)
    {f31 : Addr} {od31 an31 : Option Addr} {sl31 : Array (Option Value)} {oc31 kV31 dc31 pm31 cd31 ct31 : Value}
    (a31 : nsIn K mainGlobals "picture_of" = some (some (.ref f31))) (l31 : K.lookup f31 = some ⟨oc31, od31, .func (fnOf "picture_of" "picture_of" (defArgs st_picture_of) (defBody st_picture_of) (defScope st_picture_of) .none kV31 dc31 pm31 an31 cd31 ct31), sl31⟩) (c31 : codeIn K cd31 "picture_of" = true) (k31 : keepIn K (.ref f31) = true)
    {f32 : Addr} {od32 an32 : Option Addr} {sl32 : Array (Option Value)} {oc32 kV32 dc32 pm32 cd32 ct32 : Value}
    (a32 : nsIn K mainGlobals "text_of" = some (some (.ref f32))) (l32 : K.lookup f32 = some ⟨oc32, od32, .func (fnOf "text_of" "text_of" (defArgs st_text_of) (defBody st_text_of) (defScope st_text_of) .none kV32 dc32 pm32 an32 cd32 ct32), sl32⟩) (c32 : codeIn K cd32 "text_of" = true) (k32 : keepIn K (.ref f32) = true)
    {f33 : Addr} {od33 an33 : Option Addr} {sl33 : Array (Option Value)} {oc33 kV33 dc33 pm33 cd33 ct33 : Value}
    (a33 : nsIn K mainGlobals "_is_sendable" = some (some (.ref f33))) (l33 : K.lookup f33 = some ⟨oc33, od33, .func (fnOf "_is_sendable" "_is_sendable" (defArgs st__is_sendable) (defBody st__is_sendable) (defScope st__is_sendable) .none kV33 dc33 pm33 an33 cd33 ct33), sl33⟩) (c33 : codeIn K cd33 "_is_sendable" = true) (k33 : keepIn K (.ref f33) = true)
    {f34 : Addr} {od34 an34 : Option Addr} {sl34 : Array (Option Value)} {oc34 kV34 dc34 pm34 cd34 ct34 : Value}
    (a34 : nsIn K mainGlobals "_need_cues" = some (some (.ref f34))) (l34 : K.lookup f34 = some ⟨oc34, od34, .func (fnOf "_need_cues" "_need_cues" (defArgs st__need_cues) (defBody st__need_cues) (defScope st__need_cues) .none kV34 dc34 pm34 an34 cd34 ct34), sl34⟩) (c34 : codeIn K cd34 "_need_cues" = true) (k34 : keepIn K (.ref f34) = true)
    {f35 : Addr} {od35 an35 : Option Addr} {sl35 : Array (Option Value)} {oc35 kV35 dc35 pm35 cd35 ct35 : Value}
    (a35 : nsIn K mainGlobals "_free_frames" = some (some (.ref f35))) (l35 : K.lookup f35 = some ⟨oc35, od35, .func (fnOf "_free_frames" "_free_frames" (defArgs st__free_frames) (defBody st__free_frames) (defScope st__free_frames) .none kV35 dc35 pm35 an35 cd35 ct35), sl35⟩) (c35 : codeIn K cd35 "_free_frames" = true) (k35 : keepIn K (.ref f35) = true)
    {f36 : Addr} {od36 an36 : Option Addr} {sl36 : Array (Option Value)} {oc36 kV36 dc36 pm36 cd36 ct36 : Value}
    (a36 : nsIn K mainGlobals "_first_short" = some (some (.ref f36))) (l36 : K.lookup f36 = some ⟨oc36, od36, .func (fnOf "_first_short" "_first_short" (defArgs st__first_short) (defBody st__first_short) (defScope st__first_short) .none kV36 dc36 pm36 an36 cd36 ct36), sl36⟩) (c36 : codeIn K cd36 "_first_short" = true) (k36 : keepIn K (.ref f36) = true)
    {f37 : Addr} {od37 an37 : Option Addr} {sl37 : Array (Option Value)} {oc37 kV37 dc37 pm37 cd37 ct37 : Value}
    (a37 : nsIn K mainGlobals "_stream_of" = some (some (.ref f37))) (l37 : K.lookup f37 = some ⟨oc37, od37, .func (fnOf "_stream_of" "_stream_of" (defArgs st__stream_of) (defBody st__stream_of) (defScope st__stream_of) .none kV37 dc37 pm37 an37 cd37 ct37), sl37⟩) (c37 : codeIn K cd37 "_stream_of" = true) (k37 : keepIn K (.ref f37) = true)
    {f38 : Addr} {od38 an38 : Option Addr} {sl38 : Array (Option Value)} {oc38 kV38 dc38 pm38 cd38 ct38 : Value}
    (a38 : nsIn K mainGlobals "send_paper" = some (some (.ref f38))) (l38 : K.lookup f38 = some ⟨oc38, od38, .func (fnOf "send_paper" "send_paper" (defArgs st_send_paper) (defBody st_send_paper) (defScope st_send_paper) .none kV38 dc38 pm38 an38 cd38 ct38), sl38⟩) (c38 : codeIn K cd38 "send_paper" = true) (k38 : keepIn K (.ref f38) = true)
    {f39 : Addr} {od39 an39 : Option Addr} {sl39 : Array (Option Value)} {oc39 kV39 dc39 pm39 cd39 ct39 : Value}
    (a39 : nsIn K mainGlobals "_sends" = some (some (.ref f39))) (l39 : K.lookup f39 = some ⟨oc39, od39, .func (fnOf "_sends" "_sends" (defArgs st__sends) (defBody st__sends) (defScope st__sends) .none kV39 dc39 pm39 an39 cd39 ct39), sl39⟩) (c39 : codeIn K cd39 "_sends" = true) (k39 : keepIn K (.ref f39) = true)
    {f40 : Addr} {od40 an40 : Option Addr} {sl40 : Array (Option Value)} {oc40 kV40 dc40 pm40 cd40 ct40 : Value}
    (a40 : nsIn K mainGlobals "check_send" = some (some (.ref f40))) (l40 : K.lookup f40 = some ⟨oc40, od40, .func (fnOf "check_send" "check_send" (defArgs st_check_send) (defBody st_check_send) (defScope st_check_send) .none kV40 dc40 pm40 an40 cd40 ct40), sl40⟩) (c40 : codeIn K cd40 "check_send" = true) (k40 : keepIn K (.ref f40) = true)
    {f41 : Addr} {od41 an41 : Option Addr} {sl41 : Array (Option Value)} {oc41 kV41 dc41 pm41 cd41 ct41 : Value}
    (a41 : nsIn K mainGlobals "put_off" = some (some (.ref f41))) (l41 : K.lookup f41 = some ⟨oc41, od41, .func (fnOf "put_off" "put_off" (defArgs st_put_off) (defBody st_put_off) (defScope st_put_off) .none kV41 dc41 pm41 an41 cd41 ct41), sl41⟩) (c41 : codeIn K cd41 "put_off" = true) (k41 : keepIn K (.ref f41) = true)
    {f42 : Addr} {od42 an42 : Option Addr} {sl42 : Array (Option Value)} {oc42 kV42 dc42 pm42 cd42 ct42 : Value}
    (a42 : nsIn K mainGlobals "shows" = some (some (.ref f42))) (l42 : K.lookup f42 = some ⟨oc42, od42, .func (fnOf "shows" "shows" (defArgs st_shows) (defBody st_shows) (defScope st_shows) .none kV42 dc42 pm42 an42 cd42 ct42), sl42⟩) (c42 : codeIn K cd42 "shows" = true) (k42 : keepIn K (.ref f42) = true)
    {f43 : Addr} {od43 an43 : Option Addr} {sl43 : Array (Option Value)} {oc43 kV43 dc43 pm43 cd43 ct43 : Value}
    (a43 : nsIn K mainGlobals "_law_size" = some (some (.ref f43))) (l43 : K.lookup f43 = some ⟨oc43, od43, .func (fnOf "_law_size" "_law_size" (defArgs st__law_size) (defBody st__law_size) (defScope st__law_size) .none kV43 dc43 pm43 an43 cd43 ct43), sl43⟩) (c43 : codeIn K cd43 "_law_size" = true) (k43 : keepIn K (.ref f43) = true)
    {f44 : Addr} {od44 an44 : Option Addr} {sl44 : Array (Option Value)} {oc44 kV44 dc44 pm44 cd44 ct44 : Value}
    (a44 : nsIn K mainGlobals "_law_text" = some (some (.ref f44))) (l44 : K.lookup f44 = some ⟨oc44, od44, .func (fnOf "_law_text" "_law_text" (defArgs st__law_text) (defBody st__law_text) (defScope st__law_text) .none kV44 dc44 pm44 an44 cd44 ct44), sl44⟩) (c44 : codeIn K cd44 "_law_text" = true) (k44 : keepIn K (.ref f44) = true)
    {f45 : Addr} {od45 an45 : Option Addr} {sl45 : Array (Option Value)} {oc45 kV45 dc45 pm45 cd45 ct45 : Value}
    (a45 : nsIn K mainGlobals "_law_outcome" = some (some (.ref f45))) (l45 : K.lookup f45 = some ⟨oc45, od45, .func (fnOf "_law_outcome" "_law_outcome" (defArgs st__law_outcome) (defBody st__law_outcome) (defScope st__law_outcome) .none kV45 dc45 pm45 an45 cd45 ct45), sl45⟩) (c45 : codeIn K cd45 "_law_outcome" = true) (k45 : keepIn K (.ref f45) = true)
    {f46 : Addr} {od46 an46 : Option Addr} {sl46 : Array (Option Value)} {oc46 kV46 dc46 pm46 cd46 ct46 : Value}
    (a46 : nsIn K mainGlobals "_law_cues_right" = some (some (.ref f46))) (l46 : K.lookup f46 = some ⟨oc46, od46, .func (fnOf "_law_cues_right" "_law_cues_right" (defArgs st__law_cues_right) (defBody st__law_cues_right) (defScope st__law_cues_right) .none kV46 dc46 pm46 an46 cd46 ct46), sl46⟩) (c46 : codeIn K cd46 "_law_cues_right" = true) (k46 : keepIn K (.ref f46) = true)
    {f47 : Addr} {od47 an47 : Option Addr} {sl47 : Array (Option Value)} {oc47 kV47 dc47 pm47 cd47 ct47 : Value}
    (a47 : nsIn K mainGlobals "_law_next" = some (some (.ref f47))) (l47 : K.lookup f47 = some ⟨oc47, od47, .func (fnOf "_law_next" "_law_next" (defArgs st__law_next) (defBody st__law_next) (defScope st__law_next) .none kV47 dc47 pm47 an47 cd47 ct47), sl47⟩) (c47 : codeIn K cd47 "_law_next" = true) (k47 : keepIn K (.ref f47) = true)
    {f48 : Addr} {od48 an48 : Option Addr} {sl48 : Array (Option Value)} {oc48 kV48 dc48 pm48 cd48 ct48 : Value}
    (a48 : nsIn K mainGlobals "_law_begun" = some (some (.ref f48))) (l48 : K.lookup f48 = some ⟨oc48, od48, .func (fnOf "_law_begun" "_law_begun" (defArgs st__law_begun) (defBody st__law_begun) (defScope st__law_begun) .none kV48 dc48 pm48 an48 cd48 ct48), sl48⟩) (c48 : codeIn K cd48 "_law_begun" = true) (k48 : keepIn K (.ref f48) = true)
    {f49 : Addr} {od49 an49 : Option Addr} {sl49 : Array (Option Value)} {oc49 kV49 dc49 pm49 cd49 ct49 : Value}
    (a49 : nsIn K mainGlobals "law" = some (some (.ref f49))) (l49 : K.lookup f49 = some ⟨oc49, od49, .func (fnOf "law" "law" (defArgs st_law) (defBody st_law) (defScope st_law) .none kV49 dc49 pm49 an49 cd49 ct49), sl49⟩) (c49 : codeIn K cd49 "law" = true) (k49 : keepIn K (.ref f49) = true)
    {C0 gI0 : Addr} {nm0 qq0 : Str} {N0 : Addr} {bs0 : List Value} {sn0 : List Str} {sub0 : List Value} {ab0 : Bool} {col0 : Option Bool} {dd0 : Option Addr} {ma0 mb0 mc0 md0 mf0 : Option Value} {iod0 ian0 : Option Addr} {isl0 : Array (Option Value)} {ioc0 ikV0 idc0 ipm0 icd0 ict0 : Value}
    (xa0 : nsIn K mainGlobals "BadSize" = some (some (.ref C0))) (xl0 : K.lookup C0 = some (PySem.excClassObj nm0 qq0 C0 N0 bs0 [.type "ValueError", .type "Exception", .type "BaseException", .type "object"] true sn0 sub0 ab0 col0 dd0 ma0 mb0 mc0 md0 mf0 "ValueError.__new__"))
    (xs0 : PySem.W.findIn K (.ref C0) "__setattr__" = some (some (.builtin "object.__setattr__"))) (xe0 : PySem.W.subIn K (.ref C0) (.type "BaseException") = some true) (xt0 : PySem.W.typeIn K (.ref C0) = some (.type "type")) (xk0 : keepIn K (.ref C0) = true) (xc0 : PySem.W.isClsIn K C0 = true) (xb0 : PySem.W.subIn K (.ref C0) (.ref C0) = some true)
    (xi0 : PySem.W.findIn K (.ref C0) "__init__" = some (some (.ref gI0))) (xy0 : PySem.W.typeIn K (.ref gI0) = some (.type "function")) (xf0 : K.lookup gI0 = some ⟨ioc0, iod0, .func (fnOf "__init__" "BadSize.__init__" (defArgs st_BadSize) (defBody st_BadSize) (defScope st_BadSize) .none ikV0 idc0 ipm0 ian0 icd0 ict0), isl0⟩) (xd0 : codeIn K icd0 "BadSize.__init__" = true) (xg0 : keepIn K (.ref gI0) = true)
    (xn0 : PySem.W.findIn K (.ref C0) "value" = some none)
    {C1 gI1 : Addr} {nm1 qq1 : Str} {N1 : Addr} {bs1 : List Value} {sn1 : List Str} {sub1 : List Value} {ab1 : Bool} {col1 : Option Bool} {dd1 : Option Addr} {ma1 mb1 mc1 md1 mf1 : Option Value} {iod1 ian1 : Option Addr} {isl1 : Array (Option Value)} {ioc1 ikV1 idc1 ipm1 icd1 ict1 : Value}
    (xa1 : nsIn K mainGlobals "BadCode" = some (some (.ref C1))) (xl1 : K.lookup C1 = some (PySem.excClassObj nm1 qq1 C1 N1 bs1 [.type "ValueError", .type "Exception", .type "BaseException", .type "object"] true sn1 sub1 ab1 col1 dd1 ma1 mb1 mc1 md1 mf1 "ValueError.__new__"))
    (xs1 : PySem.W.findIn K (.ref C1) "__setattr__" = some (some (.builtin "object.__setattr__"))) (xe1 : PySem.W.subIn K (.ref C1) (.type "BaseException") = some true) (xt1 : PySem.W.typeIn K (.ref C1) = some (.type "type")) (xk1 : keepIn K (.ref C1) = true) (xc1 : PySem.W.isClsIn K C1 = true) (xb1 : PySem.W.subIn K (.ref C1) (.ref C1) = some true)
    (xi1 : PySem.W.findIn K (.ref C1) "__init__" = some (some (.ref gI1))) (xy1 : PySem.W.typeIn K (.ref gI1) = some (.type "function")) (xf1 : K.lookup gI1 = some ⟨ioc1, iod1, .func (fnOf "__init__" "BadCode.__init__" (defArgs st_BadCode) (defBody st_BadCode) (defScope st_BadCode) .none ikV1 idc1 ipm1 ian1 icd1 ict1), isl1⟩) (xd1 : codeIn K icd1 "BadCode.__init__" = true) (xg1 : keepIn K (.ref gI1) = true)
    (xn1 : PySem.W.findIn K (.ref C1) "place" = some none)
    {C2 gI2 : Addr} {nm2 qq2 : Str} {N2 : Addr} {bs2 : List Value} {sn2 : List Str} {sub2 : List Value} {ab2 : Bool} {col2 : Option Bool} {dd2 : Option Addr} {ma2 mb2 mc2 md2 mf2 : Option Value} {iod2 ian2 : Option Addr} {isl2 : Array (Option Value)} {ioc2 ikV2 idc2 ipm2 icd2 ict2 : Value}
    (xa2 : nsIn K mainGlobals "OutOfPlace" = some (some (.ref C2))) (xl2 : K.lookup C2 = some (PySem.excClassObj nm2 qq2 C2 N2 bs2 [.type "ValueError", .type "Exception", .type "BaseException", .type "object"] true sn2 sub2 ab2 col2 dd2 ma2 mb2 mc2 md2 mf2 "ValueError.__new__"))
    (xs2 : PySem.W.findIn K (.ref C2) "__setattr__" = some (some (.builtin "object.__setattr__"))) (xe2 : PySem.W.subIn K (.ref C2) (.type "BaseException") = some true) (xt2 : PySem.W.typeIn K (.ref C2) = some (.type "type")) (xk2 : keepIn K (.ref C2) = true) (xc2 : PySem.W.isClsIn K C2 = true) (xb2 : PySem.W.subIn K (.ref C2) (.ref C2) = some true)
    (xi2 : PySem.W.findIn K (.ref C2) "__init__" = some (some (.ref gI2))) (xy2 : PySem.W.typeIn K (.ref gI2) = some (.type "function")) (xf2 : K.lookup gI2 = some ⟨ioc2, iod2, .func (fnOf "__init__" "OutOfPlace.__init__" (defArgs st_OutOfPlace) (defBody st_OutOfPlace) (defScope st_OutOfPlace) .none ikV2 idc2 ipm2 ian2 icd2 ict2), isl2⟩) (xd2 : codeIn K icd2 "OutOfPlace.__init__" = true) (xg2 : keepIn K (.ref gI2) = true)
    {C3 gI3 : Addr} {nm3 qq3 : Str} {N3 : Addr} {bs3 : List Value} {sn3 : List Str} {sub3 : List Value} {ab3 : Bool} {col3 : Option Bool} {dd3 : Option Addr} {ma3 mb3 mc3 md3 mf3 : Option Value} {iod3 ian3 : Option Addr} {isl3 : Array (Option Value)} {ioc3 ikV3 idc3 ipm3 icd3 ict3 : Value}
    (xa3 : nsIn K mainGlobals "BadCues" = some (some (.ref C3))) (xl3 : K.lookup C3 = some (PySem.excClassObj nm3 qq3 C3 N3 bs3 [.type "ValueError", .type "Exception", .type "BaseException", .type "object"] true sn3 sub3 ab3 col3 dd3 ma3 mb3 mc3 md3 mf3 "ValueError.__new__"))
    (xs3 : PySem.W.findIn K (.ref C3) "__setattr__" = some (some (.builtin "object.__setattr__"))) (xe3 : PySem.W.subIn K (.ref C3) (.type "BaseException") = some true) (xt3 : PySem.W.typeIn K (.ref C3) = some (.type "type")) (xk3 : keepIn K (.ref C3) = true) (xc3 : PySem.W.isClsIn K C3 = true) (xb3 : PySem.W.subIn K (.ref C3) (.ref C3) = some true)
    (xi3 : PySem.W.findIn K (.ref C3) "__init__" = some (some (.ref gI3))) (xy3 : PySem.W.typeIn K (.ref gI3) = some (.type "function")) (xf3 : K.lookup gI3 = some ⟨ioc3, iod3, .func (fnOf "__init__" "BadCues.__init__" (defArgs st_BadCues) (defBody st_BadCues) (defScope st_BadCues) .none ikV3 idc3 ipm3 ian3 icd3 ict3), isl3⟩) (xd3 : codeIn K icd3 "BadCues.__init__" = true) (xg3 : keepIn K (.ref gI3) = true)
    (xn3 : PySem.W.findIn K (.ref C3) "number" = some none)
    {C4 gI4 : Addr} {nm4 qq4 : Str} {N4 : Addr} {bs4 : List Value} {sn4 : List Str} {sub4 : List Value} {ab4 : Bool} {col4 : Option Bool} {dd4 : Option Addr} {ma4 mb4 mc4 md4 mf4 : Option Value} {iod4 ian4 : Option Addr} {isl4 : Array (Option Value)} {ioc4 ikV4 idc4 ipm4 icd4 ict4 : Value}
    (xa4 : nsIn K mainGlobals "BadPaper" = some (some (.ref C4))) (xl4 : K.lookup C4 = some (PySem.excClassObj nm4 qq4 C4 N4 bs4 [.type "ValueError", .type "Exception", .type "BaseException", .type "object"] true sn4 sub4 ab4 col4 dd4 ma4 mb4 mc4 md4 mf4 "ValueError.__new__"))
    (xs4 : PySem.W.findIn K (.ref C4) "__setattr__" = some (some (.builtin "object.__setattr__"))) (xe4 : PySem.W.subIn K (.ref C4) (.type "BaseException") = some true) (xt4 : PySem.W.typeIn K (.ref C4) = some (.type "type")) (xk4 : keepIn K (.ref C4) = true) (xc4 : PySem.W.isClsIn K C4 = true) (xb4 : PySem.W.subIn K (.ref C4) (.ref C4) = some true)
    (xi4 : PySem.W.findIn K (.ref C4) "__init__" = some (some (.ref gI4))) (xy4 : PySem.W.typeIn K (.ref gI4) = some (.type "function")) (xf4 : K.lookup gI4 = some ⟨ioc4, iod4, .func (fnOf "__init__" "BadPaper.__init__" (defArgs st_BadPaper) (defBody st_BadPaper) (defScope st_BadPaper) .none ikV4 idc4 ipm4 ian4 icd4 ict4), isl4⟩) (xd4 : codeIn K icd4 "BadPaper.__init__" = true) (xg4 : keepIn K (.ref gI4) = true)
    (xn4 : PySem.W.findIn K (.ref C4) "part" = some none)
    (xp0 : PySem.W.findIn K (.ref C0) "__getattribute__" = some (some (.builtin "BaseException.__getattribute__"))) (xq0 : PySem.W.findIn K (.ref C0) "__getattr__" = some none) (xr0 : PySem.W.hasDictIn K C0 = true)
    (xp1 : PySem.W.findIn K (.ref C1) "__getattribute__" = some (some (.builtin "BaseException.__getattribute__"))) (xq1 : PySem.W.findIn K (.ref C1) "__getattr__" = some none) (xr1 : PySem.W.hasDictIn K C1 = true)
    (xp3 : PySem.W.findIn K (.ref C3) "__getattribute__" = some (some (.builtin "BaseException.__getattribute__"))) (xq3 : PySem.W.findIn K (.ref C3) "__getattr__" = some none) (xr3 : PySem.W.hasDictIn K C3 = true)
    (xz3_1 : PySem.W.subIn K (.ref C3) (.ref C1) = some false)
    (xz0_1 : PySem.W.subIn K (.ref C0) (.ref C1) = some false)
    (xz2_1 : PySem.W.subIn K (.ref C2) (.ref C1) = some false)
    (xz1_3 : PySem.W.subIn K (.ref C1) (.ref C3) = some false)
    (xz0_3 : PySem.W.subIn K (.ref C0) (.ref C3) = some false)
    (xz2_3 : PySem.W.subIn K (.ref C2) (.ref C3) = some false)
    (xz1_0 : PySem.W.subIn K (.ref C1) (.ref C0) = some false)
    (xz3_0 : PySem.W.subIn K (.ref C3) (.ref C0) = some false)
    (xz2_0 : PySem.W.subIn K (.ref C2) (.ref C0) = some false)
    (xz1_2 : PySem.W.subIn K (.ref C1) (.ref C2) = some false)
    (xz3_2 : PySem.W.subIn K (.ref C3) (.ref C2) = some false)
    (xz0_2 : PySem.W.subIn K (.ref C0) (.ref C2) = some false)
    (xvV : PySem.W.findCls K (.type "ValueError") (.type "type") "__init__" = some (.val (.builtin "ValueError.__init__")))
    (z_ValueError : nsIn K mainGlobals "ValueError" = some none)
    (z_all : nsIn K mainGlobals "all" = some none)
    (z_bool : nsIn K mainGlobals "bool" = some none)
    (z_enumerate : nsIn K mainGlobals "enumerate" = some none)
    (z_int : nsIn K mainGlobals "int" = some none)
    (z_isinstance : nsIn K mainGlobals "isinstance" = some none)
    (z_len : nsIn K mainGlobals "len" = some none)
    (z_list : nsIn K mainGlobals "list" = some none)
    (z_max : nsIn K mainGlobals "max" = some none)
    (z_min : nsIn K mainGlobals "min" = some none)
    (z_ord : nsIn K mainGlobals "ord" = some none)
    (z_range : nsIn K mainGlobals "range" = some none)
    (z_repr : nsIn K mainGlobals "repr" = some none)
    (z_str : nsIn K mainGlobals "str" = some none)
    (z_tuple : nsIn K mainGlobals "tuple" = some none)
    {t_BLANK_SIGN : Tok} (v_BLANK_SIGN : nsIn K mainGlobals "BLANK_SIGN" = some (some (.str (" " : Str) t_BLANK_SIGN)))
    {t_HIDE : Tok} (v_HIDE : nsIn K mainGlobals "HIDE" = some (some (.str ("hide" : Str) t_HIDE)))
    {t_LAST_FRAME : Tok} (v_LAST_FRAME : nsIn K mainGlobals "LAST_FRAME" = some (some (.int 1999 t_LAST_FRAME)))
    {u_LONE_WORDS : Addr} {dd_LONE_WORDS : Option Addr} {nn_LONE_WORDS : Nat} {sl_LONE_WORDS : Array (Option Value)} {k0_LONE_WORDS : Tok} {k1_LONE_WORDS : Tok} {k2_LONE_WORDS : Tok} {k3_LONE_WORDS : Tok} {k4_LONE_WORDS : Tok} {k5_LONE_WORDS : Tok} {k6_LONE_WORDS : Tok} {k7_LONE_WORDS : Tok} {k8_LONE_WORDS : Tok} (v_LONE_WORDS : nsIn K mainGlobals "LONE_WORDS" = some (some (.ref u_LONE_WORDS))) (w_LONE_WORDS : K.lookup u_LONE_WORDS = some ⟨.type "tuple", dd_LONE_WORDS, .seq #[.str "hide" k0_LONE_WORDS, .str "paint" k1_LONE_WORDS, .str "line" k2_LONE_WORDS, .str "swap" k3_LONE_WORDS, .str "wipe" k4_LONE_WORDS, .str "clear" k5_LONE_WORDS, .str "rub" k6_LONE_WORDS, .str "tail" k7_LONE_WORDS, .str "idle" k8_LONE_WORDS] nn_LONE_WORDS, sl_LONE_WORDS⟩)
    {t_LOWEST_OF_CELLS : Tok} (v_LOWEST_OF_CELLS : nsIn K mainGlobals "LOWEST_OF_CELLS" = some (some (.int 32 t_LOWEST_OF_CELLS)))
    {t_LOWEST_OF_LINES : Tok} (v_LOWEST_OF_LINES : nsIn K mainGlobals "LOWEST_OF_LINES" = some (some (.int 32 t_LOWEST_OF_LINES)))
    {t_MOST_COLUMNS : Tok} (v_MOST_COLUMNS : nsIn K mainGlobals "MOST_COLUMNS" = some (some (.int 40 t_MOST_COLUMNS)))
    {t_MOST_LINES : Tok} (v_MOST_LINES : nsIn K mainGlobals "MOST_LINES" = some (some (.int 4 t_MOST_LINES)))
    {t_MOST_ROWS : Tok} (v_MOST_ROWS : nsIn K mainGlobals "MOST_ROWS" = some (some (.int 4 t_MOST_ROWS)))
    {t_MOST_SENDABLE : Tok} (v_MOST_SENDABLE : nsIn K mainGlobals "MOST_SENDABLE" = some (some (.int 200 t_MOST_SENDABLE)))
    {t_MOST_SIGNS : Tok} (v_MOST_SIGNS : nsIn K mainGlobals "MOST_SIGNS" = some (some (.int 40 t_MOST_SIGNS)))
    {t_PERCENT : Tok} (v_PERCENT : nsIn K mainGlobals "PERCENT" = some (some (.int 37 t_PERCENT)))
    {t_ROLL : Tok} (v_ROLL : nsIn K mainGlobals "ROLL" = some (some (.str ("roll" : Str) t_ROLL)))
    {t_TILDE : Tok} (v_TILDE : nsIn K mainGlobals "TILDE" = some (some (.int 126 t_TILDE)))
    (says : ∀ ns : List Int, ns.length ≤ 63 → lawSays ns) :
    ∃ fd : FuncData, (∀ (s : Shared) (v : Value), BindsTo s fd ⟨[v], []⟩ [("_law_script", v)]) ∧ ∀ bas : Heap, K.In bas → bas.Ns mainGlobals gl → FnG l.prog wd K gl bas 12 fa fd ["_law_script"] (spLawG K) := by
  have e := hfa.symm.trans (PySem.W.mg_of X G a49)
  cases e
  have T : Tx K gl := ⟨PySem.W.mg_none_of X G z_ValueError, PySem.W.mg_none_of X G z_all, PySem.W.mg_none_of X G z_bool, PySem.W.mg_none_of X G z_enumerate, PySem.W.mg_none_of X G z_int, PySem.W.mg_none_of X G z_isinstance, PySem.W.mg_none_of X G z_len, PySem.W.mg_none_of X G z_list, PySem.W.mg_none_of X G z_max, PySem.W.mg_none_of X G z_min, PySem.W.mg_none_of X G z_ord, PySem.W.mg_none_of X G z_range, PySem.W.mg_none_of X G z_repr, PySem.W.mg_none_of X G z_str, PySem.W.mg_none_of X G z_tuple, ⟨_, PySem.W.mg_of X G v_BLANK_SIGN⟩, ⟨_, PySem.W.mg_of X G v_HIDE⟩, ⟨_, PySem.W.mg_of X G v_LAST_FRAME⟩, ⟨_, PySem.W.mg_of X G v_LONE_WORDS, at_top w_LONE_WORDS (Nat.le_of_ble_eq_true rfl) (.cons ⟨_, rfl⟩ (.cons ⟨_, rfl⟩ (.cons ⟨_, rfl⟩ (.cons ⟨_, rfl⟩ (.cons ⟨_, rfl⟩ (.cons ⟨_, rfl⟩ (.cons ⟨_, rfl⟩ (.cons ⟨_, rfl⟩ (.cons ⟨_, rfl⟩ .nil)))))))))⟩, ⟨_, PySem.W.mg_of X G v_LOWEST_OF_CELLS⟩, ⟨_, PySem.W.mg_of X G v_LOWEST_OF_LINES⟩, ⟨_, PySem.W.mg_of X G v_MOST_COLUMNS⟩, ⟨_, PySem.W.mg_of X G v_MOST_LINES⟩, ⟨_, PySem.W.mg_of X G v_MOST_ROWS⟩, ⟨_, PySem.W.mg_of X G v_MOST_SENDABLE⟩, ⟨_, PySem.W.mg_of X G v_MOST_SIGNS⟩, ⟨_, PySem.W.mg_of X G v_PERCENT⟩, ⟨_, PySem.W.mg_of X G v_ROLL⟩, ⟨_, PySem.W.mg_of X G v_TILDE⟩⟩
  have F0 := fun_mk (st := st_rolling_rows) l0 c0 k0
  have b0 := F0.binds (ps := ["mode"]) fun _ _ _ _ _ _ us hl => match us, hl with | [_], _ => rfl
  have F1 := fun_mk (st := st_control_behind) l1 c1 k1
  have b1 := F1.binds (ps := ["screen", "control", "code"]) fun _ _ _ _ _ _ us hl => match us, hl with | [_, _, _], _ => rfl
  have F2 := fun_mk (st := st_cursor_cell) l2 c2 k2
  have b2 := F2.binds (ps := ["screen", "control"]) fun _ _ _ _ _ _ us hl => match us, hl with | [_, _], _ => rfl
  have F3 := fun_mk (st := st_with_cells) l3 c3 k3
  have b3 := F3.binds (ps := ["cells", "place", "others"]) fun _ _ _ _ _ _ us hl => match us, hl with | [_, _, _], _ => rfl
  have F4 := fun_mk (st := st_cells_behind) l4 c4 k4
  have b4 := F4.binds (ps := ["screen", "control", "cells", "code"]) fun _ _ _ _ _ _ us hl => match us, hl with | [_, _, _, _], _ => rfl
  have F5 := fun_mk (st := st_stepped) l5 c5 k5
  have b5 := F5.binds (ps := ["screen", "control", "cells", "code"]) fun _ _ _ _ _ _ us hl => match us, hl with | [_, _, _, _], _ => rfl
  have F6 := fun_mk (st := st_is_integer) l6 c6 k6
  have b6 := F6.binds (ps := ["thing"]) fun _ _ _ _ _ _ us hl => match us, hl with | [_], _ => rfl
  have F7 := fun_mk (st := st_is_within) l7 c7 k7
  have b7 := F7.binds (ps := ["thing", "least", "most"]) fun _ _ _ _ _ _ us hl => match us, hl with | [_, _, _], _ => rfl
  have F8 := fun_mk (st := st_is_tuple) l8 c8 k8
  have b8 := F8.binds (ps := ["thing", "least", "most"]) fun _ _ _ _ _ _ us hl => match us, hl with | [_, _, _], _ => rfl
  have F9 := fun_mk (st := st_is_one_of) l9 c9 k9
  have b9 := F9.binds (ps := ["thing", "words"]) fun _ _ _ _ _ _ us hl => match us, hl with | [_, _], _ => rfl
  have F10 := fun_mk (st := st_is_sign) l10 c10 k10
  have b10 := F10.binds (ps := ["sign", "lowest"]) fun _ _ _ _ _ _ us hl => match us, hl with | [_, _], _ => rfl
  have F11 := fun_mk (st := st_has_signs) l11 c11 k11
  have b11 := F11.binds (ps := ["thing", "lowest"]) fun _ _ _ _ _ _ us hl => match us, hl with | [_, _], _ => rfl
  have F12 := fun_mk (st := st_need_screen) l12 c12 k12
  have b12 := F12.binds (ps := ["screen"]) fun _ _ _ _ _ _ us hl => match us, hl with | [_], _ => rfl
  have F13 := fun_mk (st := st_blank) l13 c13 k13
  have b13 := F13.binds (ps := ["screen"]) fun _ _ _ _ _ _ us hl => match us, hl with | [_], _ => rfl
  have F14 := fun_mk (st := st_first_state) l14 c14 k14
  have b14 := F14.binds (ps := ["screen"]) fun _ _ _ _ _ _ us hl => match us, hl with | [_], _ => rfl
  have F15 := fun_mk (st := st_is_cell_sign) l15 c15 k15
  have b15 := F15.binds (ps := ["thing"]) fun _ _ _ _ _ _ us hl => match us, hl with | [_], _ => rfl
  have F16 := fun_mk (st := st_is_code_of) l16 c16 k16
  have b16 := F16.binds (ps := ["screen", "value"]) fun _ _ _ _ _ _ us hl => match us, hl with | [_, _], _ => rfl
  have F17 : L2.FunD K "need_codes" "need_codes" (defArgs st_need_codes) (defBody st_need_codes) (defScope st_need_codes) [V.int 0, V.int 2000] [] f17 _ := ⟨⟨oc17, od17, .ref T17, kV17, dc17, pm17, an17, cd17, ct17, sl17, rfl, l17, c17, .inr ⟨by simp, T17, _, [Value.int 0 u17_0, Value.int 2000 u17_1], nT17, rfl, d17, rfl, .cons ⟨_, rfl⟩ (.cons ⟨_, rfl⟩ (.nil))⟩, .inl rfl⟩, k17⟩
  obtain ⟨ds17, rd17, b17⟩ := F17.binds1 (ps := ["screen", "codes", "least", "most"]) 2 0 (by simp) rfl fun T kV doc pm an cdv ct us its h1 h2 => match us, its, h1, h2 with | [_, _], [_, _], _, _ => ⟨_, rfl, rfl⟩
  have F18 := fun_mk (st := st_cells_of) l18 c18 k18
  have b18 := F18.binds (ps := ["state"]) fun _ _ _ _ _ _ us hl => match us, hl with | [_], _ => rfl
  have F19 := fun_mk (st := st_memory_of) l19 c19 k19
  have b19 := F19.binds (ps := ["screen", "cells", "first"]) fun _ _ _ _ _ _ us hl => match us, hl with | [_, _, _], _ => rfl
  have F20 := fun_mk (st := st_pictures) l20 c20 k20
  have b20 := F20.binds (ps := ["screen", "codes"]) fun _ _ _ _ _ _ us hl => match us, hl with | [_, _], _ => rfl
  have F21 : L2.FunD K "are_codes" "are_codes" (defArgs st_are_codes) (defBody st_are_codes) (defScope st_are_codes) [V.int 0, V.int 2000] [] f21 _ := ⟨⟨oc21, od21, .ref T21, kV21, dc21, pm21, an21, cd21, ct21, sl21, rfl, l21, c21, .inr ⟨by simp, T21, _, [Value.int 0 u21_0, Value.int 2000 u21_1], nT21, rfl, d21, rfl, .cons ⟨_, rfl⟩ (.cons ⟨_, rfl⟩ (.nil))⟩, .inl rfl⟩, k21⟩
  obtain ⟨ds21, rd21, b21⟩ := F21.binds1 (ps := ["screen", "value", "least", "most"]) 2 0 (by simp) rfl fun T kV doc pm an cdv ct us its h1 h2 => match us, its, h1, h2 with | [_, _], [_, _], _, _ => ⟨_, rfl, rfl⟩
  obtain ⟨dsF21, rdF21, bF21⟩ := F21.binds1 (ps := ["screen", "value", "least", "most"]) 4 2 (by simp) rfl fun T kV doc pm an cdv ct us its h1 h2 => match us, its, h1, h2 with | [_, _, _, _], [_, _], _, _ => ⟨_, rfl, rfl⟩
  have rdF21 := (show L2.Vals [] dsF21 from rdF21)
  cases rdF21
  have F22 := fun_mk (st := st__is_row) l22 c22 k22
  have b22 := F22.binds (ps := ["thing", "columns"]) fun _ _ _ _ _ _ us hl => match us, hl with | [_, _], _ => rfl
  have F23 := fun_mk (st := st_is_memory_of) l23 c23 k23
  have b23 := F23.binds (ps := ["screen", "value"]) fun _ _ _ _ _ _ us hl => match us, hl with | [_, _], _ => rfl
  have F24 := fun_mk (st := st__is_line) l24 c24 k24
  have b24 := F24.binds (ps := ["thing"]) fun _ _ _ _ _ _ us hl => match us, hl with | [_], _ => rfl
  have F25 := fun_mk (st := st_is_text) l25 c25 k25
  have b25 := F25.binds (ps := ["thing"]) fun _ _ _ _ _ _ us hl => match us, hl with | [_], _ => rfl
  have F26 := fun_mk (st := st__has_room) l26 c26 k26
  have b26 := F26.binds (ps := ["screen", "thing"]) fun _ _ _ _ _ _ us hl => match us, hl with | [_, _], _ => rfl
  have F27 := fun_mk (st := st__need_text) l27 c27 k27
  have b27 := F27.binds (ps := ["screen", "text"]) fun _ _ _ _ _ _ us hl => match us, hl with | [_, _], _ => rfl
  have F28 := fun_mk (st := st__load_of) l28 c28 k28
  have b28 := F28.binds (ps := ["text"]) fun _ _ _ _ _ _ us hl => match us, hl with | [_], _ => rfl
  have F29 := fun_mk (st := st_load) l29 c29 k29
  have b29 := F29.binds (ps := ["screen", "text"]) fun _ _ _ _ _ _ us hl => match us, hl with | [_, _], _ => rfl
  have F30 := fun_mk (st := st__picture_of) l30 c30 k30
  have b30 := F30.binds (ps := ["screen", "text"]) fun _ _ _ _ _ _ us hl => match us, hl with | [_, _], _ => rfl
  have F31 := fun_mk (st := st_picture_of) l31 c31 k31
  have b31 := F31.binds (ps := ["screen", "text"]) fun _ _ _ _ _ _ us hl => match us, hl with | [_, _], _ => rfl
  have F32 := fun_mk (st := st_text_of) l32 c32 k32
  have b32 := F32.binds (ps := ["screen", "picture"]) fun _ _ _ _ _ _ us hl => match us, hl with | [_, _], _ => rfl
  have F33 := fun_mk (st := st__is_sendable) l33 c33 k33
  have b33 := F33.binds (ps := ["screen", "thing"]) fun _ _ _ _ _ _ us hl => match us, hl with | [_, _], _ => rfl
  have F34 := fun_mk (st := st__need_cues) l34 c34 k34
  have b34 := F34.binds (ps := ["screen", "cues"]) fun _ _ _ _ _ _ us hl => match us, hl with | [_, _], _ => rfl
  have F35 := fun_mk (st := st__free_frames) l35 c35 k35
  have b35 := F35.binds (ps := ["ahead", "start"]) fun _ _ _ _ _ _ us hl => match us, hl with | [_, _], _ => rfl
  have F36 := fun_mk (st := st__first_short) l36 c36 k36
  have b36 := F36.binds (ps := ["cues"]) fun _ _ _ _ _ _ us hl => match us, hl with | [_], _ => rfl
  have F37 := fun_mk (st := st__stream_of) l37 c37 k37
  have b37 := F37.binds (ps := ["cues"]) fun _ _ _ _ _ _ us hl => match us, hl with | [_], _ => rfl
  have F38 := fun_mk (st := st_send_paper) l38 c38 k38
  have b38 := F38.binds (ps := ["screen", "cues"]) fun _ _ _ _ _ _ us hl => match us, hl with | [_, _], _ => rfl
  have F39 := fun_mk (st := st__sends) l39 c39 k39
  have b39 := F39.binds (ps := ["screen", "cues", "thing"]) fun _ _ _ _ _ _ us hl => match us, hl with | [_, _, _], _ => rfl
  have F40 := fun_mk (st := st_check_send) l40 c40 k40
  have b40 := F40.binds (ps := ["screen", "cues", "paper"]) fun _ _ _ _ _ _ us hl => match us, hl with | [_, _, _], _ => rfl
  have F41 := fun_mk (st := st_put_off) l41 c41 k41
  have b41 := F41.binds (ps := ["screen", "cues"]) fun _ _ _ _ _ _ us hl => match us, hl with | [_, _], _ => rfl
  have F42 := fun_mk (st := st_shows) l42 c42 k42
  have b42 := F42.binds (ps := ["screen", "codes"]) fun _ _ _ _ _ _ us hl => match us, hl with | [_, _], _ => rfl
  have F43 := fun_mk (st := st__law_size) l43 c43 k43
  have b43 := F43.binds (ps := ["_law_m", "_law_most"]) fun _ _ _ _ _ _ us hl => match us, hl with | [_, _], _ => rfl
  have F44 := fun_mk (st := st__law_text) l44 c44 k44
  have b44 := F44.binds (ps := ["_law_m", "_law_size_here"]) fun _ _ _ _ _ _ us hl => match us, hl with | [_, _], _ => rfl
  have F45 := fun_mk (st := st__law_outcome) l45 c45 k45
  have b45 := F45.binds (ps := ["_law_way", "_law_size_here", "_law_thing"]) fun _ _ _ _ _ _ us hl => match us, hl with | [_, _, _], _ => rfl
  have F46 := fun_mk (st := st__law_cues_right) l46 c46 k46
  have b46 := F46.binds (ps := ["_law_m", "_law_size_here"]) fun _ _ _ _ _ _ us hl => match us, hl with | [_, _], _ => rfl
  have F47 := fun_mk (st := st__law_next) l47 c47 k47
  have b47 := F47.binds (ps := ["_law_m", "_law_total"]) fun _ _ _ _ _ _ us hl => match us, hl with | [_, _], _ => rfl
  have F48 := fun_mk (st := st__law_begun) l48 c48 k48
  have b48 := F48.binds (ps := ["_law_script"]) fun _ _ _ _ _ _ us hl => match us, hl with | [_], _ => rfl
  have F49 := fun_mk (st := st_law) l49 c49 k49
  have b49 := F49.binds (ps := ["_law_script"]) fun _ _ _ _ _ _ us hl => match us, hl with | [_], _ => rfl
  refine ⟨fnOf "law" "law" (defArgs st_law) (defBody st_law) (defScope st_law) .none kV49 dc49 pm49 an49 cd49 ct49, fun s v => .of_eq rfl, fun bas _ _ => ?_⟩
  have FI0 := fun_mk (st := st_BadSize) xf0 xd0 xg0
  have bI0 := FI0.binds (ps := ["self", "value"]) fun _ _ _ _ _ _ us hl => match us, hl with | [_, _], _ => rfl
  have K_BadSize : ClsAt l.prog wd K gl bas "BadSize" (some "value") := ⟨C0, gI0, _, _, PySem.W.mg_of X G xa0, ⟨⟨nm0, qq0, N0, bs0, _, sn0, sub0, ab0, col0, dd0, ma0, mb0, mc0, md0, mf0, xl0, by decide +kernel⟩, xs0, xe0, xt0, xk0⟩, xi0, xy0, init_BadSize T FI0 xvV xn0, bI0, exm_own xe0 xc0 xt0 xb0⟩
  have FI1 := fun_mk (st := st_BadCode) xf1 xd1 xg1
  have bI1 := FI1.binds (ps := ["self", "place"]) fun _ _ _ _ _ _ us hl => match us, hl with | [_, _], _ => rfl
  have K_BadCode : ClsAt l.prog wd K gl bas "BadCode" (some "place") := ⟨C1, gI1, _, _, PySem.W.mg_of X G xa1, ⟨⟨nm1, qq1, N1, bs1, _, sn1, sub1, ab1, col1, dd1, ma1, mb1, mc1, md1, mf1, xl1, by decide +kernel⟩, xs1, xe1, xt1, xk1⟩, xi1, xy1, init_BadCode T FI1 xvV xn1, bI1, exm_own xe1 xc1 xt1 xb1⟩
  have FI2 := fun_mk (st := st_OutOfPlace) xf2 xd2 xg2
  have bI2 := FI2.binds (ps := ["self", "text"]) fun _ _ _ _ _ _ us hl => match us, hl with | [_, _], _ => rfl
  have K_OutOfPlace : ClsAt l.prog wd K gl bas "OutOfPlace" none := ⟨C2, gI2, _, _, PySem.W.mg_of X G xa2, ⟨⟨nm2, qq2, N2, bs2, _, sn2, sub2, ab2, col2, dd2, ma2, mb2, mc2, md2, mf2, xl2, by decide +kernel⟩, xs2, xe2, xt2, xk2⟩, xi2, xy2, init_OutOfPlace T FI2 xvV, bI2, exm_own xe2 xc2 xt2 xb2⟩
  have FI3 := fun_mk (st := st_BadCues) xf3 xd3 xg3
  have bI3 := FI3.binds (ps := ["self", "number"]) fun _ _ _ _ _ _ us hl => match us, hl with | [_, _], _ => rfl
  have K_BadCues : ClsAt l.prog wd K gl bas "BadCues" (some "number") := ⟨C3, gI3, _, _, PySem.W.mg_of X G xa3, ⟨⟨nm3, qq3, N3, bs3, _, sn3, sub3, ab3, col3, dd3, ma3, mb3, mc3, md3, mf3, xl3, by decide +kernel⟩, xs3, xe3, xt3, xk3⟩, xi3, xy3, init_BadCues T FI3 xvV xn3, bI3, exm_own xe3 xc3 xt3 xb3⟩
  have FI4 := fun_mk (st := st_BadPaper) xf4 xd4 xg4
  have bI4 := FI4.binds (ps := ["self", "part"]) fun _ _ _ _ _ _ us hl => match us, hl with | [_, _], _ => rfl
  have K_BadPaper : ClsAt l.prog wd K gl bas "BadPaper" (some "part") := ⟨C4, gI4, _, _, PySem.W.mg_of X G xa4, ⟨⟨nm4, qq4, N4, bs4, _, sn4, sub4, ab4, col4, dd4, ma4, mb4, mc4, md4, mf4, xl4, by decide +kernel⟩, xs4, xe4, xt4, xk4⟩, xi4, xy4, init_BadPaper T FI4 xvV xn4, bI4, exm_own xe4 xc4 xt4 xb4⟩
  have KF_BadSize : FldOf K gl "BadSize" "value" := ⟨C0, PySem.W.mg_of X G xa0, ⟨xp0, xq0, xe0, xr0⟩, xn0⟩
  have KF_BadCode : FldOf K gl "BadCode" "place" := ⟨C1, PySem.W.mg_of X G xa1, ⟨xp1, xq1, xe1, xr1⟩, xn1⟩
  have KF_BadCues : FldOf K gl "BadCues" "number" := ⟨C3, PySem.W.mg_of X G xa3, ⟨xp3, xq3, xe3, xr3⟩, xn3⟩
  have A_BadCode_BadCues : Apart K gl "BadCode" "BadCues" := ⟨C1, C3, PySem.W.mg_of X G xa1, PySem.W.mg_of X G xa3, exm_other xe1 xc1 xt1 xz3_1⟩
  have A_BadCode_BadSize : Apart K gl "BadCode" "BadSize" := ⟨C1, C0, PySem.W.mg_of X G xa1, PySem.W.mg_of X G xa0, exm_other xe1 xc1 xt1 xz0_1⟩
  have A_BadCode_OutOfPlace : Apart K gl "BadCode" "OutOfPlace" := ⟨C1, C2, PySem.W.mg_of X G xa1, PySem.W.mg_of X G xa2, exm_other xe1 xc1 xt1 xz2_1⟩
  have A_BadCues_BadCode : Apart K gl "BadCues" "BadCode" := ⟨C3, C1, PySem.W.mg_of X G xa3, PySem.W.mg_of X G xa1, exm_other xe3 xc3 xt3 xz1_3⟩
  have A_BadCues_BadSize : Apart K gl "BadCues" "BadSize" := ⟨C3, C0, PySem.W.mg_of X G xa3, PySem.W.mg_of X G xa0, exm_other xe3 xc3 xt3 xz0_3⟩
  have A_BadCues_OutOfPlace : Apart K gl "BadCues" "OutOfPlace" := ⟨C3, C2, PySem.W.mg_of X G xa3, PySem.W.mg_of X G xa2, exm_other xe3 xc3 xt3 xz2_3⟩
  have A_BadSize_BadCode : Apart K gl "BadSize" "BadCode" := ⟨C0, C1, PySem.W.mg_of X G xa0, PySem.W.mg_of X G xa1, exm_other xe0 xc0 xt0 xz1_0⟩
  have A_BadSize_BadCues : Apart K gl "BadSize" "BadCues" := ⟨C0, C3, PySem.W.mg_of X G xa0, PySem.W.mg_of X G xa3, exm_other xe0 xc0 xt0 xz3_0⟩
  have A_BadSize_OutOfPlace : Apart K gl "BadSize" "OutOfPlace" := ⟨C0, C2, PySem.W.mg_of X G xa0, PySem.W.mg_of X G xa2, exm_other xe0 xc0 xt0 xz2_0⟩
  have A_OutOfPlace_BadCode : Apart K gl "OutOfPlace" "BadCode" := ⟨C2, C1, PySem.W.mg_of X G xa2, PySem.W.mg_of X G xa1, exm_other xe2 xc2 xt2 xz1_2⟩
  have A_OutOfPlace_BadCues : Apart K gl "OutOfPlace" "BadCues" := ⟨C2, C3, PySem.W.mg_of X G xa2, PySem.W.mg_of X G xa3, exm_other xe2 xc2 xt2 xz3_2⟩
  have A_OutOfPlace_BadSize : Apart K gl "OutOfPlace" "BadSize" := ⟨C2, C0, PySem.W.mg_of X G xa2, PySem.W.mg_of X G xa0, exm_other xe2 xc2 xt2 xz0_2⟩
  have C__law_next : Cd l.prog wd K gl bas srcOrc 1 "_law_next" 2 s_next := ⟨_, _, _, ok__law_next T F47, PySem.W.mg_of X G a47, k47, b47⟩
  have C_rolling_rows : Cd l.prog wd K gl bas srcOrc 1 "rolling_rows" 1 r_rolling_rows := ⟨_, _, _, ok_rolling_rows T F0, PySem.W.mg_of X G a0, k0, b0⟩
  have C_control_behind : Cd l.prog wd K gl bas srcOrc 2 "control_behind" 3 r_control_behind := ⟨_, _, _, ok_control_behind T F1 C_rolling_rows, PySem.W.mg_of X G a1, k1, b1⟩
  have C_cursor_cell : Cd l.prog wd K gl bas srcOrc 1 "cursor_cell" 2 r_cursor_cell := ⟨_, _, _, ok_cursor_cell T F2, PySem.W.mg_of X G a2, k2, b2⟩
  have C_with_cells : Cd l.prog wd K gl bas srcOrc 1 "with_cells" 3 r_with_cells := ⟨_, _, _, ok_with_cells T F3, PySem.W.mg_of X G a3, k3, b3⟩
  have C_cells_behind : Cd l.prog wd K gl bas srcOrc 2 "cells_behind" 4 r_cells_behind := ⟨_, _, _, ok_cells_behind T F4 C_cursor_cell C_with_cells C_rolling_rows, PySem.W.mg_of X G a4, k4, b4⟩
  have C_stepped : Cd l.prog wd K gl bas srcOrc 3 "stepped" 4 r_stepped := ⟨_, _, _, ok_stepped T F5 C_cells_behind C_control_behind, PySem.W.mg_of X G a5, k5, b5⟩
  have C_is_integer : Cd l.prog wd K gl bas srcOrc 1 "is_integer" 1 r_is_integer := ⟨_, _, _, ok_is_integer T F6, PySem.W.mg_of X G a6, k6, b6⟩
  have C_is_within : Cd l.prog wd K gl bas srcOrc 2 "is_within" 3 r_is_within := ⟨_, _, _, ok_is_within T F7 C_is_integer, PySem.W.mg_of X G a7, k7, b7⟩
  have C_is_tuple : Cd l.prog wd K gl bas srcOrc 1 "is_tuple" 3 r_is_tuple := ⟨_, _, _, ok_is_tuple T F8, PySem.W.mg_of X G a8, k8, b8⟩
  have C_is_one_of : Cd l.prog wd K gl bas srcOrc 1 "is_one_of" 2 r_is_one_of := ⟨_, _, _, ok_is_one_of T F9, PySem.W.mg_of X G a9, k9, b9⟩
  have C_is_sign : Cd l.prog wd K gl bas srcOrc 1 "is_sign" 2 r_is_sign := ⟨_, _, _, ok_is_sign T F10, PySem.W.mg_of X G a10, k10, b10⟩
  have C_has_signs : Cd l.prog wd K gl bas srcOrc 2 "has_signs" 2 r_has_signs := ⟨_, _, _, ok_has_signs T F11 C_is_sign, PySem.W.mg_of X G a11, k11, b11⟩
  have CX_need_screen : CdX l.prog wd K gl bas srcOrc 4 "need_screen" 1 rx_need_screen := ⟨_, _, _, okX_need_screen T F12 C_is_tuple C_is_within K_BadSize, PySem.W.mg_of X G a12, k12, b12⟩
  have C_need_screen : Cd l.prog wd K gl bas srcOrc 3 "need_screen" 1 r_need_screen := ⟨_, _, _, ok_need_screen T F12 C_is_tuple C_is_within, PySem.W.mg_of X G a12, k12, b12⟩
  have CX_blank : CdX l.prog wd K gl bas srcOrc 5 "blank" 1 rx_blank := ⟨_, _, _, okX_blank T F13 CX_need_screen, PySem.W.mg_of X G a13, k13, b13⟩
  have C_blank : Cd l.prog wd K gl bas srcOrc 4 "blank" 1 r_blank := ⟨_, _, _, ok_blank T F13 C_need_screen, PySem.W.mg_of X G a13, k13, b13⟩
  have CX_first_state : CdX l.prog wd K gl bas srcOrc 6 "first_state" 1 rx_first_state := ⟨_, _, _, okX_first_state T F14 CX_blank, PySem.W.mg_of X G a14, k14, b14⟩
  have C_first_state : Cd l.prog wd K gl bas srcOrc 5 "first_state" 1 r_first_state := ⟨_, _, _, ok_first_state T F14 C_blank, PySem.W.mg_of X G a14, k14, b14⟩
  have C_is_cell_sign : Cd l.prog wd K gl bas srcOrc 2 "is_cell_sign" 1 r_is_cell_sign := ⟨_, _, _, ok_is_cell_sign T F15 C_is_sign, PySem.W.mg_of X G a15, k15, b15⟩
  have C_is_code_of : Cd l.prog wd K gl bas srcOrc 3 "is_code_of" 2 r_is_code_of := ⟨_, _, _, ok_is_code_of T F16 C_is_tuple C_is_cell_sign C_is_within, PySem.W.mg_of X G a16, k16, b16⟩
  have CXD_need_codes : CdXD l.prog wd K gl bas srcOrc 5 "need_codes" 2 [PyData.int 0, PyData.int 2000] rx_need_codes := ⟨_, _, _, ds17, _, okX_need_codes T F17 C_is_tuple C_is_code_of K_BadCode, PySem.W.mg_of X G a17, k17, b17, rd17, fun _ => .cons (.int _) (.cons (.int _) (.nil))⟩
  have CD_need_codes : CdD l.prog wd K gl bas srcOrc 4 "need_codes" 2 [PyData.int 0, PyData.int 2000] r_need_codes := ⟨_, _, _, ds17, _, ok_need_codes T F17 C_is_tuple C_is_code_of, PySem.W.mg_of X G a17, k17, b17, rd17, fun _ => .cons (.int _) (.cons (.int _) (.nil))⟩
  have C_cells_of : Cd l.prog wd K gl bas srcOrc 1 "cells_of" 1 r_cells_of := ⟨_, _, _, ok_cells_of T F18, PySem.W.mg_of X G a18, k18, b18⟩
  have C_memory_of : Cd l.prog wd K gl bas srcOrc 1 "memory_of" 3 r_memory_of := ⟨_, _, _, ok_memory_of T F19, PySem.W.mg_of X G a19, k19, b19⟩
  have CX_pictures : CdX l.prog wd K gl bas srcOrc 7 "pictures" 2 rx_pictures := ⟨_, _, _, okX_pictures T F20 C_cells_of C_stepped C_memory_of CXD_need_codes CX_first_state, PySem.W.mg_of X G a20, k20, b20⟩
  have C_pictures : Cd l.prog wd K gl bas srcOrc 6 "pictures" 2 r_pictures := ⟨_, _, _, ok_pictures T F20 CD_need_codes C_first_state C_cells_of C_stepped C_memory_of, PySem.W.mg_of X G a20, k20, b20⟩
  have CD_are_codes : CdD l.prog wd K gl bas srcOrc 4 "are_codes" 2 [PyData.int 0, PyData.int 2000] r_are_codes := ⟨_, _, _, ds21, _, ok_are_codes T F21 C_is_tuple C_is_code_of, PySem.W.mg_of X G a21, k21, b21, rd21, fun _ => .cons (.int _) (.cons (.int _) (.nil))⟩
  have C_are_codes : Cd l.prog wd K gl bas srcOrc 4 "are_codes" 4 r_are_codes := ⟨_, _, _, ok_are_codes T F21 C_is_tuple C_is_code_of, PySem.W.mg_of X G a21, k21, bF21⟩
  have C__is_row : Cd l.prog wd K gl bas srcOrc 2 "_is_row" 2 r__is_row := ⟨_, _, _, ok__is_row T F22 C_is_sign, PySem.W.mg_of X G a22, k22, b22⟩
  have C_is_memory_of : Cd l.prog wd K gl bas srcOrc 3 "is_memory_of" 2 r_is_memory_of := ⟨_, _, _, ok_is_memory_of T F23 C_is_tuple C__is_row, PySem.W.mg_of X G a23, k23, b23⟩
  have C__is_line : Cd l.prog wd K gl bas srcOrc 3 "_is_line" 1 r__is_line := ⟨_, _, _, ok__is_line T F24 C_has_signs, PySem.W.mg_of X G a24, k24, b24⟩
  have C_is_text : Cd l.prog wd K gl bas srcOrc 4 "is_text" 1 r_is_text := ⟨_, _, _, ok_is_text T F25 C_is_tuple C__is_line, PySem.W.mg_of X G a25, k25, b25⟩
  have C__has_room : Cd l.prog wd K gl bas srcOrc 5 "_has_room" 2 r__has_room := ⟨_, _, _, ok__has_room T F26 C_is_text, PySem.W.mg_of X G a26, k26, b26⟩
  have CX__need_text : CdX l.prog wd K gl bas srcOrc 7 "_need_text" 2 rx__need_text := ⟨_, _, _, okX__need_text T F27 C__has_room CX_need_screen K_OutOfPlace, PySem.W.mg_of X G a27, k27, b27⟩
  have C__need_text : Cd l.prog wd K gl bas srcOrc 6 "_need_text" 2 r__need_text := ⟨_, _, _, ok__need_text T F27 C_need_screen C__has_room, PySem.W.mg_of X G a27, k27, b27⟩
  have C__load_of : Cd l.prog wd K gl bas srcOrc 1 "_load_of" 1 r__load_of := ⟨_, _, _, ok__load_of T F28, PySem.W.mg_of X G a28, k28, b28⟩
  have CX_load : CdX l.prog wd K gl bas srcOrc 8 "load" 2 rx_load := ⟨_, _, _, okX_load T F29 C__load_of CX__need_text, PySem.W.mg_of X G a29, k29, b29⟩
  have C_load : Cd l.prog wd K gl bas srcOrc 7 "load" 2 r_load := ⟨_, _, _, ok_load T F29 C__need_text C__load_of, PySem.W.mg_of X G a29, k29, b29⟩
  have C__picture_of : Cd l.prog wd K gl bas srcOrc 1 "_picture_of" 2 r__picture_of := ⟨_, _, _, ok__picture_of T F30, PySem.W.mg_of X G a30, k30, b30⟩
  have CX_picture_of : CdX l.prog wd K gl bas srcOrc 8 "picture_of" 2 rx_picture_of := ⟨_, _, _, okX_picture_of T F31 C__picture_of CX__need_text, PySem.W.mg_of X G a31, k31, b31⟩
  have C_picture_of : Cd l.prog wd K gl bas srcOrc 7 "picture_of" 2 r_picture_of := ⟨_, _, _, ok_picture_of T F31 C__need_text C__picture_of, PySem.W.mg_of X G a31, k31, b31⟩
  have CX_text_of : CdX l.prog wd K gl bas srcOrc 6 "text_of" 2 rx_text_of := ⟨_, _, _, okX_text_of T F32 C_is_memory_of C_is_text CX_need_screen K_OutOfPlace, PySem.W.mg_of X G a32, k32, b32⟩
  have C_text_of : Cd l.prog wd K gl bas srcOrc 5 "text_of" 2 r_text_of := ⟨_, _, _, ok_text_of T F32 C_need_screen C_is_memory_of C_is_text, PySem.W.mg_of X G a32, k32, b32⟩
  have C__is_sendable : Cd l.prog wd K gl bas srcOrc 6 "_is_sendable" 2 r__is_sendable := ⟨_, _, _, ok__is_sendable T F33 C_is_tuple C_is_within C__has_room, PySem.W.mg_of X G a33, k33, b33⟩
  have CX__need_cues : CdX l.prog wd K gl bas srcOrc 8 "_need_cues" 2 rx__need_cues := ⟨_, _, _, okX__need_cues T F34 C_is_tuple C__is_sendable CX_need_screen K_BadCues, PySem.W.mg_of X G a34, k34, b34⟩
  have C__need_cues : Cd l.prog wd K gl bas srcOrc 7 "_need_cues" 2 r__need_cues := ⟨_, _, _, ok__need_cues T F34 C_need_screen C_is_tuple C__is_sendable, PySem.W.mg_of X G a34, k34, b34⟩
  have C__free_frames : Cd l.prog wd K gl bas srcOrc 1 "_free_frames" 2 r__free_frames := ⟨_, _, _, ok__free_frames T F35, PySem.W.mg_of X G a35, k35, b35⟩
  have C__first_short : Cd l.prog wd K gl bas srcOrc 2 "_first_short" 1 r__first_short := ⟨_, _, _, ok__first_short T F36 C__free_frames C__load_of, PySem.W.mg_of X G a36, k36, b36⟩
  have C__stream_of : Cd l.prog wd K gl bas srcOrc 2 "_stream_of" 1 r__stream_of := ⟨_, _, _, ok__stream_of T F37 C__load_of, PySem.W.mg_of X G a37, k37, b37⟩
  have CX_send_paper : CdX l.prog wd K gl bas srcOrc 9 "send_paper" 2 rx_send_paper := ⟨_, _, _, okX_send_paper T F38 C__first_short C__stream_of CX__need_cues, PySem.W.mg_of X G a38, k38, b38⟩
  have C_send_paper : Cd l.prog wd K gl bas srcOrc 8 "send_paper" 2 r_send_paper := ⟨_, _, _, ok_send_paper T F38 C__need_cues C__first_short C__stream_of, PySem.W.mg_of X G a38, k38, b38⟩
  have C__sends : Cd l.prog wd K gl bas srcOrc 7 "_sends" 3 r__sends := ⟨_, _, _, ok__sends T F39 C_are_codes C_blank C__picture_of C_pictures, PySem.W.mg_of X G a39, k39, b39⟩
  have CX_check_send : CdX l.prog wd K gl bas srcOrc 9 "check_send" 3 rx_check_send := ⟨_, _, _, okX_check_send T F40 C_is_tuple C_is_one_of C__sends C_is_integer C__first_short CX__need_cues K_BadPaper, PySem.W.mg_of X G a40, k40, b40⟩
  have C_check_send : Cd l.prog wd K gl bas srcOrc 8 "check_send" 3 r_check_send := ⟨_, _, _, ok_check_send T F40 C__need_cues C_is_tuple C_is_one_of C__sends C_is_integer C__first_short, PySem.W.mg_of X G a40, k40, b40⟩
  have CX_put_off : CdX l.prog wd K gl bas srcOrc 9 "put_off" 2 rx_put_off := ⟨_, _, _, okX_put_off T F41 C__free_frames C__load_of CX__need_cues, PySem.W.mg_of X G a41, k41, b41⟩
  have C_put_off : Cd l.prog wd K gl bas srcOrc 8 "put_off" 2 r_put_off := ⟨_, _, _, ok_put_off T F41 C__need_cues C__free_frames C__load_of, PySem.W.mg_of X G a41, k41, b41⟩
  have CX_shows : CdX l.prog wd K gl bas srcOrc 8 "shows" 2 rx_shows := ⟨_, _, _, okX_shows T F42 CX_blank CX_pictures, PySem.W.mg_of X G a42, k42, b42⟩
  have C_shows : Cd l.prog wd K gl bas srcOrc 7 "shows" 2 r_shows := ⟨_, _, _, ok_shows T F42 C_blank C_pictures, PySem.W.mg_of X G a42, k42, b42⟩
  have C__law_size : Cd l.prog wd K gl bas srcOrc 2 "_law_size" 2 r__law_size := ⟨_, _, _, ok__law_size T F43 C__law_next, PySem.W.mg_of X G a43, k43, b43⟩
  have C__law_text : Cd l.prog wd K gl bas srcOrc 2 "_law_text" 2 r__law_text := ⟨_, _, _, ok__law_text T F44 C__law_next, PySem.W.mg_of X G a44, k44, b44⟩
  have C__law_outcome : Cd l.prog wd K gl bas srcOrc 10 "_law_outcome" 3 r__law_outcome := ⟨_, _, _, ok__law_outcome T F45 CX_load CX_picture_of CX_text_of CX_send_paper CX_put_off CX_shows CX_check_send K_BadSize K_BadCues K_BadCode K_OutOfPlace KF_BadSize KF_BadCues KF_BadCode A_BadSize_OutOfPlace A_BadSize_BadCode A_BadSize_BadCues A_BadCues_OutOfPlace A_BadCues_BadCode A_BadCues_BadSize A_BadCode_OutOfPlace A_BadCode_BadCues A_BadCode_BadSize A_OutOfPlace_BadCode A_OutOfPlace_BadCues A_OutOfPlace_BadSize, PySem.W.mg_of X G a45, k45, b45⟩
  have C__law_cues_right : Cd l.prog wd K gl bas srcOrc 11 "_law_cues_right" 2 r__law_cues_right := ⟨_, _, _, ok__law_cues_right T F46 C__law_text C__law_next C__law_outcome, PySem.W.mg_of X G a46, k46, b46⟩
  exact ok_law T F49 (ok__law_begun T F48) (PySem.W.mg_of X G a48) k48 b48 C__law_size C__law_outcome C__law_cues_right says
end Q25
namespace Q25
open PySem L2 DL
inductive Fn : Nat → D → Prop
  | non (n : Nat) : Fn n .none
  | bl (n : Nat) (b : Bool) : Fn n (.bool b)
  | int (n : Nat) (i : Int) : Fn n (.int i)
  | str (n : Nat) (s : Str) (hl : s.length ≤ 1000) (hs : PyData.strOk s = true) : Fn n (.str s)
  | tup (n : Nat) (ds : List D) (h : ∀ d ∈ ds, Fn n d) (hl : ds.length ≤ 1000) : Fn (n + 1) (.tuple ds)
  | lst (n : Nat) (ds : List D) (h : ∀ d ∈ ds, Fn n d) (hl : ds.length ≤ 1000) : Fn (n + 1) (.list ds)
theorem all_lay : ∀ ds : List D, (∀ d ∈ ds, d.canLay0 = true) → PyData.canLayAll0 ds = true
  | [], _ => rfl
  | d :: ds, h => Bool.and_eq_true_iff.mpr ⟨h d (List.mem_cons_self ..), all_lay ds fun x hx => h x (List.mem_cons_of_mem _ hx)⟩
theorem all_dep {n : Nat} : ∀ ds : List D, (∀ d ∈ ds, d.depth ≤ n) → PyData.depthAll ds ≤ n
  | [], _ => Nat.zero_le _
  | d :: ds, h => by
    have a := h d (List.mem_cons_self ..)
    have b := all_dep ds fun x hx => h x (List.mem_cons_of_mem _ hx)
    simp only [PyData.depthAll]
    omega
theorem Fn.lay {n : Nat} {d : D} (f : Fn n d) : d.canLay0 = true ∧ d.depth ≤ n := by
  induction f with
  | non n => exact ⟨rfl, Nat.zero_le _⟩
  | bl n b => exact ⟨rfl, Nat.zero_le _⟩
  | int n i => exact ⟨rfl, Nat.zero_le _⟩
  | str n s hl hs => exact ⟨hs, Nat.zero_le _⟩
  | tup n ds h hl ih =>
    have := all_dep ds fun d hd => (ih d hd).2
    exact ⟨all_lay ds fun d hd => (ih d hd).1, by simp only [PyData.depth]; omega⟩
  | lst n ds h hl ih =>
    have := all_dep ds fun d hd => (ih d hd).2
    exact ⟨all_lay ds fun d hd => (ih d hd).1, by simp only [PyData.depth]; omega⟩
theorem Fn.ok {n : Nat} {d : D} (f : Fn n d) (hn : n ≤ 60) : okD d := by
  obtain ⟨a, b⟩ := f.lay
  show SeqAt.shaped d = true
  unfold SeqAt.shaped
  rw [a]
  simp
  omega
theorem Fn.mono {n m : Nat} {d : D} (f : Fn n d) (h : n ≤ m) : Fn m d := by
  induction f generalizing m with
  | non n => exact .non _
  | bl n b => exact .bl _ _
  | int n i => exact .int _ _
  | str n s hl hs => exact .str _ _ hl hs
  | tup n ds hd hl ih =>
    obtain ⟨m, rfl⟩ : ∃ k, m = k + 1 := ⟨m - 1, by omega⟩
    exact .tup m ds (fun d hd => ih d hd (by omega)) hl
  | lst n ds hd hl ih =>
    obtain ⟨m, rfl⟩ : ∃ k, m = k + 1 := ⟨m - 1, by omega⟩
    exact .lst m ds (fun d hd => ih d hd (by omega)) hl
def isI : D → Bool
  | .int _ => true
  | _ => false
theorem k_bi : kitB "bool" "int" = some true := by decide +kernel
theorem k_bb : kitB "bool" "bool" = some true := by decide +kernel
theorem kI : ∀ d : D, kitB (tyN d) "int" = some (match d with | .int _ => true | .bool _ => true | _ => false)
  | .none => (by decide +kernel : kitB "NoneType" "int" = some false)
  | .bool _ => k_bi
  | .int _ => k_int
  | .str _ => (by decide +kernel : kitB "str" "int" = some false)
  | .list _ => (by decide +kernel : kitB "list" "int" = some false)
  | .tuple _ => (by decide +kernel : kitB "tuple" "int" = some false)
  | .dict _ => (by decide +kernel : kitB "dict" "int" = some false)
theorem kT : ∀ d : D, kitB (tyN d) "tuple" = some (match d with | .tuple _ => true | _ => false)
  | .none => (by decide +kernel : kitB "NoneType" "tuple" = some false)
  | .bool _ => (by decide +kernel : kitB "bool" "tuple" = some false)
  | .int _ => (by decide +kernel : kitB "int" "tuple" = some false)
  | .str _ => (by decide +kernel : kitB "str" "tuple" = some false)
  | .list _ => (by decide +kernel : kitB "list" "tuple" = some false)
  | .tuple _ => k_tt
  | .dict _ => (by decide +kernel : kitB "dict" "tuple" = some false)
theorem kS : ∀ d : D, kitB (tyN d) "str" = some (match d with | .str _ => true | _ => false)
  | .none => (by decide +kernel : kitB "NoneType" "str" = some false)
  | .bool _ => (by decide +kernel : kitB "bool" "str" = some false)
  | .int _ => (by decide +kernel : kitB "int" "str" = some false)
  | .str _ => k_ss
  | .list _ => (by decide +kernel : kitB "list" "str" = some false)
  | .tuple _ => (by decide +kernel : kitB "tuple" "str" = some false)
  | .dict _ => (by decide +kernel : kitB "dict" "str" = some false)
section
variable {d : D} {m : Nat} {P : D → Nat → Prop}
theorem d_is_integer (h : P (.bool (isI d)) 0) : r_is_integer [.d d] m P := by
  cases d with
  | int i => exact ⟨trivial, true, k_int, trivial, false, k_ib, hd_d, h⟩
  | bool b => exact ⟨trivial, true, k_bi, trivial, true, k_bb, hd_d, h⟩
  | none => exact ⟨trivial, _, kI _, hd_d, h⟩
  | str s => exact ⟨trivial, _, kI _, hd_d, h⟩
  | list s => exact ⟨trivial, _, kI _, hd_d, h⟩
  | tuple s => exact ⟨trivial, _, kI _, hd_d, h⟩
  | dict s => exact ⟨trivial, _, kI _, hd_d, h⟩
def within (d : D) (a b : Int) : Bool := match d with
  | .int i => decide (a ≤ i) && decide (i ≤ b)
  | _ => false
theorem d_is_within {a b : Int} (h : P (.bool (within d a b)) 0) : r_is_within [.d d, .d (.int a), .d (.int b)] m P := by
  refine ⟨rfl, rfl, d_is_integer ?_⟩
  cases d with
  | int i =>
    by_cases e : a ≤ i
    · have h : P (.bool (decide (a ≤ i) && decide (i ≤ b))) 0 := h
      rw [decide_eq_true e, Bool.true_and] at h
      simp [raw, startE, arSl, sSeq, sIf, sRet, sRetN, sNo, sSet, sSetN, sExpr, sAsg, dCall, dCallO, aCons, aNil, aOra, dV, hS, hV, dC, d2, see, seeAll, dCB, DL.gCons, DL.gNil, dChain, bD, bAnd, bOr, bNot, dAnd, dOr, dNot, dNeg, dIf, dIsi, bTruth, truD, lCons, lNil, dTup, dLst, isD, gCmp, gAdd, DL.gSub, gIs, gIsNot, gLen, gN, gTupT, gConsT, gNoT, ownL, dSl, oI, oNo, isI, e, h]
    · have h : P (.bool (decide (a ≤ i) && decide (i ≤ b))) 0 := h
      rw [decide_eq_false e, Bool.false_and] at h
      simp [raw, startE, arSl, sSeq, sIf, sRet, sRetN, sNo, sSet, sSetN, sExpr, sAsg, dCall, dCallO, aCons, aNil, aOra, dV, hS, hV, dC, d2, see, seeAll, dCB, DL.gCons, DL.gNil, dChain, bD, bAnd, bOr, bNot, dAnd, dOr, dNot, dNeg, dIf, dIsi, bTruth, truD, lCons, lNil, dTup, dLst, isD, gCmp, gAdd, DL.gSub, gIs, gIsNot, gLen, gN, gTupT, gConsT, gNoT, ownL, dSl, oI, oNo, isI, e, h]
  | bool b => exact ⟨hd_d, h⟩
  | none => exact ⟨hd_d, h⟩
  | str s => exact ⟨hd_d, h⟩
  | list s => exact ⟨hd_d, h⟩
  | tuple s => exact ⟨hd_d, h⟩
  | dict s => exact ⟨hd_d, h⟩
def tupB (d : D) (a b : Int) : Bool := match d with
  | .tuple ds => decide (a ≤ ds.length) && decide ((ds.length : Int) ≤ b)
  | _ => false
theorem d_is_tuple {a b : Int} (h : P (.bool (tupB d a b)) 0) : r_is_tuple [.d d, .d (.int a), .d (.int b)] m P := by
  cases d with
  | tuple ds =>
    refine ⟨trivial, true, k_tt, ?_⟩
    have h : P (.bool (decide (a ≤ ds.length) && decide ((ds.length : Int) ≤ b))) 0 := h
    by_cases e : a ≤ (ds.length : Int)
    · rw [decide_eq_true e, Bool.true_and] at h
      simp [raw, startE, arSl, sSeq, sIf, sRet, sRetN, sNo, sSet, sSetN, sExpr, sAsg, dCall, dCallO, aCons, aNil, aOra, dV, hS, hV, dC, d2, see, seeAll, dCB, DL.gCons, DL.gNil, dChain, bD, bAnd, bOr, bNot, dAnd, dOr, dNot, dNeg, dIf, dIsi, bTruth, truD, lCons, lNil, dTup, dLst, isD, gCmp, gAdd, DL.gSub, gIs, gIsNot, gLen, gN, gTupT, gConsT, gNoT, ownL, dSl, oI, oNo, e, h]
    · rw [decide_eq_false e, Bool.false_and] at h
      simp [raw, startE, arSl, sSeq, sIf, sRet, sRetN, sNo, sSet, sSetN, sExpr, sAsg, dCall, dCallO, aCons, aNil, aOra, dV, hS, hV, dC, d2, see, seeAll, dCB, DL.gCons, DL.gNil, dChain, bD, bAnd, bOr, bNot, dAnd, dOr, dNot, dNeg, dIf, dIsi, bTruth, truD, lCons, lNil, dTup, dLst, isD, gCmp, gAdd, DL.gSub, gIs, gIsNot, gLen, gN, gTupT, gConsT, gNoT, ownL, dSl, oI, oNo, e, h]
  | int i => exact ⟨trivial, _, kT _, hd_d, h⟩
  | bool b => exact ⟨trivial, _, kT _, hd_d, h⟩
  | none => exact ⟨trivial, _, kT _, hd_d, h⟩
  | str s => exact ⟨trivial, _, kT _, hd_d, h⟩
  | list s => exact ⟨trivial, _, kT _, hd_d, h⟩
  | dict s => exact ⟨trivial, _, kT _, hd_d, h⟩
def sgC (c : Nat) : Bool := decide (32 ≤ c) && decide (c ≤ 126) && !decide (c = 37)
theorem okI (i : Int) : okD (.int i) := rfl
theorem eqI (i j : Int) : PyData.eqv (.int i) (.int j) = decide (i = j) := by
  simp [PyData.eqv]
  by_cases e : i = j <;> simp [e]
theorem d_is_sign {c : Nat} (h : P (.bool (sgC c)) 0) : r_is_sign [.d (.str ⟨#[c]⟩), .d (.int 32)] m P := by
  by_cases a1 : 32 ≤ c
  · have b1 : (32 : Int) ≤ (c : Int) := by omega
    by_cases a2 : c ≤ 126
    · have b2 : (c : Int) ≤ 126 := by omega
      have e : sgC c = !decide ((c : Int) = 37) := by
        unfold sgC
        rw [decide_eq_true a1, decide_eq_true a2, Bool.true_and, Bool.true_and]
        congr 1
        (exact decide_eq_decide.mpr (by omega))
      rw [e] at h
      simp [r_is_sign, g_is_sign, raw, startE, arSl, sSeq, sIf, sRet, sRetN, sNo, sSet, sSetN, sExpr, sAsg, dCall, dCallO, aCons, aNil, aOra, dV, hS, hV, dC, d2, see, seeAll, dCB, DL.gCons, DL.gNil, dChain, bD, bAnd, bOr, bNot, dAnd, dOr, dNot, dNeg, dIf, dIsi, bTruth, truD, lCons, lNil, dTup, dLst, isD, gCmp, gAdd, DL.gSub, gIs, gIsNot, gLen, gN, gTupT, gConsT, gNoT, ownL, dSl, oI, oNo, gOrd, gNe, b1, b2, okI, eqI]
      exact ⟨rfl, h⟩
    · have b2 : ¬ (c : Int) ≤ 126 := by omega
      have e : sgC c = false := by
        unfold sgC
        rw [decide_eq_false a2, Bool.and_false, Bool.false_and]
      rw [e] at h
      simp [r_is_sign, g_is_sign, raw, startE, arSl, sSeq, sIf, sRet, sRetN, sNo, sSet, sSetN, sExpr, sAsg, dCall, dCallO, aCons, aNil, aOra, dV, hS, hV, dC, d2, see, seeAll, dCB, DL.gCons, DL.gNil, dChain, bD, bAnd, bOr, bNot, dAnd, dOr, dNot, dNeg, dIf, dIsi, bTruth, truD, lCons, lNil, dTup, dLst, isD, gCmp, gAdd, DL.gSub, gIs, gIsNot, gLen, gN, gTupT, gConsT, gNoT, ownL, dSl, oI, oNo, gOrd, gNe, b1, b2, okI, eqI]
      exact ⟨rfl, h⟩
  · have b1 : ¬ (32 : Int) ≤ (c : Int) := by omega
    have e : sgC c = false := by
      unfold sgC
      rw [decide_eq_false a1, Bool.false_and, Bool.false_and]
    rw [e] at h
    simp [r_is_sign, g_is_sign, raw, startE, arSl, sSeq, sIf, sRet, sRetN, sNo, sSet, sSetN, sExpr, sAsg, dCall, dCallO, aCons, aNil, aOra, dV, hS, hV, dC, d2, see, seeAll, dCB, DL.gCons, DL.gNil, dChain, bD, bAnd, bOr, bNot, dAnd, dOr, dNot, dNeg, dIf, dIsi, bTruth, truD, lCons, lNil, dTup, dLst, isD, gCmp, gAdd, DL.gSub, gIs, gIsNot, gLen, gN, gTupT, gConsT, gNoT, ownL, dSl, oI, oNo, gOrd, gNe, b1, okI, eqI]
    exact ⟨rfl, h⟩
def sgB (d : D) : Bool := match d with
  | .str s => (match s.cps.toList with
    | [c] => sgC c
    | _ => false)
  | _ => false
theorem one_of {s : Str} (h : s.length = 1) : ∃ c, s = ⟨#[c]⟩ := by
  obtain ⟨⟨l⟩⟩ := s
  have h : l.length = 1 := h
  match l, h with
  | [c], _ => exact ⟨c, rfl⟩
theorem sgB_no {s : Str} (h : ¬ s.length = 1) : sgB (.str s) = false := by
  obtain ⟨⟨l⟩⟩ := s
  have h : ¬ l.length = 1 := h
  match l, h with
  | [], _ => rfl
  | [c], h => exact absurd rfl h
  | _ :: _ :: _, _ => rfl
theorem d_cell_sign {n : Nat} (f : Fn n d) (h : P (.bool (sgB d)) 0) : r_is_cell_sign [.d d] m P := by
  cases f with
  | str n s hl hs =>
    have hl : s.length ≤ 1000000 := by omega
    refine ⟨trivial, _, kS _, ?_⟩
    by_cases e : s.length = 1
    · obtain ⟨c, rfl⟩ := one_of e
      refine ⟨trivial, hl, okI _, okI _, ?_⟩
      refine ⟨rfl, rfl, d_is_sign ?_⟩
      exact ⟨hd_d, h⟩
    · rw [sgB_no e] at h
      have e : ((s.length : Int) = 1) = False := by simp; omega
      simp [raw, startE, arSl, sSeq, sIf, sRet, sRetN, sNo, sSet, sSetN, sExpr, sAsg, dCall, dCallO, aCons, aNil, aOra, dV, hS, hV, dC, d2, see, seeAll, dCB, DL.gCons, DL.gNil, dChain, bD, bAnd, bOr, bNot, dAnd, dOr, dNot, dNeg, dIf, dIsi, bTruth, truD, lCons, lNil, dTup, dLst, isD, gCmp, gAdd, DL.gSub, gIs, gIsNot, gLen, gN, gTupT, gConsT, gNoT, ownL, dSl, oI, oNo, gLen, gEq, okI, eqI, hl, e]
      exact h
  | _ => exact ⟨trivial, _, kS _, hd_d, h⟩
def rowB (w : Int) (d : D) : Bool := match d with
  | .str s => decide ((s.length : Int) = w) && s.cps.toList.all sgC
  | _ => false
theorem bools_map {α : Type} (f : α → Bool) : ∀ l : List α, ofBools (l.map fun x => PyData.bool (f x)) = some (l.map f)
  | [] => rfl
  | x :: l => by
    show (ofBools (l.map fun x => PyData.bool (f x))).map (f x :: ·) = _
    rw [bools_map f l]
    rfl
def chB (d : D) : Bool := match d with
  | .str s => sgC (s.cps.getD 0 0)
  | _ => false
theorem all_signs (s : Str) : (signs s).all chB = s.cps.toList.all sgC := by
  rw [signs_eq, List.all_map]
  rfl
theorem d_row {n : Nat} {w : Int} (f : Fn n d) (h : P (.bool (rowB w d)) 0) : r__is_row [.d d, .d (.int w)] m P := by
  cases f with
  | str n s hl hs =>
    have hl : s.length ≤ 1000000 := by omega
    refine ⟨trivial, _, kS _, trivial, hl, trivial, okI _, okI _, ?_⟩
    show (if (!PyData.eqv (.int (s.length : Int)) (.int w)) = true then _ else _)
    rw [eqI]
    by_cases e : (s.length : Int) = w
    · rw [decide_eq_true e, if_neg (by simp)]
      refine ⟨by rw [signs_eq, List.length_map, Array.length_toList]; exact hl, ⟨by simp, fun j hj => by simp at hj; subst hj; rfl⟩, ?_⟩
      refine lcL_map (ρ := [.im (.str s), .im (.int w), .no]) (fun d => .bool (chB d)) (signs s) [] ?_ ?_
      · intro d hd Q hQ
        rw [signs_eq] at hd
        obtain ⟨c, hc, rfl⟩ := List.mem_map.mp hd
        refine ⟨rfl, rfl, d_is_sign ?_⟩
        exact hQ _ rfl
      · rw [List.nil_append]
        refine ⟨_, bools_map chB _, ?_⟩
        rw [List.all_map]
        have e2 : (signs s).all (id ∘ chB) = s.cps.toList.all sgC := all_signs s
        rw [e2]
        have e3 : rowB w (.str s) = s.cps.toList.all sgC := by
          show (decide ((s.length : Int) = w) && _) = _
          rw [decide_eq_true e, Bool.true_and]
        rw [e3] at h
        exact ⟨hd_d, h⟩
    · rw [decide_eq_false e, if_pos (show (!false) = true from rfl)]
      have e3 : rowB w (.str s) = false := by
        show (decide ((s.length : Int) = w) && _) = _
        rw [decide_eq_false e, Bool.false_and]
      rw [e3] at h
      exact ⟨hd_d, h⟩
  | _ => exact ⟨trivial, _, kS _, hd_d, h⟩
end
def scr (r w : Int) : D := .tuple [.int r, .int w]
def memB (r w : Int) (d : D) : Bool := match d with
  | .tuple ds => decide ((ds.length : Int) = r) && ds.all (rowB w)
  | _ => false
theorem tup_self (ds : List D) (r : Int) : tupB (.tuple ds) r r = decide ((ds.length : Int) = r) := by
  show (decide (r ≤ (ds.length : Int)) && decide ((ds.length : Int) ≤ r)) = _
  by_cases e : (ds.length : Int) = r
  · rw [e]
    simp
  · rw [decide_eq_false e]
    by_cases a : r ≤ (ds.length : Int)
    · rw [decide_eq_false (show ¬ (ds.length : Int) ≤ r by omega), Bool.and_false]
    · rw [decide_eq_false a, Bool.false_and]
theorem Fn.items {n : Nat} {ds : List D} (f : Fn n (.tuple ds)) : (∀ d ∈ ds, Fn n d) ∧ ds.length ≤ 1000 := by
  cases f with
  | tup n ds h hl => exact ⟨fun d hd => (h d hd).mono (Nat.le_succ n), hl⟩
section
variable {d : D} {m : Nat} {P : D → Nat → Prop} {r w : Int} {n : Nat}
theorem d_memory_of (f : Fn n d) (h : P (.bool (memB r w d)) 0) : r_is_memory_of [.d (scr r w), .d d] m P := by
  refine ⟨rfl, rfl, rfl, rfl, d_is_tuple ?_⟩
  cases d with
  | tuple ds =>
    rw [tup_self]
    by_cases e : (ds.length : Int) = r
    · rw [decide_eq_true e]
      obtain ⟨fi, fl⟩ := f.items
      refine ⟨by omega, ⟨by simp, fun j hj => by simp at hj; subst hj; rfl⟩, ?_⟩
      refine lcL_map (ρ := [.im (scr r w), .im (.tuple ds), .im (.int r), .im (.int w), .no]) (fun d => .bool (rowB w d)) ds [] ?_ ?_
      · intro d hd Q hQ
        refine ⟨rfl, rfl, d_row (fi d hd) ?_⟩
        exact hQ _ rfl
      · rw [List.nil_append]
        refine ⟨_, bools_map (rowB w) _, ?_⟩
        rw [List.all_map]
        have e3 : memB r w (.tuple ds) = ds.all (id ∘ rowB w) := by
          show (decide ((ds.length : Int) = r) && _) = _
          rw [decide_eq_true e, Bool.true_and]
          rfl
        rw [e3] at h
        exact ⟨hd_d, h⟩
    · rw [decide_eq_false e]
      have e3 : memB r w (.tuple ds) = false := by
        show (decide ((ds.length : Int) = r) && _) = _
        rw [decide_eq_false e, Bool.false_and]
      rw [e3] at h
      exact ⟨hd_d, h⟩
  | _ => exact ⟨hd_d, h⟩
end
structure OkS (r w : Int) : Prop where
  r1 : 1 ≤ r
  r4 : r ≤ 4
  w1 : 1 ≤ w
  w40 : w ≤ 40
theorem eqS (a b : Str) : PyData.eqv (.str a) (.str b) = (a == b) := by simp [PyData.eqv]
section
variable {d : D} {m : Nat} {P : D → Nat → Prop} {r w : Int} {n : Nat}
theorem w_in {i a b : Int} (h1 : a ≤ i) (h2 : i ≤ b) : within (.int i) a b = true := by
  show (decide (a ≤ i) && decide (i ≤ b)) = true
  rw [decide_eq_true h1, decide_eq_true h2]
  rfl
def allModes : List Str := ["hide", "paint", "roll1", "roll2", "roll3", "roll4"]
def modes (r : Int) : List Str := allModes.take (2 + r).toNat
def loneWs : List Str := ["hide", "paint", "line", "swap", "wipe", "clear", "rub", "tail", "idle"]
def lone (s : Str) : Bool := loneWs.any (· == s)
def codeB (r w : Int) (d : D) : Bool := match d with
  | .tuple [.str s] => lone s
  | .tuple [.str s, x] => (s == ("put" : Str) && sgB x) || (s == ("roll" : Str) && within x 1 r)
  | .tuple [.str s, x, y] => s == ("at" : Str) && (within x 0 (r - 1) && within y 0 (w - 1))
  | _ => false
theorem okS' {s : Str} {n : Nat} (f : Fn n (.str s)) : okD (.str s) := by
  cases f with
  | str n s hl hs => exact (Fn.str 0 s hl hs).ok (by omega)
theorem okW (s : Str) (h : PyData.strOk s = true := by decide +kernel) : okD (.str s) := by
  show SeqAt.shaped _ = true
  unfold SeqAt.shaped
  show (PyData.strOk s && _) = true
  rw [h]
  rfl
def d2tail (s : Str) (x : D) (r : Int) (P : D → Nat → Prop) : Prop := ((s == ("roll" : Str)) = true ∧ P (.bool (within x 1 r)) 0) ∨ ((s == ("roll" : Str)) = false ∧ P (.bool false) 0)
theorem d_code_of (f : Fn n d) (h : P (.bool (codeB r w d)) 0) : r_is_code_of [.d (scr r w), .d d] m P := by
  refine ⟨rfl, rfl, rfl, rfl, d_is_tuple ?_⟩
  cases d with
  | tuple ds =>
    obtain ⟨fi, _⟩ := f.items
    match ds, h, fi with
    | [], h, _ => exact ⟨hd_d, h⟩
    | [a], h, fi =>
      cases a with
      | str s =>
        refine ⟨trivial, _, rfl, _, kS _, ?_⟩
        refine ⟨trivial, _, rfl, ?_⟩
        refine ⟨trivial, okI _, okI _, ?_⟩
        refine ⟨trivial, loneWs, ofStrs_map loneWs, ?_⟩
        exact ⟨hd_d, h⟩
      | _ => exact ⟨trivial, _, rfl, _, kS _, hd_d, h⟩
    | [a, x], h, fi =>
      cases a with
      | str s =>
        have os := okS' (fi (.str s) (by simp))
        refine ⟨trivial, _, rfl, _, kS _, ?_⟩
        refine ⟨trivial, _, rfl, ?_⟩
        refine ⟨trivial, okI _, okI _, ?_⟩
        refine ⟨trivial, okI _, okI _, ?_⟩
        refine ⟨trivial, os, okW _, ?_⟩
        rw [eqS]
        have h : P (.bool ((s == ("put" : Str) && sgB x) || (s == ("roll" : Str) && within x 1 r))) 0 := h
        have last : P (.bool (s == ("roll" : Str) && within x 1 r)) 0 → d2tail s x r P := fun h => by
          by_cases z : (s == ("roll" : Str)) = true
          · rw [z, Bool.true_and] at h
            exact .inl ⟨z, h⟩
          · have z : (s == ("roll" : Str)) = false := by simpa using z
            rw [z, Bool.false_and] at h
            exact .inr ⟨z, h⟩
        by_cases z : (s == ("put" : Str)) = true
        · rw [z, Bool.true_and] at h
          rw [z]
          refine ⟨trivial, _, rfl, rfl, rfl, d_cell_sign (fi x (by simp)) ?_⟩
          by_cases y : sgB x = true
          · rw [y, Bool.true_or] at h
            rw [y]
            exact ⟨hd_d, h⟩
          · have y : sgB x = false := by simpa using y
            rw [y, Bool.false_or] at h
            rw [y]
            refine ⟨trivial, os, okW _, ?_⟩
            rw [eqS]
            rcases last h with ⟨v, h⟩ | ⟨v, h⟩
            · rw [v]
              refine ⟨trivial, _, rfl, rfl, rfl, d_is_within ?_⟩
              exact ⟨hd_d, h⟩
            · rw [v]
              exact ⟨hd_d, h⟩
        · have z : (s == ("put" : Str)) = false := by simpa using z
          rw [z, Bool.false_and, Bool.false_or] at h
          rw [z]
          refine ⟨trivial, os, okW _, ?_⟩
          rw [eqS]
          rcases last h with ⟨v, h⟩ | ⟨v, h⟩
          · rw [v]
            refine ⟨trivial, _, rfl, rfl, rfl, d_is_within ?_⟩
            exact ⟨hd_d, h⟩
          · rw [v]
            exact ⟨hd_d, h⟩
      | _ => exact ⟨trivial, _, rfl, _, kS _, hd_d, h⟩
    | [a, x, y], h, fi =>
      cases a with
      | str s =>
        have os := okS' (fi (.str s) (by simp))
        refine ⟨trivial, _, rfl, _, kS _, ?_⟩
        refine ⟨trivial, _, rfl, ?_⟩
        refine ⟨trivial, okI _, okI _, ?_⟩
        refine ⟨trivial, okI _, okI _, ?_⟩
        refine ⟨trivial, os, okW _, ?_⟩
        rw [eqS]
        have h : P (.bool (s == ("at" : Str) && (within x 0 (r - 1) && within y 0 (w - 1)))) 0 := h
        by_cases z : (s == ("at" : Str)) = true
        · rw [z, Bool.true_and] at h
          rw [z]
          refine ⟨trivial, _, rfl, trivial, ?_⟩
          refine ⟨rfl, rfl, d_is_within ?_⟩
          by_cases v : within x 0 (r - 1) = true
          · rw [v, Bool.true_and] at h
            rw [v]
            refine ⟨trivial, _, rfl, trivial, ?_⟩
            refine ⟨rfl, rfl, d_is_within ?_⟩
            exact ⟨hd_d, h⟩
          · have v : within x 0 (r - 1) = false := by simpa using v
            rw [v, Bool.false_and] at h
            rw [v]
            exact ⟨hd_d, h⟩
        · have z : (s == ("at" : Str)) = false := by simpa using z
          rw [z, Bool.false_and] at h
          rw [z]
          exact ⟨hd_d, h⟩
      | _ => exact ⟨trivial, _, rfl, _, kS _, hd_d, h⟩
    | a :: b :: c :: e :: rest, h, _ =>
      have e1 : tupB (.tuple (a :: b :: c :: e :: rest)) 1 3 = false := by
        show (decide ((1 : Int) ≤ _) && decide (((rest.length + 1 + 1 + 1 + 1 : Nat) : Int) ≤ 3)) = false
        rw [decide_eq_false (show ¬ ((rest.length + 1 + 1 + 1 + 1 : Nat) : Int) ≤ 3 by omega), Bool.and_false]
      rw [e1]
      have e2 : codeB r w (.tuple (a :: b :: c :: e :: rest)) = false := by
        cases a <;> rfl
      rw [e2] at h
      exact ⟨hd_d, h⟩
  | _ => exact ⟨hd_d, h⟩
end
section
variable {m : Nat} {P : D → Nat → Prop}
def Tu (n : Nat) (x : D) : Prop := ∃ ds, x = .tuple ds ∧ 0 < ds.length ∧ ds.length ≤ 10 ∧ ∀ d ∈ ds, Fn n d
theorem ch_fn {c : Nat} (h : c < 0x110000) : Fn 0 (.str ⟨#[c]⟩) := by
  refine .str 0 _ (by show 1 ≤ 1000; omega) ?_
  show (#[c] : Array Nat).all (· < 0x110000) = true
  simpa using h
end
section
variable {m : Nat} {P : D → Nat → Prop}
theorem Tu.mono {n k : Nat} {x : D} (t : Tu n x) (h : n ≤ k) : Tu k x := by
  obtain ⟨ds, e, l1, l2, f⟩ := t
  exact ⟨ds, e, l1, l2, fun d hd => (f d hd).mono h⟩
end
end Q25
namespace Q25
open PySem L2 DL
def S (l : List Nat) : Str := ⟨l.toArray⟩
theorem S_len (l : List Nat) : (S l).length = l.length := by
  show l.toArray.size = _
  simp
theorem S_list (l : List Nat) : (S l).cps.toList = l := by
  show l.toArray.toList = l
  simp
theorem S_inj {a b : List Nat} (h : S a = S b) : a = b := by
  have := congrArg (fun s : Str => s.cps.toList) h
  simpa [S_list] using this
theorem S_app (a b : List Nat) : S a ++ S b = S (a ++ b) := by
  show (⟨a.toArray ++ b.toArray⟩ : Str) = ⟨(a ++ b).toArray⟩
  simp
theorem S_eqb (a b : List Nat) : (S a == S b) = decide (a = b) := by
  by_cases h : a = b
  · subst h
    simp
  · rw [decide_eq_false h]
    exact beq_eq_false_iff_ne.mpr fun z => h (S_inj z)
def sp (c : Nat) : Bool := decide (c = 32)
theorem sp_eq : ((" " : Str).cps.contains : Nat → Bool) = sp := by
  have e : (" " : Str).cps = #[32] := by decide +kernel
  funext c
  rw [e]
  unfold sp
  by_cases h : c = 32
  · subst h
    decide +kernel
  · rw [decide_eq_false h]
    simp [Array.contains]
    omega
def rs (l : List Nat) : List Nat := (l.reverse.dropWhile sp).reverse
theorem dw (p : Nat → Bool) : ∀ l : List Nat, l.dropWhile p = l.drop (l.takeWhile p).length
  | [] => rfl
  | a :: l => by
    by_cases h : p a = true
    · rw [List.dropWhile_cons_of_pos h, List.takeWhile_cons_of_pos h, List.length_cons, List.drop_succ_cons]
      exact dw p l
    · rw [List.dropWhile_cons_of_neg h, List.takeWhile_cons_of_neg h]
      rfl
theorem rs_take (l : List Nat) : rs l = l.take (l.length - (l.reverse.takeWhile sp).length) := by
  unfold rs
  rw [dw, List.drop_reverse, List.reverse_reverse]
theorem strip_eq (l : List Nat) : Txt.stripChars (S l) (" " : Str) = S (rs (l.dropWhile sp)) := by
  unfold Txt.stripChars
  rw [sp_eq, PyProof.Rows.stripBy_eq, rs_take, dw]
  show (⟨(S l).cps.extract ((S l).cps.toList.takeWhile sp).length ((S l).length - (((S l).cps.toList.drop ((S l).cps.toList.takeWhile sp).length).reverse.takeWhile sp).length)⟩ : Str) = _
  rw [S_list, S_len]
  show (⟨l.toArray.extract _ _⟩ : Str) = ⟨_⟩
  congr 1
  apply Array.ext'
  simp only [Array.toList_extract, List.extract]
  rw [List.length_drop]
  congr 1
  omega
theorem rs_split (l : List Nat) : ∃ k, l = rs l ++ List.replicate k 32 ∧ (rs l).getLast? ≠ some 32 := by
  have gen : ∀ m : List Nat, ∃ k, m = List.replicate k 32 ++ m.dropWhile sp ∧ (m.dropWhile sp).head? ≠ some 32 := by
    intro m
    induction m with
    | nil => exact ⟨0, rfl, by simp⟩
    | cons c m ih =>
      by_cases z : sp c = true
      · obtain ⟨k, h1, h2⟩ := ih
        have e : c = 32 := of_decide_eq_true z
        rw [List.dropWhile_cons_of_pos z]
        refine ⟨k + 1, ?_, h2⟩
        rw [List.replicate_succ, List.cons_append, ← h1, e]
      · rw [List.dropWhile_cons_of_neg z]
        refine ⟨0, rfl, fun e => z ?_⟩
        have e : c = 32 := by simpa using e
        rw [e]
        decide
  obtain ⟨k, h1, h2⟩ := gen l.reverse
  refine ⟨k, ?_, ?_⟩
  · have := congrArg List.reverse h1
    rw [List.reverse_reverse, List.reverse_append, List.reverse_replicate] at this
    exact this
  · unfold rs
    rw [List.getLast?_reverse]
    exact h2
theorem rs_mem {l : List Nat} {c : Nat} (h : c ∈ rs l) : c ∈ l := by
  rw [rs_take] at h
  exact List.mem_of_mem_take h
theorem rs_len (l : List Nat) : (rs l).length ≤ l.length := by
  rw [rs_take, List.length_take]
  omega
theorem rs_head {l : List Nat} (h : rs l ≠ []) : (rs l).head? = l.head? := by
  obtain ⟨k, e, _⟩ := rs_split l
  cases hr : rs l with
  | nil => exact absurd hr h
  | cons a t =>
    rw [hr] at e
    rw [e]
    rfl
theorem dw_head (l : List Nat) : (l.dropWhile sp).head? ≠ some 32 := by
  induction l with
  | nil => simp
  | cons c m ih =>
    by_cases z : sp c = true
    · rw [List.dropWhile_cons_of_pos z]
      exact ih
    · rw [List.dropWhile_cons_of_neg z]
      intro e
      have e : c = 32 := by simpa using e
      rw [e] at z
      exact z (by decide)
theorem S_join : ∀ rows : List (List Nat), Str.join ("" : Str) (rows.map S) = S rows.flatten
  | [] => by decide +kernel
  | [l] => by
    show S l = _
    simp
  | l :: m :: r => by
    show S l ++ ("" : Str) ++ Str.join ("" : Str) ((m :: r).map S) = _
    rw [S_join (m :: r)]
    have e : ("" : Str) = S [] := by decide +kernel
    rw [e, S_app, S_app]
    simp
theorem T_join (rows : List (List Nat)) : Txt.join ("" : Str) (rows.map S) = S rows.flatten := by
  unfold Txt.join
  rw [StrLaws.glued_eq_join, S_join]
theorem flat1 (cs : List Nat) : (cs.map fun c => [c]).flatten = cs := by
  induction cs with
  | nil => rfl
  | cons c cs ih =>
    rw [List.map_cons, List.flatten_cons, ih]
    rfl
theorem T_joinC (cs : List Nat) : Txt.join ("" : Str) (cs.map fun c => (⟨#[c]⟩ : Str)) = S cs := by
  have e : (cs.map fun c => (⟨#[c]⟩ : Str)) = (cs.map fun c => [c]).map S := by
    rw [List.map_map]
    rfl
  rw [e, T_join, flat1]
theorem mul_S (n : Int) : mulT (" " : Str) n = S (List.replicate n.toNat 32) := by
  have e : (" " : Str).cps.toList = [32] := by decide +kernel
  unfold mulT
  rw [e]
  show (⟨_⟩ : Str) = ⟨_⟩
  congr 2
  induction n.toNat with
  | zero => rfl
  | succ k ih => rw [List.replicate_succ, List.replicate_succ, List.flatten_cons, ih]; rfl
end Q25
namespace Q25
open PySem L2 DL
def chD (c : Nat) : D := .str ⟨#[c]⟩
def Row (w : Int) (l : List Nat) : Prop := l.length = w.toNat ∧ ∀ c ∈ l, sgC c = true
def rowL (l : List Nat) : D := .list (l.map chD)
structure Mem (r w : Int) (rows : List (List Nat)) : Prop where
  n : rows.length = r.toNat
  a : ∀ l ∈ rows, Row w l
theorem ch_sg {i : Int} (h0 : 0 ≤ i) (h1 : i < 4) : ∃ c, atI ("ab x" : Str).cps.toList i = some c ∧ sgC c = true := by
  have : i = 0 ∨ i = 1 ∨ i = 2 ∨ i = 3 := by omega
  rcases this with rfl | rfl | rfl | rfl
  · exact ⟨97, by decide +kernel, by decide⟩
  · exact ⟨98, by decide +kernel, by decide⟩
  · exact ⟨32, by decide +kernel, by decide⟩
  · exact ⟨120, by decide +kernel, by decide⟩
section
variable {E : DE} {r w : Int} {a : Sl} {b d : Sl}
def memL (rows : List (List Nat)) : D := .list (rows.map rowL)
end
theorem strs_ch : ∀ l : List Nat, ofStrs (l.map chD) = some (l.map fun c => (⟨#[c]⟩ : Str))
  | [] => rfl
  | c :: l => by
    show (ofStrs (l.map chD)).map (_ :: ·) = _
    rw [strs_ch l]
    rfl
theorem sum_ch (l : List Nat) : ((l.map fun c => (⟨#[c]⟩ : Str)).map (·.length)).sum = l.length := by
  induction l with
  | nil => rfl
  | cons c l ih =>
    (simp only [List.map_cons, List.sum_cons, List.length_cons])
    rw [ih]
    show 1 + l.length = _
    omega
end Q25
namespace Q25
open PySem L2 DL
def lineD (l : List Nat) : D := .str (S l)
def textD (ls : List (List Nat)) : D := .tuple (ls.map lineD)
theorem sg_lt {c : Nat} (h : sgC c = true) : c < 0x110000 ∧ 32 ≤ c ∧ c ≤ 126 ∧ c ≠ 37 := by
  unfold sgC at h
  simp at h
  omega
theorem ok_S {l : List Nat} (h : ∀ c ∈ l, sgC c = true) : PyData.strOk (S l) = true := by
  show l.toArray.all (· < 0x110000) = true
  (rw [← Array.all_toList, List.all_eq_true])
  intro c hc
  have hc : c ∈ l := by simpa using hc
  exact decide_eq_true (sg_lt (h c hc)).1
theorem okD_S {l : List Nat} (h : ∀ c ∈ l, sgC c = true) : okD (.str (S l)) := okW _ (ok_S h)
theorem S_nil : ("" : Str) = S [] := by decide +kernel
theorem fnL {l : List Nat} (hl : l.length ≤ 1000) (h : ∀ c ∈ l, sgC c = true) : Fn 0 (lineD l) := .str 0 _ (by rw [S_len]; exact hl) (ok_S h)
theorem all_sg {l : List Nat} (h : ∀ c ∈ l, sgC c = true) : l.all sgC = true := List.all_eq_true.mpr h
theorem cut_take (xs : List D) (p : Nat) : cutD xs none (some (p : Int)) = xs.take p := by
  unfold cutD
  rw [HT.sIx_none, HT.sIx_nat, List.drop_zero, Nat.sub_zero]
  by_cases h : p ≤ xs.length
  · rw [Nat.min_eq_left h]
  · (rw [Nat.min_eq_right (by omega), List.take_of_length_le (Nat.le_refl _), List.take_of_length_le (by omega)])
theorem cut_drop (xs : List D) (p : Nat) : cutD xs (some (p : Int)) none = xs.drop p := by
  unfold cutD
  rw [HT.sIx_none, HT.sIx_nat]
  by_cases h : p ≤ xs.length
  · rw [Nat.min_eq_left h, List.take_of_length_le (by rw [List.length_drop]; exact Nat.le_refl _)]
  · (rw [Nat.min_eq_right (by omega), List.drop_of_length_le (Nat.le_refl _), List.drop_of_length_le (by omega)])
    simp
inductive Co
  | put (c : Nat) | at (i j : Nat) | roll (k : Nat) | lone (w : Str)
def rollS (k : Nat) : Str := if k = 1 then "roll1" else if k = 2 then "roll2" else if k = 3 then "roll3" else "roll4"
def rollN (s : Str) : Nat := if s = "roll1" then 1 else if s = "roll2" then 2 else if s = "roll3" then 3 else if s = "roll4" then 4 else 0
def coD : Co → D
  | .put c => .tuple [.str ("put" : Str), .str ⟨#[c]⟩]
  | .at i j => .tuple [.str ("at" : Str), .int (i : Int), .int (j : Int)]
  | .roll k => .tuple [.str ("roll" : Str), .int (k : Int)]
  | .lone w => .tuple [.str w]
def ctlF (R W : Nat) (s : Str) (i j : Nat) : Co → Str × Nat × Nat
  | .put _ => (s, i, min (j + 1) (W - 1))
  | .at a b => (s, a, b)
  | .roll k => (rollS k, R - 1, 0)
  | .lone w => if w = "hide" ∨ w = "paint" then (w, i, j) else if w = "line" then (if 0 < rollN s then (s, R - 1, 0) else (s, min (i + 1) (R - 1), 0)) else if w = "swap" then ("hide", i, j) else if w = "rub" then (s, i, j - 1) else (s, i, j)
def inRow (s : Str) (f : List Nat → List Nat) (i : Nat) (A B : List (List Nat)) : List (List Nat) × List (List Nat) :=
  if s = "hide" then (A, B.set i (f (B.getD i []))) else (A.set i (f (A.getD i [])), B)
def blRow (W : Nat) : List Nat := List.replicate W 32
def memF (R W : Nat) (s : Str) (i j : Nat) (A B : List (List Nat)) : Co → List (List Nat) × List (List Nat)
  | .put c => inRow s (fun l => l.set j c) i A B
  | .at _ _ => (A, B)
  | .roll _ => (A, B)
  | .lone w => if w = "rub" then (if 0 < j then inRow s (fun l => l.set (j - 1) 32) i A B else (A, B))
    else if w = "tail" then inRow s (fun l => l.take j ++ List.replicate (l.length - j) 32) i A B
    else if w = "line" then (if 0 < rollN s then (A.take (R - rollN s) ++ A.drop (R - rollN s + 1) ++ [blRow W], B) else (A, B))
    else if w = "swap" then (B, A) else if w = "wipe" then (List.replicate R (blRow W), B) else if w = "clear" then (A, List.replicate R (blRow W)) else (A, B)
structure OkC (R W : Nat) (c : Co) : Prop where
  ok : match c with
    | .put c => sgC c = true
    | .at i j => i < R ∧ j < W
    | .roll k => 1 ≤ k ∧ k ≤ R
    | .lone w => w ∈ loneWs
end Q25
namespace Q25
open PySem L2 DL
section
variable {E : DE} {R W i j : Nat} {s : Str} {A B : List (List Nat)}
theorem okb (o : OkS (R : Int) (W : Int)) : 1 ≤ R ∧ R ≤ 4 ∧ 1 ≤ W ∧ W ≤ 40 ∧ (R + R) * W ≤ 100000 ∧ R * W ≤ 160 ∧ 1 ≤ R * W := by
  have r1 := o.r1
  have r4 := o.r4
  have w1 := o.w1
  have w40 := o.w40
  have h1 : (R + R) * W ≤ 8 * 40 := Nat.mul_le_mul (by omega) (by omega)
  have h2 : R * W ≤ 4 * 40 := Nat.mul_le_mul (by omega) (by omega)
  have h3 : 1 * 1 ≤ R * W := Nat.mul_le_mul (by omega) (by omega)
  exact ⟨by omega, by omega, by omega, by omega, by omega, by omega, by omega⟩
theorem roll_le (o : OkS (R : Int) (W : Int)) (hs : s ∈ modes R) : rollN s ≤ R ∧ s ∈ allModes := by
  obtain ⟨b1, b2, _⟩ := okb o
  have : ∀ r, r = 1 ∨ r = 2 ∨ r = 3 ∨ r = 4 → ∀ s ∈ modes (r : Nat), rollN s ≤ r ∧ s ∈ allModes := by
    rintro r (rfl | rfl | rfl | rfl) <;> decide +kernel
  exact this R (by omega) s hs
end
end Q25
namespace Q25
open PySem L2 DL
def enF : Nat → List D → List D
  | _, [] => []
  | k, d :: ds => .tuple [.int (k : Nat), d] :: enF (k + 1) ds
theorem enF_map : ∀ (ds : List D) (k : Nat), (ds.mapIdx fun i d => PyData.tuple [.int ((i + k : Nat) : Int), d]) = enF k ds
  | [], _ => rfl
  | d :: ds, k => by
    rw [List.mapIdx_cons]
    show _ :: _ = _ :: _
    rw [← enF_map ds (k + 1)]
    have e : ∀ i : Nat, i + 1 + k = i + (k + 1) := fun i => by omega
    simp only [Nat.zero_add, e]
theorem en_eq (ds : List D) : enD ds = enF 0 ds := enF_map ds 0
structure De where
  s : Str
  i : Nat
  j : Nat
  A : List (List Nat)
  B : List (List Nat)
def De.step (R W : Nat) (x : De) (c : Co) : De := ⟨(ctlF R W x.s x.i x.j c).1, (ctlF R W x.s x.i x.j c).2.1, (ctlF R W x.s x.i x.j c).2.2, (memF R W x.s x.i x.j x.A x.B c).1, (memF R W x.s x.i x.j x.A x.B c).2⟩
structure De.Ok (R W : Nat) (x : De) : Prop where
  s : x.s ∈ modes R
  i : x.i < R
  j : x.j < W
  A : Mem (R : Int) (W : Int) x.A
  B : Mem (R : Int) (W : Int) x.B
/-- as the program tells it -/
def De.d (x : De) : D := .tuple [.str x.s, .int (x.i : Int), .int (x.j : Int), textD x.A, textD x.B]
/-- as the law leads it -/
def De.l (x : De) : D := .tuple [.str x.s, .int (x.i : Int), .int (x.j : Int), memL x.A, memL x.B]
section
variable {R W : Nat}
theorem mode_in (o : OkS (R : Int) (W : Int)) : (∀ s ∈ (["hide", "paint"] : List Str), s ∈ modes R) ∧ ∀ k, 1 ≤ k → k ≤ R → rollS k ∈ modes R := by
  obtain ⟨b1, b2, _⟩ := okb o
  have : ∀ r, r = 1 ∨ r = 2 ∨ r = 3 ∨ r = 4 → (∀ s ∈ (["hide", "paint"] : List Str), s ∈ modes (r : Nat)) ∧ ∀ k, k < 5 → 1 ≤ k → k ≤ r → rollS k ∈ modes (r : Nat) := by
    rintro r (rfl | rfl | rfl | rfl) <;> decide +kernel
  obtain ⟨h1, h2⟩ := this R (by omega)
  exact ⟨h1, fun k k1 k2 => h2 k (by omega) k1 k2⟩
theorem mem_bl : Mem (R : Int) (W : Int) (List.replicate R (blRow W)) := by
  refine ⟨by rw [List.length_replicate]; rfl, fun l hl => ?_⟩
  rw [List.eq_of_mem_replicate hl]
  refine ⟨by unfold blRow; rw [List.length_replicate]; rfl, fun c hc => ?_⟩
  rw [List.eq_of_mem_replicate hc]
  decide
theorem mem_set {A : List (List Nat)} {i : Nat} {r : List Nat} (h : Mem (R : Int) (W : Int) A) (hr : Row (W : Int) r) : Mem (R : Int) (W : Int) (A.set i r) := by
  refine ⟨by rw [List.length_set]; exact h.n, fun l hl => ?_⟩
  rcases List.mem_or_eq_of_mem_set hl with z | z
  · exact h.a l z
  · rw [z]
    exact hr
theorem row_get {A : List (List Nat)} {i : Nat} (h : Mem (R : Int) (W : Int) A) (hi : i < R) : Row (W : Int) (A.getD i []) := by
  have hn : A.length = R := h.n
  rw [List.getD_eq_getElem?_getD, List.getElem?_eq_getElem (by omega)]
  exact h.a _ (List.getElem_mem _)
theorem row_set {l : List Nat} {k c : Nat} (h : Row (W : Int) l) (hc : sgC c = true) : Row (W : Int) (l.set k c) := by
  refine ⟨by rw [List.length_set]; exact h.1, fun x hx => ?_⟩
  rcases List.mem_or_eq_of_mem_set hx with z | z
  · exact h.2 x z
  · rw [z]
    exact hc
theorem inRow_ok {s : Str} {i : Nat} {A B : List (List Nat)} {f : List Nat → List Nat} (hA : Mem (R : Int) (W : Int) A) (hB : Mem (R : Int) (W : Int) B) (hi : i < R) (hf : ∀ l, Row (W : Int) l → Row (W : Int) (f l)) : Mem (R : Int) (W : Int) (inRow s f i A B).1 ∧ Mem (R : Int) (W : Int) (inRow s f i A B).2 := by
  unfold inRow
  by_cases z : s = "hide"
  · rw [if_pos z]
    exact ⟨hA, mem_set hB (hf _ (row_get hB hi))⟩
  · rw [if_neg z]
    exact ⟨mem_set hA (hf _ (row_get hA hi)), hB⟩
theorem mem_ok {x : De} {c : Co} (o : OkS (R : Int) (W : Int)) (h : x.Ok R W) (hc : OkC R W c) : Mem (R : Int) (W : Int) (memF R W x.s x.i x.j x.A x.B c).1 ∧ Mem (R : Int) (W : Int) (memF R W x.s x.i x.j x.A x.B c).2 := by
  cases c with
  | put c => exact inRow_ok h.A h.B h.i fun l hl => row_set hl hc.ok
  | «at» a b => exact ⟨h.A, h.B⟩
  | roll k => exact ⟨h.A, h.B⟩
  | lone w =>
    unfold memF
    dsimp only
    split
    · split
      · exact inRow_ok h.A h.B h.i fun l hl => row_set hl (by decide)
      · exact ⟨h.A, h.B⟩
    · split
      · refine inRow_ok h.A h.B h.i fun l hl => ⟨?_, fun c hc => ?_⟩
        · have h1 : l.length = W := hl.1
          have h2 := h.j
          rw [List.length_append, List.length_take, List.length_replicate, h1]
          show min x.j W + (W - x.j) = W
          omega
        · rcases List.mem_append.mp hc with z | z
          · exact hl.2 c (List.mem_of_mem_take z)
          · rw [List.eq_of_mem_replicate z]
            decide
      · split
        · split
          · rename_i z
            obtain ⟨rl, _⟩ := roll_le o h.s
            have na : x.A.length = R := h.A.n
            refine ⟨⟨?_, fun l hl => ?_⟩, h.B⟩
            · show (x.A.take (R - rollN x.s) ++ x.A.drop (R - rollN x.s + 1) ++ [blRow W]).length = R
              rw [List.length_append, List.length_append, List.length_take, List.length_drop, na]
              simp
              omega
            · have hl : l ∈ x.A.take (R - rollN x.s) ++ x.A.drop (R - rollN x.s + 1) ++ [blRow W] := hl
              rcases List.mem_append.mp hl with z | z
              · rcases List.mem_append.mp z with z | z
                · exact h.A.a l (List.mem_of_mem_take z)
                · exact h.A.a l (List.mem_of_mem_drop z)
              · (rw [List.mem_singleton.mp z])
                exact (mem_bl (R := 1)).a _ (by simp)
          · exact ⟨h.A, h.B⟩
        · split
          · exact ⟨h.B, h.A⟩
          · split
            · exact ⟨mem_bl, h.B⟩
            · split
              · exact ⟨h.A, mem_bl⟩
              · exact ⟨h.A, h.B⟩
theorem De.Ok.step {x : De} {c : Co} (o : OkS (R : Int) (W : Int)) (h : x.Ok R W) (hc : OkC R W c) : (x.step R W c).Ok R W := by
  obtain ⟨m1, m2⟩ := mem_ok o h hc
  obtain ⟨b1, b2, b3, _⟩ := okb o
  obtain ⟨mi, mr⟩ := mode_in o
  have hi := h.i
  have hj := h.j
  have cases : (ctlF R W x.s x.i x.j c).1 ∈ modes R ∧ (ctlF R W x.s x.i x.j c).2.1 < R ∧ (ctlF R W x.s x.i x.j c).2.2 < W := by
    cases c with
    | put c => exact ⟨h.s, hi, by show min (x.j + 1) (W - 1) < W; omega⟩
    | «at» a b => exact ⟨h.s, hc.ok.1, hc.ok.2⟩
    | roll k => exact ⟨mr k hc.ok.1 hc.ok.2, by show R - 1 < R; omega, by show 0 < W; omega⟩
    | lone w =>
      unfold ctlF
      dsimp only
      split
      · rename_i z
        refine ⟨mi w ?_, hi, hj⟩
        rcases z with rfl | rfl <;> simp
      · split
        · split
          · exact ⟨h.s, by show R - 1 < R; omega, by show 0 < W; omega⟩
          · exact ⟨h.s, by show min (x.i + 1) (R - 1) < R; omega, by show 0 < W; omega⟩
        · split
          · exact ⟨mi _ (by simp), hi, hj⟩
          · split
            · exact ⟨h.s, hi, by show x.j - 1 < W; omega⟩
            · exact ⟨h.s, hi, hj⟩
  exact ⟨cases.1, cases.2.1, cases.2.2, m1, m2⟩
def CodeOK (R W : Nat) (d : D) : Prop := Fn 1 d ∧ codeB R W d = true
theorem fW (s : Str) (h1 : s.length ≤ 1000 := by decide +kernel) (h2 : PyData.strOk s = true := by decide +kernel) : Fn 0 (.str s) := .str 0 s h1 h2
theorem co_ok {c : Co} (o : OkS (R : Int) (W : Int)) (h : OkC R W c) : CodeOK R W (coD c) := by
  cases c with
  | put c =>
    have hc : sgC c = true := h.ok
    refine ⟨.tup 0 _ (fun d hd => ?_) (by show 2 ≤ 1000; omega), ?_⟩
    · simp at hd
      rcases hd with rfl | rfl
      · exact fW _
      · exact ch_fn (sg_lt hc).1
    · show ((("put" : Str) == ("put" : Str)) && sgC c || _) = true
      rw [show (("put" : Str) == ("put" : Str)) = true by decide +kernel, hc]
      rfl
  | «at» a b =>
    have hc : a < R ∧ b < W := h.ok
    refine ⟨.tup 0 _ (fun d hd => ?_) (by show 3 ≤ 1000; omega), ?_⟩
    · simp at hd
      rcases hd with rfl | rfl | rfl
      · exact fW _
      · exact .int _ _
      · exact .int _ _
    · show ((("at" : Str) == ("at" : Str)) && (within (.int (a : Int)) 0 ((R : Int) - 1) && within (.int (b : Int)) 0 ((W : Int) - 1))) = true
      rw [show (("at" : Str) == ("at" : Str)) = true by decide +kernel, w_in (by omega) (by omega), w_in (by omega) (by omega)]
      rfl
  | roll k =>
    have hc : 1 ≤ k ∧ k ≤ R := h.ok
    refine ⟨.tup 0 _ (fun d hd => ?_) (by show 2 ≤ 1000; omega), ?_⟩
    · simp at hd
      rcases hd with rfl | rfl
      · exact fW _
      · exact .int _ _
    · show ((("roll" : Str) == ("put" : Str)) && sgB (.int (k : Int)) || (("roll" : Str) == ("roll" : Str)) && within (.int (k : Int)) 1 (R : Int)) = true
      rw [show (("roll" : Str) == ("put" : Str)) = false by decide +kernel, show (("roll" : Str) == ("roll" : Str)) = true by decide +kernel, w_in (by omega) (by omega)]
      rfl
  | lone w =>
    have hw : w ∈ loneWs := h.ok
    have : ∀ w ∈ loneWs, w.length ≤ 1000 ∧ PyData.strOk w = true := by decide +kernel
    obtain ⟨q1, q2⟩ := this w hw
    refine ⟨.tup 0 _ (fun d hd => ?_) (by show 1 ≤ 1000; omega), ?_⟩
    · rw [List.mem_singleton.mp hd]
      exact .str 0 w q1 q2
    · show (loneWs.any (· == w)) = true
      rw [List.any_eq_true]
      exact ⟨w, hw, by simp⟩
variable {m : Nat} {P : D → Nat → Prop}
def De.run (R W : Nat) (x : De) (cs : List Co) : De := cs.foldl (De.step R W) x
theorem De.Ok.run (o : OkS (R : Int) (W : Int)) : ∀ {cs : List Co} {x : De}, x.Ok R W → (∀ c ∈ cs, OkC R W c) → (x.run R W cs).Ok R W
  | [], _, h, _ => h
  | c :: cs, x, h, hc => De.Ok.run o (cs := cs) (h.step o (hc c (List.mem_cons_self ..))) fun c hc' => hc c (List.mem_cons_of_mem _ hc')
end
end Q25
namespace Q25
open PySem L2 DL
structure Sh (k n : Nat) (d : D) : Prop where
  nd : nod d = true
  sh : d.showable = true
  lv : d.leavesShort 13 = true
  la : d.canLay0 = true
  dp : d.depth ≤ k
  bk : d.bulk ≤ n
theorem Sh.mono {k n k' n' : Nat} {d : D} (h : Sh k n d) (hk : k ≤ k') (hn : n ≤ n') : Sh k' n' d := ⟨h.nd, h.sh, h.lv, h.la, Nat.le_trans h.dp hk, Nat.le_trans h.bk hn⟩
end Q25
namespace Q25
open PySem L2 DL
section
variable {R W : Nat} {P : D → Nat → Prop} {m : Nat} {x : De}
def bl0 (R W : Nat) : De := ⟨"hide", 0, 0, List.replicate R (blRow W), List.replicate R (blRow W)⟩
theorem mul_bl (n W : Nat) : (List.replicate n [PyData.str (mulT (" " : Str) (W : Int))]).flatten = (List.replicate n (blRow W)).map lineD := by
  rw [mul_S, Int.toNat_natCast, List.map_replicate]
  induction n with
  | zero => rfl
  | succ k ih => rw [List.replicate_succ, List.replicate_succ, List.flatten_cons, ih]; rfl
end
end Q25
namespace Q25
open PySem L2 DL
structure Line (w : Nat) (l : List Nat) : Prop where
  ne : l ≠ []
  le : l.length ≤ w
  sg : ∀ c ∈ l, sgC c = true
  hd : l.head? ≠ some 32
  tl : l.getLast? ≠ some 32
structure Text (r w : Int) (ls : List (List Nat)) : Prop where
  n1 : 1 ≤ ls.length
  nr : ls.length ≤ r.toNat
  a : ∀ l ∈ ls, Line w.toNat l
theorem line_x {w : Nat} (h : 1 ≤ w) : Line w [120] := ⟨by simp, h, by decide, by decide, by decide⟩
theorem line_of {w : Nat} {l : List Nat} (hl : l.length ≤ w) (hs : ∀ c ∈ l, sgC c = true) (ne : rs (l.dropWhile sp) ≠ []) : Line w (rs (l.dropWhile sp)) := by
  obtain ⟨k, e, tl⟩ := rs_split (l.dropWhile sp)
  have sub : ∀ c ∈ l.dropWhile sp, c ∈ l := fun c hc => by
    rw [dw] at hc
    exact List.mem_of_mem_drop hc
  refine ⟨ne, ?_, fun c hc => hs c (sub c (rs_mem hc)), ?_, tl⟩
  · have h1 := rs_len (l.dropWhile sp)
    have h2 : (l.dropWhile sp).length ≤ l.length := by
      rw [dw, List.length_drop]
      omega
    omega
  · rw [rs_head ne]
    exact dw_head l
def tlD : DM := (d2 gIx (hV (dC (.str ("ab x" : Str)))) (hV (dCallO 0 2 s_next (aOra 0 (aCons (dC (.int 4)) (aNil))))))
theorem tl_lc {K : List D → DL.Env → Prop} {a b c d : Sl} : ∀ (ds : List D) (acc : List Nat) (m : Nat), m + ds.length < 1048000 → (∀ x ∈ acc, sgC x = true) →
    (∀ acc' : List Nat, acc'.length = acc.length + ds.length → (∀ x ∈ acc', sgC x = true) → K (acc'.map chD) [.ora (m + ds.length), a, b, c, d, .no]) → lcL (gN 5) bYes tlD [5] K ds (acc.map chD) [.ora m, a, b, c, d, .no]
  | [], acc, m, _, ha, h => h acc (by simp) ha
  | x :: ds, acc, m, hm, ha, h => by
    rw [List.length_cons] at hm h
    refine ⟨trivial, rfl, rfl, rfl, 4, rfl, by omega, by omega, by omega, fun i i0 i1 => ?_⟩
    obtain ⟨z, ez, hz⟩ := ch_sg i0 i1
    refine ⟨(by decide +kernel : ("ab x" : Str).length ≤ 1000000), z, ez, ?_⟩
    have em : acc.map chD ++ [PyData.str ⟨#[z]⟩] = (acc ++ [z]).map chD := by
      rw [List.map_append]
      rfl
    show lcL (gN 5) bYes tlD [5] K ds (acc.map chD ++ [PyData.str ⟨#[z]⟩]) _
    rw [em]
    refine tl_lc ds (acc ++ [z]) (m + 1) (by omega) (fun y hy => ?_) fun acc' e' ha' => ?_
    · rcases List.mem_append.mp hy with q | q
      · exact ha y q
      · rw [List.mem_singleton.mp q]
        exact hz
    · have := h acc' (by rw [e', List.length_append]; simp; omega) ha'
      have em : m + (ds.length + 1) = m + 1 + ds.length := by omega
      rw [em] at this
      exact this
def txBody : SM := (sSeq (sSet 4 (dStrip Txt.stripChars (dJoin (dC (.str ("" : Str))) (dLc (iRange1 (lCons (d2 gAdd (hV (dC (.int 1))) (hV (dCallO 0 2 s_next (aOra 0 (aCons (d2 gIx (hS 1) (hV (dC (.int 1)))) (aNil)))))) (lNil))) (gN 5) (bYes) tlD [5])) (dC (.str (" " : Str))))) (sApp 2 (dIf (bD (d2 gNe (hS 4) (hV (dC (.str ("" : Str)))))) (dV 4) (dC (.str ("x" : Str))))))
section
variable {E : DE} {r w : Int}
theorem tx_turn {acc : List (List Nat)} {s3 s4 : Sl} {m : Nat} (o : OkS r w) (hm : m < 1047000) (hl : acc.length ≤ 1000) (h : ∀ (l : List Nat) (m' : Nat) (s4 : Sl), Line w.toNat l → m' ≤ m + 41 → E.nx [.ora m', .im (scr r w), .ow (.list ((acc ++ [l]).map lineD)), s3, s4, .no]) :
    txBody E [.ora m, .im (scr r w), .ow (.list (acc.map lineD)), s3, s4, .no] := by
  have w1 := o.w1
  have w40 := o.w40
  refine ⟨⟨_, rfl⟩, ?_⟩
  refine ⟨trivial, trivial, _, rfl, rfl, rfl, rfl, w, rfl, by omega, by omega, by omega, fun j j0 j1 => ?_⟩
  have rl : (rgD 0 (1 + j)).length = (1 + j).toNat := by simp [rgD]
  refine ⟨⟨by omega, by omega⟩, by omega, ⟨by simp, fun j hj => by simp at hj; subst hj; rfl⟩, ?_⟩
  refine tl_lc (rgD 0 (1 + j)) [] (m + 1) (by omega) (fun x hx => nomatch hx) fun cs e hcs => ?_
  rw [List.length_nil, Nat.zero_add, rl] at e
  have h0 : ("" : Str).length = 0 := by decide +kernel
  refine ⟨_, cs.map chD, _, rfl, .inl rfl, strs_ch cs, by rw [sum_ch, h0]; omega, ⟨_, rfl⟩, _, _, rfl, rfl, ?_, ?_⟩
  · rw [T_joinC, S_len]
    omega
  · have eS : PyData.str (Txt.stripChars (Txt.join ("" : Str) (cs.map fun c => (⟨#[c]⟩ : Str))) (" " : Str)) = .str (S (rs (cs.dropWhile sp))) := by rw [T_joinC, strip_eq]
    rw [eS]
    have sgs : ∀ c ∈ rs (cs.dropWhile sp), sgC c = true := fun c hc => by
      have hc := rs_mem hc
      rw [dw] at hc
      exact hcs c (List.mem_of_mem_drop hc)
    refine ⟨trivial, trivial, okD_S sgs, okW _, ?_⟩
    show (if (!PyData.eqv (.str (S (rs (cs.dropWhile sp)))) (.str ("" : Str))) = true then _ else _)
    rw [eqS, S_nil, S_eqb]
    have hln : (acc.map lineD).length < 1000000 := by rw [List.length_map]; omega
    by_cases z : rs (cs.dropWhile sp) = []
    · rw [decide_eq_true z, if_neg (show ¬ (!true) = true from Bool.false_ne_true)]
      refine ⟨hln, ?_⟩
      have em : acc.map lineD ++ [PyData.str ("x" : Str)] = (acc ++ [[120]]).map lineD := by
        rw [List.map_append]
        rfl
      show E.nx [_, _, .ow (.list (acc.map lineD ++ [PyData.str ("x" : Str)])), _, _, _]
      rw [em]
      exact h _ _ _ (line_x (by omega)) (by omega)
    · rw [decide_eq_false z, if_pos (show (!false) = true from rfl)]
      refine ⟨hln, ?_⟩
      have em : acc.map lineD ++ [PyData.str (S (rs (cs.dropWhile sp)))] = (acc ++ [rs (cs.dropWhile sp)]).map lineD := by
        rw [List.map_append]
        rfl
      show E.nx [_, _, .ow (.list (acc.map lineD ++ [PyData.str (S (rs (cs.dropWhile sp)))])), _, _, _]
      rw [em]
      exact h _ _ _ (line_of (by omega) hcs z) (by omega)
theorem tx_loop (o : OkS r w) : ∀ (ks : List D) (acc : List (List Nat)) (s3 s4 : Sl) (m : Nat), m + ks.length * 41 < 1047000 → acc.length + ks.length ≤ 1000 → (∀ l ∈ acc, Line w.toNat l) →
    (∀ (acc' : List (List Nat)) (s3 s4 : Sl) (m' : Nat), acc'.length = acc.length + ks.length → (∀ l ∈ acc', Line w.toNat l) → m' ≤ m + ks.length * 41 → E.nx [.ora m', .im (scr r w), .ow (.list (acc'.map lineD)), s3, s4, .no]) →
    forL (gN 3) txBody E ks [.ora m, .im (scr r w), .ow (.list (acc.map lineD)), s3, s4, .no]
  | [], acc, s3, s4, m, _, _, ha, h => h acc s3 s4 m (by simp) ha (by simp)
  | k :: ks, acc, s3, s4, m, hm, hl, ha, h => by
    rw [List.length_cons] at hm hl h
    refine tx_turn o (by omega) (by omega) fun l m1 s4 ln h1 => ?_
    refine tx_loop o ks (acc ++ [l]) _ _ m1 (by omega) (by simp; omega) (fun y hy => ?_) fun acc' s3 s4 m' e ha' hm' => ?_
    · rcases List.mem_append.mp hy with q | q
      · exact ha y q
      · rw [List.mem_singleton.mp q]
        exact ln
    · refine h acc' s3 s4 m' ?_ ha' (by omega)
      rw [e, List.length_append, List.length_singleton]
      omega
end
theorem d_law_text {r w : Int} {m : Nat} {P : D → Nat → Prop} (o : OkS r w) (hm : m < 1046000) (h : ∀ ls m', Text r w ls → m' ≤ m + 200 → P (textD ls) m') : r__law_text [.ora, .d (scr r w)] m P := by
  have r1 := o.r1
  have r4 := o.r4
  refine ⟨by show 0 ≤ 1000000; omega, ?_⟩
  refine ⟨trivial, trivial, _, rfl, rfl, rfl, rfl, r, rfl, by omega, by omega, by omega, fun j j0 j1 => ?_⟩
  have rl : (rgD 0 (1 + j)).length = (1 + j).toNat := by simp [rgD]
  refine ⟨⟨by omega, by omega⟩, ?_⟩
  refine tx_loop o (rgD 0 (1 + j)) [] _ _ (m + 1) (by omega) (by rw [rl, List.length_nil]; omega) (fun y hy => nomatch hy) fun acc s3 s4 m' e ha hm' => ?_
  rw [List.length_nil, Nat.zero_add, rl] at e
  refine ⟨trivial, ?_⟩
  exact h acc m' ⟨by omega, by omega, ha⟩ (by omega)
end Q25
namespace Q25
open PySem L2 DL
section
variable {m n : Nat} {P : D → Nat → Prop} {PX : Exn → Nat → Prop}
def scrB : D → Bool
  | .tuple [a, b] => within a 1 4 && within b 1 40
  | _ => false
def eSize (d : D) : Exn := ⟨"BadSize", some ("value", d)⟩
def ePlace : Exn := ⟨"OutOfPlace", none⟩
def eCode (d : D) : Exn := ⟨"BadCode", some ("place", d)⟩
theorem tup2_no {d : D} (h : ∀ a b, d ≠ .tuple [a, b]) : tupB d 2 2 = false := by
  unfold tupB
  split
  · rename_i ds
    rcases ds with _ | ⟨a, _ | ⟨b, _ | ⟨c, r⟩⟩⟩
    · rfl
    · rfl
    · exact absurd rfl (h a b)
    · simp
      omega
  · rfl
theorem x_screen_no {d : D} (h : scrB d = false) (k : PX (eSize d) 0) : rx_need_screen [.d d] m P PX := by
  by_cases z : ∃ a b, d = .tuple [a, b]
  · obtain ⟨a, b, rfl⟩ := z
    have h : (within a 1 4 && within b 1 40) = false := h
    refine ⟨rfl, rfl, d_is_tuple ?_⟩
    refine ⟨trivial, _, rfl, rfl, rfl, d_is_within ?_⟩
    cases q : within a 1 4 with
    | false => exact ⟨hd_d, k⟩
    | true =>
      rw [q, Bool.true_and] at h
      refine ⟨trivial, _, rfl, rfl, rfl, d_is_within ?_⟩
      rw [h]
      exact ⟨hd_d, k⟩
  · refine ⟨rfl, rfl, d_is_tuple ?_⟩
    rw [tup2_no fun a b e => z ⟨a, b, e⟩]
    exact ⟨hd_d, k⟩
theorem x_screen {R W : Int} (o : OkS R W) (k : P (scr R W) 0) : rx_need_screen [.d (scr R W)] m P PX := by
  refine ⟨rfl, rfl, d_is_tuple ?_⟩
  refine ⟨trivial, _, rfl, rfl, rfl, d_is_within ?_⟩
  rw [w_in o.r1 o.r4]
  refine ⟨trivial, _, rfl, rfl, rfl, d_is_within ?_⟩
  rw [w_in o.w1 o.w40]
  exact ⟨hd_d, k⟩
theorem x_blank_no {d : D} (h : scrB d = false) (k : PX (eSize d) 0) : rx_blank [.d d] m P PX := ⟨rfl, rfl, x_screen_no h ⟨hd_d, k⟩⟩
end
end Q25
namespace Q25
open PySem L2 DL
section
variable {m n R W : Nat} {P : D → Nat → Prop} {PX : Exn → Nat → Prop}
def ncX (px : Exn → DL.Env → Prop) : SM := (sIf (bNot (bTruth (hV (dCall 2 r_is_code_of (aCons (dV 0) (aCons (dV 5) (aNil))))))) (sRaise "BadCode" (some "place") (dV 4) px) (sNo))
theorem ncx_loop {px : Exn → DL.Env → Prop} {E : DE} {s1 s2 s3 : Sl} {b : D} (fb : Fn n b) (hb : codeB R W b = false) (rest : List D) : ∀ (ds : List D) (k : Nat) (s4 s5 : Sl), (∀ d ∈ ds, CodeOK R W d) → px (eCode (.int ((k + ds.length : Nat) : Int))) [.im (scr R W), s1, s2, s3, .im (.int ((k + ds.length : Nat) : Int)), .im b] →
    forL (gTupT 2 (gConsT (gN 4) (gConsT (gN 5) (gNoT)))) (ncX px) E (enF k (ds ++ b :: rest)) [.im (scr R W), s1, s2, s3, s4, s5]
  | [], k, s4, s5, _, h => by
    refine ⟨rfl, rfl, ?_⟩
    refine ⟨rfl, rfl, d_code_of fb ?_⟩
    rw [hb]
    exact h
  | d :: ds, k, s4, s5, hd, h => by
    obtain ⟨f, c⟩ := hd d (List.mem_cons_self ..)
    refine ⟨rfl, rfl, ?_⟩
    refine ⟨rfl, rfl, d_code_of f ?_⟩
    rw [c]
    refine ncx_loop fb hb rest ds (k + 1) _ _ (fun x hx => hd x (List.mem_cons_of_mem _ hx)) ?_
    rw [List.length_cons, show k + (ds.length + 1) = k + 1 + ds.length by omega] at h
    exact h
theorem tup_2000 {ds : List D} (hl : ds.length ≤ 2000) : tupB (.tuple ds) 0 2000 = true := by
  show (decide ((0 : Int) ≤ (ds.length : Int)) && decide ((ds.length : Int) ≤ 2000)) = true
  rw [decide_eq_true (show (0 : Int) ≤ (ds.length : Int) by omega), decide_eq_true (show (ds.length : Int) ≤ 2000 by omega)]
  rfl
theorem x_codes_none {s d : D} (h : tupB d 0 2000 = false) (k : PX (eCode .none) 0) : rx_need_codes [.d s, .d d, .d (.int 0), .d (.int 2000)] m P PX := by
  refine ⟨rfl, rfl, d_is_tuple ?_⟩
  rw [h]
  exact ⟨hd_d, k⟩
theorem x_codes_bad {ds rest : List D} {b : D} (hl : (ds ++ b :: rest).length ≤ 2000) (hd : ∀ d ∈ ds, CodeOK R W d) (fb : Fn n b) (hb : codeB R W b = false) (k : PX (eCode (.int (ds.length : Int))) 0) : rx_need_codes [.d (scr R W), .d (.tuple (ds ++ b :: rest)), .d (.int 0), .d (.int 2000)] m P PX := by
  refine ⟨rfl, rfl, d_is_tuple ?_⟩
  rw [tup_2000 hl]
  show forL _ (ncX _) _ (enD (ds ++ b :: rest)) _
  rw [en_eq]
  refine ncx_loop fb hb rest ds 0 _ _ hd ?_
  rw [Nat.zero_add]
  exact ⟨hd_d, k⟩
/-- what is wrong with codes -/
inductive Bad (R W : Nat) : D → D → Prop
  | none {d : D} (h : tupB d 0 2000 = false) : Bad R W d .none
  | at {n : Nat} {ds rest : List D} {b : D} (hl : (ds ++ b :: rest).length ≤ 2000) (hd : ∀ d ∈ ds, CodeOK R W d) (fb : Fn n b) (hb : codeB R W b = false) : Bad R W (.tuple (ds ++ b :: rest)) (.int (ds.length : Int))
theorem x_codes_no {d y : D} (b : Bad R W d y) (k : PX (eCode y) 0) : rx_need_codes [.d (scr R W), .d d, .d (.int 0), .d (.int 2000)] m P PX := by
  cases b with
  | none h => exact x_codes_none h k
  | «at» hl hd fb hb => exact x_codes_bad hl hd fb hb k
theorem x_first (o : OkS (R : Int) (W : Int)) (k : P (bl0 R W).d 0) : rx_first_state [.d (scr R W)] m P PX := by
  obtain ⟨b1, b2, b3, b4, _⟩ := okb o
  have l1 : (" " : Str).length = 1 := by decide +kernel
  refine ⟨rfl, rfl, ?_⟩
  refine ⟨rfl, rfl, x_screen o ?_⟩
  refine ⟨rfl, rfl, trivial, ⟨by omega, by omega⟩, by rw [l1]; omega, by show 1 ≤ 1000000; omega, trivial, ⟨by omega, by omega⟩, by simp, by show 1 ≤ 1000; omega, ?_⟩
  refine ⟨hd_d, ?_⟩
  rw [show (List.replicate ((R : Int)).toNat [PyData.str (mulT (" " : Str) (W : Int))]).flatten = (List.replicate R (blRow W)).map lineD by rw [Int.toNat_natCast, mul_bl]]
  exact ⟨by show 5 ≤ 1000000; omega, hd_d, k⟩
theorem x_pict_code {d y : D} (o : OkS (R : Int) (W : Int)) (b : Bad R W d y) (k : PX (eCode y) 0) : rx_pictures [.d (scr R W), .d d] m P PX := by
  refine ⟨rfl, rfl, x_first o ?_⟩
  exact ⟨rfl, rfl, x_codes_no b ⟨hd_d, k⟩⟩
end
end Q25
namespace Q25
open PySem L2 DL
section
variable {m n : Nat} {P : D → Nat → Prop} {d : D}
def hasB (d : D) : Bool := match d with
  | .str s => (decide ((1 : Int) ≤ (s.length : Int)) && decide ((s.length : Int) ≤ 40)) && s.cps.toList.all sgC
  | _ => false
theorem dx_signs (f : Fn n d) (h : P (.bool (hasB d)) 0) : r_has_signs [.d d, .d (.int 32)] m P := by
  cases f with
  | str n s hl hs =>
    have hl : s.length ≤ 1000000 := by omega
    refine ⟨trivial, _, kS _, trivial, hl, ?_⟩
    show (match PyData.bool (decide ((1 : Int) ≤ (s.length : Int))) with
      | .bool true => _
      | .bool false => _
      | _ => False)
    by_cases z : (1 : Int) ≤ (s.length : Int)
    · rw [decide_eq_true z]
      show (if (!decide ((s.length : Int) ≤ 40)) = true then _ else _)
      by_cases y : (s.length : Int) ≤ 40
      · rw [decide_eq_true y, if_neg (by decide)]
        refine ⟨by rw [signs_eq, List.length_map, Array.length_toList]; exact hl, ⟨by simp, fun j hj => by simp at hj; subst hj; rfl⟩, ?_⟩
        refine lcL_map (ρ := [.im (.str s), .im (.int 32), .no]) (fun d => .bool (chB d)) (signs s) [] ?_ ?_
        · intro d hd Q hQ
          rw [signs_eq] at hd
          obtain ⟨c, hc, rfl⟩ := List.mem_map.mp hd
          refine ⟨rfl, rfl, d_is_sign ?_⟩
          exact hQ _ rfl
        · rw [List.nil_append]
          refine ⟨_, bools_map chB _, ?_⟩
          rw [List.all_map]
          have e2 : (signs s).all (id ∘ chB) = s.cps.toList.all sgC := all_signs s
          rw [e2]
          have e3 : hasB (.str s) = s.cps.toList.all sgC := by
            show ((decide ((1 : Int) ≤ (s.length : Int)) && decide ((s.length : Int) ≤ 40)) && _) = _
            rw [decide_eq_true z, decide_eq_true y]
            rfl
          rw [e3] at h
          exact ⟨hd_d, h⟩
      · rw [decide_eq_false y, if_pos (by decide)]
        have e3 : hasB (.str s) = false := by
          show ((decide ((1 : Int) ≤ (s.length : Int)) && decide ((s.length : Int) ≤ 40)) && _) = _
          rw [decide_eq_false y, Bool.and_false, Bool.false_and]
        rw [e3] at h
        exact ⟨hd_d, h⟩
    · rw [decide_eq_false z]
      have e3 : hasB (.str s) = false := by
        show ((decide ((1 : Int) ≤ (s.length : Int)) && decide ((s.length : Int) ≤ 40)) && _) = _
        rw [decide_eq_false z, Bool.false_and, Bool.false_and]
      rw [e3] at h
      exact ⟨hd_d, h⟩
  | _ => exact ⟨trivial, _, kS _, hd_d, h⟩
def lineB (d : D) : Bool := match d with
  | .str s => hasB (.str s) && (!decide (s.cps.toList.head? = some 32) && !decide (s.cps.toList.getLast? = some 32))
  | _ => false
theorem atI_last {l : List Nat} {z : Nat} (h : l.getLast? = some z) : atI l (-1) = some z := by
  have ne : l ≠ [] := fun e => by rw [e] at h; cases h
  have hp : 0 < l.length := List.length_pos_iff.mpr ne
  have hj : ixN l.length (-1) = some (l.length - 1) := by
    unfold ixN
    rw [if_neg (by decide), if_pos (by omega)]
    congr 1
    omega
  unfold atI
  rw [hj]
  rw [List.getLast?_eq_getElem?] at h
  exact h
theorem okC {c : Nat} (h : sgC c = true) : okD (.str ⟨#[c]⟩) := (ch_fn (sg_lt h).1).ok (by omega)
theorem one_S (c : Nat) : (⟨#[c]⟩ : Str) = S [c] := rfl
theorem dx_line (f : Fn n d) (h : P (.bool (lineB d)) 0) : r__is_line [.d d] m P := by
  refine ⟨rfl, rfl, dx_signs f ?_⟩
  cases z : hasB d with
  | false =>
    have e : lineB d = false := by
      cases d with
      | str s =>
        show (hasB (.str s) && _) = false
        rw [z, Bool.false_and]
      | _ => rfl
    rw [e] at h
    exact ⟨hd_d, h⟩
  | true =>
    cases f with
    | str n s hl hs =>
      have hl : s.length ≤ 1000000 := by omega
      have osp : okD (.str (" " : Str)) := okW _
      have esp : (" " : Str) = S [32] := by decide +kernel
      have z2 : ((decide ((1 : Int) ≤ (s.length : Int)) && decide ((s.length : Int) ≤ 40)) && s.cps.toList.all sgC) = true := z
      rw [Bool.and_eq_true, Bool.and_eq_true, decide_eq_true_eq, decide_eq_true_eq, List.all_eq_true] at z2
      obtain ⟨⟨z3, z4⟩, z5⟩ := z2
      have e : lineB (.str s) = (!decide (s.cps.toList.head? = some 32) && !decide (s.cps.toList.getLast? = some 32)) := by
        show (hasB (.str s) && _) = _
        rw [z, Bool.true_and]
      have hlen : s.cps.toList.length = s.length := Array.length_toList
      rcases hc : s.cps.toList with _ | ⟨c, t⟩
      · rw [hc] at hlen
        rw [← hlen] at z3
        simp at z3
      · rw [hc] at z5 e
        have c5 := z5 c (List.mem_cons_self ..)
        refine ⟨trivial, hl, c, by rw [hc]; simp [atI, ixN], okC c5, osp, ?_⟩
        rw [eqS, one_S, esp, S_eqb]
        have d1 : decide ((c :: t).head? = some 32) = decide ([c] = [32]) := decide_eq_decide.mpr (by simp)
        rw [d1] at e
        by_cases y : [c] = [32]
        · rw [decide_eq_true y] at e ⊢
          have e : lineB (.str s) = false := e
          rw [e] at h
          exact ⟨hd_d, h⟩
        · rw [decide_eq_false y] at e ⊢
          obtain ⟨u, hu⟩ : ∃ u, (c :: t).getLast? = some u := ⟨_, List.getLast?_eq_some_getLast (by simp)⟩
          have my : u ∈ c :: t := List.mem_of_getLast? hu
          refine ⟨trivial, hl, u, by rw [hc]; exact atI_last hu, okC (z5 u my), osp, ?_⟩
          rw [eqS, one_S, S_eqb]
          have d2 : decide ((c :: t).getLast? = some 32) = decide ([u] = [32]) := by
            rw [hu]
            exact decide_eq_decide.mpr (by simp)
          rw [d2] at e
          have e : lineB (.str s) = !decide ([u] = [32]) := e
          rw [e] at h
          exact ⟨hd_d, h⟩
    | _ => cases z
def textB (d : D) : Bool := tupB d 1 4 && (match d with
  | .tuple ds => ds.all lineB
  | _ => false)
theorem dx_text (f : Fn n d) (h : P (.bool (textB d)) 0) : r_is_text [.d d] m P := by
  refine ⟨rfl, rfl, d_is_tuple ?_⟩
  cases z : tupB d 1 4 with
  | false =>
    have e : textB d = false := by
      unfold textB
      rw [z, Bool.false_and]
    rw [e] at h
    exact ⟨hd_d, h⟩
  | true =>
    cases f with
    | tup n ds hd hl =>
      refine ⟨by omega, ⟨by simp, fun j hj => by simp at hj; subst hj; rfl⟩, ?_⟩
      refine lcL_map (ρ := [.im (.tuple ds), .no]) (fun d => .bool (lineB d)) ds [] ?_ ?_
      · exact fun d md Q hQ => ⟨rfl, rfl, dx_line (hd d md) (hQ _ rfl)⟩
      · rw [List.nil_append]
        refine ⟨_, bools_map lineB _, ?_⟩
        have e : textB (.tuple ds) = ds.all lineB := by
          show (tupB (.tuple ds) 1 4 && ds.all lineB) = _
          rw [z, Bool.true_and]
        rw [List.all_map]
        rw [e] at h
        exact ⟨hd_d, h⟩
    | _ => cases z
/-- room on the screen -/
def lenD (d : D) : Int := match d with
  | .str s => (s.length : Int)
  | _ => 0
def roomB (r w : Int) (d : D) : Bool := textB d && (match d with
  | .tuple ds => decide ((ds.length : Int) ≤ r) && ds.all fun l => decide (lenD l ≤ w)
  | _ => false)
theorem dx_room {r w : Int} (o : OkS r w) (f : Fn n d) (h : P (.bool (roomB r w d)) 0) : r__has_room [.d (scr r w), .d d] m P := by
  refine ⟨rfl, rfl, rfl, rfl, dx_text f ?_⟩
  cases z : textB d with
  | false =>
    have e : roomB r w d = false := by
      unfold roomB
      rw [z, Bool.false_and]
    rw [e] at h
    exact ⟨hd_d, h⟩
  | true =>
    cases f with
    | tup n ds hd hl =>
      have e : roomB r w (.tuple ds) = (decide ((ds.length : Int) ≤ r) && ds.all fun l => decide (lenD l ≤ w)) := by
        show (textB (.tuple ds) && _) = _
        rw [z, Bool.true_and]
      have z2 : (tupB (.tuple ds) 1 4 && ds.all lineB) = true := z
      rw [Bool.and_eq_true, List.all_eq_true] at z2
      refine ⟨trivial, trivial, ?_⟩
      show (match PyData.bool (decide ((ds.length : Int) ≤ r)) with
        | .bool true => _
        | .bool false => _
        | _ => False)
      by_cases y : (ds.length : Int) ≤ r
      · rw [decide_eq_true y, Bool.true_and] at e
        rw [decide_eq_true y]
        rw [e] at h
        refine ⟨by omega, ⟨by simp, fun j hj => by simp at hj; subst hj; rfl⟩, ?_⟩
        refine lcL_map (ρ := [.im (scr r w), .im (.tuple ds), .im (.int r), .im (.int w), .no]) (fun l => .bool (decide (lenD l ≤ w))) ds [] ?_ ?_
        · intro l ml Q hQ
          have hb := z2.2 l ml
          have fl := hd l ml
          cases fl with
          | str n s hl2 hs =>
            exact ⟨trivial, by omega, trivial, hQ _ rfl⟩
          | _ => cases hb
        · rw [List.nil_append]
          refine ⟨_, bools_map (fun l => decide (lenD l ≤ w)) _, ?_⟩
          rw [List.all_map]
          exact ⟨hd_d, h⟩
      · rw [decide_eq_false y, Bool.false_and] at e
        rw [decide_eq_false y]
        rw [e] at h
        exact ⟨hd_d, h⟩
    | _ => cases z
end
end Q25
namespace Q25
open PySem L2 DL
section
variable {m n : Nat} {P : D → Nat → Prop} {PX : Exn → Nat → Prop} {d : D} {r w : Int}
def sendB (r w : Int) (d : D) : Bool := match d with
  | .tuple [.int i, b, c] => within (.int i) 0 1999 && (within b (i + 1) 1999 && roomB r w c)
  | _ => false
theorem sendB_no {a b c : D} (h : within a 0 1999 = false) : sendB r w (.tuple [a, b, c]) = false := by
  cases a with
  | int i =>
    show (within (.int i) 0 1999 && _) = false
    rw [h, Bool.false_and]
  | _ => rfl
theorem tup3_no {d : D} (h : ∀ a b c, d ≠ .tuple [a, b, c]) : tupB d 3 3 = false := by
  unfold tupB
  split
  · rename_i ds
    rcases ds with _ | ⟨a, _ | ⟨b, _ | ⟨c, _ | ⟨e, r⟩⟩⟩⟩
    · rfl
    · rfl
    · rfl
    · exact absurd rfl (h a b c)
    · simp
      omega
  · rfl
theorem sendB_no3 {d : D} (h : ∀ a b c, d ≠ .tuple [a, b, c]) : sendB r w d = false := by
  unfold sendB
  split
  · exact absurd rfl (h _ _ _)
  · rfl
theorem dx_send (o : OkS r w) (f : Fn n d) (h : P (.bool (sendB r w d)) 0) : r__is_sendable [.d (scr r w), .d d] m P := by
  by_cases z : ∃ a b c, d = .tuple [a, b, c]
  · obtain ⟨a, b, c, rfl⟩ := z
    obtain ⟨it, _⟩ := f.items
    refine ⟨rfl, rfl, d_is_tuple ?_⟩
    refine ⟨trivial, _, rfl, rfl, rfl, d_is_within ?_⟩
    cases y : within a 0 1999 with
    | false =>
      rw [sendB_no y] at h
      exact ⟨hd_d, h⟩
    | true =>
      cases a with
      | int i =>
        have e : sendB r w (.tuple [.int i, b, c]) = (within b (i + 1) 1999 && roomB r w c) := by
          show (within (.int i) 0 1999 && _) = _
          rw [y, Bool.true_and]
        rw [e] at h
        refine ⟨trivial, _, rfl, trivial, _, rfl, rfl, rfl, d_is_within ?_⟩
        cases q : within b (i + 1) 1999 with
        | false =>
          rw [q, Bool.false_and] at h
          exact ⟨hd_d, h⟩
        | true =>
          rw [q, Bool.true_and] at h
          exact ⟨trivial, _, rfl, rfl, rfl, dx_room o (it c (by simp)) ⟨hd_d, h⟩⟩
      | _ => cases y
  · have z : ∀ a b c, d ≠ .tuple [a, b, c] := fun a b c e => z ⟨a, b, c, e⟩
    rw [sendB_no3 z] at h
    refine ⟨rfl, rfl, d_is_tuple ?_⟩
    rw [tup3_no z]
    exact ⟨hd_d, h⟩
def eCues (d : D) : Exn := ⟨"BadCues", some ("number", d)⟩
inductive Pre (r w : Int) : Int → List D → Int → Prop
  | nil (f : Int) : Pre r w f [] f
  | cons {n : Nat} {f b e g : Int} {c : D} {rest : List D} (fn : Fn n (.tuple [.int b, .int e, c])) (hs : sendB r w (.tuple [.int b, .int e, c]) = true) (hb : ¬ b < f) (h : Pre r w e rest g) : Pre r w f (.tuple [.int b, .int e, c] :: rest) g
inductive Wrong (r w : Int) (f : Int) : D → Prop
  | kind {n : Nat} {d : D} (fn : Fn n d) (h : sendB r w d = false) : Wrong r w f d
  | early {n : Nat} {b e : Int} {c : D} (fn : Fn n (.tuple [.int b, .int e, c])) (hs : sendB r w (.tuple [.int b, .int e, c]) = true) (h : b < f) : Wrong r w f (.tuple [.int b, .int e, c])
def ncB (px : Exn → DL.Env → Prop) : SM := (sSeq (sIf (bOr (bNot (bTruth (hV (dCall 2 r__is_sendable (aCons (dV 0) (aCons (dV 4) (aNil))))))) (bD (d2 gLt (hV (d2 gIx (hS 4) (hV (dC (.int 0))))) (hS 2)))) (sRaise "BadCues" (some "number") (dV 3) px) (sNo)) (sSet 2 (d2 gIx (hS 4) (hV (dC (.int 1))))))
theorem ncb_loop {px : Exn → DL.Env → Prop} {E : DE} {s1 : Sl} (o : OkS r w) {b : D} {rest : List D} {g : Int} : ∀ (ds : List D) (f : Int) (k : Nat) (s3 s4 : Sl), Pre r w f ds g → Wrong r w g b → px (eCues (.int ((k + ds.length : Nat) : Int))) [.im (scr r w), s1, .im (.int g), .im (.int ((k + ds.length : Nat) : Int)), .im b] →
    forL (gTupT 2 (gConsT (gN 3) (gConsT (gN 4) (gNoT)))) (ncB px) E (enF k (ds ++ b :: rest)) [.im (scr r w), s1, .im (.int f), s3, s4]
  | _, f, k, s3, s4, .nil _, hw, h => by
    refine ⟨rfl, ?_⟩
    cases hw with
    | kind fn hk =>
      refine ⟨rfl, rfl, rfl, dx_send o fn ?_⟩
      rw [hk]
      exact h
    | early fn hs he =>
      refine ⟨rfl, rfl, rfl, dx_send o fn ?_⟩
      rw [hs]
      refine ⟨trivial, _, rfl, trivial, ?_⟩
      rename_i b0 e0 c0
      show (if decide (b0 < f) = true then _ else _)
      rw [if_pos (decide_eq_true he)]
      exact h
  | _, f, k, s3, s4, .cons (b := b0) (e := e0) (rest := ds) fn hs hb hp, hw, h => by
    refine ⟨rfl, ?_⟩
    refine ⟨rfl, rfl, rfl, dx_send o fn ?_⟩
    rw [hs]
    refine ⟨trivial, _, rfl, trivial, ?_⟩
    show (if decide (b0 < f) = true then _ else _)
    rw [if_neg (by simpa using hb)]
    refine ⟨trivial, _, rfl, ?_⟩
    refine ncb_loop o ds e0 (k + 1) _ _ hp hw ?_
    rw [List.length_cons, show k + (ds.length + 1) = k + 1 + ds.length by omega] at h
    exact h
inductive BadCu (r w : Int) : D → D → Prop
  | none {d : D} (h : tupB d 0 200 = false) : BadCu r w d .none
  | at {ds rest : List D} {b : D} {g : Int} (hl : (ds ++ b :: rest).length ≤ 200) (hp : Pre r w 0 ds g) (hw : Wrong r w g b) : BadCu r w (.tuple (ds ++ b :: rest)) (.int (ds.length : Int))
theorem tup_200 {ds : List D} (hl : ds.length ≤ 200) : tupB (.tuple ds) 0 200 = true := by
  show (decide ((0 : Int) ≤ (ds.length : Int)) && decide ((ds.length : Int) ≤ 200)) = true
  rw [decide_eq_true (show (0 : Int) ≤ (ds.length : Int) by omega), decide_eq_true (show (ds.length : Int) ≤ 200 by omega)]
  rfl
theorem x_cues_no {y : D} (o : OkS r w) (b : BadCu r w d y) (k : PX (eCues y) 0) : rx__need_cues [.d (scr r w), .d d] m P PX := by
  cases b with
  | none h =>
    refine ⟨rfl, rfl, x_screen o ?_⟩
    refine ⟨rfl, rfl, d_is_tuple ?_⟩
    rw [h]
    exact ⟨hd_d, k⟩
  | @«at» ds rest b g hl hp hw =>
    refine ⟨rfl, rfl, x_screen o ?_⟩
    refine ⟨rfl, rfl, d_is_tuple ?_⟩
    rw [tup_200 hl]
    show forL _ (ncB _) _ (enD (ds ++ b :: rest)) _
    rw [en_eq]
    refine ncb_loop o ds 0 0 _ _ hp hw ?_
    rw [Nat.zero_add]
    exact ⟨hd_d, k⟩
theorem x_cues_size {v : D} (h : scrB d = false) (k : PX (eSize d) 0) : rx__need_cues [.d d, .d v] m P PX := ⟨rfl, rfl, x_screen_no h ⟨hd_d, k⟩⟩
theorem x_text_size {v : D} (h : scrB d = false) (k : PX (eSize d) 0) : rx__need_text [.d d, .d v] m P PX := ⟨rfl, rfl, x_screen_no h ⟨hd_d, k⟩⟩
theorem x_text_no (o : OkS r w) (f : Fn n d) (h : roomB r w d = false) (k : PX ePlace 0) : rx__need_text [.d (scr r w), .d d] m P PX := by
  refine ⟨rfl, rfl, x_screen o ?_⟩
  refine ⟨rfl, rfl, dx_room o f ?_⟩
  rw [h]
  exact ⟨hd_d, k⟩
theorem x_back_no (o : OkS r w) (f : Fn n d) (h : memB r w d = false) (k : PX ePlace 0) : rx_text_of [.d (scr r w), .d d] m P PX := by
  refine ⟨rfl, rfl, x_screen o ?_⟩
  refine ⟨rfl, rfl, d_memory_of f ?_⟩
  rw [h]
  exact ⟨hd_d, k⟩
end
def cls : List CD := [CD.as "BadSize" ["BadCues", "BadCode", "OutOfPlace"] "value" 4 3 (fun y => .tuple [.str ("size" : Str), y]), CD.as "BadCues" ["BadSize", "BadCode", "OutOfPlace"] "number" 4 3 (fun y => .tuple [.str ("cues" : Str), y]), CD.as "BadCode" ["BadSize", "BadCues", "OutOfPlace"] "place" 4 3 (fun y => .tuple [.str ("code" : Str), y]), CD.bare "OutOfPlace" ["BadSize", "BadCues", "BadCode"] (sSet 3 (dC (.str ("place" : Str))))]
def chn (px : Exn → DL.Env → Prop) : SM := sIf (bD (d2 gEq (hS 0) (hV (dC (.int 0))))) (sExpr (dCallX 2 rx_load px (aCons (dV 1) (aCons (dV 2) (aNil))))) (sIf (bD (d2 gEq (hS 0) (hV (dC (.int 1))))) (sExpr (dCallX 2 rx_picture_of px (aCons (dV 1) (aCons (dV 2) (aNil))))) (sIf (bD (d2 gEq (hS 0) (hV (dC (.int 2))))) (sExpr (dCallX 2 rx_text_of px (aCons (dV 1) (aCons (dV 2) (aNil))))) (sIf (bD (d2 gEq (hS 0) (hV (dC (.int 3))))) (sExpr (dCallX 2 rx_send_paper px (aCons (dV 1) (aCons (dV 2) (aNil))))) (sIf (bD (d2 gEq (hS 0) (hV (dC (.int 4))))) (sExpr (dCallX 2 rx_put_off px (aCons (dV 1) (aCons (dV 2) (aNil))))) (sExpr (dIf (bD (d2 gEq (hS 0) (hV (dC (.int 5))))) (dCallX 2 rx_shows px (aCons (dV 1) (aCons (dV 2) (aNil)))) (dCallX 3 rx_check_send px (aCons (dV 1) (aCons (dV 2) (aCons (dC .none) (aNil)))))))))))
section
variable {m n R W : Nat} {P : D → Nat → Prop} {E : DE} {G H : SM} {ρ : DL.Env}
theorem int_no {i j : Int} (h : True) (z : i ≠ j) (q : H E (.im (.int i) :: ρ)) : sIf (bD (d2 gEq (hS 0) (hV (dC (.int j))))) G H E (.im (.int i) :: ρ) := by
  refine ⟨trivial, okI _, okI _, ?_⟩
  show (if PyData.eqv (.int i) (.int j) = true then _ else _)
  rw [eqI, if_neg (by simpa using z)]
  exact q
theorem int_yes {i j : Int} (h : True) (z : i = j) (q : G E (.im (.int i) :: ρ)) : sIf (bD (d2 gEq (hS 0) (hV (dC (.int j))))) G H E (.im (.int i) :: ρ) := by
  refine ⟨trivial, okI _, okI _, ?_⟩
  show (if PyData.eqv (.int i) (.int j) = true then _ else _)
  rw [eqI, if_pos (by simpa using z)]
  exact q
variable {a0 a1 a2 : Sl}
theorem px_size {d : D} (h : E.nx [a0, a1, a2, .im (.tuple [.str ("size" : Str), d]), .no]) : pxC E cls (eSize d) [a0, a1, a2, .im .none, .no] := .inl ⟨rfl, (by show 4 < 5; omega), d, rfl, h⟩
theorem px_cues {d : D} (h : E.nx [a0, a1, a2, .im (.tuple [.str ("cues" : Str), d]), .no]) : pxC E cls (eCues d) [a0, a1, a2, .im .none, .no] := .inr ⟨List.mem_cons_self .., .inl ⟨rfl, (by show 4 < 5; omega), d, rfl, h⟩⟩
theorem px_code {d : D} (h : E.nx [a0, a1, a2, .im (.tuple [.str ("code" : Str), d]), .no]) : pxC E cls (eCode d) [a0, a1, a2, .im .none, .no] :=
  .inr ⟨List.mem_cons_of_mem _ (List.mem_cons_self ..), .inr ⟨List.mem_cons_of_mem _ (List.mem_cons_self ..), .inl ⟨rfl, (by show 4 < 5; omega), d, rfl, h⟩⟩⟩
theorem px_place (h : E.nx [a0, a1, a2, .im (.str ("place" : Str)), .no]) : pxC E cls ePlace [a0, a1, a2, .im .none, .no] :=
  .inr ⟨List.mem_cons_of_mem _ (List.mem_cons_of_mem _ (List.mem_cons_self ..)), .inr ⟨List.mem_cons_of_mem _ (List.mem_cons_of_mem _ (List.mem_cons_self ..)), .inr ⟨List.mem_cons_of_mem _ (List.mem_cons_of_mem _ (List.mem_cons_self ..)), .inl ⟨rfl, h⟩⟩⟩⟩
theorem out_pro {k : Int} {d t : D} (h : ∀ E : DE, (∀ v, P v 0 → E.nx [.im (.int k), .im d, .im t, .im v, .no]) → chn (pxC E cls) E [.im (.int k), .im d, .im t, .im .none, .no]) : r__law_outcome [.d (.int k), .d d, .d t] m P :=
  h _ fun v q => ⟨hd_d, q⟩
theorem go5 {k : Int} {f5 f6 : DM} (h : k = 5 ∧ f5 (.im (.int k) :: ρ) (fun _ ρ1 => E.nx ρ1) ∨ k ≠ 5 ∧ f6 (.im (.int k) :: ρ) (fun _ ρ1 => E.nx ρ1)) : sExpr (dIf (bD (d2 gEq (hS 0) (hV (dC (.int 5))))) f5 f6) E (.im (.int k) :: ρ) := by
  refine ⟨trivial, okI _, okI _, ?_⟩
  show (if PyData.eqv (.int k) (.int 5) = true then _ else _)
  rw [eqI]
  rcases h with ⟨e, h⟩ | ⟨e, h⟩
  · (rw [if_pos (decide_eq_true e)])
    exact h
  · rw [if_neg (by simpa using e)]
    exact h
theorem out_size {k : Nat} (hk : k < 7) {d t : D} (h : scrB d = false) (q : P (.tuple [.str ("size" : Str), d]) 0) : r__law_outcome [.d (.int (k : Int)), .d d, .d t] m P := by
  refine out_pro fun E hE => ?_
  have e := px_size (E := E) (hE _ q)
  have : k = 0 ∨ k = 1 ∨ k = 2 ∨ k = 3 ∨ k = 4 ∨ k = 5 ∨ k = 6 := by omega
  rcases this with rfl | rfl | rfl | rfl | rfl | rfl | rfl
  · exact int_yes trivial rfl ⟨rfl, rfl, rfl, rfl, x_text_size h ⟨hd_d, e⟩⟩
  · exact int_no trivial (by decide) (int_yes trivial rfl ⟨rfl, rfl, rfl, rfl, x_text_size h ⟨hd_d, e⟩⟩)
  · exact int_no trivial (by decide) (int_no trivial (by decide) (int_yes trivial rfl ⟨rfl, rfl, rfl, rfl, x_screen_no h ⟨hd_d, e⟩⟩))
  · exact int_no trivial (by decide) (int_no trivial (by decide) (int_no trivial (by decide) (int_yes trivial rfl ⟨rfl, rfl, rfl, rfl, x_cues_size h ⟨hd_d, e⟩⟩)))
  · exact int_no trivial (by decide) (int_no trivial (by decide) (int_no trivial (by decide) (int_no trivial (by decide) (int_yes trivial rfl ⟨rfl, rfl, rfl, rfl, x_cues_size h ⟨hd_d, e⟩⟩))))
  · exact int_no trivial (by decide) (int_no trivial (by decide) (int_no trivial (by decide) (int_no trivial (by decide) (int_no trivial (by decide) (go5 (.inl ⟨rfl, rfl, rfl, rfl, rfl, x_blank_no h ⟨hd_d, e⟩⟩))))))
  · exact int_no trivial (by decide) (int_no trivial (by decide) (int_no trivial (by decide) (int_no trivial (by decide) (int_no trivial (by decide) (go5 (.inr ⟨by decide, rfl, rfl, rfl, rfl, x_cues_size h ⟨hd_d, e⟩⟩))))))
theorem out_place {k : Nat} (hk : k < 2) {t : D} (o : OkS (R : Int) (W : Int)) (f : Fn n t) (h : roomB R W t = false) (q : P (.str ("place" : Str)) 0) : r__law_outcome [.d (.int (k : Int)), .d (scr R W), .d t] m P := by
  refine out_pro fun E hE => ?_
  have e := px_place (E := E) (hE _ q)
  have : k = 0 ∨ k = 1 := by omega
  rcases this with rfl | rfl
  · exact int_yes trivial rfl ⟨rfl, rfl, rfl, rfl, x_text_no o f h ⟨hd_d, e⟩⟩
  · exact int_no trivial (by decide) (int_yes trivial rfl ⟨rfl, rfl, rfl, rfl, x_text_no o f h ⟨hd_d, e⟩⟩)
theorem out_back {t : D} (o : OkS (R : Int) (W : Int)) (f : Fn n t) (h : memB R W t = false) (q : P (.str ("place" : Str)) 0) : r__law_outcome [.d (.int 2), .d (scr R W), .d t] m P := by
  refine out_pro fun E hE => ?_
  have e := px_place (E := E) (hE _ q)
  exact int_no trivial (by decide) (int_no trivial (by decide) (int_yes trivial rfl ⟨rfl, rfl, x_back_no o f h e⟩))
theorem out_cues {k : Nat} (hk : k = 3 ∨ k = 4 ∨ k = 6) {t y : D} (o : OkS (R : Int) (W : Int)) (b : BadCu R W t y) (q : P (.tuple [.str ("cues" : Str), y]) 0) : r__law_outcome [.d (.int (k : Int)), .d (scr R W), .d t] m P := by
  refine out_pro fun E hE => ?_
  have e := px_cues (E := E) (hE _ q)
  rcases hk with rfl | rfl | rfl
  · exact int_no trivial (by decide) (int_no trivial (by decide) (int_no trivial (by decide) (int_yes trivial rfl ⟨rfl, rfl, rfl, rfl, x_cues_no o b ⟨hd_d, e⟩⟩)))
  · exact int_no trivial (by decide) (int_no trivial (by decide) (int_no trivial (by decide) (int_no trivial (by decide) (int_yes trivial rfl ⟨rfl, rfl, rfl, rfl, x_cues_no o b ⟨hd_d, e⟩⟩))))
  · exact int_no trivial (by decide) (int_no trivial (by decide) (int_no trivial (by decide) (int_no trivial (by decide) (int_no trivial (by decide) (go5 (.inr ⟨by decide, rfl, rfl, rfl, rfl, x_cues_no o b ⟨hd_d, e⟩⟩))))))
theorem x_blank {PX : Exn → Nat → Prop} (o : OkS (R : Int) (W : Int)) (k : P (textD (List.replicate R (blRow W))) 0) : rx_blank [.d (scr R W)] m P PX := by
  obtain ⟨b1, b2, b3, b4, _⟩ := okb o
  have l1 : (" " : Str).length = 1 := by decide +kernel
  refine ⟨rfl, rfl, x_screen o ?_⟩
  refine ⟨rfl, rfl, trivial, ⟨by omega, by omega⟩, by rw [l1]; omega, by show 1 ≤ 1000000; omega, trivial, ⟨by omega, by omega⟩, by simp, by show 1 ≤ 1000; omega, ?_⟩
  refine ⟨hd_d, ?_⟩
  rw [show (List.replicate ((R : Int)).toNat [PyData.str (mulT (" " : Str) (W : Int))]).flatten = (List.replicate R (blRow W)).map lineD by rw [Int.toNat_natCast, mul_bl]]
  exact k
theorem out_code {t y : D} (o : OkS (R : Int) (W : Int)) (b : Bad R W t y) (q : P (.tuple [.str ("code" : Str), y]) 0) : r__law_outcome [.d (.int 5), .d (scr R W), .d t] m P := by
  refine out_pro fun E hE => ?_
  have e := px_code (E := E) (hE _ q)
  refine int_no trivial (by decide) (int_no trivial (by decide) (int_no trivial (by decide) (int_no trivial (by decide) (int_no trivial (by decide) (go5 (.inl ⟨rfl, rfl, rfl, ?_⟩))))))
  refine ⟨rfl, rfl, x_blank o ?_⟩
  exact ⟨by show 0 ≤ 1000000; omega, rfl, rfl, x_pict_code o b ⟨hd_d, e⟩⟩
end
end Q25
namespace Q25
open PySem L2 DL
section
variable {R W : Nat} {r w : Int}
def aS (n : Nat) : D := .str (S (List.replicate n 97))
theorem fn_aS {n : Nat} (h : n ≤ 1000) : Fn 0 (aS n) := fnL (by rw [List.length_replicate]; exact h) (fun c hc => by rw [List.eq_of_mem_replicate hc]; decide)
theorem room_text {d : D} (h : textB d = false) : roomB r w d = false := by
  unfold roomB
  rw [h, Bool.false_and]
def odX (R W : Nat) : List D := [.none, .tuple [], .str ("a" : Str), .tuple [.str ("" : Str)], .tuple [.str (" a" : Str)], .tuple [.str ("a " : Str)], .tuple [aS (W + 1)], .tuple (List.replicate (R + 1) (.str ("a" : Str))), .tuple [.int 5], .list [.str ("a" : Str)]]
theorem tup1_fn {y : D} (f : Fn 0 y) : Fn 1 (.tuple [y]) := .tup 0 _ (fun d hd => by rw [List.mem_singleton.mp hd]; exact f) (by show 1 ≤ 1000; omega)
theorem wide_no {n : Nat} {l : List Nat} (h : l.length = n) (hn : (w : Int) < n) : roomB r w (.tuple [.str (S l)]) = false := by
  show (textB _ && (_ && ([PyData.str (S l)].all fun x => decide (lenD x ≤ w)))) = false
  have e : ([PyData.str (S l)].all fun x => decide (lenD x ≤ w)) = false := by
    show (decide (((S l).length : Int) ≤ w) && true) = false
    rw [S_len, h, decide_eq_false (show ¬ (n : Int) ≤ w by omega)]
    rfl
  rw [e, Bool.and_false, Bool.and_false]
theorem long_no {ds : List D} (h : r < (ds.length : Int)) : roomB r w (.tuple ds) = false := by
  show (textB _ && (decide ((ds.length : Int) ≤ r) && _)) = false
  rw [decide_eq_false (show ¬ (ds.length : Int) ≤ r by omega), Bool.false_and, Bool.and_false]
theorem odX_all (o : OkS (R : Int) (W : Int)) : ∀ d ∈ odX R W, Fn 1 d ∧ roomB R W d = false := by
  have r4 := o.r4
  have w40 := o.w40
  intro d hd
  unfold odX at hd
  simp only [List.mem_cons, List.not_mem_nil, or_false] at hd
  rcases hd with rfl | rfl | rfl | rfl | rfl | rfl | rfl | rfl | rfl | rfl
  · exact ⟨.non _, rfl⟩
  · exact ⟨.tup 0 _ (fun _ h => nomatch h) (by show 0 ≤ 1000; omega), rfl⟩
  · exact ⟨(fW _).mono (by omega), rfl⟩
  · exact ⟨tup1_fn (fW _), room_text (by decide +kernel)⟩
  · exact ⟨tup1_fn (fW _), room_text (by decide +kernel)⟩
  · exact ⟨tup1_fn (fW _), room_text (by decide +kernel)⟩
  · exact ⟨tup1_fn (fn_aS (by omega)), wide_no (n := W + 1) (by simp) (by omega)⟩
  · exact ⟨.tup 0 _ (fun y hy => by rw [List.eq_of_mem_replicate hy]; exact fW _) (by rw [List.length_replicate]; omega), long_no (by rw [List.length_replicate]; omega)⟩
  · exact ⟨tup1_fn (.int _ _), rfl⟩
  · exact ⟨.lst 0 _ (fun y hy => by rw [List.mem_singleton.mp hy]; exact fW _) (by show 1 ≤ 1000; omega), rfl⟩
def spS (n : Nat) : D := .str (S (List.replicate n 32))
theorem fn_spS {n : Nat} (h : n ≤ 1000) : Fn 0 (spS n) := fnL (by rw [List.length_replicate]; exact h) (fun c hc => by rw [List.eq_of_mem_replicate hc]; decide)
theorem fn_rep {y : D} (f : Fn 0 y) {n : Nat} (h : n ≤ 1000) : Fn 1 (.tuple (List.replicate n y)) := .tup 0 _ (fun d hd => by rw [List.eq_of_mem_replicate hd]; exact f) (by rw [List.length_replicate]; exact h)
theorem mem_no_len {ds : List D} (h : (ds.length : Int) ≠ r) : memB r w (.tuple ds) = false := by
  show (decide ((ds.length : Int) = r) && _) = false
  rw [decide_eq_false h, Bool.false_and]
theorem mem_no_row {y : D} {n : Nat} (hn : 1 ≤ n) (h : rowB w y = false) : memB r w (.tuple (List.replicate n y)) = false := by
  show (_ && (List.replicate n y).all (rowB w)) = false
  have e : (List.replicate n y).all (rowB w) = false := by
    obtain ⟨k, rfl⟩ : ∃ k, n = k + 1 := ⟨n - 1, by omega⟩
    rw [List.replicate_succ, List.all_cons, h, Bool.false_and]
  rw [e, Bool.and_false]
def odY (R W : Nat) : List D := [.none, .tuple (List.replicate (R - 1) (spS W)), .tuple (List.replicate (R + R) (spS W)), .list (List.replicate R (spS W)), .tuple (List.replicate R (spS (W + 1))), .tuple (List.replicate R (.int 5)), .tuple (List.replicate R (.str (S (List.replicate W 10))))]
theorem fn_nl {n : Nat} (h : n ≤ 1000) : Fn 0 (.str (S (List.replicate n 10))) := by
  refine .str 0 _ (by rw [S_len, List.length_replicate]; exact h) ?_
  show ((S (List.replicate n 10)).cps.all _) = true
  rw [← Array.all_toList, S_list, List.all_eq_true]
  intro c hc
  rw [List.eq_of_mem_replicate hc]
  decide
theorem odY_all (o : OkS (R : Int) (W : Int)) : ∀ d ∈ odY R W, Fn 1 d ∧ memB R W d = false := by
  have r1 := o.r1
  have r4 := o.r4
  have w1 := o.w1
  have w40 := o.w40
  intro d hd
  unfold odY at hd
  simp only [List.mem_cons, List.not_mem_nil, or_false] at hd
  rcases hd with rfl | rfl | rfl | rfl | rfl | rfl | rfl
  · exact ⟨.non _, rfl⟩
  · exact ⟨fn_rep (fn_spS (by omega)) (by omega), mem_no_len (by rw [List.length_replicate]; omega)⟩
  · exact ⟨fn_rep (fn_spS (by omega)) (by omega), mem_no_len (by rw [List.length_replicate]; omega)⟩
  · exact ⟨.lst 0 _ (fun y hy => by rw [List.eq_of_mem_replicate hy]; exact fn_spS (by omega)) (by rw [List.length_replicate]; omega), rfl⟩
  · refine ⟨fn_rep (fn_spS (by omega)) (by omega), mem_no_row (by omega) ?_⟩
    show (decide (((S (List.replicate (W + 1) 32)).length : Int) = (W : Int)) && _) = false
    rw [S_len, List.length_replicate, decide_eq_false (show ¬ (((W + 1 : Nat) : Int) = (W : Int)) by omega), Bool.false_and]
  · exact ⟨fn_rep (.int _ _) (by omega), mem_no_row (by omega) rfl⟩
  · refine ⟨fn_rep (fn_nl (by omega)) (by omega), mem_no_row (by omega) ?_⟩
    show (_ && (S (List.replicate W 10)).cps.toList.all sgC) = false
    obtain ⟨k, rfl⟩ : ∃ k, W = k + 1 := ⟨W - 1, by omega⟩
    rw [S_list, List.replicate_succ, List.all_cons, show sgC 10 = false by decide, Bool.false_and, Bool.and_false]
theorem line_B {n : Nat} {l : List Nat} (h : Line n l) (hn : n ≤ 40) : lineB (lineD l) = true := by
  have hl := h.le
  show (((decide ((1 : Int) ≤ ((S l).length : Int)) && decide (((S l).length : Int) ≤ 40)) && (S l).cps.toList.all sgC) && (!decide ((S l).cps.toList.head? = some 32) && !decide ((S l).cps.toList.getLast? = some 32))) = true
  have l1 : 1 ≤ l.length := List.length_pos_iff.mpr h.ne
  rw [S_list, S_len, decide_eq_true (show (1 : Int) ≤ (l.length : Int) by omega), decide_eq_true (show (l.length : Int) ≤ 40 by omega), all_sg h.sg, decide_eq_false h.hd, decide_eq_false h.tl]
  rfl
theorem room_B (o : OkS r w) {ls : List (List Nat)} (t : Text r w ls) : roomB r w (textD ls) = true := by
  have r4 := o.r4
  have w40 := o.w40
  have r1 := o.r1
  have w1 := o.w1
  have tn := t.n1
  have tr := t.nr
  have e1 : tupB (textD ls) 1 4 = true := by
    show (decide ((1 : Int) ≤ ((ls.map lineD).length : Int)) && decide (((ls.map lineD).length : Int) ≤ 4)) = true
    rw [List.length_map, decide_eq_true (show (1 : Int) ≤ (ls.length : Int) by omega), decide_eq_true (show (ls.length : Int) ≤ 4 by omega)]
    rfl
  have e2 : (ls.map lineD).all lineB = true := by
    rw [List.all_map, List.all_eq_true]
    exact fun l hl => line_B (t.a l hl) (by omega)
  have e3 : ((ls.map lineD).all fun l => decide (lenD l ≤ w)) = true := by
    rw [List.all_map, List.all_eq_true]
    intro l hl
    have := (t.a l hl).le
    refine decide_eq_true ?_
    show ((S l).length : Int) ≤ w
    rw [S_len]
    omega
  show ((tupB (textD ls) 1 4 && (ls.map lineD).all lineB) && (decide (((ls.map lineD).length : Int) ≤ r) && ((ls.map lineD).all fun l => decide (lenD l ≤ w)))) = true
  rw [e1, e2, e3, List.length_map, decide_eq_true (show (ls.length : Int) ≤ r by omega)]
  rfl
theorem text_fn (o : OkS r w) {ls : List (List Nat)} (t : Text r w ls) : Fn 1 (textD ls) := by
  have r4 := o.r4
  have w40 := o.w40
  have tr := t.nr
  refine .tup 0 _ (fun d hd => ?_) (by rw [List.length_map]; omega)
  obtain ⟨l, hl, rfl⟩ := List.mem_map.mp hd
  have := (t.a l hl).le
  exact fnL (by omega) (t.a l hl).sg
end
end Q25
namespace Q25
open PySem L2 DL
section
variable {R W m n : Nat} {E : DE} {P : D → Nat → Prop}
def bdZ : SM := (sSeq (sSet 7 (d2 gAdd (hV (d2 gAdd (hV (dSl (hS 8) (oNo) (oI (dV 9)))) (hV (dTup (lCons (dV 6) (lNil)))))) (hV (dSl (hS 8) (oI (d2 gAdd (hS 9) (hV (dC (.int 1))))) (oNo))))) (sIf (bD (d2 gNe (hV (dLc (iSeq (dTup (lCons (dC (.int 3)) (lCons (dC (.int 4)) (lCons (dC (.int 6)) (lNil)))))) (gN 10) (bYes) (dCall 3 r__law_outcome (aCons (dV 10) (aCons (dV 1) (aCons (dV 7) (aNil))))) [10])) (hV (d2 gMul (hV (dLst (lCons (dTup (lCons (dC (.str ("cues" : Str))) (lCons (dV 9) (lNil)))) (lNil)))) (hV (dC (.int 3))))))) (sRet (dC (.bool false))) (sNo)))
def triC (y : D) : D := .list [.tuple [.str ("cues" : Str), y], .tuple [.str ("cues" : Str), y], .tuple [.str ("cues" : Str), y]]
theorem eqT (i : Int) : PyData.eqv (triC (.int i)) (triC (.int i)) = true := by
  simp [triC, PyData.eqv, PyData.eqvAll]
theorem eqTn : PyData.eqv (triC .none) (triC .none) = true := by
  simp [triC, PyData.eqv, PyData.eqvAll]
theorem fnW2 {y : D} {z : Str} (hz : Fn 0 (.str z)) (f : Fn 0 y) : Fn 1 (.tuple [.str z, y]) := .tup 0 _ (fun d hd => by
  simp at hd
  rcases hd with rfl | rfl
  · exact hz
  · exact f) (by show 2 ≤ 1000; omega)
theorem okT3 {y : D} (f : Fn 0 y) : okD (triC y) := Fn.ok (.lst 1 _ (fun d hd => by
  simp at hd
  subst hd
  exact fnW2 (fW _) f) (by show 3 ≤ 1000; omega)) (by omega)
theorem bdZ_ok {pre rest : List D} {cue odd : D} {g : Int} {a0 a2 a3 a4 a5 a7 : Sl} (o : OkS (R : Int) (W : Int)) (hp : Pre R W 0 pre g) (hw : Wrong R W g odd) (hl : (pre ++ cue :: rest).length ≤ 100)
    (hE : ∀ a7, E.nx [a0, .im (scr R W), a2, a3, a4, a5, .im odd, a7, .im (.tuple (pre ++ cue :: rest)), .im (.int (pre.length : Int)), .no]) :
    bdZ E [a0, .im (scr R W), a2, a3, a4, a5, .im odd, a7, .im (.tuple (pre ++ cue :: rest)), .im (.int (pre.length : Int)), .no] := by
  have hl2 : pre.length + (rest.length + 1) ≤ 100 := by simpa using hl
  have e1 : cutD (pre ++ cue :: rest) none (some (pre.length : Int)) = pre := by
    rw [cut_take]
    simp
  have e2 : cutD (pre ++ cue :: rest) (some ((pre.length : Int) + 1)) none = rest := by
    have := cut_drop (pre ++ cue :: rest) (pre.length + 1)
    have e : ((pre.length + 1 : Nat) : Int) = (pre.length : Int) + 1 := rfl
    rw [e] at this
    rw [this]
    simp
  refine ⟨trivial, by show 1 ≤ 1000000; omega, by rw [e1]; show _ + 1 ≤ _; omega, ?_⟩
  rw [e1]
  refine ⟨trivial, trivial, ?_⟩
  show (pre ++ [odd]).length + (cutD (pre ++ cue :: rest) (some ((pre.length : Int) + 1)) none).length ≤ 1000000 ∧ _
  rw [e2]
  refine ⟨by simp; omega, by show 3 ≤ 1000000; omega, by show 3 ≤ 1000000; omega, ⟨by simp, fun j hj => by simp at hj; subst hj; rfl⟩, ?_⟩
  have bad : BadCu R W (.tuple (pre ++ [odd] ++ rest)) (.int (pre.length : Int)) := by
    have := BadCu.at (r := R) (w := W) (ds := pre) (rest := rest) (b := odd) (g := g) (by simp; omega) hp hw
    rw [List.append_assoc]
    exact this
  refine lcL_map (ρ := [a0, .im (scr R W), a2, a3, a4, a5, .im odd, .im (.tuple (pre ++ [odd] ++ rest)), .im (.tuple (pre ++ cue :: rest)), .im (.int (pre.length : Int)), .no]) (fun _ => .tuple [.str ("cues" : Str), .int (pre.length : Int)]) [.int 3, .int 4, .int 6] [] ?_ ?_
  · intro v hv Q hQ
    simp at hv
    rcases hv with rfl | rfl | rfl
    · exact ⟨rfl, rfl, out_cues (k := 3) (by omega) o bad (hQ _ rfl)⟩
    · exact ⟨rfl, rfl, out_cues (k := 4) (by omega) o bad (hQ _ rfl)⟩
    · exact ⟨rfl, rfl, out_cues (k := 6) (by omega) o bad (hQ _ rfl)⟩
  · refine ⟨by show 2 ≤ 1000000; omega, by show 1 ≤ 1000000; omega, ⟨by omega, by omega⟩, by simp, ?_⟩
    refine ⟨okT3 (.int _ _), okT3 (.int _ _), ?_⟩
    show (if (!PyData.eqv (triC (.int (pre.length : Int))) (triC (.int (pre.length : Int)))) = true then _ else _)
    rw [eqT, if_neg (by decide)]
    exact hE _
theorem Z_loop {pre rest : List D} {cue : D} {g : Int} {a0 a2 a3 a4 a5 : Sl} (o : OkS (R : Int) (W : Int)) (hp : Pre R W 0 pre g) (hl : (pre ++ cue :: rest).length ≤ 100) : ∀ (ds : List D) (a6 a7 : Sl), (∀ d ∈ ds, Wrong R W g d) →
    (∀ a6 a7, E.nx [a0, .im (scr R W), a2, a3, a4, a5, a6, a7, .im (.tuple (pre ++ cue :: rest)), .im (.int (pre.length : Int)), .no]) →
    forL (gN 6) bdZ E ds [a0, .im (scr R W), a2, a3, a4, a5, a6, a7, .im (.tuple (pre ++ cue :: rest)), .im (.int (pre.length : Int)), .no]
  | [], a6, a7, _, h => h a6 a7
  | d :: ds, a6, a7, hw, h => bdZ_ok (E := ⟨forL (gN 6) bdZ E ds, E.rt, E.nx, forL (gN 6) bdZ E ds⟩) o hp (hw d (List.mem_cons_self ..)) hl fun a7 => Z_loop o hp hl ds _ a7 (fun y hy => hw y (List.mem_cons_of_mem _ hy)) h
/-- the wrong ones -/
def odZ (R W : Nat) (f l : Int) (z : Str) (t : D) : List D := [.none, .tuple [], .tuple [.int f, .int l], .tuple [.int f, .int f, t], .tuple [.int f, .int 2000, t], .tuple [.int f, .int l, .tuple []], .tuple [.int (-1), .int 1, t],
  .tuple [.int f, .int l, .tuple [aS (W + 1)]], .tuple [.int f, .int l, .tuple [.str (" a" : Str)]], .tuple [.bool true, .int 4, t],
  .tuple [.int f, .int l, .tuple (List.replicate (R + 1) (.str ("a" : Str)))], .tuple [.int f, .int l, .str ("a" : Str)], .tuple [.int f, .str z, t], .list [.int f, .int l, t]]
theorem fn3 {a b c : D} (fa : Fn 1 a) (fb : Fn 1 b) (fc : Fn 1 c) : Fn 2 (.tuple [a, b, c]) := .tup 1 _ (fun d hd => by
  simp at hd
  rcases hd with rfl | rfl | rfl
  · exact fa
  · exact fb
  · exact fc) (by show 3 ≤ 1000; omega)
theorem no_end {r w i : Int} {b c : D} (h : within b (i + 1) 1999 = false) : sendB r w (.tuple [.int i, b, c]) = false := by
  show (_ && (within b (i + 1) 1999 && _)) = false
  rw [h, Bool.false_and, Bool.and_false]
theorem no_text {r w i : Int} {b c : D} (h : roomB r w c = false) : sendB r w (.tuple [.int i, b, c]) = false := by
  show (_ && (_ && roomB r w c)) = false
  rw [h, Bool.and_false, Bool.and_false]
theorem w_out {i a b : Int} (h : ¬ (a ≤ i ∧ i ≤ b)) : within (.int i) a b = false := by
  show (decide (a ≤ i) && decide (i ≤ b)) = false
  by_cases z : a ≤ i
  · rw [decide_eq_false (fun y => h ⟨z, y⟩), Bool.and_false]
  · rw [decide_eq_false z, Bool.false_and]
theorem odZ_all (o : OkS (R : Int) (W : Int)) {f l g : Int} {z : Str} (hz : Fn 0 (.str z)) {t : D} (ft : Fn 1 t) : ∀ d ∈ odZ R W f l z t, Wrong R W g d := by
  have r4 := o.r4
  have w40 := o.w40
  have I : ∀ i : Int, Fn 1 (.int i) := fun i => .int _ _
  have X := odX_all o
  intro d hd
  unfold odZ at hd
  simp only [List.mem_cons, List.not_mem_nil, or_false] at hd
  rcases hd with rfl | rfl | rfl | rfl | rfl | rfl | rfl | rfl | rfl | rfl | rfl | rfl | rfl | rfl
  · exact .kind (n := 0) (.non _) rfl
  · exact .kind (n := 1) (.tup 0 _ (fun _ h => nomatch h) (by show 0 ≤ 1000; omega)) rfl
  · exact .kind (n := 1) (.tup 0 _ (fun y hy => by simp at hy; rcases hy with rfl | rfl <;> exact .int _ _) (by show 2 ≤ 1000; omega)) rfl
  · exact .kind (fn3 (I _) (I _) ft) (no_end (w_out (by omega)))
  · exact .kind (fn3 (I _) (I _) ft) (no_end (w_out (by omega)))
  · exact .kind (fn3 (I _) (I _) (X _ (by simp [odX])).1) (no_text (X _ (by simp [odX])).2)
  · exact .kind (fn3 (I _) (I _) ft) rfl
  · exact .kind (fn3 (I _) (I _) (X _ (by simp [odX])).1) (no_text (X _ (by simp [odX])).2)
  · exact .kind (fn3 (I _) (I _) (X _ (by simp [odX])).1) (no_text (X _ (by simp [odX])).2)
  · exact .kind (fn3 (.bl _ _) (I _) ft) rfl
  · exact .kind (fn3 (I _) (I _) (X _ (by simp [odX])).1) (no_text (X _ (by simp [odX])).2)
  · exact .kind (fn3 (I _) (I _) (X _ (by simp [odX])).1) (no_text (X _ (by simp [odX])).2)
  · exact .kind (fn3 (I _) (hz.mono (by omega)) ft) (no_end rfl)
  · exact .kind (n := 2) (.lst 1 _ (fun y hy => by
      simp at hy
      rcases hy with rfl | rfl | rfl
      · exact I _
      · exact I _
      · exact ft) (by show 3 ≤ 1000; omega)) rfl
end
end Q25
namespace Q25
open PySem L2 DL
def bdA : SM := (sIf (bD (d2 gNeS (hV (dCB gReprA (DL.gCons (hV (dLc (iRange1 (lCons (dC (.int 7)) (lNil))) (gN 7) (bYes) (dCall 3 r__law_outcome (aCons (dV 7) (aCons (dV 4) (aCons (dC .none) (aNil))))) [7])) (DL.gNil)))) (hV (dCB gReprA (DL.gCons (hV (d2 gMul (hV (dLst (lCons (dTup (lCons (dC (.str ("size" : Str))) (lCons (dV 4) (lNil)))) (lNil)))) (hV (dC (.int 7))))) (DL.gNil)))))) (sRet (dC (.bool false))) (sNo))
def bdB : SM := (sIf (bD (d2 gNe (hV (dLc (iSeq (dTup (lCons (dC (.int 0)) (lCons (dC (.int 1)) (lNil))))) (gN 7) (bYes) (dCall 3 r__law_outcome (aCons (dV 7) (aCons (dV 3) (aCons (dV 4) (aNil))))) [7])) (hV (d2 gMul (hV (dLst (lCons (dC (.str ("place" : Str))) (lNil)))) (hV (dC (.int 2))))))) (sRet (dC (.bool false))) (sNo))
def bdC : SM := (sIf (bD (d2 gNe (hV (dCall 3 r__law_outcome (aCons (dC (.int 2)) (aCons (dV 3) (aCons (dV 4) (aNil)))))) (hV (dC (.str ("place" : Str)))))) (sRet (dC (.bool false))) (sNo))
def bdD : SM := (sIf (bD (d2 gNe (hV (dLc (iSeq (dTup (lCons (dC (.int 3)) (lCons (dC (.int 4)) (lCons (dC (.int 6)) (lNil)))))) (gN 7) (bYes) (dCall 3 r__law_outcome (aCons (dV 7) (aCons (dV 3) (aCons (dV 4) (aNil))))) [7])) (hV (d2 gMul (hV (dLst (lCons (dTup (lCons (dC (.str ("cues" : Str))) (lCons (dC .none) (lNil)))) (lNil)))) (hV (dC (.int 3))))))) (sRet (dC (.bool false))) (sNo))
def lwB : SM := (sSeq (sSet 3 (dCallO 1 2 r__law_size (aOra 1 (aCons (dC (.int 4)) (aNil))))) (sSeq (sFor (iSeq (dLst (lCons (dC .none) (lCons (dTup (lCons (dC (.int 5)) (lCons (dC (.int 1)) (lNil)))) (lCons (dTup (lCons (dC (.int 1)) (lCons (dC (.int 41)) (lNil)))) (lNil)))))) (gN 4) bdA) (sSeq (sSet 5 (dLst (lCons (dC .none) (lCons (dTup (lNil)) (lCons (dC (.str ("a" : Str))) (lCons (dTup (lCons (dC (.str ("" : Str))) (lNil))) (lCons (dTup (lCons (dC (.str (" a" : Str))) (lNil))) (lCons (dTup (lCons (dC (.str ("a " : Str))) (lNil))) (lCons (dTup (lCons (d2 gMulS (hV (dC (.str ("a" : Str)))) (hV (d2 gAdd (hV (d2 gIx (hS 3) (hV (dC (.int 1))))) (hV (dC (.int 1)))))) (lNil))) (lCons (d2 gMulT (hV (dTup (lCons (dC (.str ("a" : Str))) (lNil)))) (hV (d2 gAdd (hV (d2 gIx (hS 3) (hV (dC (.int 0))))) (hV (dC (.int 1)))))) (lNil))))))))))) (sSeq (sFor (iSeq (d2 gAdd (hS 5) (hV (dLst (lCons (dTup (lCons (dC (.int 5)) (lNil))) (lCons (dLst (lCons (dC (.str ("a" : Str))) (lNil))) (lNil))))))) (gN 4) bdB) (sSeq (sSet 6 (d2 gMulT (hV (dTup (lCons (d2 gMulS (hV (dC (.str (" " : Str)))) (hV (d2 gIx (hS 3) (hV (dC (.int 1)))))) (lNil)))) (hV (d2 gIx (hS 3) (hV (dC (.int 0))))))) (sSeq (sSet 5 (dLst (lCons (dC .none) (lCons (dSl (hS 6) (oI (dC (.int 1))) (oNo)) (lCons (d2 gAdd (hS 6) (hS 6)) (lCons (dCB gList (DL.gCons (hS 6) (DL.gNil))) (lCons (d2 gMulT (hV (dTup (lCons (d2 gAdd (hV (d2 gIx (hS 6) (hV (dC (.int 0))))) (hV (dC (.str (" " : Str))))) (lNil)))) (hV (d2 gIx (hS 3) (hV (dC (.int 0)))))) (lCons (d2 gMulT (hV (dTup (lCons (dC (.int 5)) (lNil)))) (hV (d2 gIx (hS 3) (hV (dC (.int 0)))))) (lNil))))))))) (sSeq (sFor (iSeq (d2 gAdd (hS 5) (hV (dLst (lCons (d2 gMulT (hV (dTup (lCons (d2 gMulS (hV (dC (.str ("\n" : Str)))) (hV (d2 gIx (hS 3) (hV (dC (.int 1)))))) (lNil)))) (hV (d2 gIx (hS 3) (hV (dC (.int 0)))))) (lNil)))))) (gN 4) bdC) (sSeq (sIf (bNot (bTruth (hV (dCallO 1 2 r__law_cues_right (aOra 1 (aCons (dV 3) (aNil))))))) (sRet (dC (.bool false))) (sNo)) (sSeq (sFor (iSeq (dLst (lCons (dC .none) (lCons (dLst (lNil)) (lCons (dC (.str ("" : Str))) (lCons (dC (.int 5)) (lCons (dCB gTuple (DL.gCons (hV (dLc (iRange1 (lCons (dC (.int 201)) (lNil))) (gN 8) (bYes) (dTup (lCons (dV 8) (lCons (d2 gAdd (hS 8) (hV (dC (.int 1)))) (lCons (dTup (lCons (dC (.str ("a" : Str))) (lNil))) (lNil))))) [8])) (DL.gNil))) (lNil)))))))) (gN 4) bdD) (sSeq (sIf (bD (d2 gNe (hV (dCall 3 r__law_outcome (aCons (dC (.int 5)) (aCons (dV 3) (aCons (dTup (lCons (dTup (lCons (dC (.str ("idle" : Str))) (lNil))) (lCons (dTup (lCons (dC (.str ("jump" : Str))) (lNil))) (lNil)))) (aNil)))))) (hV (dTup (lCons (dC (.str ("code" : Str))) (lCons (dC (.int 1)) (lNil))))))) (sRet (dC (.bool false))) (sNo)) (sIf (bD (d2 gNe (hV (dCall 3 r__law_outcome (aCons (dC (.int 5)) (aCons (dV 3) (aCons (dC .none) (aNil)))))) (hV (dTup (lCons (dC (.str ("code" : Str))) (lCons (dC .none) (lNil))))))) (sRet (dC (.bool false))) (sNo))))))))))))
theorem noNe (z : Str) : (!decide (z = z)) = false := by simp
section
variable {R W m n : Nat} {E : DE} {P : D → Nat → Prop} {s0 s2 s3 s4 s5 s6 : Sl}
theorem cueFn {f l : Int} {t : D} (ft : Fn 1 t) : Fn 2 (.tuple [.int f, .int l, t]) := fn3 (.int _ _) (.int _ _) ft
theorem send_yes {f l : Int} {ls : List (List Nat)} (o : OkS (R : Int) (W : Int)) (t : Text (R : Int) (W : Int) ls) (h0 : 0 ≤ f) (h1 : f < l) (h2 : l ≤ 1999) : sendB R W (.tuple [.int f, .int l, textD ls]) = true := by
  show (within (.int f) 0 1999 && (within (.int l) (f + 1) 1999 && roomB R W (textD ls))) = true
  rw [w_in h0 (by omega), w_in (by omega) h2, room_B o t]
  rfl
/-- the rest of the wrong cues, for one place -/
theorem cues_at (o : OkS (R : Int) (W : Int)) {ls : List (List Nat)} (t : Text (R : Int) (W : Int) ls) {pre rest : List D} {f l g : Int} {z : Str} (hz : Fn 0 (.str z)) (hp : Pre R W 0 pre g)
    (hl : (pre ++ .tuple [.int f, .int l, textD ls] :: rest).length ≤ 100) {m' : Nat} {a7 : Sl}
    (hE : ∀ a6 a7, E.nx [.ora m', .im (scr R W), .im (textD ls), .im (.int f), .im (.int l), .im (.list (odZ R W f l z (textD ls))), a6, a7, .im (.tuple (pre ++ .tuple [.int f, .int l, textD ls] :: rest)), .im (.int (pre.length : Int)), .no]) :
    sFor (iSeq (dV 5)) (gN 6) bdZ E [.ora m', .im (scr R W), .im (textD ls), .im (.int f), .im (.int l), .ow (.list (odZ R W f l z (textD ls))), .no, a7, .im (.tuple (pre ++ .tuple [.int f, .int l, textD ls] :: rest)), .im (.int (pre.length : Int)), .no] := by
  exact Z_loop o hp hl _ _ _ (odZ_all o hz (text_fn o t)) hE
theorem str_num {i : Int} (h0 : 0 ≤ i) (h1 : i ≤ 20) : i.natAbs.log2 < 1920 ∧ Fn 0 (.str ((toString i : String) : Str)) := by
  have : i = 0 ∨ i = 1 ∨ i = 2 ∨ i = 3 ∨ i = 4 ∨ i = 5 ∨ i = 6 ∨ i = 7 ∨ i = 8 ∨ i = 9 ∨ i = 10 ∨ i = 11 ∨ i = 12 ∨ i = 13 ∨ i = 14 ∨ i = 15 ∨ i = 16 ∨ i = 17 ∨ i = 18 ∨ i = 19 ∨ i = 20 := by omega
  rcases this with rfl | rfl | rfl | rfl | rfl | rfl | rfl | rfl | rfl | rfl | rfl | rfl | rfl | rfl | rfl | rfl | rfl | rfl | rfl | rfl | rfl <;> exact ⟨by decide +kernel, fW _⟩
def cue (f l : Int) (t : D) : D := .tuple [.int f, .int l, t]
theorem mul_a (n : Int) : mulT ("a" : Str) n = S (List.replicate n.toNat 97) := by
  have e : ("a" : Str).cps.toList = [97] := by decide +kernel
  unfold mulT
  rw [e]
  show (⟨_⟩ : Str) = ⟨_⟩
  congr 2
  induction n.toNat with
  | zero => rfl
  | succ k ih => rw [List.replicate_succ, List.replicate_succ, List.flatten_cons, ih]; rfl
theorem od_build {f l a : Int} {cs : List D} {t : D} {m' : Nat} {REST : SM} (o : OkS (R : Int) (W : Int)) (hat : atI cs a = some (cue f l t)) (hf : (f + 1).natAbs.log2 < 1920)
    (h : REST E [.ora m', .im (scr R W), .im t, .im (.int f), .im (.int l), .ow (.list (odZ R W f l ((toString (f + 1) : String) : Str) t)), .no, .no, .im (.tuple cs), .im (.int a), .no]) :
    (sSeq (sSetN 5 (dLst (lCons (dC .none) (lCons (dTup (lNil)) (lCons (dSl (hV (d2 gIx (hS 8) (hS 9))) (oNo) (oI (dC (.int 2)))) (lCons (dTup (lCons (dV 3) (lCons (dV 3) (lCons (dV 2) (lNil))))) (lCons (dTup (lCons (dV 3) (lCons (dC (.int 2000)) (lCons (dV 2) (lNil))))) (lCons (dTup (lCons (dV 3) (lCons (dV 4) (lCons (dTup (lNil)) (lNil))))) (lCons (dTup (lCons (dNeg (dC (.int 1))) (lCons (dC (.int 1)) (lCons (dV 2) (lNil))))) (lNil)))))))))) (sSeq (sSetN 5 (dCat (hS 5) (hV (dLst (lCons (dTup (lCons (dV 3) (lCons (dV 4) (lCons (dTup (lCons (d2 gMulS (hV (dC (.str ("a" : Str)))) (hV (d2 gAdd (hV (d2 gIx (hS 1) (hV (dC (.int 1))))) (hV (dC (.int 1)))))) (lNil))) (lNil))))) (lCons (dTup (lCons (dV 3) (lCons (dV 4) (lCons (dTup (lCons (dC (.str (" a" : Str))) (lNil))) (lNil))))) (lCons (dTup (lCons (dC (.bool true)) (lCons (dC (.int 4)) (lCons (dV 2) (lNil))))) (lNil)))))))) (sSeq (sSetN 5 (dCat (hS 5) (hV (dLst (lCons (dTup (lCons (dV 3) (lCons (dV 4) (lCons (d2 gMulT (hV (dTup (lCons (dC (.str ("a" : Str))) (lNil)))) (hV (d2 gAdd (hV (d2 gIx (hS 1) (hV (dC (.int 0))))) (hV (dC (.int 1)))))) (lNil))))) (lCons (dTup (lCons (dV 3) (lCons (dV 4) (lCons (dC (.str ("a" : Str))) (lNil))))) (lCons (dTup (lCons (dV 3) (lCons (dCB gStrI (DL.gCons (hV (d2 gAdd (hS 3) (hV (dC (.int 1))))) (DL.gNil))) (lCons (dV 2) (lNil))))) (lNil)))))))) (sSeq (sApp 5 (dCB gList (DL.gCons (hV (d2 gIx (hS 8) (hS 9))) (DL.gNil)))) REST)))) E [.ora m', .im (scr R W), .im t, .im (.int f), .im (.int l), .no, .no, .no, .im (.tuple cs), .im (.int a), .no] := by
  have r4 := o.r4
  have w40 := o.w40
  have r1 := o.r1
  have w1 := o.w1
  have la : ("a" : Str).length = 1 := by decide +kernel
  refine ⟨by show 0 ≤ 1000000; omega, trivial, trivial, _, hat, ?_⟩
  refine ⟨by show 3 ≤ 1000000; omega, by show 3 ≤ 1000000; omega, by show 0 ≤ 1000000; omega, by show 3 ≤ 1000000; omega, by show 3 ≤ 1000000; omega, by show 7 ≤ 1000000; omega, ?_⟩
  refine ⟨trivial, trivial, _, rfl, ⟨by omega, by omega⟩, by rw [la]; omega, by show 1 ≤ 1000000; omega, by show 3 ≤ 1000000; omega, by show 1 ≤ 1000000; omega, by show 3 ≤ 1000000; omega, by show 3 ≤ 1000000; omega, by show 3 ≤ 1000000; omega, by show 7 + 3 ≤ 1000000; omega, ?_⟩
  refine ⟨trivial, by show 1 ≤ 1000000; omega, trivial, _, rfl, ⟨by omega, by omega⟩, by simp, by show 1 ≤ 1000; omega, by show 3 ≤ 1000000; omega, by show 3 ≤ 1000000; omega, trivial, hf, by show 3 ≤ 1000000; omega, by show 3 ≤ 1000000; omega, by show 10 + 3 ≤ 1000000; omega, ?_⟩
  refine ⟨trivial, trivial, trivial, _, hat, ?_⟩
  have e1 : PyData.str (mulT ("a" : Str) ((W : Int) + 1)) = aS (W + 1) := by
    rw [mul_a]
    rfl
  have e2 : (List.replicate ((R : Int) + 1).toNat [PyData.str ("a" : Str)]).flatten = List.replicate (R + 1) (.str ("a" : Str)) := by
    rw [List.flatten_replicate_singleton]
    rfl
  rw [e1, e2]
  refine ⟨by show 13 < 1000000; omega, ?_⟩
  exact h
theorem d_cues_right (o : OkS (R : Int) (W : Int)) (hm : m < 1000000) (h : ∀ m', m' ≤ m + 300 → P (.bool true) m') : r__law_cues_right [.ora, .d (scr R W)] m P := by
  have r4 := o.r4
  have w40 := o.w40
  have r1 := o.r1
  have w1 := o.w1
  refine ⟨trivial, rfl, rfl, rfl, d_law_text o (by omega) fun ls m1 t hm1 => ?_⟩
  have ft := text_fn o t
  refine ⟨by show 3 ≤ 1000000; omega, by show 3 ≤ 1000000; omega, by show 3 ≤ 1000000; omega, by show 3 ≤ 1000000; omega, ?_⟩
  refine ⟨trivial, rfl, rfl, rfl, 3, rfl, by omega, by omega, by omega, fun a a0 a1 => ?_⟩
  have s0 := send_yes (f := 0) (l := 3) o t (by omega) (by omega) (by omega)
  have s1 := send_yes (f := 5) (l := 9) o t (by omega) (by omega) (by omega)
  -- the end: two cues that overlap
  have fin : ∀ (E : DE) (a3 a4 a5 a6 a7 a8 a9 : Sl), E.rt (.bool true) [.ora (m1 + 1), .im (scr R W), .im (textD ls), a3, a4, a5, a6, .im (.tuple [cue 0 3 (textD ls), cue 2 5 (textD ls)]), a8, a9, .no] →
      sSeq (sSet 7 (dTup (lCons (dTup (lCons (dC (.int 0)) (lCons (dC (.int 3)) (lCons (dV 2) (lNil))))) (lCons (dTup (lCons (dC (.int 2)) (lCons (dC (.int 5)) (lCons (dV 2) (lNil))))) (lNil))))) (sRet (d2 gEq (hV (dLc (iSeq (dTup (lCons (dC (.int 3)) (lCons (dC (.int 4)) (lCons (dC (.int 6)) (lNil)))))) (gN 10) (bYes) (dCall 3 r__law_outcome (aCons (dV 10) (aCons (dV 1) (aCons (dV 7) (aNil))))) [10])) (hV (d2 gMul (hV (dLst (lCons (dTup (lCons (dC (.str ("cues" : Str))) (lCons (dC (.int 1)) (lNil)))) (lNil)))) (hV (dC (.int 3)))))))
        E [.ora (m1 + 1), .im (scr R W), .im (textD ls), a3, a4, a5, a6, a7, a8, a9, .no] := by
    intro E a3 a4 a5 a6 a7 a8 a9 hE
    refine ⟨by show 3 ≤ 1000000; omega, by show 3 ≤ 1000000; omega, by show 2 ≤ 1000000; omega, by show 3 ≤ 1000000; omega, by show 3 ≤ 1000000; omega, ⟨by simp, fun j hj => by simp at hj; subst hj; rfl⟩, ?_⟩
    have bad : BadCu R W (.tuple [cue 0 3 (textD ls), cue 2 5 (textD ls)]) (.int 1) :=
      BadCu.at (r := R) (w := W) (ds := [cue 0 3 (textD ls)]) (rest := []) (b := cue 2 5 (textD ls)) (g := 3) (by show 2 ≤ 200; omega) (.cons (cueFn ft) s0 (by omega) (.nil 3)) (.early (cueFn ft) (send_yes o t (by omega) (by omega) (by omega)) (by omega))
    refine lcL_map (ρ := [.ora (m1 + 1), .im (scr R W), .im (textD ls), a3, a4, a5, a6, .im (.tuple [cue 0 3 (textD ls), cue 2 5 (textD ls)]), a8, a9, .no]) (fun _ => .tuple [.str ("cues" : Str), .int 1]) [.int 3, .int 4, .int 6] [] ?_ ?_
    · intro v hv Q hQ
      simp at hv
      rcases hv with rfl | rfl | rfl
      · exact ⟨rfl, rfl, out_cues (k := 3) (by omega) o bad (hQ _ rfl)⟩
      · exact ⟨rfl, rfl, out_cues (k := 4) (by omega) o bad (hQ _ rfl)⟩
      · exact ⟨rfl, rfl, out_cues (k := 6) (by omega) o bad (hQ _ rfl)⟩
    · refine ⟨by show 2 ≤ 1000000; omega, by show 1 ≤ 1000000; omega, ⟨by omega, by omega⟩, by simp, ?_⟩
      refine ⟨okT3 (.int _ _), okT3 (.int _ _), ?_⟩
      show E.rt (.bool (PyData.eqv (triC (.int 1)) (triC (.int 1)))) _
      rw [eqT]
      exact hE
  have ha : a = 0 ∨ a = 1 ∨ a = 2 := by omega
  (rcases ha with rfl | rfl | rfl)
  · refine ⟨trivial, trivial, _, rfl, _, rfl, ?_⟩
    refine ⟨trivial, trivial, _, rfl, _, rfl, ?_⟩
    obtain ⟨n1, n2⟩ := str_num (i := 0 + 1) (by omega) (by omega)
    refine od_build (cs := [cue 0 3 (textD ls), cue 5 9 (textD ls), cue 9 20 (textD ls)]) (a := 0) o rfl n1 ?_
    refine cues_at o t (pre := []) (rest := [cue 5 9 (textD ls), cue 9 20 (textD ls)]) n2 (.nil 0) (by show 3 ≤ 100; omega) fun a6 a7 => ?_
    exact fin _ _ _ _ _ _ _ _ (h _ (by omega))
  · refine ⟨trivial, trivial, _, rfl, _, rfl, ?_⟩
    refine ⟨trivial, trivial, _, rfl, _, rfl, ?_⟩
    obtain ⟨n1, n2⟩ := str_num (i := 5 + 1) (by omega) (by omega)
    refine od_build (cs := [cue 0 3 (textD ls), cue 5 9 (textD ls), cue 9 20 (textD ls)]) (a := 1) o rfl n1 ?_
    refine cues_at o t (pre := [cue 0 3 (textD ls)]) (rest := [cue 9 20 (textD ls)]) n2 (.cons (cueFn ft) s0 (by omega) (.nil 3)) (by show 3 ≤ 100; omega) fun a6 a7 => ?_
    exact fin _ _ _ _ _ _ _ _ (h _ (by omega))
  · refine ⟨trivial, trivial, _, rfl, _, rfl, ?_⟩
    refine ⟨trivial, trivial, _, rfl, _, rfl, ?_⟩
    obtain ⟨n1, n2⟩ := str_num (i := 9 + 1) (by omega) (by omega)
    refine od_build (cs := [cue 0 3 (textD ls), cue 5 9 (textD ls), cue 9 20 (textD ls)]) (a := 2) o rfl n1 ?_
    refine cues_at o t (pre := [cue 0 3 (textD ls), cue 5 9 (textD ls)]) (rest := []) n2 (.cons (cueFn ft) s0 (by omega) (.cons (cueFn ft) s1 (by omega) (.nil 9))) (by show 3 ≤ 100; omega) fun a6 a7 => ?_
    exact fin _ _ _ _ _ _ _ _ (h _ (by omega))
structure OdS (d : D) : Prop where
  no : scrB d = false
  ok : okR (.list (List.replicate 7 (.tuple [.str ("size" : Str), d])))
theorem bdA_ok {d z : D} (h : OdS d) (hE : E.nx [s0, .ora m, s2, .im z, .im d, s5, s6, .no, .no]) : bdA E [s0, .ora m, s2, .im z, .im d, s5, s6, .no, .no] := by
  refine ⟨⟨by omega, by omega⟩, by simp [rgD], ⟨by simp, fun j hj => by simp at hj; subst hj; rfl⟩, ?_⟩
  refine lcL_map (ρ := [s0, .ora m, s2, .im z, .im d, s5, s6, .no, .no]) (fun _ => .tuple [.str ("size" : Str), d]) (rgD 0 7) [] ?_ ?_
  · intro v hv Q hQ
    unfold rgD at hv
    obtain ⟨k, hk, rfl⟩ := List.mem_map.mp hv
    have hk := List.mem_range.mp hk
    have hk : k < 7 := by simpa using hk
    rw [Int.zero_add]
    exact ⟨rfl, rfl, out_size hk h.no (hQ _ rfl)⟩
  · have e : ([] : List D) ++ (rgD 0 7).map (fun _ => .tuple [.str ("size" : Str), d]) = List.replicate 7 (.tuple [.str ("size" : Str), d]) := rfl
    rw [e]
    have e2 : (List.replicate ((7 : Int)).toNat [PyData.tuple [.str ("size" : Str), d]]).flatten = List.replicate 7 (.tuple [.str ("size" : Str), d]) := rfl
    refine ⟨h.ok, by show 2 ≤ 1000000; omega, by show 1 ≤ 1000000; omega, ⟨by omega, by omega⟩, by simp, ?_⟩
    rw [e2]
    refine ⟨h.ok, ?_⟩
    generalize DL.shA (.list (List.replicate 7 (.tuple [.str ("size" : Str), d]))) = z
    show (if (!decide (z = z)) = true then _ else _)
    rw [noNe, if_neg Bool.false_ne_true]
    exact hE
theorem ok_place : okD (.list [.str ("place" : Str), .str ("place" : Str)]) := by
  show SeqAt.shaped _ = true
  decide +kernel
theorem bdB_ok {d : D} (o : OkS (R : Int) (W : Int)) (f : Fn n d) (h : roomB R W d = false) (hE : E.nx [s0, .ora m, s2, .im (scr R W), .im d, s5, s6, .no, .no]) : bdB E [s0, .ora m, s2, .im (scr R W), .im d, s5, s6, .no, .no] := by
  refine ⟨by show 2 ≤ 1000000; omega, by show 2 ≤ 1000000; omega, ⟨by simp, fun j hj => by simp at hj; subst hj; rfl⟩, ?_⟩
  refine lcL_map (ρ := [s0, .ora m, s2, .im (scr R W), .im d, s5, s6, .no, .no]) (fun _ => .str ("place" : Str)) [.int 0, .int 1] [] ?_ ?_
  · intro v hv Q hQ
    simp at hv
    rcases hv with rfl | rfl
    · exact ⟨rfl, rfl, out_place (k := 0) (by omega) o f h (hQ _ rfl)⟩
    · exact ⟨rfl, rfl, out_place (k := 1) (by omega) o f h (hQ _ rfl)⟩
  · refine ⟨by show 1 ≤ 1000000; omega, ⟨by omega, by omega⟩, by simp, ?_⟩
    refine ⟨ok_place, ok_place, ?_⟩
    show (if (!PyData.eqv (.list [.str ("place" : Str), .str ("place" : Str)]) (.list [.str ("place" : Str), .str ("place" : Str)])) = true then _ else _)
    rw [show PyData.eqv (.list [.str ("place" : Str), .str ("place" : Str)]) (.list [.str ("place" : Str), .str ("place" : Str)]) = true by simp [PyData.eqv, PyData.eqvAll], if_neg (by decide)]
    exact hE
theorem bdC_ok {d : D} (o : OkS (R : Int) (W : Int)) (f : Fn n d) (h : memB R W d = false) (hE : E.nx [s0, .ora m, s2, .im (scr R W), .im d, s5, s6, .no, .no]) : bdC E [s0, .ora m, s2, .im (scr R W), .im d, s5, s6, .no, .no] := by
  refine ⟨rfl, rfl, out_back o f h ?_⟩
  refine ⟨okW _, okW _, ?_⟩
  show (if (!PyData.eqv (.str ("place" : Str)) (.str ("place" : Str))) = true then _ else _)
  rw [eqS, if_neg (by simp)]
  exact hE
theorem bdD_ok {d : D} (o : OkS (R : Int) (W : Int)) (h : tupB d 0 200 = false) (hE : E.nx [s0, .ora m, s2, .im (scr R W), .im d, s5, s6, .no, .no]) : bdD E [s0, .ora m, s2, .im (scr R W), .im d, s5, s6, .no, .no] := by
  refine ⟨by show 3 ≤ 1000000; omega, by show 3 ≤ 1000000; omega, ⟨by simp, fun j hj => by simp at hj; subst hj; rfl⟩, ?_⟩
  refine lcL_map (ρ := [s0, .ora m, s2, .im (scr R W), .im d, s5, s6, .no, .no]) (fun _ => .tuple [.str ("cues" : Str), .none]) [.int 3, .int 4, .int 6] [] ?_ ?_
  · intro v hv Q hQ
    simp at hv
    rcases hv with rfl | rfl | rfl
    · exact ⟨rfl, rfl, out_cues (k := 3) (by omega) o (.none h) (hQ _ rfl)⟩
    · exact ⟨rfl, rfl, out_cues (k := 4) (by omega) o (.none h) (hQ _ rfl)⟩
    · exact ⟨rfl, rfl, out_cues (k := 6) (by omega) o (.none h) (hQ _ rfl)⟩
  · refine ⟨by show 2 ≤ 1000000; omega, by show 1 ≤ 1000000; omega, ⟨by omega, by omega⟩, by simp, ?_⟩
    refine ⟨okT3 (.non _), okT3 (.non _), ?_⟩
    show (if (!PyData.eqv (triC .none) (triC .none)) = true then _ else _)
    rw [eqTn, if_neg (by decide)]
    exact hE
@[irreducible] def bdI : SM := bdA
theorem bdI_eq : bdI = bdA := by
  unfold bdI
  rfl
theorem bdI_ok {d z : D} (h : OdS d) (hE : E.nx [s0, .ora m, s2, .im z, .im d, s5, s6, .no, .no]) : bdI E [s0, .ora m, s2, .im z, .im d, s5, s6, .no, .no] := by
  rw [bdI_eq]
  exact bdA_ok h hE
end
end Q25
namespace Q25
open PySem L2 DL
section
variable {R W m n : Nat} {E : DE} {P : D → Nat → Prop} {s0 s2 s3 s4 s5 s6 : Sl}
theorem A_loop {z : D} : ∀ (ds : List D) (s4 : Sl), (∀ d ∈ ds, OdS d) → (∀ s4, E.nx [s0, .ora m, s2, .im z, s4, s5, s6, .no, .no]) → forL (gN 4) bdI E ds [s0, .ora m, s2, .im z, s4, s5, s6, .no, .no]
  | [], s4, _, k => k s4
  | d :: ds, s4, h, k => bdI_ok (E := ⟨forL (gN 4) bdI E ds, E.rt, E.nx, forL (gN 4) bdI E ds⟩) (h d (List.mem_cons_self ..)) (A_loop ds _ (fun y hy => h y (List.mem_cons_of_mem _ hy)) k)
theorem B_loop (o : OkS (R : Int) (W : Int)) : ∀ (ds : List D) (s4 : Sl), (∀ d ∈ ds, Fn n d ∧ roomB R W d = false) → (∀ s4, E.nx [s0, .ora m, s2, .im (scr R W), s4, s5, s6, .no, .no]) → forL (gN 4) bdB E ds [s0, .ora m, s2, .im (scr R W), s4, s5, s6, .no, .no]
  | [], s4, _, k => k s4
  | d :: ds, s4, h, k => bdB_ok (E := ⟨forL (gN 4) bdB E ds, E.rt, E.nx, forL (gN 4) bdB E ds⟩) o (h d (List.mem_cons_self ..)).1 (h d (List.mem_cons_self ..)).2 (B_loop o ds _ (fun y hy => h y (List.mem_cons_of_mem _ hy)) k)
theorem C_loop (o : OkS (R : Int) (W : Int)) : ∀ (ds : List D) (s4 : Sl), (∀ d ∈ ds, Fn n d ∧ memB R W d = false) → (∀ s4, E.nx [s0, .ora m, s2, .im (scr R W), s4, s5, s6, .no, .no]) → forL (gN 4) bdC E ds [s0, .ora m, s2, .im (scr R W), s4, s5, s6, .no, .no]
  | [], s4, _, k => k s4
  | d :: ds, s4, h, k => bdC_ok (E := ⟨forL (gN 4) bdC E ds, E.rt, E.nx, forL (gN 4) bdC E ds⟩) o (h d (List.mem_cons_self ..)).1 (h d (List.mem_cons_self ..)).2 (C_loop o ds _ (fun y hy => h y (List.mem_cons_of_mem _ hy)) k)
theorem D_loop (o : OkS (R : Int) (W : Int)) : ∀ (ds : List D) (s4 : Sl), (∀ d ∈ ds, tupB d 0 200 = false) → (∀ s4, E.nx [s0, .ora m, s2, .im (scr R W), s4, s5, s6, .no, .no]) → forL (gN 4) bdD E ds [s0, .ora m, s2, .im (scr R W), s4, s5, s6, .no, .no]
  | [], s4, _, k => k s4
  | d :: ds, s4, h, k => bdD_ok (E := ⟨forL (gN 4) bdD E ds, E.rt, E.nx, forL (gN 4) bdD E ds⟩) o (h d (List.mem_cons_self ..)) (D_loop o ds _ (fun y hy => h y (List.mem_cons_of_mem _ hy)) k)
theorem odS_all : ∀ d ∈ [PyData.none, .tuple [.int 5, .int 1], .tuple [.int 1, .int 41]], OdS d := by
  intro d hd
  have ok : ∀ d : D, nod (.list (List.replicate 7 (.tuple [.str ("size" : Str), d]))) = true → (PyData.list (List.replicate 7 (.tuple [.str ("size" : Str), d]))).showable = true →
      (PyData.list (List.replicate 7 (.tuple [.str ("size" : Str), d]))).depth ≤ 60 → (PyData.list (List.replicate 7 (.tuple [.str ("size" : Str), d]))).shown.length ≤ 1000000 → okR (.list (List.replicate 7 (.tuple [.str ("size" : Str), d]))) := fun d a b c e => ⟨a, b, c, e⟩
  simp at hd
  rcases hd with rfl | rfl | rfl
  · exact ⟨rfl, ok _ (by decide +kernel) (by decide +kernel) (by decide +kernel) (by decide +kernel)⟩
  · exact ⟨by decide +kernel, ok _ (by decide +kernel) (by decide +kernel) (by decide +kernel) (by decide +kernel)⟩
  · exact ⟨by decide +kernel, ok _ (by decide +kernel) (by decide +kernel) (by decide +kernel) (by decide +kernel)⟩
theorem d_size {P : D → Nat → Prop} (hm : m < 1000000) (h : ∀ R W : Nat, OkS (R : Int) (W : Int) → R ≤ 2 → W ≤ 4 → P (scr R W) (m + 2)) : r__law_size [.ora, .d (.int 4)] m P := by
  refine ⟨trivial, rfl, rfl, rfl, 2, rfl, by omega, by omega, by omega, fun i i0 i1 => ?_⟩
  refine ⟨trivial, rfl, rfl, rfl, 4, rfl, by omega, by omega, by omega, fun j j0 j1 => ?_⟩
  obtain ⟨i', rfl⟩ : ∃ n : Nat, i = n := ⟨i.toNat, by omega⟩
  obtain ⟨j', rfl⟩ : ∃ n : Nat, j = n := ⟨j.toNat, by omega⟩
  refine ⟨by show 2 ≤ 1000000; omega, ?_⟩
  have := h (1 + i') (1 + j') ⟨by omega, by omega, by omega, by omega⟩ (by omega) (by omega)
  have es : PyData.tuple [.int (1 + (i' : Int)), .int (1 + (j' : Int))] = scr ((1 + i' : Nat) : Int) ((1 + j' : Nat) : Int) := by
    show PyData.tuple _ = PyData.tuple _
    push_cast
    rfl
  show P (PyData.tuple [.int (1 + (i' : Int)), .int (1 + (j' : Int))]) (m + 2)
  rw [es]
  exact this
theorem rep1 {y : D} {k : Nat} : (List.replicate ((k : Int)).toNat [y]).flatten = List.replicate k y := by
  rw [List.flatten_replicate_singleton, Int.toNat_natCast]
theorem mul_nl (n : Int) : mulT ("\n" : Str) n = S (List.replicate n.toNat 10) := by
  have e : ("\n" : Str).cps.toList = [10] := by decide +kernel
  unfold mulT
  rw [e]
  show (⟨_⟩ : Str) = ⟨_⟩
  congr 2
  induction n.toNat with
  | zero => rfl
  | succ k ih => rw [List.replicate_succ, List.replicate_succ, List.flatten_cons, ih]; rfl
def farD (d : D) : D := match d with
  | .int i => .tuple [.int i, .int (i + 1), .tuple [.str ("a" : Str)]]
  | _ => d
theorem lw_turn (hm : m < 800000) (h : ∀ m' s3 s4 s5 s6, m' ≤ m + 1000 → E.nx [s0, .ora m', s2, s3, s4, s5, s6, .no, .no]) : lwB E [s0, .ora m, s2, s3, s4, s5, s6, .no, .no] := by
  have la : ("a" : Str).length = 1 := by decide +kernel
  have ls : (" " : Str).length = 1 := by decide +kernel
  have ln : ("\n" : Str).length = 1 := by decide +kernel
  refine ⟨trivial, rfl, rfl, rfl, d_size (by omega) fun R W o r2 w4 => ?_⟩
  have r1 := o.r1
  have w1 := o.w1
  refine ⟨by show 2 ≤ 1000000; omega, by show 2 ≤ 1000000; omega, by show 3 ≤ 1000000; omega, ?_⟩
  rw [← bdI_eq]
  refine A_loop _ _ odS_all fun s4 => ?_
  refine ⟨by show 0 ≤ 1000000; omega, by show 1 ≤ 1000000; omega, by show 1 ≤ 1000000; omega, by show 1 ≤ 1000000; omega, trivial, _, rfl, ⟨by omega, by omega⟩, by rw [la]; omega, by show 1 ≤ 1000000; omega,
    by show 1 ≤ 1000000; omega, trivial, _, rfl, ⟨by omega, by omega⟩, by simp, by show 1 ≤ 1000; omega, by show 8 ≤ 1000000; omega, ?_⟩
  refine ⟨trivial, by show 1 ≤ 1000000; omega, by show 1 ≤ 1000000; omega, by show 2 ≤ 1000000; omega, by show 8 + 2 ≤ 1000000; omega, ?_⟩
  have e1 : PyData.str (mulT ("a" : Str) ((W : Int) + 1)) = aS (W + 1) := by
    rw [mul_a]
    rfl
  have e2 : (List.replicate ((R : Int) + 1).toNat [PyData.str ("a" : Str)]).flatten = List.replicate (R + 1) (.str ("a" : Str)) := by
    rw [List.flatten_replicate_singleton]
    rfl
  rw [e1, e2]
  refine B_loop o _ _ (odX_all o) fun s4 => ?_
  refine ⟨trivial, _, rfl, ⟨by omega, by omega⟩, by rw [ls]; omega, by show 1 ≤ 1000000; omega, trivial, _, rfl, ⟨by omega, by omega⟩, by simp, by show 1 ≤ 1000; omega, ?_⟩
  have e3 : (List.replicate ((R : Int)).toNat [PyData.str (mulT (" " : Str) (W : Int))]).flatten = List.replicate R (spS W) := by
    rw [mul_S, rep1, Int.toNat_natCast]
    rfl
  rw [e3]
  have lr : (List.replicate R (spS W)).length = R := List.length_replicate ..
  have c1 : cutD (List.replicate R (spS W)) (some 1) none = List.replicate (R - 1) (spS W) := by
    have := cut_drop (List.replicate R (spS W)) 1
    rw [show ((1 : Nat) : Int) = 1 from rfl] at this
    rw [this, List.drop_replicate]
  have c2 : List.replicate R (spS W) ++ List.replicate R (spS W) = List.replicate (R + R) (spS W) := by rw [List.replicate_append_replicate]
  have c3 : atI (List.replicate R (spS W)) 0 = some (spS W) := by
    obtain ⟨k, hk⟩ : ∃ k, R = k + 1 := ⟨R - 1, by omega⟩
    rw [hk, List.replicate_succ]
    simp [atI, ixN]
  have c4 : (List.replicate ((R : Int)).toNat [PyData.str (S (List.replicate W 32) ++ (" " : Str))]).flatten = List.replicate R (spS (W + 1)) := by
    rw [rep1, show (" " : Str) = S [32] by decide +kernel, S_app, ← List.replicate_succ']
    rfl
  have c5 : (List.replicate ((R : Int)).toNat [PyData.int 5]).flatten = List.replicate R (.int 5) := rep1
  have c6 : (List.replicate ((R : Int)).toNat [PyData.str (mulT ("\n" : Str) (W : Int))]).flatten = List.replicate R (.str (S (List.replicate W 10))) := by
    rw [mul_nl, rep1, Int.toNat_natCast]
  have hs : (S (List.replicate W 32)).length = W := by rw [S_len, List.length_replicate]
  refine ⟨trivial, trivial, trivial, by rw [lr]; omega, trivial, trivial, _, c3, by rw [hs, ls]; omega, by show 1 ≤ 1000000; omega, trivial, _, rfl, ⟨by omega, by omega⟩, by simp, by show 1 ≤ 1000; omega,
    by show 1 ≤ 1000000; omega, trivial, _, rfl, ⟨by omega, by omega⟩, by simp, by show 1 ≤ 1000; omega, by show 6 ≤ 1000000; omega, ?_⟩
  rw [c1, c2, c4, c5]
  refine ⟨trivial, trivial, _, rfl, ⟨by omega, by omega⟩, by rw [ln]; omega, by show 1 ≤ 1000000; omega, trivial, _, rfl, ⟨by omega, by omega⟩, by simp, by show 1 ≤ 1000; omega, by show 1 ≤ 1000000; omega, by show 6 + 1 ≤ 1000000; omega, ?_⟩
  rw [c6]
  refine C_loop o _ _ (odY_all o) fun s4 => ?_
  refine ⟨trivial, rfl, rfl, rfl, d_cues_right o (by omega) fun m' hm' => ?_⟩
  refine ⟨by show 0 ≤ 1000000; omega, ⟨by omega, by omega⟩, by simp [rgD], ⟨by simp, fun j hj => by simp at hj; subst hj; rfl⟩, ?_⟩
  refine lcL_map (ρ := [s0, .ora m', s2, .im (scr R W), s4, .im (.list [.none, .tuple (List.replicate (R - 1) (spS W)), .tuple (List.replicate (R + R) (spS W)), .list (List.replicate R (spS W)), .tuple (List.replicate R (spS (W + 1))), .tuple (List.replicate R (.int 5))]), .im (.tuple (List.replicate R (spS W))), .no, .no]) farD (rgD 0 201) [] ?_ ?_
  · intro v hv Q hQ
    unfold rgD at hv
    obtain ⟨k, _, rfl⟩ := List.mem_map.mp hv
    exact ⟨trivial, by show 1 ≤ 1000000; omega, by show 3 ≤ 1000000; omega, hQ _ rfl⟩
  · rw [List.nil_append]
    have hlen : ((rgD 0 201).map farD).length = 201 := by
      rw [List.length_map]
      simp [rgD]
    generalize (rgD 0 201).map farD = far at hlen
    refine ⟨by show 5 ≤ 1000000; omega, ?_⟩
    refine D_loop o _ _ (fun d hd => ?_) fun s4 => ?_
    · simp only [List.mem_cons, List.not_mem_nil, or_false] at hd
      rcases hd with rfl | rfl | rfl | rfl | rfl
      · rfl
      · rfl
      · rfl
      · rfl
      · show (decide ((0 : Int) ≤ (far.length : Int)) && decide ((far.length : Int) ≤ 200)) = false
        rw [hlen]
        rfl
    · have fi : Fn 1 (.tuple [.str ("jump" : Str)]) := .tup 0 _ (fun y hy => by rw [List.mem_singleton.mp hy]; exact fW _) (by show 1 ≤ 1000; omega)
      have b1 : Bad R W (.tuple [.tuple [.str ("idle" : Str)], .tuple [.str ("jump" : Str)]]) (.int 1) :=
        Bad.at (ds := [.tuple [.str ("idle" : Str)]]) (rest := []) (b := .tuple [.str ("jump" : Str)]) (by show 2 ≤ 2000; omega) (fun d hd => by
          rw [List.mem_singleton.mp hd]
          exact co_ok (c := .lone "idle") o ⟨by show ("idle" : Str) ∈ loneWs; decide +kernel⟩) fi (by show lone _ = false; decide +kernel)
      have okc : ∀ {y : D}, Fn 0 y → okD (.tuple [.str ("code" : Str), y]) := fun f => (fnW2 (fW _) f).ok (by omega)
      refine ⟨by show 1 ≤ 1000000; omega, by show 1 ≤ 1000000; omega, by show 2 ≤ 1000000; omega, rfl, rfl, out_code o b1 ?_⟩
      refine ⟨by show 2 ≤ 1000000; omega, okc (.int _ _), okc (.int _ _), ?_⟩
      show (if (!PyData.eqv (.tuple [.str ("code" : Str), .int 1]) (.tuple [.str ("code" : Str), .int 1])) = true then _ else _)
      rw [show PyData.eqv (.tuple [.str ("code" : Str), .int 1]) (.tuple [.str ("code" : Str), .int 1]) = true by simp [PyData.eqv, PyData.eqvAll], if_neg (by decide)]
      refine ⟨rfl, rfl, out_code o (.none rfl) ?_⟩
      refine ⟨by show 2 ≤ 1000000; omega, okc (.non _), okc (.non _), ?_⟩
      show (if (!PyData.eqv (.tuple [.str ("code" : Str), .none]) (.tuple [.str ("code" : Str), .none])) = true then _ else _)
      rw [show PyData.eqv (.tuple [.str ("code" : Str), .none]) (.tuple [.str ("code" : Str), .none]) = true by simp [PyData.eqv, PyData.eqvAll], if_neg (by decide)]
      exact h _ _ _ _ _ (by omega)
theorem lw_loop : ∀ (ds : List D) (m : Nat) (s2 s3 s4 s5 s6 : Sl), m + ds.length * 1000 < 800000 → (∀ m' s2 s3 s4 s5 s6, E.nx [s0, .ora m', s2, s3, s4, s5, s6, .no, .no]) → forL (gN 2) lwB E ds [s0, .ora m, s2, s3, s4, s5, s6, .no, .no]
  | [], m, s2, s3, s4, s5, s6, _, k => k m s2 s3 s4 s5 s6
  | d :: ds, m, s2, s3, s4, s5, s6, hm, k => by
    rw [List.length_cons] at hm
    exact lw_turn (by omega) fun m' s3 s4 s5 s6 hm' => lw_loop ds m' _ s3 s4 s5 s6 (by omega) k
end
theorem law_says (ns : List Int) (hn : ns.length ≤ 63) : lawSays ns := by
  have ll : ((ns.map PyData.int).length : Int) = ns.length := by rw [List.length_map]
  refine ⟨trivial, ?_⟩
  have rl : ∀ k : Int, (rgD 0 k).length = k.toNat := fun k => by simp [rgD]
  refine ⟨⟨by omega, by omega⟩, ?_⟩
  have key := lw_loop (E := ⟨sRet (dC (.bool true)) ⟨fun _ => False, fun d _ => d = .bool true, fun _ => False, fun _ => False⟩, fun d _ => d = .bool true, fun _ => False, fun _ => False⟩)
    (s0 := .im (.list (ns.map PyData.int))) (rgD 0 (1 + min ((ns.map PyData.int).length : Int) 3)) 0 .no .no .no .no .no (by rw [rl]; omega) (fun m' s2 s3 s4 s5 s6 => rfl)
  exact key
end Q25
open PySem PyProof.Rows PySem.W in
set_option maxRecDepth 100100 in
set_option maxHeartbeats 0 in
theorem PySem.Challenge.cw_captionhouse_k25_sending_refused_holds : PySem.Challenge.rw_captionhouse_k25_sending_refused.Holds := by
  w_on
  o_law
  refine HandSHeadRun.head_any (r := Q25.hdR) (q := Q25.hdQ) (H := Q25.hdH) (ob := fun s => Q25.hdA.map (HandSHeadRun.getT s)) (M := 20000) (loose := Q25.hdN) (kwd := []) (fun s => congrArg (fun g => Q25.hdA.map g) (funext fun b => HandSHeadRun.getT_eq s b)) (by kernel_rfl) (fun s => by kernel_rfl) Q25.hdRun (by rfl) (by rfl) (by rfl) (by rfl) (by first | assumption | decide +kernel) (by decide +kernel) ⟨rfl, rfl, rfl, rfl, rfl, by decide +kernel⟩ ?hw ?hc
  (case hw => w_witness2)
  k_fill
  refine DL.walkG (l := PySem.Challenge.rw_captionhouse_k25_sending_refused) (n := 63) (k := 12) (x := "_law_script") (sp := fun w => Q25.spLawG (_)) rfl (by decide) rfl ⟨rfl, by decide, by decide⟩ (fun w h Y => PySem.W.kIn_of Y) ?F (fun w H a ns hl sq => ⟨a, ns, rfl, sq, hl, fun _ => rfl⟩)
  case F =>
    intro w gl fa h KX G hgl
    refine' Q25.all_mk KX G hgl ?a0 ?l0 ?c0 ?k0 ?a1 ?l1 ?c1 ?k1 ?a2 ?l2 ?c2 ?k2 ?a3 ?l3 ?c3 ?k3 ?a4 ?l4 ?c4 ?k4 ?a5 ?l5 ?c5 ?k5 ?a6 ?l6 ?c6 ?k6 ?a7 ?l7 ?c7 ?k7 ?a8 ?l8 ?c8 ?k8 ?a9 ?l9 ?c9 ?k9 ?a10 ?l10 ?c10 ?k10 ?a11 ?l11 ?c11 ?k11 ?a12 ?l12 ?c12 ?k12 ?a13 ?l13 ?c13 ?k13 ?a14 ?l14 ?c14 ?k14 ?a15 ?l15 ?c15 ?k15 ?a16 ?l16 ?c16 ?k16 ?a17 ?l17 ?c17 ?k17 ?d17 ?a18 ?l18 ?c18 ?k18 ?a19 ?l19 ?c19 ?k19 ?a20 ?l20 ?c20 ?k20 ?a21 ?l21 ?c21 ?k21 ?d21 ?a22 ?l22 ?c22 ?k22 ?a23 ?l23 ?c23 ?k23 ?a24 ?l24 ?c24 ?k24 ?a25 ?l25 ?c25 ?k25 ?a26 ?l26 ?c26 ?k26 ?a27 ?l27 ?c27 ?k27 ?a28 ?l28 ?c28 ?k28 ?a29 ?l29 ?c29 ?k29 ?a30 ?l30 ?c30 ?k30 ?a31 ?l31 ?c31 ?k31 ?a32 ?l32 ?c32 ?k32 ?a33 ?l33 ?c33 ?k33 ?a34 ?l34 ?c34 ?k34 ?a35 ?l35 ?c35 ?k35 ?a36 ?l36 ?c36 ?k36 ?a37 ?l37 ?c37 ?k37 ?a38 ?l38 ?c38 ?k38 ?a39 ?l39 ?c39 ?k39 ?a40 ?l40 ?c40 ?k40 ?a41 ?l41 ?c41 ?k41 ?a42 ?l42 ?c42 ?k42 ?a43 ?l43 ?c43 ?k43 ?a44 ?l44 ?c44 ?k44 ?a45 ?l45 ?c45 ?k45 ?a46 ?l46 ?c46 ?k46 ?a47 ?l47 ?c47 ?k47 ?a48 ?l48 ?c48 ?k48 ?a49 ?l49 ?c49 ?k49 ?xa0 ?xl0 ?xs0 ?xe0 ?xt0 ?xk0 ?xc0 ?xb0 ?xi0 ?xy0 ?xf0 ?xd0 ?xg0 ?xn0 ?xp0 ?xq0 ?xr0 ?xa1 ?xl1 ?xs1 ?xe1 ?xt1 ?xk1 ?xc1 ?xb1 ?xi1 ?xy1 ?xf1 ?xd1 ?xg1 ?xn1 ?xp1 ?xq1 ?xr1 ?xa2 ?xl2 ?xs2 ?xe2 ?xt2 ?xk2 ?xc2 ?xb2 ?xi2 ?xy2 ?xf2 ?xd2 ?xg2 ?xa3 ?xl3 ?xs3 ?xe3 ?xt3 ?xk3 ?xc3 ?xb3 ?xi3 ?xy3 ?xf3 ?xd3 ?xg3 ?xn3 ?xp3 ?xq3 ?xr3 ?xa4 ?xl4 ?xs4 ?xe4 ?xt4 ?xk4 ?xc4 ?xb4 ?xi4 ?xy4 ?xf4 ?xd4 ?xg4 ?xn4 ?xz3_1 ?xz0_1 ?xz2_1 ?xz1_3 ?xz0_3 ?xz2_3 ?xz1_0 ?xz3_0 ?xz2_0 ?xz1_2 ?xz3_2 ?xz0_2 ?xvV ?z_ValueError ?z_all ?z_bool ?z_enumerate ?z_int ?z_isinstance ?z_len ?z_list ?z_max ?z_min ?z_ord ?z_range ?z_repr ?z_str ?z_tuple ?v_BLANK_SIGN ?v_HIDE ?v_LAST_FRAME ?v_LONE_WORDS ?w_LONE_WORDS ?v_LOWEST_OF_CELLS ?v_LOWEST_OF_LINES ?v_MOST_COLUMNS ?v_MOST_LINES ?v_MOST_ROWS ?v_MOST_SENDABLE ?v_MOST_SIGNS ?v_PERCENT ?v_ROLL ?v_TILDE Q25.law_says
    (case a0 => k_is)
    (case l0 => k_is)
    (case c0 => k_is)
    (case k0 => k_is)
    (case a1 => k_is)
    (case l1 => k_is)
    (case c1 => k_is)
    (case k1 => k_is)
    (case a2 => k_is)
    (case l2 => k_is)
    (case c2 => k_is)
    (case k2 => k_is)
    (case a3 => k_is)
    (case l3 => k_is)
    (case c3 => k_is)
    (case k3 => k_is)
    (case a4 => k_is)
    (case l4 => k_is)
    (case c4 => k_is)
    (case k4 => k_is)
    (case a5 => k_is)
    (case l5 => k_is)
    (case c5 => k_is)
    (case k5 => k_is)
    (case a6 => k_is)
    (case l6 => k_is)
    (case c6 => k_is)
    (case k6 => k_is)
    (case a7 => k_is)
    (case l7 => k_is)
    (case c7 => k_is)
    (case k7 => k_is)
    (case a8 => k_is)
    (case l8 => k_is)
    (case c8 => k_is)
    (case k8 => k_is)
    (case a9 => k_is)
    (case l9 => k_is)
    (case c9 => k_is)
    (case k9 => k_is)
    (case a10 => k_is)
    (case l10 => k_is)
    (case c10 => k_is)
    (case k10 => k_is)
    (case a11 => k_is)
    (case l11 => k_is)
    (case c11 => k_is)
    (case k11 => k_is)
    (case a12 => k_is)
    (case l12 => k_is)
    (case c12 => k_is)
    (case k12 => k_is)
    (case a13 => k_is)
    (case l13 => k_is)
    (case c13 => k_is)
    (case k13 => k_is)
    (case a14 => k_is)
    (case l14 => k_is)
    (case c14 => k_is)
    (case k14 => k_is)
    (case a15 => k_is)
    (case l15 => k_is)
    (case c15 => k_is)
    (case k15 => k_is)
    (case a16 => k_is)
    (case l16 => k_is)
    (case c16 => k_is)
    (case k16 => k_is)
    (case a17 => k_is)
    (case l17 => k_is)
    (case c17 => k_is)
    (case k17 => k_is)
    (case d17 => k_is)
    (case a18 => k_is)
    (case l18 => k_is)
    (case c18 => k_is)
    (case k18 => k_is)
    (case a19 => k_is)
    (case l19 => k_is)
    (case c19 => k_is)
    (case k19 => k_is)
    (case a20 => k_is)
    (case l20 => k_is)
    (case c20 => k_is)
    (case k20 => k_is)
    (case a21 => k_is)
    (case l21 => k_is)
    (case c21 => k_is)
    (case k21 => k_is)
    (case d21 => k_is)
    (case a22 => k_is)
    (case l22 => k_is)
    (case c22 => k_is)
    (case k22 => k_is)
    (case a23 => k_is)
    (case l23 => k_is)
    (case c23 => k_is)
    (case k23 => k_is)
    (case a24 => k_is)
    (case l24 => k_is)
    (case c24 => k_is)
    (case k24 => k_is)
    (case a25 => k_is)
    (case l25 => k_is)
    (case c25 => k_is)
    (case k25 => k_is)
    (case a26 => k_is)
    (case l26 => k_is)
    (case c26 => k_is)
    (case k26 => k_is)
    (case a27 => k_is)
    (case l27 => k_is)
    (case c27 => k_is)
    (case k27 => k_is)
    (case a28 => k_is)
    (case l28 => k_is)
    (case c28 => k_is)
    (case k28 => k_is)
    (case a29 => k_is)
    (case l29 => k_is)
    (case c29 => k_is)
    (case k29 => k_is)
    (case a30 => k_is)
    (case l30 => k_is)
    (case c30 => k_is)
    (case k30 => k_is)
    (case a31 => k_is)
    (case l31 => k_is)
    (case c31 => k_is)
    (case k31 => k_is)
    (case a32 => k_is)
    (case l32 => k_is)
    (case c32 => k_is)
    (case k32 => k_is)
    (case a33 => k_is)
    (case l33 => k_is)
    (case c33 => k_is)
    (case k33 => k_is)
    (case a34 => k_is)
    (case l34 => k_is)
    (case c34 => k_is)
    (case k34 => k_is)
    (case a35 => k_is)
    (case l35 => k_is)
    (case c35 => k_is)
    (case k35 => k_is)
    (case a36 => k_is)
    (case l36 => k_is)
    (case c36 => k_is)
    (case k36 => k_is)
    (case a37 => k_is)
    (case l37 => k_is)
    (case c37 => k_is)
    (case k37 => k_is)
    (case a38 => k_is)
    (case l38 => k_is)
    (case c38 => k_is)
    (case k38 => k_is)
    (case a39 => k_is)
    (case l39 => k_is)
    (case c39 => k_is)
    (case k39 => k_is)
    (case a40 => k_is)
    (case l40 => k_is)
    (case c40 => k_is)
    (case k40 => k_is)
    (case a41 => k_is)
    (case l41 => k_is)
    (case c41 => k_is)
    (case k41 => k_is)
    (case a42 => k_is)
    (case l42 => k_is)
    (case c42 => k_is)
    (case k42 => k_is)
    (case a43 => k_is)
    (case l43 => k_is)
    (case c43 => k_is)
    (case k43 => k_is)
    (case a44 => k_is)
    (case l44 => k_is)
    (case c44 => k_is)
    (case k44 => k_is)
    (case a45 => k_is)
    (case l45 => k_is)
    (case c45 => k_is)
    (case k45 => k_is)
    (case a46 => k_is)
    (case l46 => k_is)
    (case c46 => k_is)
    (case k46 => k_is)
    (case a47 => k_is)
    (case l47 => k_is)
    (case c47 => k_is)
    (case k47 => k_is)
    (case a48 => k_is)
    (case l48 => k_is)
    (case c48 => k_is)
    (case k48 => k_is)
    (case a49 => k_is)
    (case l49 => k_is)
    (case c49 => k_is)
    (case k49 => k_is)
    (case xa0 => k_is)
    (case xl0 => k_is)
    (case xs0 => k_is)
    (case xe0 => k_is)
    (case xt0 => k_is)
    (case xk0 => k_is)
    (case xc0 => k_is)
    (case xb0 => k_is)
    (case xi0 => k_is)
    (case xy0 => k_is)
    (case xf0 => k_is)
    (case xd0 => k_is)
    (case xg0 => k_is)
    (case xn0 => k_is)
    (case xp0 => k_is)
    (case xq0 => k_is)
    (case xr0 => k_is)
    (case xa1 => k_is)
    (case xl1 => k_is)
    (case xs1 => k_is)
    (case xe1 => k_is)
    (case xt1 => k_is)
    (case xk1 => k_is)
    (case xc1 => k_is)
    (case xb1 => k_is)
    (case xi1 => k_is)
    (case xy1 => k_is)
    (case xf1 => k_is)
    (case xd1 => k_is)
    (case xg1 => k_is)
    (case xn1 => k_is)
    (case xp1 => k_is)
    (case xq1 => k_is)
    (case xr1 => k_is)
    (case xa2 => k_is)
    (case xl2 => k_is)
    (case xs2 => k_is)
    (case xe2 => k_is)
    (case xt2 => k_is)
    (case xk2 => k_is)
    (case xc2 => k_is)
    (case xb2 => k_is)
    (case xi2 => k_is)
    (case xy2 => k_is)
    (case xf2 => k_is)
    (case xd2 => k_is)
    (case xg2 => k_is)
    (case xa3 => k_is)
    (case xl3 => k_is)
    (case xs3 => k_is)
    (case xe3 => k_is)
    (case xt3 => k_is)
    (case xk3 => k_is)
    (case xc3 => k_is)
    (case xb3 => k_is)
    (case xi3 => k_is)
    (case xy3 => k_is)
    (case xf3 => k_is)
    (case xd3 => k_is)
    (case xg3 => k_is)
    (case xn3 => k_is)
    (case xp3 => k_is)
    (case xq3 => k_is)
    (case xr3 => k_is)
    (case xa4 => k_is)
    (case xl4 => k_is)
    (case xs4 => k_is)
    (case xe4 => k_is)
    (case xt4 => k_is)
    (case xk4 => k_is)
    (case xc4 => k_is)
    (case xb4 => k_is)
    (case xi4 => k_is)
    (case xy4 => k_is)
    (case xf4 => k_is)
    (case xd4 => k_is)
    (case xg4 => k_is)
    (case xn4 => k_is)
    (case xz3_1 => k_is)
    (case xz0_1 => k_is)
    (case xz2_1 => k_is)
    (case xz1_3 => k_is)
    (case xz0_3 => k_is)
    (case xz2_3 => k_is)
    (case xz1_0 => k_is)
    (case xz3_0 => k_is)
    (case xz2_0 => k_is)
    (case xz1_2 => k_is)
    (case xz3_2 => k_is)
    (case xz0_2 => k_is)
    (case xvV => k_is)
    (case z_ValueError => k_is)
    (case z_all => k_is)
    (case z_bool => k_is)
    (case z_enumerate => k_is)
    (case z_int => k_is)
    (case z_isinstance => k_is)
    (case z_len => k_is)
    (case z_list => k_is)
    (case z_max => k_is)
    (case z_min => k_is)
    (case z_ord => k_is)
    (case z_range => k_is)
    (case z_repr => k_is)
    (case z_str => k_is)
    (case z_tuple => k_is)
    (case v_BLANK_SIGN => k_is)
    (case v_HIDE => k_is)
    (case v_LAST_FRAME => k_is)
    (case v_LONE_WORDS => k_is)
    (case w_LONE_WORDS => k_is)
    (case v_LOWEST_OF_CELLS => k_is)
    (case v_LOWEST_OF_LINES => k_is)
    (case v_MOST_COLUMNS => k_is)
    (case v_MOST_LINES => k_is)
    (case v_MOST_ROWS => k_is)
    (case v_MOST_SENDABLE => k_is)
    (case v_MOST_SIGNS => k_is)
    (case v_PERCENT => k_is)
    (case v_ROLL => k_is)
    (case v_TILDE => k_is)

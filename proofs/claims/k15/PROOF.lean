import PyProof.Rows.All
import Wide.All
import OpenK.AllK
import Wide.FinOn
import HandS.ForMost
import HandS.Evl
import HandS.Walk
import HandS.Wide
import HandS.WideBits
import HandS.IsInst
import HandS.Zip
import HandS.Codes
import HandS.TupAny
import HandS.Flow
import HandS.SetFor
import HandS.Strs
import HandS.Style
import HandS.Conv
import HandS.SortInts
import KE.GoesMore
import HandS.Property
import HandS.OwnEq
import HandS.SlotsOwn
import HandS.ClsMeth
import HandS.Gcd
import HandS.FStr
import KE.KOpsOwn
import KE.KCallOwn
import OpenK.KMeth
import HandS.Defaults
import HandS.NoneIn
import PySem.Challenge.RW_squaretimes_k15_whole_sign_tables_as_tab
set_option Elab.async false
set_option linter.all false
set_option maxRecDepth 100000
set_option maxHeartbeats 4000000
/-! Dt: readings by data. A frame tells for each slot a datum, or a list that the def itself made and still changes; what an expression or a statement comes to is told by data alone. -/
namespace Dt
open PySem L2

/-- data: what a value is, as a whole -/
inductive D where
  | non | bl (b : Bool) | int (i : Int) | str (s : Str)
  | lst (l : List D) | tup (l : List D)
  | scr (ns : List Int)
  | ins (c : Nat) (l : List D)
  | ty (n : String) | cls (c : Nat)
  | dic (ks : List Int) (vs : List D)
  | fz (ks : List Int) (vs : List D)

/-- what the written part tells: K, and of each class by its number: where it stands, its attributes in order -/
structure Wd where
  K : PySem.W.Frag
  cl : Nat → Addr × List Str
  w : World

abbrev Ex (H H' : Hp) : Prop := ∀ a o, H a = some o → H' a = some o
theorem Ex.refl (H : Hp) : Ex H H := fun _ _ h => h
theorem Ex.trans {H H1 H2 : Hp} (a : Ex H H1) (b : Ex H1 H2) : Ex H H2 := fun x o h => b x o (a x o h)
theorem Ex.new {H : Hp} {p : Addr} {o : HO} (h : H p = none) : Ex H (upd H p o) := fun a u e => by
  rw [upd_ne (ne_of_none e h)]
  exact e

mutual
/-- the value v is the datum, as the fixed part I of the heap stands -/
inductive Rp (W : Wd) (I : Hp) : D → V → Prop
  | non : Rp W I .non .non
  | bl (b : Bool) : Rp W I (.bl b) (.bl b)
  | int (i : Int) : Rp W I (.int i) (.int i)
  | str (s : Str) : Rp W I (.str s) (.str s)
  | lst {l : List D} {p : Addr} {vs : List V} : I p = some (.lst vs) → Rps W I l vs → Rp W I (.lst l) (.ref p)
  | tup {l : List D} {p : Addr} {vs : List V} : SqT W.K I p vs → Rps W I l vs → Rp W I (.tup l) (.ref p)
  | scr {ns : List Int} {p : Addr} : SqL W.K I p (ns.map V.int) → Rp W I (.scr ns) (.ref p)
  | ins {c : Nat} {l : List D} {p dx : Addr} {vs : List V} : I p = some (.ins (W.cl c).1 dx ((W.cl c).2.zip vs)) → vs.length = (W.cl c).2.length → Rps W I l vs → Rp W I (.ins c l) (.ref p)
  | ty (n : String) : Rp W I (.ty n) (.ty n)
  | cls (c : Nat) : Rp W I (.cls c) (.ref (W.cl c).1)
  | dic {ks : List Int} {vs : List D} {p : Addr} {ws : List V} : I p = some (.dK ((ks.map (Sum.inl (β := Str))).zip ws)) → ks.length = ws.length → Rps W I vs ws → Rp W I (.dic ks vs) (.ref p)
  | fz {ks : List Int} {vs : List D} {p : Addr} {ws : List V} {od : Obj} : I p = some (.frz od (.dK ((ks.map (Sum.inl (β := Str))).zip ws))) → ks.length = ws.length → Rps W I vs ws → Rp W I (.fz ks vs) (.ref p)
inductive Rps (W : Wd) (I : Hp) : List D → List V → Prop
  | nil : Rps W I [] []
  | cons {d : D} {v : V} {l : List D} {vs : List V} : Rp W I d v → Rps W I l vs → Rps W I (d :: l) (v :: vs)
end

theorem sqT_ex {K : PySem.W.Frag} {H H' : Hp} {a : Addr} {xs : List V} (e : Ex H H') (h : SqT K H a xs) : SqT K H' a xs := by
  rcases h with (h | ⟨o, h⟩) | h
  · exact .inl (.inl (e _ _ h))
  · exact .inl (.inr ⟨o, e _ _ h⟩)
  · exact .inr h
theorem sqL_ex {K : PySem.W.Frag} {H H' : Hp} {a : Addr} {xs : List V} (e : Ex H H') (h : SqL K H a xs) : SqL K H' a xs := by
  rcases h with (h | ⟨o, h⟩) | h
  · exact .inl (.inl (e _ _ h))
  · exact .inl (.inr ⟨o, e _ _ h⟩)
  · exact .inr h

mutual
theorem Rp.mono {W : Wd} {I I' : Hp} (e : Ex I I') : ∀ {d : D} {v : V}, Rp W I d v → Rp W I' d v
  | _, _, .non => .non
  | _, _, .bl b => .bl b
  | _, _, .int i => .int i
  | _, _, .str s => .str s
  | _, _, .lst h r => .lst (e _ _ h) (Rps.mono e r)
  | _, _, .tup h r => .tup (sqT_ex e h) (Rps.mono e r)
  | _, _, .scr h => .scr (sqL_ex e h)
  | _, _, .ins h k r => .ins (e _ _ h) k (Rps.mono e r)
  | _, _, .ty n => .ty n
  | _, _, .cls c => .cls c
  | _, _, .dic h k r => .dic (e _ _ h) k (Rps.mono e r)
  | _, _, .fz h k r => .fz (e _ _ h) k (Rps.mono e r)
theorem Rps.mono {W : Wd} {I I' : Hp} (e : Ex I I') : ∀ {l : List D} {vs : List V}, Rps W I l vs → Rps W I' l vs
  | _, _, .nil => .nil
  | _, _, .cons h r => .cons (Rp.mono e h) (Rps.mono e r)
end

section
variable {W : Wd} {I : Hp}
theorem Rps.length : ∀ {l : List D} {vs : List V}, Rps W I l vs → l.length = vs.length
  | _, _, .nil => rfl
  | _, _, .cons _ r => by simp [Rps.length r]
theorem Rps.get : ∀ {l : List D} {vs : List V} {i : Nat} {x : D}, Rps W I l vs → l[i]? = some x → ∃ v, vs[i]? = some v ∧ Rp W I x v
  | _, _, _, _, .nil, e => by simp at e
  | _, _, 0, x, .cons (v := v) h r, e => ⟨v, rfl, by simp at e; rw [← e]; exact h⟩
  | _, _, i + 1, x, .cons h r, e => by
    obtain ⟨v, e1, e2⟩ := Rps.get (i := i) r (by simpa using e)
    exact ⟨v, by simpa using e1, e2⟩
theorem Rps.getV : ∀ {l : List D} {vs : List V} {i : Nat} {v : V}, Rps W I l vs → vs[i]? = some v → ∃ x, l[i]? = some x ∧ Rp W I x v
  | _, _, _, _, .nil, e => by simp at e
  | _, _, 0, v, .cons (d := d) h r, e => ⟨d, rfl, by simp at e; rw [← e]; exact h⟩
  | _, _, i + 1, v, .cons h r, e => by
    obtain ⟨x, e1, e2⟩ := Rps.getV (i := i) r (by simpa using e)
    exact ⟨x, by simpa using e1, e2⟩
theorem Rps.append : ∀ {l m : List D} {vs ws : List V}, Rps W I l vs → Rps W I m ws → Rps W I (l ++ m) (vs ++ ws)
  | _, _, _, _, .nil, s => s
  | _, _, _, _, .cons h r, s => .cons h (Rps.append r s)
theorem Rps.take : ∀ {l : List D} {vs : List V} (n : Nat), Rps W I l vs → Rps W I (l.take n) (vs.take n)
  | _, _, 0, _ => .nil
  | _, _, _ + 1, .nil => .nil
  | _, _, n + 1, .cons h r => .cons h (Rps.take n r)
theorem Rps.drop : ∀ {l : List D} {vs : List V} (n : Nat), Rps W I l vs → Rps W I (l.drop n) (vs.drop n)
  | _, _, 0, r => r
  | _, _, _ + 1, .nil => .nil
  | _, _, n + 1, .cons _ r => Rps.drop n r
theorem Rps.set {x : D} {v : V} (h : Rp W I x v) : ∀ {l : List D} {vs : List V} (i : Nat), Rps W I l vs → Rps W I (l.set i x) (vs.set i v)
  | _, _, _, .nil => .nil
  | _, _, 0, .cons _ r => .cons h r
  | _, _, i + 1, .cons q r => .cons q (Rps.set h i r)
theorem Rps.eraseIdx : ∀ {l : List D} {vs : List V} (i : Nat), Rps W I l vs → Rps W I (l.eraseIdx i) (vs.eraseIdx i)
  | _, _, _, .nil => .nil
  | _, _, 0, .cons _ r => r
  | _, _, i + 1, .cons q r => .cons q (Rps.eraseIdx i r)
theorem Rps.dropLast {l : List D} {vs : List V} (r : Rps W I l vs) : Rps W I l.dropLast vs.dropLast := by
  rw [List.dropLast_eq_take, List.dropLast_eq_take, r.length]
  exact r.take _
theorem Rps.reverse : ∀ {l : List D} {vs : List V}, Rps W I l vs → Rps W I l.reverse vs.reverse
  | _, _, .nil => .nil
  | _, _, .cons h r => by
    rw [List.reverse_cons, List.reverse_cons]
    exact (Rps.reverse r).append (.cons h .nil)
theorem Rps.ints : ∀ {ns : List Int} {vs : List V}, Rps W I (ns.map D.int) vs → vs = ns.map V.int
  | [], _, .nil => rfl
  | n :: ns, _, .cons h r => by
    cases h
    rw [Rps.ints r]
    rfl
theorem Rps.ints_of (ns : List Int) : Rps W I (ns.map D.int) (ns.map V.int) := by
  induction ns with
  | nil => exact .nil
  | cons n ns ih => exact .cons (.int n) ih
theorem Rps.bls : ∀ {bs : List Bool} {vs : List V}, Rps W I (bs.map D.bl) vs → vs = bs.map V.bl
  | [], _, .nil => rfl
  | n :: ns, _, .cons h r => by
    cases h
    rw [Rps.bls r]
    rfl
theorem Rps.strs : ∀ {bs : List Str} {vs : List V}, Rps W I (bs.map D.str) vs → vs = bs.map V.str
  | [], _, .nil => rfl
  | n :: ns, _, .cons h r => by
    cases h
    rw [Rps.strs r]
    rfl
theorem Rps.strs_of (ns : List Str) : Rps W I (ns.map D.str) (ns.map V.str) := by
  induction ns with
  | nil => exact .nil
  | cons n ns ih => exact .cons (.str n) ih
end

/-! ### frames -/
/-- what a slot holds: a datum; a list of the def's own at p, still changed; the draws' three numbers at p -/
inductive En where
  | d (x : D) | own (p : Addr) (l : List D) | jg (p : Addr) | jo (p : Addr) (l : List D) | od (p : Addr) (ks : List Int) (vs : List D) | oi (p : Addr) (c : Nat) (l : List D) (fz : Bool)
abbrev Fr := List (Option En)
def En.adr : En → Option Addr
  | .d _ => none
  | .own p _ => some p
  | .jg p => some p
  | .jo p _ => some p
  | .od p _ _ => some p
  | .oi p _ _ _ => some p
/-- what may become a datum -/
def En.frz : En → Option Addr
  | .own p _ => some p
  | .oi p _ _ fz => if fz = true then some p else none
  | _ => none
theorem En.frz_adr {e : En} {a : Addr} (h : e.frz = some a) : e.adr = some a := by
  cases e with
  | own p l => exact h
  | oi p c fs fz => cases fz with | true => exact h | false => cases h
  | _ => cases h
def ownA (δ : Fr) (a : Addr) : Prop := ∃ (i : Nat) (e : En), δ[i]? = some (some e) ∧ e.adr = some a
def ownT (δ : Fr) (a : Addr) : Prop := ∃ (i : Nat) (e : En), δ[i]? = some (some e) ∧ e.frz = some a
theorem ownT.a {δ : Fr} {a : Addr} (h : ownT δ a) : ownA δ a := by
  obtain ⟨i, e, h, ea⟩ := h
  exact ⟨i, _, h, En.frz_adr ea⟩
def Es (W : Wd) (I H : Hp) : En → V → Prop
  | .d x, v => Rp W I x v
  | .own p l, v => v = .ref p ∧ I p = none ∧ ∃ vs, H p = some (.lst vs) ∧ Rps W I l vs
  | .jg p, v => v = .ref p ∧ I p = none ∧ ∃ a b c : Int, H p = some (.lst [.int a, .int b, .int c])
  | .jo p l, v => v = .ref p ∧ I p = none ∧ ∃ vs, H p = some (.lst vs) ∧ Rps W I l vs
  | .od p ks vs, v => v = .ref p ∧ I p = none ∧ ∃ ws, H p = some (.dK ((ks.map (Sum.inl (β := Str))).zip ws)) ∧ ks.length = ws.length ∧ Rps W I vs ws
  | .oi p c l _, v => v = .ref p ∧ I p = none ∧ ∃ dx ws, H p = some (.ins (W.cl c).1 dx ((W.cl c).2.zip ws)) ∧ ws.length ≤ (W.cl c).2.length ∧ Rps W I l ws
structure OK (W : Wd) (I H : Hp) (δ : Fr) (σ : St) : Prop where
  ih : Ex I H
  ln : δ.length = σ.length
  sl : ∀ (i : Nat) (e : En), δ[i]? = some (some e) → ∃ v, σ[i]? = some (some v) ∧ Es W I H e v
  ap : ∀ (i j : Nat) (e f : En) (a b : Addr), i ≠ j → δ[i]? = some (some e) → δ[j]? = some (some f) → e.adr = some a → f.adr = some b → a ≠ b
/-- a step: what it may change -/
structure Sx (δ : Fr) (I H : Hp) (δ' : Fr) (I' H' : Hp) : Prop where
  ii : Ex I I'
  kp : ∀ a o, H a = some o → ¬ ownA δ a → H' a = some o
  lv : ∀ a o, H a = some o → ∃ u, H' a = some u
  nw : ∀ a o, I' a = some o → I a = some o ∨ H a = none ∨ ownT δ a
  oa : ∀ a, ownA δ' a → ownA δ a ∨ H a = none
  ot : ∀ a, ownT δ' a → ownT δ a ∨ H a = none
theorem Sx.refl (δ : Fr) (I H : Hp) : Sx δ I H δ I H := ⟨Ex.refl _, fun _ _ h _ => h, fun _ o h => ⟨o, h⟩, fun _ _ h => .inl h, fun _ h => .inl h, fun _ h => .inl h⟩
theorem none_back {H H' : Hp} {a : Addr} (lv : ∀ a o, H a = some o → ∃ u, H' a = some u) (h : H' a = none) : H a = none := by
  cases e : H a with
  | none => rfl
  | some o =>
    obtain ⟨u, hu⟩ := lv a o e
    rw [hu] at h
    cases h
theorem Sx.trans {δ δ1 δ2 : Fr} {I I1 I2 H H1 H2 : Hp} (a : Sx δ I H δ1 I1 H1) (b : Sx δ1 I1 H1 δ2 I2 H2) : Sx δ I H δ2 I2 H2 where
  ii := a.ii.trans b.ii
  kp := fun x o h n => b.kp x o (a.kp x o h n) fun q => by
    rcases a.oa x q with q | q
    · exact n q
    · rw [q] at h; cases h
  lv := fun x o h => by
    obtain ⟨u, hu⟩ := a.lv x o h
    exact b.lv x u hu
  nw := fun x o h => by
    rcases b.nw x o h with q | q | q
    · exact a.nw x o q
    · exact .inr (.inl (none_back a.lv q))
    · rcases a.ot x q with q | q
      · exact .inr (.inr q)
      · exact .inr (.inl q)
  oa := fun x h => by
    rcases b.oa x h with q | q
    · exact a.oa x q
    · exact .inr (none_back a.lv q)
  ot := fun x h => by
    rcases b.ot x h with q | q
    · exact a.ot x q
    · exact .inr (none_back a.lv q)
/-- same frame, heap and fixed part grown by new things -/
theorem Sx.grow {δ : Fr} {I I' H H' : Hp} (ii : Ex I I') (hh : Ex H H') (nw : ∀ a o, I' a = some o → I a = some o ∨ H a = none) : Sx δ I H δ I' H' :=
  ⟨ii, fun a o h _ => hh a o h, fun a o h => ⟨o, hh a o h⟩, fun a o h => (nw a o h).elim .inl fun q => .inr (.inl q), fun _ h => .inl h, fun _ h => .inl h⟩

section
variable {W : Wd} {I I' H H' : Hp} {δ δ' : Fr} {σ σ' : St}
theorem Es.mono {e : En} {v : V} (ii : Ex I I') (hp : ∀ p, e.adr = some p → I' p = none ∧ H' p = H p) (h : Es W I H e v) : Es W I' H' e v := by
  cases e with
  | d x => exact Rp.mono ii h
  | own p l =>
    obtain ⟨e1, e2, vs, e3, e4⟩ := h
    obtain ⟨q1, q2⟩ := hp p rfl
    exact ⟨e1, q1, vs, by rw [q2]; exact e3, e4.mono ii⟩
  | jg p =>
    obtain ⟨e1, e2, a, b, c, e3⟩ := h
    obtain ⟨q1, q2⟩ := hp p rfl
    exact ⟨e1, q1, a, b, c, by rw [q2]; exact e3⟩
  | jo p l =>
    obtain ⟨e1, e2, vs, e3, e4⟩ := h
    obtain ⟨q1, q2⟩ := hp p rfl
    exact ⟨e1, q1, vs, by rw [q2]; exact e3, e4.mono ii⟩
  | od p ks vs =>
    obtain ⟨e1, e2, ws, e3, e5, e4⟩ := h
    obtain ⟨q1, q2⟩ := hp p rfl
    exact ⟨e1, q1, ws, by rw [q2]; exact e3, e5, e4.mono ii⟩
  | oi p c fs fz =>
    obtain ⟨e1, e2, dx, ws, e3, e5, e4⟩ := h
    obtain ⟨q1, q2⟩ := hp p rfl
    exact ⟨e1, q1, dx, ws, by rw [q2]; exact e3, e5, e4.mono ii⟩
theorem Es.ref {e : En} {v : V} {a : Addr} (h : e.adr = some a) (r : Es W I H e v) : v = .ref a := by
  cases e with
  | d x => cases h
  | _ => cases h; exact r.1
theorem OK.own_at (k : OK W I H δ σ) {a : Addr} (h : ownA δ a) : I a = none ∧ ∃ o, H a = some o := by
  obtain ⟨i, e, h, ea⟩ := h
  obtain ⟨v, hv, he⟩ := k.sl i e h
  cases e with
  | d x => cases ea
  | own p l =>
    cases ea
    obtain ⟨_, e2, vs, e3, _⟩ := he
    exact ⟨e2, _, e3⟩
  | jg p =>
    cases ea
    obtain ⟨_, e2, x, y, z, e3⟩ := he
    exact ⟨e2, _, e3⟩
  | jo p l =>
    cases ea
    obtain ⟨_, e2, vs, e3, _⟩ := he
    exact ⟨e2, _, e3⟩
  | od p ks vs =>
    cases ea
    obtain ⟨_, e2, ws, e3, _⟩ := he
    exact ⟨e2, _, e3⟩
  | oi p c fs fz =>
    cases ea
    obtain ⟨_, e2, dx, ws, e3, _⟩ := he
    exact ⟨e2, _, e3⟩
/-- the heap and the fixed part grow by new things -/
theorem OK.grow (k : OK W I H δ σ) (ii : Ex I I') (ih : Ex I' H') (hh : Ex H H') (nw : ∀ a o, I' a = some o → I a = some o ∨ H a = none) : OK W I' H' δ σ := by
  refine ⟨ih, k.ln, fun i e h => ?_, k.ap⟩
  obtain ⟨v, hv, he⟩ := k.sl i e h
  refine ⟨v, hv, he.mono ii fun p hp => ?_⟩
  obtain ⟨q1, o, q2⟩ := k.own_at ⟨i, e, h, hp⟩
  refine ⟨?_, by rw [q2]; exact hh _ _ q2⟩
  cases z : I' p with
  | none => rfl
  | some u =>
    rcases nw p u z with y | y
    · rw [q1] at y; cases y
    · rw [q2] at y; cases y
theorem nw_new {p : Addr} {o : HO} (hp : H p = none) : ∀ a u, upd I p o a = some u → I a = some u ∨ H a = none := fun a u h => by
  by_cases e : a = p
  · subst e; exact .inr hp
  · rw [upd_ne e] at h; exact .inl h
theorem ih_new {p : Addr} {o : HO} (ih : Ex I H) : Ex (upd I p o) (upd H p o) := fun a u h => by
  by_cases e : a = p
  · subst e
    rw [upd_same] at h ⊢
    exact h
  · rw [upd_ne e] at h ⊢
    exact ih a u h
theorem free_of (ih : Ex I H) {p : Addr} (hp : H p = none) : I p = none := by
  cases e : I p with
  | none => rfl
  | some o => rw [ih p o e] at hp; cases hp
/-- a new fixed thing -/
theorem OK.new {p : Addr} {o : HO} (k : OK W I H δ σ) (hp : H p = none) : OK W (upd I p o) (upd H p o) δ σ :=
  k.grow (Ex.new (free_of k.ih hp)) (ih_new k.ih) (Ex.new hp) (nw_new hp)
theorem Sx.new {p : Addr} {o : HO} (ih : Ex I H) (hp : H p = none) : Sx δ I H δ (upd I p o) (upd H p o) :=
  Sx.grow (Ex.new (free_of ih hp)) (Ex.new hp) (nw_new hp)
theorem get_set_some {δ : Fr} {i j : Nat} {e f : En} (h : (δ.set i (some e))[j]? = some (some f)) : (i = j ∧ f = e) ∨ (i ≠ j ∧ δ[j]? = some (some f)) := by
  rw [List.getElem?_set] at h
  by_cases c : i = j
  · rw [if_pos c] at h
    split at h
    · simp at h; exact .inl ⟨c, h.symm⟩
    · cases h
  · rw [if_neg c] at h
    exact .inr ⟨c, h⟩
theorem ownA_set_d {i : Nat} {x : D} {a : Addr} (h : ownA (δ.set i (some (.d x))) a) : ownA δ a := by
  obtain ⟨j, e, h, ea⟩ := h
  rcases get_set_some h with ⟨_, rfl⟩ | ⟨_, h⟩
  · cases ea
  · exact ⟨j, e, h, ea⟩
theorem ownT_set_d {i : Nat} {x : D} {a : Addr} (h : ownT (δ.set i (some (.d x))) a) : ownT δ a := by
  obtain ⟨j, e, h, ea⟩ := h
  rcases get_set_some h with ⟨_, rfl⟩ | ⟨_, h⟩
  · cases ea
  · exact ⟨j, e, h, ea⟩
theorem OK.setD {i : Nat} {x : D} {v : V} (k : OK W I H δ σ) (r : Rp W I x v) : OK W I H (δ.set i (some (.d x))) (σ.set i (some v)) := by
  refine ⟨k.ih, by simp [k.ln], fun j e h => ?_, fun a b e f p q ne h1 h2 h3 h4 => ?_⟩
  · rcases get_set_some h with ⟨c, rfl⟩ | ⟨c, h⟩
    · have hl : i < δ.length := by
        have := (List.getElem?_eq_some_iff.mp h).1
        rw [List.length_set] at this
        omega
      subst c
      exact ⟨v, by rw [List.getElem?_set_self (by rw [← k.ln]; exact hl)], r⟩
    · obtain ⟨u, hu, he⟩ := k.sl j e h
      exact ⟨u, by rw [List.getElem?_set_ne c]; exact hu, he⟩
  · rcases get_set_some h1 with ⟨_, rfl⟩ | ⟨_, h1⟩
    · cases h3
    · rcases get_set_some h2 with ⟨_, rfl⟩ | ⟨_, h2⟩
      · cases h4
      · exact k.ap a b e f p q ne h1 h2 h3 h4
theorem Sx.setD {i : Nat} {x : D} : Sx δ I H (δ.set i (some (.d x))) I H :=
  ⟨Ex.refl _, fun _ _ h _ => h, fun _ o h => ⟨o, h⟩, fun _ _ h => .inl h, fun _ h => .inl (ownA_set_d h), fun _ h => .inl (ownT_set_d h)⟩
/-- a slot is forgotten -/
theorem get_set_none {δ : Fr} {i j : Nat} {f : En} (h : (δ.set i none)[j]? = some (some f)) : i ≠ j ∧ δ[j]? = some (some f) := by
  rw [List.getElem?_set] at h
  by_cases c : i = j
  · rw [if_pos c] at h
    split at h <;> cases h
  · rw [if_neg c] at h
    exact ⟨c, h⟩
end
end Dt

namespace Dt
open PySem L2

/-! ### judgements by data -/
def WE (W : Wd) (te : TE) (δ : Fr) (Φ : D → Fr → Prop) : Prop := ∀ (I H : Hp) (σ : L2.St), OK W I H δ σ → ∀ Q : VK, (∀ x δ' v I' H', Φ x δ' → OK W I' H' δ' σ → Sx δ I H δ' I' H' → Rp W I' x v → Q v H') → te σ H Q
def WT (W : Wd) (tt : TT) (δ : Fr) (Φ : Bool → Fr → Prop) : Prop := ∀ (I H : Hp) (σ : L2.St), OK W I H δ σ → ∀ Q : Bool → Hp → Prop, (∀ b δ' I' H', Φ b δ' → OK W I' H' δ' σ → Sx δ I H δ' I' H' → Q b H') → tt σ H Q
def WA (W : Wd) (ta : TA) (δ : Fr) (Φ : List D → Fr → Prop) : Prop := ∀ (I H : Hp) (σ : L2.St), OK W I H δ σ → ∀ Q : List V → Hp → Prop, (∀ xs δ' vs I' H', Φ xs δ' → OK W I' H' δ' σ → Sx δ I H δ' I' H' → Rps W I' xs vs → Q vs H') → ta σ H Q
def WO (W : Wd) (to : TO) (δ : Fr) (Φ : Option Int → Fr → Prop) : Prop := ∀ (I H : Hp) (σ : L2.St), OK W I H δ σ → ∀ Q : Option Int → Hp → Prop, (∀ o δ' I' H', Φ o δ' → OK W I' H' δ' σ → Sx δ I H δ' I' H' → Q o H') → to σ H Q
def WR (W : Wd) (r : R2) (x y : D) (δ : Fr) (Φ : D → Fr → Prop) : Prop := ∀ (I H : Hp) (σ : L2.St) (va vb : V), OK W I H δ σ → Rp W I x va → Rp W I y vb → ∀ Q : VK, (∀ z δ' v I' H', Φ z δ' → OK W I' H' δ' σ → Sx δ I H δ' I' H' → Rp W I' z v → Q v H') → r va vb H Q
def WU (W : Wd) (r : V → Hp → VK → Prop) (x : D) (δ : Fr) (Φ : D → Fr → Prop) : Prop := ∀ (I H : Hp) (σ : L2.St) (va : V), OK W I H δ σ → Rp W I x va → ∀ Q : VK, (∀ z δ' v I' H', Φ z δ' → OK W I' H' δ' σ → Sx δ I H δ' I' H' → Rp W I' z v → Q v H') → r va H Q
def WC (W : Wd) (r : List V → Hp → VK → Prop) (xs : List D) (δ : Fr) (Φ : D → Fr → Prop) : Prop := ∀ (I H : Hp) (σ : L2.St) (vs : List V), OK W I H δ σ → Rps W I xs vs → ∀ Q : VK, (∀ z δ' v I' H', Φ z δ' → OK W I' H' δ' σ → Sx δ I H δ' I' H' → Rp W I' z v → Q v H') → r vs H Q

section
variable {W : Wd} {δ : Fr} {Φ Ψ : D → Fr → Prop} {ta tb tc te : TE} {x y z : D}
theorem WE.imp (h : WE W te δ Φ) (i : ∀ x δ', Φ x δ' → Ψ x δ') : WE W te δ Ψ := fun I H σ k Q q => h I H σ k Q fun x δ' v I' H' p => q x δ' v I' H' (i x δ' p)
theorem we_var {i : Nat} {x : D} (e : δ[i]? = some (some (.d x))) (p : Φ x δ) : WE W (tVar i) δ Φ := fun I H σ k Q q => by
  obtain ⟨v, hv, r⟩ := k.sl i _ e
  exact ⟨v, hv, q x δ v I H p k (Sx.refl _ _ _) r⟩
theorem we_c {v : V} (r : ∀ I, Rp W I x v) (p : Φ x δ) : WE W (tC v) δ Φ := fun I H σ k Q q => q x δ v I H p k (Sx.refl _ _ _) (r I)
theorem we_int {i : Int} (p : Φ (.int i) δ) : WE W (tC (.int i)) δ Φ := we_c (fun _ => .int i) p
theorem we_bl {i : Bool} (p : Φ (.bl i) δ) : WE W (tC (.bl i)) δ Φ := we_c (fun _ => .bl i) p
theorem we_str {i : Str} (p : Φ (.str i) δ) : WE W (tC (.str i)) δ Φ := we_c (fun _ => .str i) p
theorem we_non (p : Φ .non δ) : WE W (tC .non) δ Φ := we_c (fun _ => .non) p
theorem we_op {r : R2} (h : WE W ta δ fun x δ1 => WE W tb δ1 fun y δ2 => WR W r x y δ2 Φ) : WE W (tOp r ta tb) δ Φ := fun I H σ k Q q => by
  refine h I H σ k _ fun x δ1 v I1 H1 h1 k1 s1 r1 => ?_
  refine h1 I1 H1 σ k1 _ fun y δ2 w I2 H2 h2 k2 s2 r2 => ?_
  exact h2 I2 H2 σ v w k2 (r1.mono s2.ii) r2 Q fun z δ3 u I3 H3 p k3 s3 r3 => q z δ3 u I3 H3 p k3 ((s1.trans s2).trans s3) r3
theorem we_un {r : V → Hp → VK → Prop} (h : WE W ta δ fun x δ1 => WU W r x δ1 Φ) : WE W (tUn r ta) δ Φ := fun I H σ k Q q => by
  refine h I H σ k _ fun x δ1 v I1 H1 h1 k1 s1 r1 => ?_
  exact h1 I1 H1 σ v k1 r1 Q fun z δ3 u I3 H3 p k3 s3 r3 => q z δ3 u I3 H3 p k3 (s1.trans s3) r3
theorem we_cb {r : List V → Hp → VK → Prop} {ta : TA} (h : WA W ta δ fun xs δ1 => WC W r xs δ1 Φ) : WE W (tCB r ta) δ Φ := fun I H σ k Q q => by
  refine h I H σ k _ fun x δ1 v I1 H1 h1 k1 s1 r1 => ?_
  exact h1 I1 H1 σ v k1 r1 Q fun z δ3 u I3 H3 p k3 s3 r3 => q z δ3 u I3 H3 p k3 (s1.trans s3) r3
theorem wa_nil {Φ : List D → Fr → Prop} (p : Φ [] δ) : WA W tNil δ Φ := fun I H σ k Q q => q [] δ [] I H p k (Sx.refl _ _ _) .nil
theorem wa_cons {Φ : List D → Fr → Prop} {tr : TA} (h : WE W te δ fun x δ1 => WA W tr δ1 fun xs δ2 => Φ (x :: xs) δ2) : WA W (tCons te tr) δ Φ := fun I H σ k Q q => by
  refine h I H σ k _ fun x δ1 v I1 H1 h1 k1 s1 r1 => ?_
  exact h1 I1 H1 σ k1 _ fun xs δ2 vs I2 H2 p k2 s2 r2 => q _ δ2 _ I2 H2 p k2 (s1.trans s2) (.cons (r1.mono s2.ii) r2)
theorem sz_of {n : Nat} (h : n ≤ 100000) : n ≤ sizeLine := Nat.le_trans h (by decide)
theorem sz_lt {n : Nat} (h : n < 100000) : n < sizeLine := Nat.lt_of_lt_of_le h (by decide)
theorem new_tup {I H : Hp} {σ : L2.St} {xs : List D} {vs : List V} {Q : VK} {δ' : Fr} (k : OK W I H δ' σ) (r : Rps W I xs vs) (q : ∀ p, H p = none → OK W (upd I p (.tup vs)) (upd H p (.tup vs)) δ' σ → Sx δ' I H δ' (upd I p (.tup vs)) (upd H p (.tup vs)) → Rp W (upd I p (.tup vs)) (.tup xs) (.ref p) → Q (.ref p) (upd H p (.tup vs))) :
    ∀ p, H p = none → Q (.ref p) (upd H p (.tup vs)) := fun p hp => q p hp (k.new hp) (Sx.new k.ih hp) (.tup (.inl (.inl upd_same)) (r.mono (Ex.new (free_of k.ih hp))))
theorem new_lst {I H : Hp} {σ : L2.St} {xs : List D} {vs : List V} {Q : VK} {δ' : Fr} (k : OK W I H δ' σ) (r : Rps W I xs vs) (q : ∀ p, H p = none → OK W (upd I p (.lst vs)) (upd H p (.lst vs)) δ' σ → Sx δ' I H δ' (upd I p (.lst vs)) (upd H p (.lst vs)) → Rp W (upd I p (.lst vs)) (.lst xs) (.ref p) → Q (.ref p) (upd H p (.lst vs))) :
    ∀ p, H p = none → Q (.ref p) (upd H p (.lst vs)) := fun p hp => q p hp (k.new hp) (Sx.new k.ih hp) (.lst upd_same (r.mono (Ex.new (free_of k.ih hp))))
theorem we_tup {ta : TA} (h : WA W ta δ fun xs δ1 => xs.length ≤ 100000 ∧ Φ (.tup xs) δ1) : WE W (tTup ta) δ Φ := fun I H σ k Q q =>
  h I H σ k _ fun xs δ1 vs I1 H1 ⟨hl, p⟩ k1 s1 r1 => ⟨sz_of (by rw [← r1.length]; exact hl), new_tup k1 r1 fun a ha k2 s2 r2 => q _ δ1 _ _ _ p k2 (s1.trans s2) r2⟩
theorem we_lst {ta : TA} (h : WA W ta δ fun xs δ1 => xs.length ≤ 100000 ∧ Φ (.lst xs) δ1) : WE W (tLst ta) δ Φ := fun I H σ k Q q =>
  h I H σ k _ fun xs δ1 vs I1 H1 ⟨hl, p⟩ k1 s1 r1 => ⟨sz_of (by rw [← r1.length]; exact hl), new_lst k1 r1 fun a ha k2 s2 r2 => q _ δ1 _ _ _ p k2 (s1.trans s2) r2⟩

/-! ### tests -/
theorem wt_B {Φ : Bool → Fr → Prop} (h : WE W te δ fun x δ1 => ∃ b, x = .bl b ∧ Φ b δ1) : WT W (tB te) δ Φ := fun I H σ k Q q => by
  refine h I H σ k _ fun x δ1 v I1 H1 h1 k1 s1 r1 => ?_
  obtain ⟨b, rfl, p⟩ := h1
  cases r1
  exact ⟨b, rfl, q b δ1 I1 H1 p k1 s1⟩
theorem wt_test {Φ : Bool → Fr → Prop} (h : WE W te δ fun x δ1 => ∃ b, x = .bl b ∧ Φ b δ1) : WT W (tTest te) δ Φ := fun I H σ k Q q => by
  refine h I H σ k _ fun x δ1 v I1 H1 h1 k1 s1 r1 => ?_
  obtain ⟨b, rfl, p⟩ := h1
  cases r1
  exact ⟨b, rfl, q b δ1 I1 H1 p k1 s1⟩
theorem wt_and {Φ : Bool → Fr → Prop} {t u : TT} (h : WT W t δ fun b δ1 => if b = true then WT W u δ1 Φ else Φ false δ1) : WT W (tAnd t u) δ Φ := fun I H σ k Q q => by
  refine h I H σ k _ fun b δ1 I1 H1 h1 k1 s1 => ?_
  cases b with
  | true => exact h1 I1 H1 σ k1 Q fun c δ2 I2 H2 p k2 s2 => q c δ2 I2 H2 p k2 (s1.trans s2)
  | false => exact q false δ1 I1 H1 h1 k1 s1
theorem wt_or {Φ : Bool → Fr → Prop} {t u : TT} (h : WT W t δ fun b δ1 => if b = true then Φ true δ1 else WT W u δ1 Φ) : WT W (tOr t u) δ Φ := fun I H σ k Q q => by
  refine h I H σ k _ fun b δ1 I1 H1 h1 k1 s1 => ?_
  cases b with
  | false => exact h1 I1 H1 σ k1 Q fun c δ2 I2 H2 p k2 s2 => q c δ2 I2 H2 p k2 (s1.trans s2)
  | true => exact q true δ1 I1 H1 h1 k1 s1
theorem wt_not {Φ : Bool → Fr → Prop} {t : TT} (h : WT W t δ fun b δ1 => Φ (!b) δ1) : WT W (tNot t) δ Φ := fun I H σ k Q q =>
  h I H σ k _ fun b δ1 I1 H1 h1 k1 s1 => q (!b) δ1 I1 H1 h1 k1 s1
theorem wt_yes {Φ : Bool → Fr → Prop} (p : Φ true δ) : WT W tYes δ Φ := fun I H σ k Q q => q true δ I H p k (Sx.refl _ _ _)
theorem we_andV (h : WE W ta δ fun x δ1 => ∃ b, x = .bl b ∧ if b = true then WE W tb δ1 Φ else Φ (.bl false) δ1) : WE W (tAndV ta tb) δ Φ := fun I H σ k Q q => by
  refine h I H σ k _ fun x δ1 v I1 H1 h1 k1 s1 r1 => ?_
  obtain ⟨b, rfl, p⟩ := h1
  cases r1
  refine ⟨b, rfl, ?_⟩
  cases b with
  | true => exact p I1 H1 σ k1 Q fun z δ2 u I2 H2 p2 k2 s2 r2 => q z δ2 u I2 H2 p2 k2 (s1.trans s2) r2
  | false => exact q _ δ1 _ I1 H1 p k1 s1 (.bl false)
theorem we_orV (h : WE W ta δ fun x δ1 => ∃ b, x = .bl b ∧ if b = true then Φ (.bl true) δ1 else WE W tb δ1 Φ) : WE W (tOrV ta tb) δ Φ := fun I H σ k Q q => by
  refine h I H σ k _ fun x δ1 v I1 H1 h1 k1 s1 r1 => ?_
  obtain ⟨b, rfl, p⟩ := h1
  cases r1
  refine ⟨b, rfl, ?_⟩
  cases b with
  | false => exact p I1 H1 σ k1 Q fun z δ2 u I2 H2 p2 k2 s2 r2 => q z δ2 u I2 H2 p2 k2 (s1.trans s2) r2
  | true => exact q _ δ1 _ I1 H1 p k1 s1 (.bl true)
theorem we_notV (h : WE W ta δ fun x δ1 => ∃ b, x = .bl b ∧ Φ (.bl (!b)) δ1) : WE W (tNotV ta) δ Φ := fun I H σ k Q q => by
  refine h I H σ k _ fun x δ1 v I1 H1 h1 k1 s1 r1 => ?_
  obtain ⟨b, rfl, p⟩ := h1
  cases r1
  exact ⟨b, rfl, q _ δ1 _ I1 H1 p k1 s1 (.bl _)⟩
theorem we_if {t : TT} (h : WT W t δ fun b δ1 => if b = true then WE W ta δ1 Φ else WE W tb δ1 Φ) : WE W (tIf t ta tb) δ Φ := fun I H σ k Q q => by
  refine h I H σ k _ fun b δ1 I1 H1 h1 k1 s1 => ?_
  cases b with
  | true => exact h1 I1 H1 σ k1 Q fun z δ2 u I2 H2 p2 k2 s2 r2 => q z δ2 u I2 H2 p2 k2 (s1.trans s2) r2
  | false => exact h1 I1 H1 σ k1 Q fun z δ2 u I2 H2 p2 k2 s2 r2 => q z δ2 u I2 H2 p2 k2 (s1.trans s2) r2
def D.isN : D → Bool
  | .non => true
  | _ => false
theorem isN_of {I : Hp} {x : D} {v : V} (r : Rp W I x v) : decide (v = .non) = x.isN := by
  cases r <;> rfl
theorem we_isN (h : WE W ta δ fun x δ1 => Φ (.bl x.isN) δ1) : WE W (tIsN ta) δ Φ := fun I H σ k Q q =>
  h I H σ k _ fun x δ1 v I1 H1 h1 k1 s1 r1 => by
    rw [isN_of r1]
    exact q _ δ1 _ I1 H1 h1 k1 s1 (.bl _)
theorem we_notN (h : WE W ta δ fun x δ1 => Φ (.bl (!x.isN)) δ1) : WE W (tNotN ta) δ Φ := fun I H σ k Q q =>
  h I H σ k _ fun x δ1 v I1 H1 h1 k1 s1 r1 => by
    rw [isN_of r1]
    exact q _ δ1 _ I1 H1 h1 k1 s1 (.bl _)

/-! ### operators on data -/
theorem wr_I0i {f : Int → Int → Int} {i j : Int} (p : Φ (.int (f i j)) δ) : WR W (rI0 fun i j => .int (f i j)) (.int i) (.int j) δ Φ := fun I H σ va vb k ra rb Q q => by
  cases ra; cases rb
  exact ⟨i, j, rfl, rfl, q _ δ _ I H p k (Sx.refl _ _ _) (.int _)⟩
theorem wr_I0b {f : Int → Int → Bool} {i j : Int} (p : Φ (.bl (f i j)) δ) : WR W (rI0 fun i j => .bl (f i j)) (.int i) (.int j) δ Φ := fun I H σ va vb k ra rb Q q => by
  cases ra; cases rb
  exact ⟨i, j, rfl, rfl, q _ δ _ I H p k (Sx.refl _ _ _) (.bl _)⟩
theorem wr_Ii {C : Int → Int → Prop} {f : Int → Int → Int} {i j : Int} (c : C i j) (p : Φ (.int (f i j)) δ) : WR W (rI C fun i j => .int (f i j)) (.int i) (.int j) δ Φ := fun I H σ va vb k ra rb Q q => by
  cases ra; cases rb
  exact ⟨i, j, rfl, rfl, c, q _ δ _ I H p k (Sx.refl _ _ _) (.int _)⟩
theorem wu_i {f : Int → Int} {i : Int} (p : Φ (.int (f i)) δ) : WU W (rU fun i => .int (f i)) (.int i) δ Φ := fun I H σ va k ra Q q => by
  cases ra
  exact ⟨i, rfl, q _ δ _ I H p k (Sx.refl _ _ _) (.int _)⟩
/-- == and != of scalars -/
def dEq : D → D → Bool
  | .non, .non => true
  | .bl a, .bl b => decide (a = b)
  | .int a, .int b => decide (a = b)
  | .str a, .str b => decide (a = b)
  | _, _ => false
def dSc : D → D → Bool
  | .non, .non => true | .non, .int _ => true | .int _, .non => true | .non, .bl _ => true | .bl _, .non => true | .non, .str _ => true | .str _, .non => true
  | .int _, .int _ => true | .bl _, .bl _ => true | .str _, .str _ => true
  | .int _, .str _ => true | .str _, .int _ => true | .bl _, .str _ => true | .str _, .bl _ => true
  | _, _ => false
theorem eq_sc {I : Hp} {x y : D} {v w : V} (h : dSc x y = true) (r : Rp W I x v) (s : Rp W I y w) : scal v w = true ∧ decide (v = w) = dEq x y := by
  cases r <;> cases s <;> first
    | exact ⟨rfl, rfl⟩
    | (refine ⟨rfl, ?_⟩; simp [dEq])
    | (exact absurd h (by simp [dSc]))
theorem wr_eq (h : dSc x y = true) (p : Φ (.bl (dEq x y)) δ) : WR W rEq x y δ Φ := fun I H σ va vb k ra rb Q q => by
  obtain ⟨e1, e2⟩ := eq_sc h ra rb
  refine ⟨e1, ?_⟩
  rw [e2]
  exact q _ δ _ I H p k (Sx.refl _ _ _) (.bl _)
theorem wr_ne (h : dSc x y = true) (p : Φ (.bl (!dEq x y)) δ) : WR W rNe x y δ Φ := fun I H σ va vb k ra rb Q q => by
  obtain ⟨e1, e2⟩ := eq_sc h ra rb
  refine ⟨e1, ?_⟩
  rw [e2]
  exact q _ δ _ I H p k (Sx.refl _ _ _) (.bl _)
theorem rp_lst {I : Hp} {l : List D} {v : V} (r : Rp W I (.lst l) v) : ∃ p vs, v = .ref p ∧ I p = some (.lst vs) ∧ Rps W I l vs := by
  cases r with
  | lst h r => exact ⟨_, _, rfl, h, r⟩
theorem rp_tup {I : Hp} {l : List D} {v : V} (r : Rp W I (.tup l) v) : ∃ p vs, v = .ref p ∧ SqT W.K I p vs ∧ Rps W I l vs := by
  cases r with
  | tup h r => exact ⟨_, _, rfl, h, r⟩
theorem sq_l {I H : Hp} {p : Addr} {vs : List V} (ih : Ex I H) (h : I p = some (.lst vs)) : SqL W.K H p vs := .inl (.inl (ih _ _ h))
theorem sq_t {I H : Hp} {p : Addr} {vs : List V} (ih : Ex I H) (h : SqT W.K I p vs) : SqT W.K H p vs := sqT_ex ih h
/-- xs[i] -/
theorem wr_ixL {l : List D} {i : Int} {z : D} (h : atI l i = some z) (p : Φ z δ) : WR W (rIxL W.K) (.lst l) (.int i) δ Φ := fun I H σ va vb k ra rb Q q => by
  obtain ⟨a, vs, rfl, ha, r⟩ := rp_lst ra
  cases rb
  unfold atI at h
  rw [r.length] at h
  cases e : ixN vs.length i with
  | none => rw [e] at h; cases h
  | some j =>
    rw [e] at h
    obtain ⟨v, hv, rv⟩ := r.get (i := j) (x := z) h
    exact ⟨a, vs, i, v, rfl, rfl, sq_l k.ih ha, by unfold atI; rw [e]; exact hv, q _ δ _ I H p k (Sx.refl _ _ _) rv⟩
theorem wr_ixT {l : List D} {i : Int} {z : D} (h : atI l i = some z) (p : Φ z δ) : WR W (rIxT W.K) (.tup l) (.int i) δ Φ := fun I H σ va vb k ra rb Q q => by
  obtain ⟨a, vs, rfl, ha, r⟩ := rp_tup ra
  cases rb
  unfold atI at h
  rw [r.length] at h
  cases e : ixN vs.length i with
  | none => rw [e] at h; cases h
  | some j =>
    rw [e] at h
    obtain ⟨v, hv, rv⟩ := r.get (i := j) (x := z) h
    exact ⟨a, vs, i, v, rfl, rfl, sq_t k.ih ha, by unfold atI; rw [e]; exact hv, q _ δ _ I H p k (Sx.refl _ _ _) rv⟩
/-- a list or a tuple -/
theorem wr_ixSL {l : List D} {i : Int} {z : D} (h : atI l i = some z) (p : Φ z δ) : WR W (rIx W.K) (.lst l) (.int i) δ Φ := fun I H σ va vb k ra rb Q q => .inl (wr_ixL h p I H σ va vb k ra rb Q q)
theorem wr_ixST {l : List D} {i : Int} {z : D} (h : atI l i = some z) (p : Φ z δ) : WR W (rIx W.K) (.tup l) (.int i) δ Φ := fun I H σ va vb k ra rb Q q => .inr (.inl (wr_ixT h p I H σ va vb k ra rb Q q))
theorem atI_map {α β : Type} (f : α → β) (l : List α) (i : Int) : atI (l.map f) i = (atI l i).map f := by
  unfold atI
  rw [List.length_map]
  cases ixN l.length i with
  | none => rfl
  | some j => simp
theorem wr_ixScr {ns : List Int} {i : Int} {z : Int} (h : atI ns i = some z) (p : Φ (.int z) δ) : WR W (rIxL W.K) (.scr ns) (.int i) δ Φ := fun I H σ va vb k ra rb Q q => by
  cases ra with
  | scr hs =>
    cases rb
    exact ⟨_, _, i, .int z, rfl, rfl, sqL_ex k.ih hs, by rw [atI_map, h]; rfl, q _ δ _ I H p k (Sx.refl _ _ _) (.int z)⟩
theorem wr_ixSScr {ns : List Int} {i : Int} {z : Int} (h : atI ns i = some z) (p : Φ (.int z) δ) : WR W (rIx W.K) (.scr ns) (.int i) δ Φ := fun I H σ va vb k ra rb Q q => .inl (wr_ixScr h p I H σ va vb k ra rb Q q)
/-- tuples, lists put together -/
theorem wr_catT {l m : List D} (hn : l ≠ []) (hz : l.length + m.length ≤ 100000) (p : Φ (.tup (l ++ m)) δ) : WR W (rCatT W.K) (.tup l) (.tup m) δ Φ := fun I H σ va vb k ra rb Q q => by
  obtain ⟨a, vs, rfl, ha, r⟩ := rp_tup ra
  obtain ⟨b, ws, rfl, hb, s⟩ := rp_tup rb
  have e1 := r.length
  have e2 := s.length
  refine ⟨a, b, vs, ws, rfl, rfl, sq_t k.ih ha, sq_t k.ih hb, fun z => hn (by rw [z] at e1; exact List.length_eq_zero_iff.mp e1), sz_of (by omega), ?_⟩
  refine ⟨fun z => ?_, fun _ => new_tup k (r.append s) fun c hc k2 s2 r2 => q _ δ _ _ _ p k2 s2 r2⟩
  have em : m = [] := by rw [z] at e2; exact List.length_eq_zero_iff.mp e2
  rw [em, List.append_nil] at p
  exact q _ δ _ I H p k (Sx.refl _ _ _) ra
theorem wr_cat {l m : List D} (hz : l.length + m.length ≤ 100000) (p : Φ (.lst (l ++ m)) δ) : WR W rCat (.lst l) (.lst m) δ Φ := fun I H σ va vb k ra rb Q q => by
  obtain ⟨a, vs, rfl, ha, r⟩ := rp_lst ra
  obtain ⟨b, ws, rfl, hb, s⟩ := rp_lst rb
  have e1 := r.length
  have e2 := s.length
  exact ⟨a, b, vs, ws, rfl, rfl, k.ih _ _ ha, k.ih _ _ hb, sz_of (by omega), new_lst k (r.append s) fun c hc k2 s2 r2 => q _ δ _ _ _ p k2 s2 r2⟩
end
end Dt

namespace Dt
open PySem L2

/-! ### new lists -/
/-- the expression makes a new list that nothing else holds -/
def WL (W : Wd) (te : TE) (δ : Fr) (Φ : List D → Fr → Prop) : Prop := ∀ (I H : Hp) (σ : L2.St), OK W I H δ σ → ∀ Q : VK,
  (∀ xs δ' p vs I' H', Φ xs δ' → OK W I' H' δ' σ → Sx δ I H δ' I' H' → I' p = none → H' p = some (.lst vs) → Rps W I' xs vs → ¬ ownA δ' p → H p = none → Q (.ref p) H') → te σ H Q
section
variable {W : Wd} {δ : Fr} {I H : Hp} {σ : L2.St}
theorem Sx.fixd {δ' : Fr} {I' H' : Hp} {p : Addr} {o : HO} (s : Sx δ I H δ' I' H') (h0 : H p = none) (h1 : I' p = none) : Sx δ I H δ' (upd I' p o) H' :=
  ⟨s.ii.trans (Ex.new h1), s.kp, s.lv, fun a u e => by
    by_cases c : a = p
    · subst c; exact .inr (.inl h0)
    · rw [upd_ne c] at e; exact s.nw a u e, s.oa, s.ot⟩
theorem OK.fixd {p : Addr} {o : HO} (k : OK W I H δ σ) (hI : I p = none) (hH : H p = some o) (hn : ¬ ownA δ p) : OK W (upd I p o) H δ σ := by
  refine ⟨fun a u e => ?_, k.ln, fun i e h => ?_, k.ap⟩
  · by_cases c : a = p
    · subst c; rw [upd_same] at e; rw [hH]; exact e
    · rw [upd_ne c] at e; exact k.ih a u e
  · obtain ⟨v, hv, he⟩ := k.sl i e h
    refine ⟨v, hv, he.mono (Ex.new hI) fun q hq => ⟨?_, rfl⟩⟩
    have c : q ≠ p := fun c => hn (c ▸ ⟨i, e, h, hq⟩)
    rw [upd_ne c]
    exact (k.own_at ⟨i, e, h, hq⟩).1
theorem we_l {te : TE} {Φ : D → Fr → Prop} (h : WL W te δ fun xs δ1 => Φ (.lst xs) δ1) : WE W te δ Φ := fun I H σ k Q q =>
  h I H σ k Q fun xs δ' p vs I' H' f k1 s1 hI hH r hn h0 => q _ δ' _ _ _ f (k1.fixd hI hH hn) (s1.fixd h0 hI) (.lst upd_same (r.mono (Ex.new hI)))
theorem not_own_of (k : OK W I H δ σ) {p : Addr} (hp : H p = none) : ¬ ownA δ p := fun h => by
  obtain ⟨_, o, e⟩ := k.own_at h
  rw [hp] at e; cases e
/-- a new thing that is not fixed -/
theorem OK.loose {p : Addr} {o : HO} (k : OK W I H δ σ) (hp : H p = none) : OK W I (upd H p o) δ σ :=
  k.grow (Ex.refl _) (k.ih.trans (Ex.new hp)) (Ex.new hp) fun _ _ h => .inl h
theorem Sx.loose {p : Addr} {o : HO} (hp : H p = none) : Sx δ I H δ I (upd H p o) := Sx.grow (Ex.refl _) (Ex.new hp) fun _ _ h => .inl h
theorem wl_new {Φ : List D → Fr → Prop} {xs : List D} {vs : List V} {δ' : Fr} {I' H' : Hp} {Q : VK} (f : Φ xs δ') (k1 : OK W I' H' δ' σ) (s1 : Sx δ I H δ' I' H') (r : Rps W I' xs vs)
    (q : ∀ xs δ' p vs I' H', Φ xs δ' → OK W I' H' δ' σ → Sx δ I H δ' I' H' → I' p = none → H' p = some (.lst vs) → Rps W I' xs vs → ¬ ownA δ' p → H p = none → Q (.ref p) H') :
    ∀ p, H' p = none → Q (.ref p) (upd H' p (.lst vs)) := fun p hp =>
  q xs δ' p vs I' _ f (k1.loose hp) (s1.trans (Sx.loose hp)) (free_of k1.ih hp) upd_same r (not_own_of k1 hp) (none_back s1.lv hp)
theorem wl_lst {ta : TA} {Φ : List D → Fr → Prop} (h : WA W ta δ fun xs δ1 => xs.length ≤ 100000 ∧ Φ xs δ1) : WL W (tLst ta) δ Φ := fun I H σ k Q q =>
  h I H σ k _ fun xs δ1 vs I1 H1 ⟨hl, p⟩ k1 s1 r1 => ⟨sz_of (by rw [← r1.length]; exact hl), wl_new p k1 s1 r1 q⟩
end

/-! ### statements -/
inductive Out where
  | nx (δ : Fr) | rt (x : D) (δ : Fr) | bk (δ : Fr) | ct (δ : Fr)
/-- what a statement's end must serve -/
structure Fin (W : Wd) (Dn : Ends) (δ : Fr) (I H : Hp) (Φ : Out → Prop) : Prop where
  nx : ∀ δ' σ' I' H', Φ (.nx δ') → OK W I' H' δ' σ' → Sx δ I H δ' I' H' → Dn.nx σ' H'
  rt : ∀ x δ' σ' v I' H', Φ (.rt x δ') → OK W I' H' δ' σ' → Sx δ I H δ' I' H' → Rp W I' x v → Dn.rt v H'
  bk : ∀ δ' σ' I' H', Φ (.bk δ') → OK W I' H' δ' σ' → Sx δ I H δ' I' H' → Dn.bk σ' H'
  ct : ∀ δ' σ' I' H', Φ (.ct δ') → OK W I' H' δ' σ' → Sx δ I H δ' I' H' → Dn.ct σ' H'
def WS (W : Wd) (ts : TS) (δ : Fr) (Φ : Out → Prop) : Prop := ∀ (I H : Hp) (σ : L2.St) (Dn : Ends), OK W I H δ σ → Fin W Dn δ I H Φ → ts Dn σ H
def seqO (W : Wd) (u : TS) (Φ : Out → Prop) : Out → Prop
  | .nx δ => WS W u δ Φ
  | o => Φ o
section
variable {W : Wd} {δ : Fr} {Φ Ψ : Out → Prop} {te : TE} {t u : TS} {c : TT}
theorem Fin.step {Dn : Ends} {δ δ1 : Fr} {I H I1 H1 : Hp} (f : Fin W Dn δ I H Φ) (s : Sx δ I H δ1 I1 H1) : Fin W Dn δ1 I1 H1 Φ :=
  ⟨fun δ' σ' I' H' p k s' => f.nx δ' σ' I' H' p k (s.trans s'), fun x δ' σ' v I' H' p k s' r => f.rt x δ' σ' v I' H' p k (s.trans s') r,
    fun δ' σ' I' H' p k s' => f.bk δ' σ' I' H' p k (s.trans s'), fun δ' σ' I' H' p k s' => f.ct δ' σ' I' H' p k (s.trans s')⟩
theorem WS.imp (h : WS W t δ Φ) (i : ∀ o, Φ o → Ψ o) : WS W t δ Ψ := fun I H σ Dn k f => h I H σ Dn k
  ⟨fun δ' σ' I' H' p => f.nx δ' σ' I' H' (i _ p), fun x δ' σ' v I' H' p => f.rt x δ' σ' v I' H' (i _ p), fun δ' σ' I' H' p => f.bk δ' σ' I' H' (i _ p), fun δ' σ' I' H' p => f.ct δ' σ' I' H' (i _ p)⟩
theorem ws_next (p : Φ (.nx δ)) : WS W tNext δ Φ := fun I H σ Dn k f => f.nx δ σ I H p k (Sx.refl _ _ _)
theorem ws_seq (h : WS W t δ (seqO W u Φ)) : WS W (tSeq t u) δ Φ := fun I H σ Dn k f =>
  h I H σ { Dn with nx := u Dn } k ⟨fun δ' σ' I' H' p k' s => p I' H' σ' Dn k' (f.step s), fun x δ' σ' v I' H' p => f.rt x δ' σ' v I' H' p, fun δ' σ' I' H' p => f.bk δ' σ' I' H' p, fun δ' σ' I' H' p => f.ct δ' σ' I' H' p⟩
theorem ws_ret (h : WE W te δ fun x δ1 => Φ (.rt x δ1)) : WS W (tRet te) δ Φ := fun I H σ Dn k f =>
  h I H σ k _ fun x δ1 v I1 H1 p k1 s1 r1 => f.rt x δ1 σ v I1 H1 p k1 s1 r1
theorem ws_retN (p : Φ (.rt .non δ)) : WS W tRetN δ Φ := fun I H σ Dn k f => f.rt _ δ σ _ I H p k (Sx.refl _ _ _) .non
theorem ws_if (h : WT W c δ fun b δ1 => if b = true then WS W t δ1 Φ else WS W u δ1 Φ) : WS W (tIfS c t u) δ Φ := fun I H σ Dn k f =>
  h I H σ k _ fun b δ1 I1 H1 p k1 s1 => by
    cases b with
    | true => exact p I1 H1 σ Dn k1 (f.step s1)
    | false => exact p I1 H1 σ Dn k1 (f.step s1)
theorem ws_drop (h : WE W te δ fun _ δ1 => Φ (.nx δ1)) : WS W (tDrop te) δ Φ := fun I H σ Dn k f =>
  h I H σ k _ fun x δ1 v I1 H1 p k1 s1 r1 => f.nx δ1 σ I1 H1 p k1 s1
theorem ws_break (p : Φ (.bk δ)) : WS W tBreak δ Φ := fun I H σ Dn k f => f.bk δ σ I H p k (Sx.refl _ _ _)
theorem ws_cont (p : Φ (.ct δ)) : WS W tCont δ Φ := fun I H σ Dn k f => f.ct δ σ I H p k (Sx.refl _ _ _)
end

/-! ### targets -/
def Agr (js : List Nat) (σ σ' : L2.St) : Prop := σ'.length = σ.length ∧ ∀ k : Nat, k ∉ js → σ'[k]? = σ[k]?
def WG (W : Wd) (g : TG) (js : List Nat) (x : D) (δ : Fr) (Φ : Fr → Prop) : Prop := ∀ (I H : Hp) (σ : L2.St) (v : V), OK W I H δ σ → Rp W I x v → ∀ Q : L2.St → Hp → Prop,
  (∀ δ' σ', Φ δ' → OK W I H δ' σ' → Sx δ I H δ' I H → Agr js σ σ' → Q σ' H) → g v σ H Q
section
variable {W : Wd} {δ : Fr} {x y z : D} {Φ : Fr → Prop}
theorem agr_set {σ : L2.St} {i : Nat} {v : Option V} {js : List Nat} (h : i ∈ js) : Agr js σ (σ.set i v) :=
  ⟨List.length_set, fun k hk => List.getElem?_set_ne fun e => hk (by rw [← e]; exact h)⟩
theorem Agr.trans {js : List Nat} {σ σ1 σ2 : L2.St} (a : Agr js σ σ1) (b : Agr js σ1 σ2) : Agr js σ σ2 := ⟨b.1.trans a.1, fun k hk => (b.2 k hk).trans (a.2 k hk)⟩
theorem wg_name {i : Nat} (p : Φ (δ.set i (some (.d x)))) : WG W (gName i) [i] x δ Φ := fun I H σ v k r Q q =>
  q _ _ p (k.setD r) Sx.setD (agr_set (by simp))
theorem wg_2 {i j : Nat} {l : List D} (e : l = [x, y]) (p : Φ ((δ.set i (some (.d x))).set j (some (.d y)))) : WG W (gTup W.K 2 (gCons (gName i) (gCons (gName j) gNil))) [i, j] (.tup l) δ Φ := fun I H σ v k r Q q => by
  subst e
  obtain ⟨a, vs, rfl, ha, rs⟩ := rp_tup r
  cases rs with
  | cons r1 rs =>
    cases rs with
    | cons r2 rs =>
      cases rs
      exact ⟨a, _, rfl, sq_t k.ih ha, rfl, _, _, rfl, _, _, rfl, rfl, q _ _ p ((k.setD r1).setD r2) (Sx.setD.trans Sx.setD) ((agr_set (by simp)).trans (agr_set (by simp)))⟩
theorem wg_3 {i j m : Nat} {l : List D} (e : l = [x, y, z]) (p : Φ (((δ.set i (some (.d x))).set j (some (.d y))).set m (some (.d z)))) :
    WG W (gTup W.K 3 (gCons (gName i) (gCons (gName j) (gCons (gName m) gNil)))) [i, j, m] (.tup l) δ Φ := fun I H σ v k r Q q => by
  subst e
  obtain ⟨a, vs, rfl, ha, rs⟩ := rp_tup r
  cases rs with
  | cons r1 rs =>
    cases rs with
    | cons r2 rs =>
      cases rs with
      | cons r3 rs =>
        cases rs
        exact ⟨a, _, rfl, sq_t k.ih ha, rfl, _, _, rfl, _, _, rfl, _, _, rfl, rfl, q _ _ p (((k.setD r1).setD r2).setD r3) ((Sx.setD.trans Sx.setD).trans Sx.setD) (((agr_set (by simp)).trans (agr_set (by simp))).trans (agr_set (by simp)))⟩
theorem ws_asg {te : TE} {g : TG} {js : List Nat} {Φ : Out → Prop} (h : WE W te δ fun x δ1 => WG W g js x δ1 fun δ2 => Φ (.nx δ2)) : WS W (tAsg te g) δ Φ := fun I H σ Dn k f =>
  h I H σ k _ fun x δ1 v I1 H1 p k1 s1 r1 => p I1 H1 σ v k1 r1 _ fun δ2 σ2 p2 k2 s2 _ => f.nx δ2 σ2 I1 H1 p2 k2 (s1.trans s2)
theorem ws_set {te : TE} {i : Nat} {Φ : Out → Prop} (h : WE W te δ fun x δ1 => Φ (.nx (δ1.set i (some (.d x))))) : WS W (tAsg te (gName i)) δ Φ := ws_asg (js := [i]) (h.imp fun _ _ p => wg_name p)
theorem ws_par {i j : Nat} {ta : TA} {Φ : Out → Prop} (h : WA W ta δ fun xs δ1 => ∃ x y, xs = [x, y] ∧ Φ (.nx ((δ1.set i (some (.d x))).set j (some (.d y))))) : WS W (tPar i j ta) δ Φ := fun I H σ Dn k f =>
  h I H σ k _ fun xs δ1 vs I1 H1 ⟨x, y, e, p⟩ k1 s1 r1 => by
    subst e
    cases r1 with
    | cons r1 rs =>
      cases rs with
      | cons r2 rs =>
        cases rs
        exact ⟨_, _, rfl, f.nx _ _ I1 H1 p ((k1.setD r1).setD r2) (s1.trans (Sx.setD.trans Sx.setD))⟩
end

/-! ### lists of the def's own -/
section
variable {W : Wd} {δ : Fr} {I H : Hp} {σ : L2.St}
theorem ownA_set {i : Nat} {e : En} {a : Addr} (h : ownA (δ.set i (some e)) a) : ownA δ a ∨ e.adr = some a := by
  obtain ⟨j, f, h, ea⟩ := h
  rcases get_set_some h with ⟨_, rfl⟩ | ⟨_, h⟩
  · exact .inr ea
  · exact .inl ⟨j, f, h, ea⟩
theorem ownT_set {i : Nat} {e : En} {a : Addr} (h : ownT (δ.set i (some e)) a) : ownT δ a ∨ e.frz = some a := by
  obtain ⟨j, f, h, fa⟩ := h
  rcases get_set_some h with ⟨_, rfl⟩ | ⟨_, h⟩
  · exact .inr fa
  · exact .inl ⟨j, f, h, fa⟩
theorem OK.setO {i : Nat} {p : Addr} {vs : List V} {xs : List D} (k : OK W I H δ σ) (hI : I p = none) (hH : H p = some (.lst vs)) (r : Rps W I xs vs) (hn : ¬ ownA δ p) :
    OK W I H (δ.set i (some (.own p xs))) (σ.set i (some (.ref p))) := by
  refine ⟨k.ih, by simp [k.ln], fun j e h => ?_, fun a b e f x y ne h1 h2 h3 h4 => ?_⟩
  · rcases get_set_some h with ⟨c, rfl⟩ | ⟨c, h⟩
    · have hl : i < δ.length := by
        have := (List.getElem?_eq_some_iff.mp h).1
        rw [List.length_set] at this
        omega
      subst c
      exact ⟨.ref p, by rw [List.getElem?_set_self (by rw [← k.ln]; exact hl)], rfl, hI, vs, hH, r⟩
    · obtain ⟨u, hu, he⟩ := k.sl j e h
      exact ⟨u, by rw [List.getElem?_set_ne c]; exact hu, he⟩
  · rcases get_set_some h1 with ⟨c1, rfl⟩ | ⟨_, h1⟩
    · rcases get_set_some h2 with ⟨c2, rfl⟩ | ⟨_, h2⟩
      · exact absurd (c1.symm.trans c2) ne
      · cases h3
        exact fun z => hn ⟨b, f, h2, by rw [z]; exact h4⟩
    · rcases get_set_some h2 with ⟨_, rfl⟩ | ⟨_, h2⟩
      · cases h4
        exact fun z => hn ⟨a, e, h1, by rw [← z]; exact h3⟩
      · exact k.ap a b e f x y ne h1 h2 h3 h4
theorem ws_setO {te : TE} {i : Nat} {Φ : Out → Prop} (h : WL W te δ fun xs δ1 => ∀ p, Φ (.nx (δ1.set i (some (.own p xs))))) : WS W (tAsg te (gName i)) δ Φ := fun I H σ Dn k f =>
  h I H σ k _ fun xs δ1 p vs I1 H1 q k1 s1 hI hH r hn h0 => f.nx _ _ I1 H1 (q p) (k1.setO hI hH r hn) ⟨s1.ii, s1.kp, s1.lv, s1.nw, fun a ha => by
    rcases ownA_set ha with c | c
    · exact s1.oa a c
    · cases c; exact .inr h0, fun a ha => by
    rcases ownT_set ha with c | c
    · exact s1.ot a c
    · cases c; exact .inr h0⟩
/-- an own list changes -/
theorem OK.mutO {i : Nat} {p : Addr} {ws : List V} {xs ys : List D} (k : OK W I H δ σ) (e : δ[i]? = some (some (.own p xs))) (r : Rps W I ys ws) : OK W I (upd H p (.lst ws)) (δ.set i (some (.own p ys))) σ := by
  obtain ⟨v, hv, e1, e2, vs, e3, e4⟩ := k.sl i _ e
  refine ⟨fun a o h => ?_, by simp [k.ln], fun j f h => ?_, fun a b f g x y ne h1 h2 h3 h4 => ?_⟩
  · have c : a ≠ p := fun c => by rw [c, e2] at h; cases h
    rw [upd_ne c]
    exact k.ih a o h
  · rcases get_set_some h with ⟨c, rfl⟩ | ⟨c, h⟩
    · subst c
      exact ⟨v, hv, e1, e2, ws, upd_same, r⟩
    · obtain ⟨u, hu, he⟩ := k.sl j f h
      refine ⟨u, hu, he.mono (Ex.refl _) fun q hq => ⟨(k.own_at ⟨j, f, h, hq⟩).1, upd_ne ?_⟩⟩
      exact k.ap j i f (.own p xs) q p (Ne.symm c) h e hq rfl
  · rcases get_set_some h1 with ⟨c1, rfl⟩ | ⟨c1, h1⟩
    · rcases get_set_some h2 with ⟨c2, rfl⟩ | ⟨_, h2⟩
      · exact absurd (c1.symm.trans c2) ne
      · cases h3
        exact k.ap i b (.own p xs) g p y (c1 ▸ ne) e h2 rfl h4
    · rcases get_set_some h2 with ⟨c2, rfl⟩ | ⟨_, h2⟩
      · cases h4
        exact k.ap a i f (.own p xs) x p (c2 ▸ ne) h1 e h3 rfl
      · exact k.ap a b f g x y ne h1 h2 h3 h4
theorem Sx.mutO {i : Nat} {p : Addr} {o : HO} {xs ys : List D} (e : δ[i]? = some (some (.own p xs))) : Sx δ I H (δ.set i (some (.own p ys))) I (upd H p o) where
  ii := Ex.refl _
  kp := fun a u h n => by
    have c : a ≠ p := fun c => n ⟨i, _, e, by rw [c]; rfl⟩
    rw [upd_ne c]
    exact h
  lv := fun a u h => by
    by_cases c : a = p
    · exact ⟨o, by rw [c]; exact upd_same⟩
    · exact ⟨u, by rw [upd_ne c]; exact h⟩
  nw := fun _ _ h => .inl h
  oa := fun a h => by
    rcases ownA_set h with c | c
    · exact .inl c
    · cases c; exact .inl ⟨i, _, e, rfl⟩
  ot := fun a h => by
    rcases ownT_set h with c | c
    · exact .inl c
    · cases c; exact .inl ⟨i, _, e, rfl⟩
/-- the opened draws change -/
theorem OK.mutJ {i : Nat} {p : Addr} {ws : List V} {xs ys : List D} (k : OK W I H δ σ) (e : δ[i]? = some (some (.jo p xs))) (r : Rps W I ys ws) : OK W I (upd H p (.lst ws)) (δ.set i (some (.jo p ys))) σ := by
  obtain ⟨v, hv, e1, e2, vs, e3, e4⟩ := k.sl i _ e
  refine ⟨fun a o h => ?_, by simp [k.ln], fun j f h => ?_, fun a b f g x y ne h1 h2 h3 h4 => ?_⟩
  · have c : a ≠ p := fun c => by rw [c, e2] at h; cases h
    rw [upd_ne c]
    exact k.ih a o h
  · rcases get_set_some h with ⟨c, rfl⟩ | ⟨c, h⟩
    · subst c
      exact ⟨v, hv, e1, e2, ws, upd_same, r⟩
    · obtain ⟨u, hu, he⟩ := k.sl j f h
      refine ⟨u, hu, he.mono (Ex.refl _) fun q hq => ⟨(k.own_at ⟨j, f, h, hq⟩).1, upd_ne ?_⟩⟩
      exact k.ap j i f (.jo p xs) q p (Ne.symm c) h e hq rfl
  · rcases get_set_some h1 with ⟨c1, rfl⟩ | ⟨c1, h1⟩
    · rcases get_set_some h2 with ⟨c2, rfl⟩ | ⟨_, h2⟩
      · exact absurd (c1.symm.trans c2) ne
      · cases h3
        exact k.ap i b (.jo p xs) g p y (c1 ▸ ne) e h2 rfl h4
    · rcases get_set_some h2 with ⟨c2, rfl⟩ | ⟨_, h2⟩
      · cases h4
        exact k.ap a i f (.jo p xs) x p (c2 ▸ ne) h1 e h3 rfl
      · exact k.ap a b f g x y ne h1 h2 h3 h4
theorem Sx.mutJ {i : Nat} {p : Addr} {o : HO} {xs ys : List D} (e : δ[i]? = some (some (.jo p xs))) : Sx δ I H (δ.set i (some (.jo p ys))) I (upd H p o) where
  ii := Ex.refl _
  kp := fun a u h n => by
    have c : a ≠ p := fun c => n ⟨i, _, e, by rw [c]; rfl⟩
    rw [upd_ne c]
    exact h
  lv := fun a u h => by
    by_cases c : a = p
    · exact ⟨o, by rw [c]; exact upd_same⟩
    · exact ⟨u, by rw [upd_ne c]; exact h⟩
  nw := fun _ _ h => .inl h
  oa := fun a h => by
    rcases ownA_set h with c | c
    · exact .inl c
    · cases c; exact .inl ⟨i, _, e, rfl⟩
  ot := fun a h => by
    rcases ownT_set h with c | c
    · exact .inl c
    · cases c
/-- an own list is left as it is from here on -/
theorem OK.frzG {i : Nat} {p : Addr} {x : D} {e0 : En} {o0 : HO} (k : OK W I H δ σ) (e : δ[i]? = some (some e0)) (fz : e0.frz = some p) (e2 : I p = none) (e3 : H p = some o0) (hx : ∀ v, Es W I H e0 v → Rp W (upd I p o0) x v) :
    OK W (upd I p o0) H (δ.set i (some (.d x))) σ ∧ Sx δ I H (δ.set i (some (.d x))) (upd I p o0) H := by
  obtain ⟨v, hv, he0⟩ := k.sl i _ e
  refine ⟨⟨fun a o h => ?_, by simp [k.ln], fun j f h => ?_, fun a b f g x y ne h1 h2 h3 h4 => ?_⟩, ⟨Ex.new e2, fun _ _ h _ => h, fun _ o h => ⟨o, h⟩, fun a o h => ?_, fun a h => .inl (ownA_set_d h), fun a h => .inl (ownT_set_d h)⟩⟩
  · by_cases c : a = p
    · subst c; rw [upd_same] at h; rw [e3]; exact h
    · rw [upd_ne c] at h; exact k.ih a o h
  · rcases get_set_some h with ⟨c, rfl⟩ | ⟨c, h⟩
    · subst c
      exact ⟨v, hv, hx v he0⟩
    · obtain ⟨u, hu, he⟩ := k.sl j f h
      refine ⟨u, hu, he.mono (Ex.new e2) fun q hq => ⟨?_, rfl⟩⟩
      rw [upd_ne (k.ap j i f e0 q p (Ne.symm c) h e hq (En.frz_adr fz))]
      exact (k.own_at ⟨j, f, h, hq⟩).1
  · rcases get_set_some h1 with ⟨_, rfl⟩ | ⟨_, h1⟩
    · cases h3
    · rcases get_set_some h2 with ⟨_, rfl⟩ | ⟨_, h2⟩
      · cases h4
      · exact k.ap a b f g x y ne h1 h2 h3 h4
  · by_cases c : a = p
    · subst c; exact .inr (.inr ⟨i, _, e, fz⟩)
    · rw [upd_ne c] at h; exact .inl h
theorem OK.frz {i : Nat} {p : Addr} {xs : List D} (k : OK W I H δ σ) (e : δ[i]? = some (some (.own p xs))) : ∃ vs, H p = some (.lst vs) ∧ OK W (upd I p (.lst vs)) H (δ.set i (some (.d (.lst xs)))) σ ∧ Sx δ I H (δ.set i (some (.d (.lst xs)))) (upd I p (.lst vs)) H := by
  obtain ⟨v, hv, e1, e2, vs, e3, e4⟩ := k.sl i _ e
  exact ⟨vs, e3, k.frzG e rfl e2 e3 fun u ⟨f1, f2, ws, f3, f4⟩ => by
    have : vs = ws := by rw [e3] at f3; cases f3; rfl
    subst this
    rw [f1]
    exact .lst upd_same (f4.mono (Ex.new e2))⟩
theorem ws_fz {t : TS} {i : Nat} {p : Addr} {xs : List D} {Φ : Out → Prop} (e : δ[i]? = some (some (.own p xs))) (h : WS W t (δ.set i (some (.d (.lst xs)))) Φ) : WS W t δ Φ := fun I H σ Dn k f => by
  obtain ⟨vs, hp, k1, s1⟩ := k.frz e
  exact h _ _ _ _ k1 (f.step s1)
theorem we_fz {t : TE} {i : Nat} {p : Addr} {xs : List D} {Φ : D → Fr → Prop} (e : δ[i]? = some (some (.own p xs))) (h : WE W t (δ.set i (some (.d (.lst xs)))) Φ) : WE W t δ Φ := fun I H σ k Q q => by
  obtain ⟨vs, hp, k1, s1⟩ := k.frz e
  exact h _ _ _ k1 Q fun x δ' v I' H' p k2 s2 r => q x δ' v I' H' p k2 (s1.trans s2) r
/-- xs.append(e) -/
theorem ws_app {te : TE} {i : Nat} {p0 : Addr} {l0 : List D} {Φ : Out → Prop} (e0 : δ[i]? = some (some (.own p0 l0)))
    (h : WE W te δ fun y δ1 => ∃ l, δ1[i]? = some (some (.own p0 l)) ∧ l.length < 100000 ∧ Φ (.nx (δ1.set i (some (.own p0 (l ++ [y])))))) : WS W (tDrop (tBM W.K "list" rAppend (tVar i) (tCons te tNil))) δ Φ := fun I H σ Dn k f => by
  obtain ⟨v, hv, e1, e2, vs, e3, e4⟩ := k.sl i _ e0
  subst e1
  refine ⟨_, hv, .inl ⟨rfl, vs, .inl (.inl e3)⟩, h I H σ k _ fun y δ1 u I1 H1 ⟨l, e, hl, p⟩ k1 s1 r1 => ?_⟩
  obtain ⟨v2, hv2, f1, f2, ws, f3, f4⟩ := k1.sl i _ e
  exact ⟨p0, ws, u, rfl, rfl, f3, sz_lt (by rw [← f4.length]; exact hl), f.nx _ _ _ _ p (k1.mutO e (f4.append (.cons r1 .nil))) (s1.trans (Sx.mutO e))⟩
/-- xs[k] = e -/
theorem ws_setL {te ti : TE} {i : Nat} {p0 : Addr} {l0 : List D} {Φ : Out → Prop}
    (h : WE W te δ fun y δ1 => ∃ l1, δ1[i]? = some (some (.own p0 l1)) ∧ WE W ti δ1 fun z δ2 => ∃ l k j, δ2[i]? = some (some (.own p0 l)) ∧ z = .int k ∧ ixN l.length k = some j ∧ Φ (.nx (δ2.set i (some (.own p0 (l.set j y)))))) :
    WS W (tAsg te (gSub (tVar i) ti rSetL)) δ Φ := fun I H σ Dn k f => by
  refine h I H σ k _ fun y δ1 u I1 H1 ⟨l1, e0, h1⟩ k1 s1 r1 => ?_
  obtain ⟨v, hv, e1, e2, vs, e3, e4⟩ := k1.sl i _ e0
  subst e1
  refine ⟨_, hv, h1 I1 H1 σ k1 _ fun z δ2 w I2 H2 ⟨l, kk, j, e, ez, hj, p⟩ k2 s2 r2 => ?_⟩
  subst ez
  cases r2
  obtain ⟨v2, hv2, f1, f2, ws, f3, f4⟩ := k2.sl i _ e
  exact ⟨p0, ws, kk, j, rfl, rfl, f3, by rw [← f4.length]; exact hj, f.nx _ _ _ _ p (k2.mutO e (f4.set (r1.mono s2.ii) j)) ((s1.trans s2).trans (Sx.mutO e))⟩
/-- the draws' list: one of its numbers is stored -/
theorem ws_setLJ {te ti : TE} {i : Nat} {p0 : Addr} {l0 : List D} {Φ : Out → Prop}
    (h : WE W te δ fun y δ1 => ∃ l1, δ1[i]? = some (some (.jo p0 l1)) ∧ WE W ti δ1 fun z δ2 => ∃ l k j, δ2[i]? = some (some (.jo p0 l)) ∧ z = .int k ∧ ixN l.length k = some j ∧ Φ (.nx (δ2.set i (some (.jo p0 (l.set j y)))))) :
    WS W (tAsg te (gSub (tVar i) ti rSetL)) δ Φ := fun I H σ Dn k f => by
  refine h I H σ k _ fun y δ1 u I1 H1 ⟨l1, e0, h1⟩ k1 s1 r1 => ?_
  obtain ⟨v, hv, e1, e2, vs, e3, e4⟩ := k1.sl i _ e0
  subst e1
  refine ⟨_, hv, h1 I1 H1 σ k1 _ fun z δ2 w I2 H2 ⟨l, kk, j, e, ez, hj, p⟩ k2 s2 r2 => ?_⟩
  subst ez
  cases r2
  obtain ⟨v2, hv2, f1, f2, ws, f3, f4⟩ := k2.sl i _ e
  exact ⟨p0, ws, kk, j, rfl, rfl, f3, by rw [← f4.length]; exact hj, f.nx _ _ _ _ p (k2.mutJ e (f4.set (r1.mono s2.ii) j)) ((s1.trans s2).trans (Sx.mutJ e))⟩
/-- xs.pop(k) -/
theorem we_popAt {te : TE} {i : Nat} {p0 : Addr} {l0 : List D} {Φ : D → Fr → Prop} (e0 : δ[i]? = some (some (.own p0 l0)))
    (h : WE W te δ fun z δ1 => ∃ l k j y, δ1[i]? = some (some (.own p0 l)) ∧ z = .int k ∧ 0 ≤ k ∧ k < 100000 ∧ k.toNat = j ∧ l[j]? = some y ∧ Φ y (δ1.set i (some (.own p0 (l.eraseIdx j))))) :
    WE W (tBM W.K "list" rPopAt (tVar i) (tCons te tNil)) δ Φ := fun I H σ k Q q => by
  obtain ⟨v, hv, e1, e2, vs, e3, e4⟩ := k.sl i _ e0
  subst e1
  refine ⟨_, hv, .inl ⟨rfl, vs, .inl (.inl e3)⟩, h I H σ k _ fun z δ1 u I1 H1 ⟨l, kk, j, y, e, ez, h0, h1, hj, hy, p⟩ k1 s1 r1 => ?_⟩
  subst ez
  cases r1
  obtain ⟨v2, hv2, f1, f2, ws, f3, f4⟩ := k1.sl i _ e
  obtain ⟨w, hw, rw'⟩ := f4.get hy
  have hlt : j < ws.length := (List.getElem?_eq_some_iff.mp hw).1
  refine ⟨p0, ws, kk, j, w, rfl, rfl, f3, by omega, by omega, ?_, hw, q y _ _ _ _ p (k1.mutO e (f4.eraseIdx j)) (s1.trans (Sx.mutO e)) rw'⟩
  show (if (decide (0 ≤ (if kk < 0 then kk + (ws.length : Int) else kk)) && decide ((if kk < 0 then kk + (ws.length : Int) else kk) < (ws.length : Int))) = true then some (if kk < 0 then kk + (ws.length : Int) else kk).toNat else none) = some j
  rw [if_neg (show ¬ kk < 0 by omega), if_pos (by simp; omega), hj]
/-- xs.pop() -/
theorem we_pop {i : Nat} {p0 : Addr} {l : List D} {y : D} {Φ : D → Fr → Prop} (e0 : δ[i]? = some (some (.own p0 l))) (hy : l[l.length - 1]? = some y) (p : Φ y (δ.set i (some (.own p0 l.dropLast)))) :
    WE W (tBM0 W.K "list" rPop (tVar i)) δ Φ := fun I H σ k Q q => by
  obtain ⟨v, hv, e1, e2, vs, e3, e4⟩ := k.sl i _ e0
  subst e1
  obtain ⟨w, hw, rw'⟩ := e4.get hy
  exact ⟨_, hv, .inl ⟨rfl, vs, .inl (.inl e3)⟩, p0, vs, w, rfl, rfl, e3, by rw [← e4.length]; exact hw, q y _ _ _ _ p (k.mutO e0 e4.dropLast) (Sx.mutO e0) rw'⟩
/-- an item of an own list, of the opened draws -/
theorem we_ixO {tb : TE} {i : Nat} {p0 : Addr} {l0 : List D} {Φ : D → Fr → Prop} (e0 : δ[i]? = some (some (.own p0 l0)))
    (h : WE W tb δ fun y δ1 => ∃ l k z, δ1[i]? = some (some (.own p0 l)) ∧ y = .int k ∧ atI l k = some z ∧ Φ z δ1) : WE W (tOp (L2.rIx W.K) (tVar i) tb) δ Φ := fun I H σ k Q q => by
  obtain ⟨v, hv, e1, e2, vs, e3, e4⟩ := k.sl i _ e0
  subst e1
  refine ⟨_, hv, h I H σ k _ fun y δ1 u I1 H1 ⟨l, kk, z, e, ey, hz, p⟩ k1 s1 r1 => ?_⟩
  subst ey
  cases r1
  obtain ⟨v2, hv2, f1, f2, ws, f3, f4⟩ := k1.sl i _ e
  unfold atI at hz
  rw [f4.length] at hz
  cases ei : ixN ws.length kk with
  | none => rw [ei] at hz; cases hz
  | some j =>
    rw [ei] at hz
    obtain ⟨w, hw, rw'⟩ := f4.get (i := j) (x := z) hz
    exact .inl ⟨p0, ws, kk, w, rfl, rfl, .inl (.inl f3), by unfold atI; rw [ei]; exact hw, q z δ1 w I1 H1 p k1 s1 rw'⟩
theorem we_ixJ {tb : TE} {i : Nat} {p0 : Addr} {l0 : List D} {Φ : D → Fr → Prop} (e0 : δ[i]? = some (some (.jo p0 l0)))
    (h : WE W tb δ fun y δ1 => ∃ l k z, δ1[i]? = some (some (.jo p0 l)) ∧ y = .int k ∧ atI l k = some z ∧ Φ z δ1) : WE W (tOp (L2.rIx W.K) (tVar i) tb) δ Φ := fun I H σ k Q q => by
  obtain ⟨v, hv, e1, e2, vs, e3, e4⟩ := k.sl i _ e0
  subst e1
  refine ⟨_, hv, h I H σ k _ fun y δ1 u I1 H1 ⟨l, kk, z, e, ey, hz, p⟩ k1 s1 r1 => ?_⟩
  subst ey
  cases r1
  obtain ⟨v2, hv2, f1, f2, ws, f3, f4⟩ := k1.sl i _ e
  unfold atI at hz
  rw [f4.length] at hz
  cases ei : ixN ws.length kk with
  | none => rw [ei] at hz; cases hz
  | some j =>
    rw [ei] at hz
    obtain ⟨w, hw, rw'⟩ := f4.get (i := j) (x := z) hz
    exact .inl ⟨p0, ws, kk, w, rfl, rfl, .inl (.inl f3), by unfold atI; rw [ei]; exact hw, q z δ1 w I1 H1 p k1 s1 rw'⟩
/-- the draws are opened for a def's body, and closed at its end -/
def closeO (i : Nat) (p : Addr) (Φ : Out → Prop) : Out → Prop
  | .nx δ => ∃ a b c : Int, δ[i]? = some (some (.jo p [.int a, .int b, .int c])) ∧ Φ (.nx (δ.set i (some (.jg p))))
  | .rt x δ => ∃ a b c : Int, δ[i]? = some (some (.jo p [.int a, .int b, .int c])) ∧ Φ (.rt x (δ.set i (some (.jg p))))
  | .bk δ => ∃ a b c : Int, δ[i]? = some (some (.jo p [.int a, .int b, .int c])) ∧ Φ (.bk (δ.set i (some (.jg p))))
  | .ct δ => ∃ a b c : Int, δ[i]? = some (some (.jo p [.int a, .int b, .int c])) ∧ Φ (.ct (δ.set i (some (.jg p))))
theorem OK.swap {i : Nat} {e f : En} {p : Addr} (k : OK W I H δ σ) (h : δ[i]? = some (some e)) (he : e.adr = some p) (hf : f.adr = some p) (hs : ∀ v, Es W I H e v → Es W I H f v) : OK W I H (δ.set i (some f)) σ := by
  refine ⟨k.ih, by simp [k.ln], fun j g hj => ?_, fun a b g g' x y ne h1 h2 h3 h4 => ?_⟩
  · rcases get_set_some hj with ⟨c, rfl⟩ | ⟨c, hj⟩
    · subst c
      obtain ⟨v, hv, q⟩ := k.sl i e h
      exact ⟨v, hv, hs v q⟩
    · exact k.sl j g hj
  · rcases get_set_some h1 with ⟨c1, rfl⟩ | ⟨c1, h1⟩
    · rcases get_set_some h2 with ⟨c2, rfl⟩ | ⟨_, h2⟩
      · exact absurd (c1.symm.trans c2) ne
      · rw [hf] at h3; cases h3
        exact k.ap i b e g' p y (c1 ▸ ne) h h2 he h4
    · rcases get_set_some h2 with ⟨c2, e2⟩ | ⟨_, h2⟩
      · rw [e2, hf] at h4; cases h4
        exact k.ap a i g e x p (c2 ▸ ne) h1 h h3 he
      · exact k.ap a b g g' x y ne h1 h2 h3 h4
theorem Sx.swap {i : Nat} {e f : En} {p : Addr} (h : δ[i]? = some (some e)) (he : e.adr = some p) (hf : f.adr = some p) (hn : f.frz = none) : Sx δ I H (δ.set i (some f)) I H :=
  ⟨Ex.refl _, fun _ _ h _ => h, fun _ o h => ⟨o, h⟩, fun _ _ h => .inl h, fun a ha => by
    rcases ownA_set ha with c | c
    · exact .inl c
    · rw [hf] at c; cases c; exact .inl ⟨i, e, h, he⟩, fun a ha => by
    rcases ownT_set ha with c | c
    · exact .inl c
    · rw [hn] at c; cases c⟩
theorem ws_jopen {t : TS} {i : Nat} {p : Addr} {Φ : Out → Prop} (e : δ[i]? = some (some (.jg p))) (h : ∀ a b c : Int, WS W t (δ.set i (some (.jo p [.int a, .int b, .int c]))) (closeO i p Φ)) : WS W t δ Φ := fun I H σ Dn k f => by
  obtain ⟨v, hv, e1, e2, a, b, c, e3⟩ := k.sl i _ e
  have k1 : OK W I H (δ.set i (some (.jo p [.int a, .int b, .int c]))) σ := by
    refine k.swap e rfl rfl fun v ⟨q1, q2, q3⟩ => ⟨q1, q2, _, e3, .cons (.int a) (.cons (.int b) (.cons (.int c) .nil))⟩
  have s1 : Sx δ I H (δ.set i (some (.jo p [.int a, .int b, .int c]))) I H := Sx.swap e rfl rfl rfl
  have cl : ∀ (δ' : Fr) (σ' : L2.St) (I' H' : Hp) (a b c : Int), OK W I' H' δ' σ' → δ'[i]? = some (some (.jo p [.int a, .int b, .int c])) → OK W I' H' (δ'.set i (some (.jg p))) σ' ∧ Sx δ' I' H' (δ'.set i (some (.jg p))) I' H' := fun δ' σ' I' H' a b c k' e' =>
    ⟨k'.swap e' rfl rfl fun v ⟨q1, q2, vs, q3, q4⟩ => ⟨q1, q2, a, b, c, by
      have := Rps.ints (ns := [a, b, c]) q4
      rw [q3, this]; rfl⟩, Sx.swap e' rfl rfl rfl⟩
  refine h a b c I H σ Dn k1 ⟨fun δ' σ' I' H' ⟨a, b, c, e', q⟩ k' s' => ?_, fun x δ' σ' v I' H' ⟨a, b, c, e', q⟩ k' s' r => ?_, fun δ' σ' I' H' ⟨a, b, c, e', q⟩ k' s' => ?_, fun δ' σ' I' H' ⟨a, b, c, e', q⟩ k' s' => ?_⟩
  · obtain ⟨g1, g2⟩ := cl _ _ _ _ _ _ _ k' e'
    exact f.nx _ _ _ _ q g1 ((s1.trans s').trans g2)
  · obtain ⟨g1, g2⟩ := cl _ _ _ _ _ _ _ k' e'
    exact f.rt _ _ _ _ _ _ q g1 ((s1.trans s').trans g2) r
  · obtain ⟨g1, g2⟩ := cl _ _ _ _ _ _ _ k' e'
    exact f.bk _ _ _ _ q g1 ((s1.trans s').trans g2)
  · obtain ⟨g1, g2⟩ := cl _ _ _ _ _ _ _ k' e'
    exact f.ct _ _ _ _ q g1 ((s1.trans s').trans g2)
end
end Dt

namespace Dt
open PySem L2

/-! ### what a loop goes through -/
structure ItD (W : Wd) (J : It) (I : Hp) (l : List D) : Prop where
  go : ∀ (i : Nat) x I1 H1, Ex I I1 → Ex I1 H1 → l[i]? = some x → J.go i H1
  stop : ∀ I1 H1, Ex I I1 → Ex I1 H1 → J.stop l.length H1
  yld : ∀ (i : Nat) x I1 H1 v H2, Ex I I1 → Ex I1 H1 → l[i]? = some x → J.yld i H1 v H2 → (H2 = H1 ∧ Rp W I1 x v) ∨ ∃ T vs xs, v = .ref T ∧ H1 T = none ∧ H2 = upd H1 T (.tup vs) ∧ x = .tup xs ∧ Rps W I1 xs vs
def WI (W : Wd) (wi : TI) (δ : Fr) (Φ : List D → Fr → Prop) : Prop := ∀ (I H : Hp) (σ : L2.St), OK W I H δ σ → ∀ R : It → Hp → Prop,
  (∀ l δ' J I' H', Φ l δ' → OK W I' H' δ' σ → Sx δ I H δ' I' H' → ItD W J I' l → R J H') → wi σ H R
section
variable {W : Wd} {δ : Fr} {te : TE} {ta : TA} {Φ : List D → Fr → Prop}
theorem itd_list {I : Hp} {a : Addr} {vs : List V} {l : List D} (h : ∀ I1 H1, Ex I I1 → Ex I1 H1 → SqL W.K H1 a vs) (r : Rps W I l vs) : ItD W (Itl W.K a) I l where
  go := fun i x I1 H1 e1 e2 hx => by
    obtain ⟨v, hv, _⟩ := r.get hx
    exact ⟨vs, v, h I1 H1 e1 e2, hv⟩
  stop := fun I1 H1 e1 e2 => ⟨vs, h I1 H1 e1 e2, Nat.le_of_eq r.length.symm⟩
  yld := fun i x I1 H1 v H2 e1 e2 hx y => by
    obtain ⟨u, hu, ru⟩ := r.get hx
    have q := y.2 vs (h I1 H1 e1 e2)
    rw [hu] at q
    cases q
    exact .inl ⟨y.1, ru.mono e1⟩
theorem itd_tup {I : Hp} {a : Addr} {vs : List V} {l : List D} (h : ∀ I1 H1, Ex I I1 → Ex I1 H1 → SqT W.K H1 a vs) (r : Rps W I l vs) : ItD W (Itt W.K a) I l where
  go := fun i x I1 H1 e1 e2 hx => by
    obtain ⟨v, hv, _⟩ := r.get hx
    exact ⟨vs, v, h I1 H1 e1 e2, hv⟩
  stop := fun I1 H1 e1 e2 => ⟨vs, h I1 H1 e1 e2, Nat.le_of_eq r.length.symm⟩
  yld := fun i x I1 H1 v H2 e1 e2 hx y => by
    obtain ⟨u, hu, ru⟩ := r.get hx
    have q := y.2 vs (h I1 H1 e1 e2)
    rw [hu] at q
    cases q
    exact .inl ⟨y.1, ru.mono e1⟩
theorem wi_list (h : WE W te δ fun x δ1 => ∃ l, x = .lst l ∧ Φ l δ1) : WI W (iList W.K te) δ Φ := fun I H σ k R q =>
  h I H σ k _ fun x δ1 v I1 H1 ⟨l, e, p⟩ k1 s1 r1 => by
    subst e
    obtain ⟨a, vs, rfl, ha, r⟩ := rp_lst r1
    exact ⟨a, rfl, ⟨vs, sq_l k1.ih ha⟩, q l δ1 _ I1 H1 p k1 s1 (itd_list (fun I2 H2 e1 e2 => sq_l (W := W) e2 (e1 _ _ ha)) r)⟩
theorem wi_tup (h : WE W te δ fun x δ1 => ∃ l, x = .tup l ∧ Φ l δ1) : WI W (iTup W.K te) δ Φ := fun I H σ k R q =>
  h I H σ k _ fun x δ1 v I1 H1 ⟨l, e, p⟩ k1 s1 r1 => by
    subst e
    obtain ⟨a, vs, rfl, ha, r⟩ := rp_tup r1
    exact ⟨a, rfl, ⟨vs, sq_t k1.ih ha⟩, q l δ1 _ I1 H1 p k1 s1 (itd_tup (fun I2 H2 e1 e2 => sq_t (W := W) e2 (sqT_ex e1 ha)) r)⟩
/-- lo, lo + 1, .. -/
def rng (lo : Int) (n : Nat) : List D := (List.range n).map fun (i : Nat) => D.int (lo + (i : Int))
theorem rng_len (lo : Int) (n : Nat) : (rng lo n).length = n := by simp [rng]
theorem rng_get {lo : Int} {n i : Nat} {x : D} (h : (rng lo n)[i]? = some x) : i < n ∧ x = .int (lo + (i : Int)) := by
  unfold rng at h
  rw [List.getElem?_map] at h
  by_cases c : i < n
  · rw [List.getElem?_range c] at h
    simp at h
    exact ⟨c, h.symm⟩
  · rw [List.getElem?_eq_none (by simp; omega)] at h
    simp at h
theorem itd_rng {I : Hp} {lo : Int} {n : Nat} : ItD W (Itr lo n) I (rng lo n) where
  go := fun i x I1 H1 e1 e2 hx => (rng_get hx).1
  stop := fun I1 H1 e1 e2 => by rw [rng_len]; exact Nat.le_refl _
  yld := fun i x I1 H1 v H2 e1 e2 hx y => by
    obtain ⟨_, rfl⟩ := rng_get hx
    obtain ⟨y1, y2⟩ := y
    subst y2
    exact .inl ⟨y1, .int _⟩
theorem wi_r1 (h : WA W ta δ fun xs δ1 => ∃ n : Int, xs = [.int n] ∧ -100000000 ≤ n ∧ n ≤ 100000000 ∧ Φ (rng 0 n.toNat) δ1) : WI W (iRng1 ta) δ Φ := fun I H σ k R q =>
  h I H σ k _ fun xs δ1 vs I1 H1 ⟨n, e, h1, h2, p⟩ k1 s1 r1 => by
    subst e
    cases r1 with
    | cons r1 rs =>
      cases rs
      cases r1
      exact ⟨n, rfl, by omega, by omega, q _ δ1 _ I1 H1 p k1 s1 itd_rng⟩
theorem wi_r2 (h : WA W ta δ fun xs δ1 => ∃ m n : Int, xs = [.int m, .int n] ∧ (-100000000 ≤ m ∧ m ≤ 100000000 ∧ -100000000 ≤ n ∧ n ≤ 100000000) ∧ Φ (rng m (n - m).toNat) δ1) : WI W (iRng2 ta) δ Φ := fun I H σ k R q =>
  h I H σ k _ fun xs δ1 vs I1 H1 ⟨m, n, e, h1, p⟩ k1 s1 r1 => by
    subst e
    cases r1 with
    | cons r1 rs =>
      cases rs with
      | cons r2 rs =>
        cases rs
        cases r1
        cases r2
        exact ⟨m, n, rfl, ⟨by omega, by omega, by omega, by omega⟩, q _ δ1 _ I1 H1 p k1 s1 itd_rng⟩
/-- pairs -/
def zipD (l m : List D) : List D := (l.zip m).map fun p => D.tup [p.1, p.2]
theorem zipD_get {l m : List D} {i : Nat} {x : D} (h : (zipD l m)[i]? = some x) : ∃ a b, l[i]? = some a ∧ m[i]? = some b ∧ x = .tup [a, b] := by
  unfold zipD at h
  rw [List.getElem?_map] at h
  cases e : (l.zip m)[i]? with
  | none => rw [e] at h; cases h
  | some p =>
    rw [e] at h
    obtain ⟨h1, h2⟩ := List.getElem?_zip_eq_some.mp e
    cases h
    exact ⟨_, _, h1, h2, rfl⟩
theorem zipD_len {l m : List D} : (zipD l m).length = min l.length m.length := by simp [zipD]
theorem itd_zip {I : Hp} {a b : Addr} {vs ws : List V} {l m : List D} (h : ∀ I1 H1, Ex I I1 → Ex I1 H1 → SqL W.K H1 a vs) (h' : ∀ I1 H1, Ex I I1 → Ex I1 H1 → SqL W.K H1 b ws) (r : Rps W I l vs) (s : Rps W I m ws) : ItD W (Itz W.K a b) I (zipD l m) := by
  have w := walk_zip (K := W.K) (a := a) (b := b) (xs := vs) (ys := ws) (n := min l.length m.length) (by rw [r.length, s.length])
  refine ⟨fun i x I1 H1 e1 e2 hx => ?_, fun I1 H1 e1 e2 => ?_, fun i x I1 H1 v H2 e1 e2 hx y => ?_⟩
  · obtain ⟨p, q, hp, hq, _⟩ := zipD_get hx
    have := (List.getElem?_eq_some_iff.mp hp).1
    have := (List.getElem?_eq_some_iff.mp hq).1
    exact w.goes i H1 (by omega) ⟨h I1 H1 e1 e2, h' I1 H1 e1 e2⟩
  · rw [zipD_len]
    exact w.stops H1 ⟨h I1 H1 e1 e2, h' I1 H1 e1 e2⟩
  · obtain ⟨p, q, hp, hq, rfl⟩ := zipD_get hx
    have := (List.getElem?_eq_some_iff.mp hp).1
    have := (List.getElem?_eq_some_iff.mp hq).1
    obtain ⟨T, v1, v2, ev, hT, hH, g1, g2⟩ := w.yields i H1 v H2 (by omega) ⟨h I1 H1 e1 e2, h' I1 H1 e1 e2⟩ y
    obtain ⟨u1, hu1, ru1⟩ := r.get hp
    obtain ⟨u2, hu2, ru2⟩ := s.get hq
    have z1 := hu1.symm.trans g1
    have z2 := hu2.symm.trans g2
    cases z1
    cases z2
    exact .inr ⟨T, _, _, ev, hT, hH, rfl, .cons (ru1.mono e1) (.cons (ru2.mono e1) .nil)⟩
theorem itd_zipT {I : Hp} {a b : Addr} {vs ws : List V} {l m : List D} (h : ∀ I1 H1, Ex I I1 → Ex I1 H1 → SqT W.K H1 a vs) (h' : ∀ I1 H1, Ex I I1 → Ex I1 H1 → SqT W.K H1 b ws) (r : Rps W I l vs) (s : Rps W I m ws) : ItD W (RZ.ItzT W.K a b) I (zipD l m) := by
  refine ⟨fun i x I1 H1 e1 e2 hx => ?_, fun I1 H1 e1 e2 => ?_, fun i x I1 H1 v H2 e1 e2 hx y => ?_⟩
  · obtain ⟨p, q, hp, hq, _⟩ := zipD_get hx
    obtain ⟨u1, hu1, ru1⟩ := r.get hp
    obtain ⟨u2, hu2, ru2⟩ := s.get hq
    exact ⟨vs, ws, u1, u2, h I1 H1 e1 e2, h' I1 H1 e1 e2, hu1, hu2⟩
  · refine ⟨vs, ws, h I1 H1 e1 e2, h' I1 H1 e1 e2, ?_⟩
    rw [zipD_len, ← r.length, ← s.length]
    omega
  · obtain ⟨p, q, hp, hq, rfl⟩ := zipD_get hx
    obtain ⟨T, v1, v2, ev, hT, hH, g1, g2⟩ := y
    obtain ⟨u1, hu1, ru1⟩ := r.get hp
    obtain ⟨u2, hu2, ru2⟩ := s.get hq
    have z1 := hu1.symm.trans (g1 vs (h I1 H1 e1 e2))
    have z2 := hu2.symm.trans (g2 ws (h' I1 H1 e1 e2))
    cases z1
    cases z2
    exact .inr ⟨T, _, _, ev, hT, hH, rfl, .cons (ru1.mono e1) (.cons (ru2.mono e1) .nil)⟩
/-- zip of two lists or of two tuples -/
theorem wi_zipL (h : WA W ta δ fun xs δ1 => ∃ l m, xs = [.lst l, .lst m] ∧ Φ (zipD l m) δ1) : WI W (RZ.iZipA W.K ta) δ Φ := fun I H σ k R q =>
  h I H σ k _ fun xs δ1 vs I1 H1 ⟨l, m, e, p⟩ k1 s1 r1 => by
    subst e
    cases r1 with
    | cons r1 rs =>
      cases rs with
      | cons r2 rs =>
        cases rs
        obtain ⟨a, vs, rfl, ha, r⟩ := rp_lst r1
        obtain ⟨b, ws, rfl, hb, s⟩ := rp_lst r2
        exact ⟨a, b, vs, ws, rfl, .inl ⟨sq_l k1.ih ha, sq_l k1.ih hb, q _ δ1 _ I1 H1 p k1 s1 (itd_zip (fun I2 H2 e1 e2 => sq_l (W := W) e2 (e1 _ _ ha)) (fun I2 H2 e1 e2 => sq_l (W := W) e2 (e1 _ _ hb)) r s)⟩⟩
theorem wi_zipT (h : WA W ta δ fun xs δ1 => ∃ l m, xs = [.tup l, .tup m] ∧ Φ (zipD l m) δ1) : WI W (RZ.iZipA W.K ta) δ Φ := fun I H σ k R q =>
  h I H σ k _ fun xs δ1 vs I1 H1 ⟨l, m, e, p⟩ k1 s1 r1 => by
    subst e
    cases r1 with
    | cons r1 rs =>
      cases rs with
      | cons r2 rs =>
        cases rs
        obtain ⟨a, vs, rfl, ha, r⟩ := rp_tup r1
        obtain ⟨b, ws, rfl, hb, s⟩ := rp_tup r2
        exact ⟨a, b, vs, ws, rfl, .inr ⟨sq_t k1.ih ha, sq_t k1.ih hb, q _ δ1 _ I1 H1 p k1 s1 (itd_zipT (fun I2 H2 e1 e2 => sq_t (W := W) e2 (sqT_ex e1 ha)) (fun I2 H2 e1 e2 => sq_t (W := W) e2 (sqT_ex e1 hb)) r s)⟩⟩
end

/-! ### for -/
def loopO (P : Fr → Prop) (Φ : Out → Prop) : Out → Prop
  | .nx δ => P δ
  | .ct δ => P δ
  | .bk δ => Φ (.nx δ)
  | .rt x δ => Φ (.rt x δ)
section
variable {W : Wd} {δ : Fr} {Φ : Out → Prop}
theorem item_step {W : Wd} {J : It} {I0 I H : Hp} {l : List D} {i : Nat} {x : D} {v : V} {H2 : Hp} {δ : Fr} {σ : L2.St} (d : ItD W J I0 l) (k : OK W I H δ σ) (e : Ex I0 I) (hx : l[i]? = some x) (y : J.yld i H v H2) :
    ∃ I2, OK W I2 H2 δ σ ∧ Sx δ I H δ I2 H2 ∧ Rp W I2 x v := by
  rcases d.yld i x I H v H2 e k.ih hx y with ⟨rfl, r⟩ | ⟨T, vs, xs, rfl, hT, rfl, rfl, r⟩
  · exact ⟨I, k, Sx.refl _ _ _, r⟩
  · exact ⟨_, k.new hT, Sx.new k.ih hT, .tup (.inl (.inl upd_same)) (r.mono (Ex.new (free_of k.ih hT)))⟩
theorem ws_for {wi : TI} {g : TG} {tb : TS} {js : List Nat} (h : WI W wi δ fun l δ1 => ∃ Pv : Nat → Fr → Prop, Pv 0 δ1 ∧ (∀ (i : Nat) x δ2, l[i]? = some x → Pv i δ2 → WG W g js x δ2 fun δ3 => WS W tb δ3 (loopO (Pv (i + 1)) Φ)) ∧ ∀ δ2, Pv l.length δ2 → Φ (.nx δ2)) :
    WS W (tFor wi g tb) δ Φ := fun I H σ Dn k f => by
  refine h I H σ k _ fun l δ1 J I1 H1 ⟨Pv, p0, ps, pd⟩ k1 s1 it => ?_
  refine ⟨fun i m σ' H' => m = l.length - i ∧ i ≤ l.length ∧ ∃ δ2 I2, Pv i δ2 ∧ OK W I2 H' δ2 σ' ∧ Sx δ1 I1 H1 δ2 I2 H', ⟨l.length, by omega, by omega, δ1, I1, p0, k1, Sx.refl _ _ _⟩, ?_⟩
  rintro i m σ' H' ⟨rfl, hi, δ2, I2, p, k2, s2⟩
  by_cases c : i < l.length
  · have hx : l[i]? = some l[i] := by simp [c]
    refine .inr ⟨it.go i _ I2 H' s2.ii k2.ih hx, fun σ'' H'' => ∃ δ3 I3, Pv (i + 1) δ3 ∧ OK W I3 H'' δ3 σ'' ∧ Sx δ1 I1 H1 δ3 I3 H'', fun σ'' H'' ⟨δ3, I3, q1, q2, q3⟩ => ⟨l.length - (i + 1), by omega, rfl, c, δ3, I3, q1, q2, q3⟩, fun v H'' y => ?_⟩
    obtain ⟨I3, k3, s3, r3⟩ := item_step it k2 s2.ii hx y
    refine ps i _ δ2 hx p I3 H'' σ' v k3 r3 _ fun δ4 σ4 q4 k4 s4 _ => ?_
    have sA : Sx δ1 I1 H1 δ4 I3 H'' := (s2.trans s3).trans s4
    exact q4 I3 H'' σ4 _ k4 ⟨fun δ' σ'' I' H3 q k5 s5 => ⟨δ', I', q, k5, sA.trans s5⟩, fun x δ' σ'' v' I' H3 q k5 s5 r5 => f.rt x δ' σ'' v' I' H3 q k5 (s1.trans (sA.trans s5)) r5,
      fun δ' σ'' I' H3 q k5 s5 => f.nx δ' σ'' I' H3 q k5 (s1.trans (sA.trans s5)), fun δ' σ'' I' H3 q k5 s5 => ⟨δ', I', q, k5, sA.trans s5⟩⟩
  · have e : i = l.length := by omega
    subst e
    exact .inl ⟨it.stop I2 H' s2.ii k2.ih, f.nx δ2 σ' I2 H' (pd δ2 p) k2 (s1.trans s2)⟩
/-- while -/
theorem ws_while {c : TT} {tb : TS} (Pv : Nat → Fr → Prop) (m0 : Nat) (p0 : Pv m0 δ) (hs : ∀ m δ1, Pv m δ1 → WT W c δ1 fun b δ2 => if b = true then WS W tb δ2 (loopO (fun δ3 => ∃ m', m' < m ∧ Pv m' δ3) Φ) else Φ (.nx δ2)) : WS W (tWhile c tb) δ Φ := fun I H σ Dn k f => by
  refine ⟨fun m σ' H' => ∃ δ2 I2, Pv m δ2 ∧ OK W I2 H' δ2 σ' ∧ Sx δ I H δ2 I2 H', ⟨m0, δ, I, p0, k, Sx.refl _ _ _⟩, ?_⟩
  rintro m σ' H' ⟨δ2, I2, p, k2, s2⟩
  refine hs m δ2 p I2 H' σ' k2 _ fun b δ3 I3 H3 q k3 s3 => ?_
  cases b with
  | false => exact f.nx δ3 σ' I3 H3 q k3 (s2.trans s3)
  | true =>
    refine ⟨fun σ'' H'' => ∃ m', m' < m ∧ ∃ δ4 I4, Pv m' δ4 ∧ OK W I4 H'' δ4 σ'' ∧ Sx δ I H δ4 I4 H'', fun σ'' H'' q => q, ?_⟩
    have sA := s2.trans s3
    exact q I3 H3 σ' _ k3 ⟨fun δ' σ'' I' H4 ⟨m', l, q⟩ k5 s5 => ⟨m', l, δ', I', q, k5, sA.trans s5⟩, fun x δ' σ'' v' I' H4 q k5 s5 r5 => f.rt x δ' σ'' v' I' H4 q k5 (sA.trans s5) r5,
      fun δ' σ'' I' H4 q k5 s5 => f.nx δ' σ'' I' H4 q k5 (sA.trans s5), fun δ' σ'' I' H4 ⟨m', l, q⟩ k5 s5 => ⟨m', l, δ', I', q, k5, sA.trans s5⟩⟩
end

/-! ### comprehensions -/
def wipeF (δ : Fr) : List Nat → Fr
  | [] => δ
  | v :: vs => (wipeF δ vs).set v none
theorem wipe_get {σ : L2.St} : ∀ {vs : List Nat} {k : Nat}, k ∉ vs → (wipe σ vs)[k]? = σ[k]?
  | [], _, _ => rfl
  | v :: vs, k, h => by
    unfold wipe
    rw [List.getElem?_set_ne fun e => h (by rw [e]; exact List.mem_cons_self)]
    exact wipe_get fun q => h (List.mem_cons_of_mem _ q)
theorem wipe_in {σ : L2.St} : ∀ {vs : List Nat} {k : Nat}, k ∈ vs → k < σ.length → (wipe σ vs)[k]? = some none
  | [], _, h, _ => by cases h
  | v :: vs, k, h, hl => by
    unfold wipe
    by_cases e : v = k
    · subst e
      rw [List.getElem?_set_self (by rw [wipe_length]; exact hl)]
    · rw [List.getElem?_set_ne e]
      refine wipe_in ?_ hl
      rcases List.mem_cons.mp h with q | q
      · exact absurd q.symm e
      · exact q
theorem wipe_agr {σ σ' : L2.St} {vs js : List Nat} (a : Agr js (wipe σ vs) σ') (hj : ∀ j, j ∈ js → j ∈ vs) : wipe σ' vs = wipe σ vs := by
  have hl : σ'.length = σ.length := by rw [a.1, wipe_length]
  apply List.ext_getElem?
  intro k
  by_cases c : k ∈ vs
  · by_cases d : k < σ.length
    · rw [wipe_in c d, wipe_in c (by rw [hl]; exact d)]
    · rw [List.getElem?_eq_none (by rw [wipe_length]; omega), List.getElem?_eq_none (by rw [wipe_length]; omega)]
  · rw [wipe_get c, wipe_get c, a.2 k fun q => c (hj k q), wipe_get c]
theorem wipeF_len {δ : Fr} : ∀ {vs : List Nat}, (wipeF δ vs).length = δ.length
  | [] => rfl
  | v :: vs => by
    unfold wipeF
    rw [List.length_set]
    exact wipeF_len
theorem wipeF_some {δ : Fr} {e : En} : ∀ {vs : List Nat} {k : Nat}, (wipeF δ vs)[k]? = some (some e) → k ∉ vs ∧ δ[k]? = some (some e)
  | [], k, h => ⟨by simp, h⟩
  | v :: vs, k, h => by
    unfold wipeF at h
    obtain ⟨c, h⟩ := get_set_none h
    obtain ⟨h1, h2⟩ := wipeF_some h
    exact ⟨fun q => by
      rcases List.mem_cons.mp q with q | q
      · exact c q.symm
      · exact h1 q, h2⟩
section
variable {W : Wd} {δ : Fr} {I H : Hp} {σ : L2.St}
theorem OK.wipe (vs : List Nat) (k : OK W I H δ σ) : OK W I H (wipeF δ vs) (wipe σ vs) := by
  refine ⟨k.ih, by rw [wipeF_len, wipe_length, k.ln], fun i e h => ?_, fun i j e f a b ne h1 h2 => k.ap i j e f a b ne (wipeF_some h1).2 (wipeF_some h2).2⟩
  obtain ⟨h1, h2⟩ := wipeF_some h
  obtain ⟨v, hv, he⟩ := k.sl i e h2
  exact ⟨v, by rw [wipe_get h1]; exact hv, he⟩
theorem ownA_wipe {vs : List Nat} {a : Addr} (h : ownA (wipeF δ vs) a) : ownA δ a := by
  obtain ⟨i, e, h, ea⟩ := h
  exact ⟨i, e, (wipeF_some h).2, ea⟩
theorem ownT_wipe {vs : List Nat} {a : Addr} (h : ownT (wipeF δ vs) a) : ownT δ a := by
  obtain ⟨i, l, h, f⟩ := h
  exact ⟨i, l, (wipeF_some h).2, f⟩
/-- a step within that leaves δ3 as it is, seen from δ: no list of δ's own is lost -/
theorem wl_lc {wi : TI} {g : TG} {tt : TT} {te : TE} {vs js : List Nat} {Φ : List D → Fr → Prop} (hj : ∀ j, j ∈ js → j ∈ vs)
    (h : WI W wi δ fun l δ1 => l.length ≤ 100000 ∧ ∃ Pv : Nat → List D → Prop, Pv 0 [] ∧ (∀ (i : Nat) x acc, l[i]? = some x → Pv i acc → acc.length ≤ i → WG W g js x (wipeF δ1 vs) fun δ3 => (∀ (k : Nat) e a, δ3[k]? = some (some e) → e.adr = some a → (wipeF δ1 vs)[k]? = some (some e)) ∧
      WT W tt δ3 fun b δ4 => δ4 = δ3 ∧ if b = true then WE W te δ3 fun y δ5 => δ5 = δ3 ∧ Pv (i + 1) (acc ++ [y]) else Pv (i + 1) acc) ∧ (∀ acc, Pv l.length acc → acc.length ≤ l.length → Φ acc δ1)) :
    WL W (tLc wi g tt te vs) δ Φ := fun I H σ k Q q => by
  refine h I H σ k _ fun l δ1 J I1 H1 ⟨hlen, Pv, p0, ps, pd⟩ k1 s1 it => ?_
  intro Dl hD
  -- the frame seen at every turn is δ1; the list stands at Dl
  have hnD : ¬ ownA δ1 Dl := not_own_of k1 hD
  refine ⟨fun i m H' => m = l.length - i ∧ i ≤ l.length ∧ ∃ acc I2 ws, Pv i acc ∧ acc.length ≤ i ∧ OK W I2 H' δ1 σ ∧ Sx δ1 I1 H1 δ1 I2 H' ∧ I2 Dl = none ∧ H' Dl = some (.lst ws) ∧ Rps W I2 acc ws, ⟨l.length, by omega, by omega, [], I1, [], p0, by simp, k1.loose hD, Sx.loose hD, free_of k1.ih hD, upd_same, .nil⟩, ?_⟩
  rintro i m H' ⟨rfl, hi, acc, I2, ws, p, hal, k2, s2, hI2, hH2, ra⟩
  by_cases c : i < l.length
  · have hx : l[i]? = some l[i] := by simp [c]
    refine .inr ⟨it.go i _ I2 H' s2.ii k2.ih hx, fun H'' => ∃ acc I3 ws, Pv (i + 1) acc ∧ acc.length ≤ i + 1 ∧ OK W I3 H'' δ1 σ ∧ Sx δ1 I1 H1 δ1 I3 H'' ∧ I3 Dl = none ∧ H'' Dl = some (.lst ws) ∧ Rps W I3 acc ws, fun H'' ⟨acc, I3, ws, q1, q2, q3, q4, q5, q6, q7⟩ => ⟨l.length - (i + 1), by omega, rfl, c, acc, I3, ws, q1, q2, q3, q4, q5, q6, q7⟩, fun v H'' y => ?_⟩
    obtain ⟨I3, k3, s3, r3⟩ := item_step it k2 s2.ii hx y
    have nD : ∀ (Ia Ha Ib Hb : Hp) (δa δb : Fr), Sx δa Ia Ha δb Ib Hb → (∀ a, ownA δa a → ownA δ1 a) → Ia Dl = none → (∃ o, Ha Dl = some o) → Ib Dl = none := fun Ia Ha Ib Hb δa δb s ho hIa ⟨o, hHa⟩ => by
      cases e : Ib Dl with
      | none => rfl
      | some u =>
        rcases s.nw Dl u e with z | z | z
        · rw [hIa] at z; cases z
        · rw [hHa] at z; cases z
        · exact absurd (ho _ z.a) hnD
    have hD3 : H'' Dl = some (.lst ws) := s3.kp _ _ hH2 hnD
    have hI3 : I3 Dl = none := nD _ _ _ _ _ _ s3 (fun _ h => h) hI2 ⟨_, hH2⟩
    refine ps i _ acc hx p hal I3 H'' (wipe σ vs) v (k3.wipe vs) r3 _ fun δ3 σ3 ⟨hsub, q3⟩ k4 s4 ag => ⟨wipe_agr ag hj, ?_⟩
    have o3 : ∀ a, ownA δ3 a → ownA δ1 a := fun a ⟨kk, e, he, ea⟩ => ownA_wipe ⟨kk, e, hsub kk e a he ea, ea⟩
    -- back from the frame within to the frame without
    have back : ∀ (Ib Hb : Hp), OK W Ib Hb δ3 σ3 → Sx δ3 I3 H'' δ3 Ib Hb → OK W Ib Hb δ1 σ := fun Ib Hb kb sb => by
      refine ⟨kb.ih, k3.ln, fun j e hj' => ?_, k3.ap⟩
      obtain ⟨u, hu, he⟩ := k3.sl j e hj'
      refine ⟨u, hu, ?_⟩
      cases ad : e.adr with
      | none =>
        cases e with
        | d x => exact Rp.mono sb.ii he
        | _ => cases ad
      | some a =>
        by_cases ho : ownA δ3 a
        · obtain ⟨kk, e', he', ea⟩ := ho
          have h1 := hsub kk e' a he' ea
          have hkj : kk = j := by
            by_cases z : kk = j
            · exact z
            · exact absurd rfl (k3.ap kk j e' e a a z (wipeF_some h1).2 hj' ea ad)
          subst hkj
          have he2 : e' = e := by
            have := (wipeF_some h1).2.symm.trans hj'
            simpa using this
          subst he2
          obtain ⟨u2, hu2, f⟩ := kb.sl kk _ he'
          have hv : u2 = u := by
            have q1 : u2 = .ref a := Es.ref ad f
            have q2 : u = .ref a := Es.ref ad he
            rw [q1, q2]
          rw [hv] at f
          exact f
        · refine he.mono sb.ii fun q hq => ?_
          have hqa : q = a := by rw [ad] at hq; cases hq; rfl
          subst hqa
          obtain ⟨z1, o, z2⟩ := k3.own_at ⟨j, e, hj', ad⟩
          refine ⟨?_, by rw [z2]; exact sb.kp _ _ z2 ho⟩
          cases z : Ib q with
          | none => rfl
          | some o' =>
            rcases sb.nw q o' z with y1 | y1 | y1
            · rw [z1] at y1; cases y1
            · rw [z2] at y1; cases y1
            · exact absurd y1.a ho
    have up : ∀ (Ib Hb : Hp), Sx δ3 I3 H'' δ3 Ib Hb → Sx δ1 I3 H'' δ1 Ib Hb := fun Ib Hb sb =>
      ⟨sb.ii, fun a o ha hn => sb.kp a o ha fun z => hn (o3 a z), sb.lv, fun a o ha => (sb.nw a o ha).elim .inl fun z => z.elim (fun z => .inr (.inl z)) fun ⟨kk, ll, he, hf⟩ =>
        .inr (.inr (ownT_wipe ⟨kk, ll, hsub kk _ a he (En.frz_adr hf), hf⟩)), fun _ h => .inl h, fun _ h => .inl h⟩
    refine q3 I3 H'' σ3 k4 _ fun b δ4 I4 H4 ⟨e4, hb⟩ k5 s5 => ?_
    subst e4
    have hD4 : H4 Dl = some (.lst ws) := s5.kp _ _ hD3 fun z => hnD (o3 _ z)
    have hI4 : I4 Dl = none := nD _ _ _ _ _ _ s5 o3 hI3 ⟨_, hD3⟩
    cases b with
    | false =>
      exact ⟨acc, I4, ws, hb, by omega, back I4 H4 k5 s5, (s2.trans s3).trans (up I4 H4 s5), hI4, hD4, ra.mono (s3.ii.trans s5.ii)⟩
    | true =>
      refine hb I4 H4 σ3 k5 _ fun z δ5 u I5 H5 ⟨e5, hp5⟩ k6 s6 r6 => ?_
      subst e5
      have hD5 : H5 Dl = some (.lst ws) := s6.kp _ _ hD4 fun z => hnD (o3 _ z)
      have hI5 : I5 Dl = none := nD _ _ _ _ _ _ s6 o3 hI4 ⟨_, hD4⟩
      have s56 := s5.trans s6
      have kB := back I5 H5 k6 s56
      have ra5 : Rps W I5 acc ws := ra.mono (s3.ii.trans s56.ii)
      refine ⟨ws, hD5, sz_lt (by rw [← ra.length]; omega), acc ++ [z], I5, ws ++ [u], hp5, by simp; omega, ?_, ?_, hI5, upd_same, ra5.append (.cons r6 .nil)⟩
      · refine ⟨fun a o h => ?_, kB.ln, fun j e hj' => ?_, kB.ap⟩
        · have ca : a ≠ Dl := fun z => by rw [z, hI5] at h; cases h
          rw [upd_ne ca]
          exact kB.ih a o h
        · obtain ⟨u2, hu2, he2⟩ := kB.sl j e hj'
          exact ⟨u2, hu2, he2.mono (Ex.refl _) fun pp hpp => ⟨(kB.own_at ⟨j, e, hj', hpp⟩).1, upd_ne fun z => hnD (z ▸ ⟨j, e, hj', hpp⟩)⟩⟩
      · have sB := (s2.trans s3).trans (up I5 H5 s56)
        exact ⟨sB.ii, fun a o h n => by
          have ca : a ≠ Dl := fun z => by rw [z, hD] at h; cases h
          rw [upd_ne ca]
          exact sB.kp a o h n, fun a o h => by
          by_cases ca : a = Dl
          · exact ⟨_, by rw [ca]; exact upd_same⟩
          · rw [upd_ne ca]; exact sB.lv a o h, sB.nw, sB.oa, sB.ot⟩
  · have e : i = l.length := by omega
    subst e
    refine .inl ⟨it.stop I2 H' s2.ii k2.ih, q acc δ1 Dl ws I2 H' (pd acc p hal) k2 (s1.trans s2) hI2 hH2 ra hnD (none_back s1.lv hD)⟩
end
end Dt

namespace Dt
open PySem L2

/-! ### promises by data -/
abbrev DSpec := List D → (D → Prop) → Prop
/-- a def that changes nothing -/
def pSp (W : Wd) (S : DSpec) : Sp := fun vs H Q _ => ∃ (I : Hp) (xs : List D) (Φ : D → Prop), Ex I H ∧ Rps W I xs vs ∧ S xs Φ ∧
  ∀ z v I' H', Φ z → Ex I I' → Ex I' H' → Ex H H' → (∀ a o, I' a = some o → I a = some o ∨ H a = none) → Rp W I' z v → Q v H'
/-- a def whose first argument are the draws' three numbers, which it changes -/
def jSp (W : Wd) (S : DSpec) : Sp := fun vs H Q _ => ∃ (I : Hp) (p : Addr) (rest : List V) (xs : List D) (Φ : D → Prop), vs = .ref p :: rest ∧ Ex I H ∧ I p = none ∧ (∃ a b c : Int, H p = some (.lst [.int a, .int b, .int c])) ∧ Rps W I xs rest ∧ S xs Φ ∧
  ∀ z v I' H', Φ z → Ex I I' → Ex I' H' → (∀ a o, H a = some o → a ≠ p → H' a = some o) → (∃ a b c : Int, H' p = some (.lst [.int a, .int b, .int c])) → I' p = none →
    (∀ a o, I' a = some o → I a = some o ∨ H a = none) → Rp W I' z v → Q v H'
/-- a def that makes the draws' three numbers -/
def mSp (W : Wd) (S : List D → Prop) : Sp := fun vs H Q _ => ∃ (I : Hp) (xs : List D), Ex I H ∧ Rps W I xs vs ∧ S xs ∧ ∀ p H', H p = none → Ex H H' → (∃ a b c : Int, H' p = some (.lst [.int a, .int b, .int c])) → Q (.ref p) H'
def frD (n : Nat) (xs : List D) : Fr := xs.map (fun x => some (En.d x)) ++ List.replicate (n - xs.length) none
def frJ (n : Nat) (p : Addr) (xs : List D) : Fr := some (En.jg p) :: frD (n - 1) xs
def rtO (Φ : D → Prop) : Out → Prop
  | .nx _ => Φ .non
  | .rt x _ => Φ x
  | .bk _ => False
  | .ct _ => False
/-- with the draws kept -/
def rtJ (p : Addr) (Φ : D → Prop) : Out → Prop
  | .nx δ => δ[0]? = some (some (.jg p)) ∧ Φ .non
  | .rt x δ => δ[0]? = some (some (.jg p)) ∧ Φ x
  | .bk _ => False
  | .ct _ => False
section
variable {W : Wd} {S : DSpec} {I H : Hp}
theorem frD_get {n : Nat} {xs : List D} {i : Nat} {e : En} (h : (frD n xs)[i]? = some (some e)) : ∃ x, xs[i]? = some x ∧ e = .d x := by
  unfold frD at h
  by_cases c : i < xs.length
  · rw [List.getElem?_append_left (by simp; exact c), List.getElem?_map] at h
    rw [show xs[i]? = some xs[i] by simp [c]] at h
    simp at h
    exact ⟨xs[i], by simp [c], h.symm⟩
  · rw [List.getElem?_append_right (by simp; omega), List.getElem?_replicate] at h
    split at h <;> cases h
theorem start_get {N : List Str} {vs : List V} {i : Nat} {v : V} (h : vs[i]? = some v) : (L2.start N vs)[i]? = some (some v) := by
  unfold L2.start
  have hl := (List.getElem?_eq_some_iff.mp h).1
  rw [List.getElem?_append_left (by simp; exact hl), List.getElem?_map, h]
  rfl
theorem start_len {N : List Str} {vs : List V} (h : vs.length ≤ N.length) : (L2.start N vs).length = N.length := by
  unfold L2.start
  simp
  omega
theorem frD_len {n : Nat} {xs : List D} (h : xs.length ≤ n) : (frD n xs).length = n := by
  unfold frD
  simp
  omega
theorem ok_frD {N : List Str} {xs : List D} {vs : List V} (ih : Ex I H) (r : Rps W I xs vs) (hn : xs.length ≤ N.length) : OK W I H (frD N.length xs) (L2.start N vs) := by
  refine ⟨ih, by rw [frD_len hn, start_len (by rw [← r.length]; exact hn)], fun i e h => ?_, fun i j e f a b ne h1 h2 h3 h4 => ?_⟩
  · obtain ⟨x, hx, rfl⟩ := frD_get h
    obtain ⟨v, hv, rv⟩ := r.get hx
    exact ⟨v, start_get hv, rv⟩
  · obtain ⟨x, hx, rfl⟩ := frD_get h1
    cases h3
theorem noown_frD {n : Nat} {xs : List D} {a : Addr} : ¬ ownA (frD n xs) a := fun ⟨i, e, h, ea⟩ => by
  obtain ⟨x, hx, rfl⟩ := frD_get h
  cases ea
/-- a def's body serves its promise -/
theorem pure_body {t : TS} {N : List Str} {n : Nat} (hn : n ≤ N.length) (hlen : ∀ xs Φ, S xs Φ → xs.length = n) (h : ∀ xs Φ, S xs Φ → WS W t (frD N.length xs) (rtO Φ)) {vs : List V} {Q : VK} {E : XK} (q : pSp W S vs H Q E) :
    t { nx := fun _ H' => Q .non H', rt := Q } (L2.start N vs) H := by
  obtain ⟨I, xs, Φ, ih, r, s, k⟩ := q
  have hx := hlen xs Φ s
  refine h xs Φ s I H _ _ (ok_frD ih r (by omega)) ⟨fun δ' σ' I' H' p k' s' => ?_, fun x δ' σ' v I' H' p k' s' r' => ?_, fun _ _ _ _ p _ _ => p.elim, fun _ _ _ _ p _ _ => p.elim⟩
  · exact k .non .non I' H' p s'.ii k'.ih (fun a o e => s'.kp a o e noown_frD) (fun a o e => (s'.nw a o e).elim .inl fun z => z.elim .inr fun z => absurd z.a noown_frD) .non
  · exact k x v I' H' p s'.ii k'.ih (fun a o e => s'.kp a o e noown_frD) (fun a o e => (s'.nw a o e).elim .inl fun z => z.elim .inr fun z => absurd z.a noown_frD) r'
theorem pSp_len {n : Nat} (hlen : ∀ xs Φ, S xs Φ → xs.length = n) : ∀ vs H Q E, pSp W S vs H Q E → vs.length = n := fun vs H Q E ⟨I, xs, Φ, _, r, s, _⟩ => by
  rw [← r.length]
  exact hlen xs Φ s
theorem jSp_len {n : Nat} (hlen : ∀ xs Φ, S xs Φ → xs.length = n) : ∀ vs H Q E, jSp W S vs H Q E → vs.length = n + 1 := fun vs H Q E ⟨I, p, rest, xs, Φ, e, _, _, _, r, s, _⟩ => by
  subst e
  rw [List.length_cons, ← r.length, hlen xs Φ s]
theorem mSp_len {S : List D → Prop} {n : Nat} (hlen : ∀ xs, S xs → xs.length = n) : ∀ vs H Q E, mSp W S vs H Q E → vs.length = n := fun vs H Q E ⟨I, xs, _, r, s, _⟩ => by
  rw [← r.length]
  exact hlen xs s
theorem start_cons {x : Str} {N : List Str} {v : V} {vs : List V} : L2.start (x :: N) (v :: vs) = some v :: L2.start N vs := by
  unfold L2.start
  simp
theorem frJ_get {n : Nat} {p : Addr} {xs : List D} {i : Nat} {e : En} (h : (frJ n p xs)[i]? = some (some e)) : (i = 0 ∧ e = .jg p) ∨ ∃ j x, i = j + 1 ∧ xs[j]? = some x ∧ e = .d x := by
  unfold frJ at h
  cases i with
  | zero => simp at h; exact .inl ⟨rfl, h.symm⟩
  | succ j =>
    rw [List.getElem?_cons_succ] at h
    obtain ⟨x, hx, e⟩ := frD_get h
    exact .inr ⟨j, x, rfl, hx, e⟩
theorem own_frJ {n : Nat} {p : Addr} {xs : List D} {a : Addr} (h : ownA (frJ n p xs) a) : a = p := by
  obtain ⟨i, e, h, ea⟩ := h
  rcases frJ_get h with ⟨_, rfl⟩ | ⟨j, x, _, _, rfl⟩
  · cases ea; rfl
  · cases ea
theorem noT_frJ {n : Nat} {p : Addr} {xs : List D} {a : Addr} : ¬ ownT (frJ n p xs) a := fun ⟨i, l, h, f⟩ => by
  rcases frJ_get h with ⟨_, rfl⟩ | ⟨j, x, _, _, rfl⟩ <;> cases f
theorem jg_body {t : TS} {x0 : Str} {N : List Str} {n : Nat} (hn : n ≤ N.length) (hlen : ∀ xs Φ, S xs Φ → xs.length = n) (h : ∀ p xs Φ, S xs Φ → WS W t (frJ (N.length + 1) p xs) (rtJ p Φ)) {vs : List V} {Q : VK} {E : XK} (q : jSp W S vs H Q E) :
    t { nx := fun _ H' => Q .non H', rt := Q } (L2.start (x0 :: N) vs) H := by
  obtain ⟨I, p, rest, xs, Φ, e, ih, hI, hp, r, s, k⟩ := q
  subst e
  have hx := hlen xs Φ s
  have k0 : OK W I H (frD N.length xs) (L2.start N rest) := ok_frD ih r (by omega)
  have k1 : OK W I H (frJ (N.length + 1) p xs) (L2.start (x0 :: N) (.ref p :: rest)) := by
    rw [start_cons]
    refine ⟨ih, ?_, fun i e h => ?_, fun i j e f a b ne h1 h2 h3 h4 => ?_⟩
    · have := k0.ln
      unfold frJ
      simp only [List.length_cons, Nat.add_sub_cancel]
      rw [this]
    · rcases frJ_get h with ⟨rfl, rfl⟩ | ⟨j, x, rfl, hx, rfl⟩
      · exact ⟨.ref p, rfl, rfl, hI, hp⟩
      · obtain ⟨v, hv, rv⟩ := r.get hx
        exact ⟨v, by rw [List.getElem?_cons_succ]; exact start_get hv, rv⟩
    · rcases frJ_get h1 with ⟨rfl, rfl⟩ | ⟨j1, x, _, _, rfl⟩
      · rcases frJ_get h2 with ⟨rfl, rfl⟩ | ⟨j2, y, _, _, rfl⟩
        · exact absurd rfl ne
        · cases h4
      · cases h3
  have nw : ∀ (I' H' : Hp) (δ' : Fr), Sx (frJ (N.length + 1) p xs) I H δ' I' H' → ∀ a o, I' a = some o → I a = some o ∨ H a = none := fun I' H' δ' s' a o e =>
    (s'.nw a o e).elim .inl fun z => z.elim .inr fun z => absurd z noT_frJ
  have jp : ∀ (I' H' : Hp) (δ' : Fr) (σ' : L2.St), OK W I' H' δ' σ' → δ'[0]? = some (some (.jg p)) → I' p = none ∧ ∃ a b c : Int, H' p = some (.lst [.int a, .int b, .int c]) := fun I' H' δ' σ' k' e => by
    obtain ⟨v, hv, _, e2, e3⟩ := k'.sl 0 _ e
    exact ⟨e2, e3⟩
  refine h p xs Φ s I H _ _ k1 ⟨fun δ' σ' I' H' ⟨ej, p'⟩ k' s' => ?_, fun x δ' σ' v I' H' ⟨ej, p'⟩ k' s' r' => ?_, fun _ _ _ _ p _ _ => p.elim, fun _ _ _ _ p _ _ => p.elim⟩
  · obtain ⟨z1, z2⟩ := jp _ _ _ _ k' ej
    exact k .non .non I' H' p' s'.ii k'.ih (fun a o e ne => s'.kp a o e fun z => ne (own_frJ z)) z2 z1 (nw _ _ _ s') .non
  · obtain ⟨z1, z2⟩ := jp _ _ _ _ k' ej
    exact k x v I' H' p' s'.ii k'.ih (fun a o e ne => s'.kp a o e fun z => ne (own_frJ z)) z2 z1 (nw _ _ _ s') r'
end

/-! ### calls of such defs -/
section
variable {W : Wd} {δ : Fr} {Φ : D → Fr → Prop} {S : DSpec} {ta : TA} {E : XK}
theorem we_callD {ds : List D} {dvs : List V} (hd : ∀ I, Rps W I ds dvs) (h : WA W ta δ fun xs δ1 => S (xs ++ ds) fun z => Φ z δ1) : WE W (tCall (pSp W S) dvs E ta) δ Φ := fun I H σ k Q q =>
  h I H σ k _ fun xs δ1 vs I1 H1 p k1 s1 r1 => ⟨I1, xs ++ ds, _, k1.ih, r1.append (hd I1), p, fun z v I2 H2 pz e1 e2 e3 e4 rz =>
    q z δ1 v I2 H2 pz (k1.grow e1 e2 e3 e4) (s1.trans (Sx.grow e1 e3 e4)) rz⟩
theorem we_call (h : WA W ta δ fun xs δ1 => S xs fun z => Φ z δ1) : WE W (tCall (pSp W S) [] E ta) δ Φ :=
  we_callD (fun _ => .nil) (by
    intro I H σ k Q q
    exact h I H σ k Q fun xs δ1 vs I1 H1 p k1 s1 r1 => q xs δ1 vs I1 H1 (by show S (xs ++ []) _; rw [List.append_nil]; exact p) k1 s1 r1)
theorem we_callJ {i : Nat} {p0 : Addr} (e0 : δ[i]? = some (some (.jg p0))) (h : WA W ta δ fun xs δ1 => δ1[i]? = some (some (.jg p0)) ∧ S xs fun z => Φ z δ1) : WE W (tCall (jSp W S) [] E (tCons (tVar i) ta)) δ Φ := fun I H σ k Q q => by
  obtain ⟨v, hv, e1, e2, e3⟩ := k.sl i _ e0
  subst e1
  refine ⟨_, hv, h I H σ k _ fun xs δ1 vs I1 H1 ⟨f0, p⟩ k1 s1 r1 => ?_⟩
  obtain ⟨v', hv', f1, f2, f3⟩ := k1.sl i _ f0
  refine ⟨I1, p0, vs, xs, _, by simp, k1.ih, f2, f3, r1, p, fun z u I2 H2 pz g1 g2 g3 g4 g5 g6 rz => ?_⟩
  have hA : ownA δ1 p0 := ⟨i, _, f0, rfl⟩
  have k2 : OK W I2 H2 δ1 σ := by
    refine ⟨g2, k1.ln, fun j e hje => ?_, k1.ap⟩
    obtain ⟨w, hw, he⟩ := k1.sl j e hje
    refine ⟨w, hw, ?_⟩
    by_cases c : j = i
    · subst c
      have z := hje.symm.trans f0
      have ee : e = .jg p0 := by simpa using z
      subst ee
      exact ⟨he.1, g5, g4⟩
    · refine he.mono g1 fun a ha => ?_
      have na : a ≠ p0 := k1.ap j i e (.jg p0) a p0 c hje f0 ha rfl
      obtain ⟨z1, o, z2⟩ := k1.own_at ⟨j, e, hje, ha⟩
      refine ⟨?_, by rw [z2]; exact g3 a o z2 na⟩
      cases y : I2 a with
      | none => rfl
      | some u =>
        rcases g6 a u y with y1 | y1
        · rw [z1] at y1; cases y1
        · rw [z2] at y1; cases y1
  refine q z δ1 u I2 H2 pz k2 (s1.trans ⟨g1, fun a o ha hn => g3 a o ha fun z => hn (z ▸ hA), fun a o ha => ?_, fun a o ha => (g6 a o ha).elim .inl fun z => .inr (.inl z), fun _ h => .inl h, fun _ h => .inl h⟩) rz
  by_cases c : a = p0
  · obtain ⟨x1, x2, x3, hx⟩ := g4
    exact ⟨_, by rw [c]; exact hx⟩
  · exact ⟨o, g3 a o ha c⟩
/-- x = maker(..) -/
theorem OK.setJ {I H : Hp} {σ : L2.St} {i : Nat} {p : Addr} (k : OK W I H δ σ) (hI : I p = none) (hH : ∃ a b c : Int, H p = some (.lst [.int a, .int b, .int c])) (hn : ¬ ownA δ p) :
    OK W I H (δ.set i (some (.jg p))) (σ.set i (some (.ref p))) := by
  refine ⟨k.ih, by simp [k.ln], fun j e h => ?_, fun a b e f x y ne h1 h2 h3 h4 => ?_⟩
  · rcases get_set_some h with ⟨c, rfl⟩ | ⟨c, h⟩
    · have hl : i < δ.length := by
        have := (List.getElem?_eq_some_iff.mp h).1
        rw [List.length_set] at this
        omega
      subst c
      exact ⟨.ref p, by rw [List.getElem?_set_self (by rw [← k.ln]; exact hl)], rfl, hI, hH⟩
    · obtain ⟨u, hu, he⟩ := k.sl j e h
      exact ⟨u, by rw [List.getElem?_set_ne c]; exact hu, he⟩
  · rcases get_set_some h1 with ⟨c1, rfl⟩ | ⟨_, h1⟩
    · rcases get_set_some h2 with ⟨c2, rfl⟩ | ⟨_, h2⟩
      · exact absurd (c1.symm.trans c2) ne
      · cases h3
        exact fun z => hn ⟨b, f, h2, by rw [z]; exact h4⟩
    · rcases get_set_some h2 with ⟨_, rfl⟩ | ⟨_, h2⟩
      · cases h4
        exact fun z => hn ⟨a, e, h1, by rw [← z]; exact h3⟩
      · exact k.ap a b e f x y ne h1 h2 h3 h4
theorem ws_setJ {S : List D → Prop} {i : Nat} {Φ : Out → Prop} (h : WA W ta δ fun xs δ1 => S xs ∧ ∀ p, Φ (.nx (δ1.set i (some (.jg p))))) : WS W (tAsg (tCall (mSp W S) [] E ta) (gName i)) δ Φ := fun I H σ Dn k f =>
  h I H σ k _ fun xs δ1 vs I1 H1 ⟨hS, p⟩ k1 s1 r1 => ⟨I1, xs, k1.ih, by rw [List.append_nil]; exact r1, hS, fun a H2 ha e2 hj => by
    have k2 : OK W I1 H2 δ1 σ := k1.grow (Ex.refl _) (k1.ih.trans e2) e2 fun _ _ h => .inl h
    refine f.nx _ _ I1 H2 (p a) (k2.setJ (free_of k1.ih ha) hj (not_own_of k1 ha)) ?_
    have s2 : Sx δ I H δ1 I1 H2 := s1.trans (Sx.grow (Ex.refl _) e2 fun _ _ h => .inl h)
    have h0 : H a = none := none_back s1.lv ha
    exact ⟨s2.ii, s2.kp, s2.lv, s2.nw, fun b hb => by
      rcases ownA_set hb with c | c
      · exact s2.oa b c
      · cases c; exact .inr h0, fun b hb => by
      rcases ownT_set hb with c | c
      · exact s2.ot b c
      · cases c⟩⟩
end

/-! ### built-in functions -/
section
variable {W : Wd} {δ : Fr} {Φ : D → Fr → Prop}
theorem rps1 {I : Hp} {x : D} {vs : List V} (r : Rps W I [x] vs) : ∃ v, vs = [v] ∧ Rp W I x v := by
  cases r with
  | cons h r => cases r; exact ⟨_, rfl, h⟩
theorem rps2 {I : Hp} {x y : D} {vs : List V} (r : Rps W I [x, y] vs) : ∃ v w, vs = [v, w] ∧ Rp W I x v ∧ Rp W I y w := by
  cases r with
  | cons h r =>
    cases r with
    | cons h2 r => cases r; exact ⟨_, _, rfl, h, h2⟩
def rLenD (K : PySem.W.Frag) : List V → Hp → VK → Prop := fun xs H Q => ∃ x n, xs = [x] ∧ LenV K x H n ∧ Q (.int n) H
theorem cr_len {X : Cx} : CallR X (.builtin "len") (rLenD X.K) := call_len
theorem wc_lenL {l : List D} (p : Φ (.int l.length) δ) : WC W (rLenD W.K) [.lst l] δ Φ := fun I H σ vs k r Q q => by
  obtain ⟨v, rfl, rv⟩ := rps1 r
  obtain ⟨a, ws, rfl, ha, rs⟩ := rp_lst rv
  exact ⟨_, l.length, rfl, .inl ⟨ws, sq_l k.ih ha, rs.length⟩, q _ δ _ I H p k (Sx.refl _ _ _) (.int _)⟩
theorem wc_lenT {l : List D} (p : Φ (.int l.length) δ) : WC W (rLenD W.K) [.tup l] δ Φ := fun I H σ vs k r Q q => by
  obtain ⟨v, rfl, rv⟩ := rps1 r
  obtain ⟨a, ws, rfl, ha, rs⟩ := rp_tup rv
  exact ⟨_, l.length, rfl, .inr ⟨ws, sq_t k.ih ha, rs.length⟩, q _ δ _ I H p k (Sx.refl _ _ _) (.int _)⟩
theorem wc_lenScr {l : List Int} (p : Φ (.int l.length) δ) : WC W (rLenD W.K) [.scr l] δ Φ := fun I H σ vs k r Q q => by
  obtain ⟨v, rfl, rv⟩ := rps1 r
  cases rv with
  | scr hs => exact ⟨_, l.length, rfl, .inl ⟨_, sqL_ex k.ih hs, by simp⟩, q _ δ _ I H p k (Sx.refl _ _ _) (.int _)⟩
theorem wc_lenS {l : Str} (hl : l.length ≤ 100000) (p : Φ (.int l.length) δ) : WC W (rLenD W.K) [.str l] δ Φ := fun I H σ vs k r Q q => by
  obtain ⟨v, rfl, rv⟩ := rps1 r
  cases rv
  exact ⟨_, l.length, rfl, ⟨sz_of hl, rfl⟩, q _ δ _ I H p k (Sx.refl _ _ _) (.int _)⟩
def rInt1 : List V → Hp → VK → Prop := fun xs H Q => (∃ i, xs = [.int i] ∧ Q (.int i) H) ∨ ∃ k, xs = [.bl k] ∧ Q (.int (if k then 1 else 0)) H
theorem cr_int1 {X : Cx} : CallR X (.type "int") rInt1 := call_int1
theorem wc_intI {i : Int} (p : Φ (.int i) δ) : WC W rInt1 [.int i] δ Φ := fun I H σ vs k r Q q => by
  obtain ⟨v, rfl, rv⟩ := rps1 r
  cases rv
  exact .inl ⟨i, rfl, q _ δ _ I H p k (Sx.refl _ _ _) (.int _)⟩
theorem wc_intB {i : Bool} (p : Φ (.int (if i then 1 else 0)) δ) : WC W rInt1 [.bl i] δ Φ := fun I H σ vs k r Q q => by
  obtain ⟨v, rfl, rv⟩ := rps1 r
  cases rv
  exact .inr ⟨i, rfl, q _ δ _ I H p k (Sx.refl _ _ _) (.int _)⟩
def rAbs : List V → Hp → VK → Prop := fun xs H Q => ∃ i, xs = [.int i] ∧ Q (.int (if i < 0 then -i else i)) H
theorem cr_abs {X : Cx} : CallR X (.builtin "abs") rAbs := call_abs
theorem wc_abs {i : Int} (p : Φ (.int (if i < 0 then -i else i)) δ) : WC W rAbs [.int i] δ Φ := fun I H σ vs k r Q q => by
  obtain ⟨v, rfl, rv⟩ := rps1 r
  cases rv
  exact ⟨i, rfl, q _ δ _ I H p k (Sx.refl _ _ _) (.int _)⟩
def rMax2 : List V → Hp → VK → Prop := fun xs H Q => ∃ i j, xs = [.int i, .int j] ∧ Q (.int (if j > i then j else i)) H
theorem cr_max2 {X : Cx} (hc : X.calm = true) : CallR X (.builtin "max") rMax2 := call_max2 hc
theorem wc_max2 {i j : Int} (p : Φ (.int (if j > i then j else i)) δ) : WC W rMax2 [.int i, .int j] δ Φ := fun I H σ vs k r Q q => by
  obtain ⟨v, w, rfl, rv, rw'⟩ := rps2 r
  cases rv; cases rw'
  exact ⟨i, j, rfl, q _ δ _ I H p k (Sx.refl _ _ _) (.int _)⟩
def rMin2 : List V → Hp → VK → Prop := fun xs H Q => ∃ i j, xs = [.int i, .int j] ∧ Q (.int (if j < i then j else i)) H
theorem cr_min2 {X : Cx} (hc : X.calm = true) : CallR X (.builtin "min") rMin2 := call_min2 hc
theorem wc_min2 {i j : Int} (p : Φ (.int (if j < i then j else i)) δ) : WC W rMin2 [.int i, .int j] δ Φ := fun I H σ vs k r Q q => by
  obtain ⟨v, w, rfl, rv, rw'⟩ := rps2 r
  cases rv; cases rw'
  exact ⟨i, j, rfl, q _ δ _ I H p k (Sx.refl _ _ _) (.int _)⟩
theorem wc_sum {ns : List Int} (p : Φ (.int ns.sum) δ) : WC W (rSum W.K) [.lst (ns.map D.int)] δ Φ := fun I H σ vs k r Q q => by
  obtain ⟨v, rfl, rv⟩ := rps1 r
  obtain ⟨a, ws, rfl, ha, rs⟩ := rp_lst rv
  have e := rs.ints
  subst e
  exact ⟨a, ns, rfl, sq_l k.ih ha, q _ δ _ I H p k (Sx.refl _ _ _) (.int _)⟩
theorem wc_all {bs : List Bool} (p : Φ (.bl (bs.all id)) δ) : WC W (rAll W.K) [.lst (bs.map D.bl)] δ Φ := fun I H σ vs k r Q q => by
  obtain ⟨v, rfl, rv⟩ := rps1 r
  obtain ⟨a, ws, rfl, ha, rs⟩ := rp_lst rv
  have e := rs.bls
  subst e
  exact ⟨a, bs, rfl, sq_l k.ih ha, q _ δ _ I H p k (Sx.refl _ _ _) (.bl _)⟩
def rTupleOf (K : PySem.W.Frag) : List V → Hp → VK → Prop := fun xs H Q => ∃ p ys, xs = [.ref p] ∧ ((SqL K H p ys ∧ ∀ l, H l = none → Q (.ref l) (upd H l (.tup ys))) ∨ (SqT K H p ys ∧ Q (.ref p) H))
theorem cr_tuple {X : Cx} : CallR X (.type "tuple") (rTupleOf X.K) := call_tuple_of
theorem wc_tupleL {l : List D} (p : Φ (.tup l) δ) : WC W (rTupleOf W.K) [.lst l] δ Φ := fun I H σ vs k r Q q => by
  obtain ⟨v, rfl, rv⟩ := rps1 r
  obtain ⟨a, ws, rfl, ha, rs⟩ := rp_lst rv
  exact ⟨a, ws, rfl, .inl ⟨sq_l k.ih ha, new_tup k rs fun c hc k2 s2 r2 => q _ δ _ _ _ p k2 s2 r2⟩⟩
theorem wc_tupleT {l : List D} (p : Φ (.tup l) δ) : WC W (rTupleOf W.K) [.tup l] δ Φ := fun I H σ vs k r Q q => by
  obtain ⟨v, rfl, rv⟩ := rps1 r
  obtain ⟨a, ws, rfl, ha, rs⟩ := rp_tup rv
  exact ⟨a, ws, rfl, .inr ⟨sq_t k.ih ha, q _ δ _ I H p k (Sx.refl _ _ _) rv⟩⟩
def rListOf (K : PySem.W.Frag) : List V → Hp → VK → Prop := fun xs H Q => ∃ p ys, xs = [.ref p] ∧ (SqL K H p ys ∨ SqT K H p ys) ∧ ∀ l, H l = none → Q (.ref l) (upd H l (.lst ys))
theorem cr_list {X : Cx} : CallR X (.type "list") (rListOf X.K) := call_list_of
theorem wl_listOf {ta : TA} {Φ : List D → Fr → Prop} (h : WA W ta δ fun xs δ1 => ∃ l, (xs = [.lst l] ∨ xs = [.tup l]) ∧ Φ l δ1) : WL W (tCB (rListOf W.K) ta) δ Φ := fun I H σ k Q q =>
  h I H σ k _ fun xs δ1 vs I1 H1 ⟨l, e, p⟩ k1 s1 r1 => by
    rcases e with e | e
    · subst e
      obtain ⟨v, rfl, rv⟩ := rps1 r1
      obtain ⟨a, ws, rfl, ha, rs⟩ := rp_lst rv
      exact ⟨a, ws, rfl, .inl (sq_l k1.ih ha), wl_new p k1 s1 rs q⟩
    · subst e
      obtain ⟨v, rfl, rv⟩ := rps1 r1
      obtain ⟨a, ws, rfl, ha, rs⟩ := rp_tup rv
      exact ⟨a, ws, rfl, .inr (sq_t k1.ih ha), wl_new p k1 s1 rs q⟩
/-- of an own list: its length, its tuple, an item -/
theorem we_lenO {i : Nat} {p0 : Addr} {l : List D} (e : δ[i]? = some (some (.own p0 l))) (p : Φ (.int l.length) δ) : WE W (tCB (rLenD W.K) (tCons (tVar i) tNil)) δ Φ := fun I H σ k Q q => by
  obtain ⟨v, hv, rfl, e2, vs, e3, e4⟩ := k.sl i _ e
  exact ⟨_, hv, _, l.length, rfl, .inl ⟨vs, .inl (.inl e3), e4.length⟩, q _ δ _ I H p k (Sx.refl _ _ _) (.int _)⟩
theorem we_tupleO {i : Nat} {p0 : Addr} {l : List D} (e : δ[i]? = some (some (.own p0 l))) (p : Φ (.tup l) δ) : WE W (tCB (rTupleOf W.K) (tCons (tVar i) tNil)) δ Φ := fun I H σ k Q q => by
  obtain ⟨v, hv, rfl, e2, vs, e3, e4⟩ := k.sl i _ e
  exact ⟨_, hv, p0, vs, rfl, .inl ⟨.inl (.inl e3), new_tup k e4 fun c hc k2 s2 r2 => q _ δ _ _ _ p k2 s2 r2⟩⟩
theorem op_powW {X : Cx} : OpR X (binaryOp .Pow) (rI (fun i j => 0 ≤ j ∧ (Builtin.Int.intBits i : Int) * j ≤ 2 ^ 27) fun i j => .int (i ^ j.toNat)) := opI fun _ _ _ _ _ _ _ hc q => PyProof.Rows.pow_int hc.1 hc.2 q
end
end Dt

namespace Dt
open PySem L2

/-! ### operators by what they are given -/
theorem opOr {X : Cx} {f : Value → Value → Sem Value} {r r' : R2} (h : OpR X f r) (h' : OpR X f r') : OpR X f (fun x y H Q => r x y H Q ∨ r' x y H Q) := fun pins s σ H x y v u Q I rx ry q =>
  q.elim (h pins s σ H x y v u Q I rx ry) (h' pins s σ H x y v u Q I rx ry)
theorem clOr {X : Cx} {f : Value} {r r' : List V → Hp → VK → Prop} (h : CallR X f r) (h' : CallR X f r') : CallR X f (fun xs H Q => r xs H Q ∨ r' xs H Q) := fun pins s σ H xs us Q I rx q =>
  q.elim (h pins s σ H xs us Q I rx) (h' pins s σ H xs us Q I rx)
theorem piOr {X : Cx} {tg e : Expr} {w w' : TI} (h : PI X tg e w) (h' : PI X tg e w') : PI X tg e (fun σ H R => w σ H R ∨ w' σ H R) := ⟨fun pins s σ H R I q => q.elim (h.run pins s σ H R I) (h'.run pins s σ H R I)⟩
def rAddU (K : PySem.W.Frag) : R2 := fun x y H Q => (rI0 fun i j => .int (i + j)) x y H Q ∨ (fun x y H Q => ∃ i j, x = .str i ∧ y = .str j ∧ i.length + j.length ≤ sizeLine ∧ Q (.str (i ++ j)) H : R2) x y H Q ∨ rCatA K x y H Q ∨ rCat x y H Q
theorem op_addU {X : Cx} : OpR X (binaryOp .Add) (rAddU X.K) := opOr op_add (opOr op_add_str (opOr op_catA op_cat))
def rMulU : R2 := fun x y H Q => (rI CMulX fun i j => .int (i * j)) x y H Q ∨ (rI CMul fun i j => .int (i * j)) x y H Q ∨ rRep x y H Q
theorem op_mulU {X : Cx} : OpR X (binaryOp .Mult) rMulU := opOr op_mulX (opOr op_mul op_rep)
def rDivU : R2 := fun x y H Q => (rI CDivN fun i j => .int (i.fdiv j)) x y H Q ∨ (rI CDivW fun i j => .int (i / j)) x y H Q
theorem op_divU {X : Cx} : OpR X (binaryOp .FloorDiv) rDivU := opOr op_fdivN op_fdivW
def rModU : R2 := rI (fun _ j => 0 < j) fun i j => .int (i % j)
theorem op_modU {X : Cx} : OpR X (binaryOp .Mod) rModU := op_mod
def rPowU : R2 := rI (fun i j => 0 ≤ j ∧ (Builtin.Int.intBits i : Int) * j ≤ 2 ^ 27) fun i j => .int (i ^ j.toNat)
theorem op_powU {X : Cx} : OpR X (binaryOp .Pow) rPowU := op_powW
section
variable {W : Wd} {δ : Fr} {Φ : D → Fr → Prop}
theorem wr_addI {i j : Int} (p : Φ (.int (i + j)) δ) : WR W (rAddU W.K) (.int i) (.int j) δ Φ := fun I H σ va vb k ra rb Q q => .inl (wr_I0i p I H σ va vb k ra rb Q q)
theorem wr_addS {i j : Str} (hz : i.length + j.length ≤ 100000) (p : Φ (.str (i ++ j)) δ) : WR W (rAddU W.K) (.str i) (.str j) δ Φ := fun I H σ va vb k ra rb Q q => by
  cases ra; cases rb
  exact .inr (.inl ⟨i, j, rfl, rfl, sz_of hz, q _ δ _ I H p k (Sx.refl _ _ _) (.str _)⟩)
theorem wr_addT {l m : List D} (hz : l.length + m.length ≤ 100000) (p : Φ (.tup (l ++ m)) δ) : WR W (rAddU W.K) (.tup l) (.tup m) δ Φ := fun I H σ va vb k ra rb Q q => by
  refine .inr (.inr (.inl ?_))
  obtain ⟨a, vs, rfl, ha, r⟩ := rp_tup ra
  obtain ⟨b, ws, rfl, hb, s⟩ := rp_tup rb
  have e1 := r.length
  have e2 := s.length
  refine ⟨a, b, vs, ws, rfl, rfl, sq_t k.ih ha, sq_t k.ih hb, sz_of (by omega), fun z => ?_, fun _ z => ?_, fun _ _ => new_tup k (r.append s) fun c hc k2 s2 r2 => q _ δ _ _ _ p k2 s2 r2⟩
  · have em : l = [] := by rw [z] at e1; exact List.length_eq_zero_iff.mp e1
    rw [em, List.nil_append] at p
    exact q _ δ _ I H p k (Sx.refl _ _ _) rb
  · have em : m = [] := by rw [z] at e2; exact List.length_eq_zero_iff.mp e2
    rw [em, List.append_nil] at p
    exact q _ δ _ I H p k (Sx.refl _ _ _) ra
theorem wr_addL {l m : List D} (hz : l.length + m.length ≤ 100000) (p : Φ (.lst (l ++ m)) δ) : WR W (rAddU W.K) (.lst l) (.lst m) δ Φ := fun I H σ va vb k ra rb Q q => .inr (.inr (.inr (wr_cat hz p I H σ va vb k ra rb Q q)))
theorem wl_add {ta tb : TE} {Φ : List D → Fr → Prop} (h : WE W ta δ fun x δ1 => WE W tb δ1 fun y δ2 => ∃ l m, x = .lst l ∧ y = .lst m ∧ l.length + m.length ≤ 100000 ∧ Φ (l ++ m) δ2) : WL W (tOp (rAddU W.K) ta tb) δ Φ := fun I H σ k Q q => by
  refine h I H σ k _ fun x δ1 v I1 H1 h1 k1 s1 r1 => ?_
  refine h1 I1 H1 σ k1 _ fun y δ2 w I2 H2 ⟨l, m, ex, ey, hz, p⟩ k2 s2 r2 => ?_
  subst ex
  subst ey
  obtain ⟨a, vs, rfl, ha, r⟩ := rp_lst (r1.mono s2.ii)
  obtain ⟨b, ws, rfl, hb, s⟩ := rp_lst r2
  have e1 := r.length
  have e2 := s.length
  exact .inr (.inr (.inr ⟨a, b, vs, ws, rfl, rfl, k2.ih _ _ ha, k2.ih _ _ hb, sz_of (by omega), wl_new p k2 (s1.trans s2) (r.append s) q⟩))
theorem wr_mulX {i j : Int} (c : CMulX i j) (p : Φ (.int (i * j)) δ) : WR W rMulU (.int i) (.int j) δ Φ := fun I H σ va vb k ra rb Q q => .inl (wr_Ii c p I H σ va vb k ra rb Q q)
theorem wr_mulI {i j : Int} (c : CMul i j) (p : Φ (.int (i * j)) δ) : WR W rMulU (.int i) (.int j) δ Φ := fun I H σ va vb k ra rb Q q => .inr (.inl (wr_Ii c p I H σ va vb k ra rb Q q))
theorem wr_divI {i j : Int} (c : 0 < j ∧ j < 1073741824) (p : Φ (.int (i / j)) δ) : WR W rDivU (.int i) (.int j) δ Φ := fun I H σ va vb k ra rb Q q => .inl (by
  refine wr_Ii (Φ := Φ) (f := fun i j => i.fdiv j) (show CDivN i j from ⟨by omega, by omega⟩) ?_ I H σ va vb k ra rb Q q
  show Φ (.int (i.fdiv j)) δ
  rw [Int.fdiv_eq_ediv_of_nonneg i (by omega)]
  exact p)
theorem wr_divW {i j : Int} (c : CDivW i j) (p : Φ (.int (i / j)) δ) : WR W rDivU (.int i) (.int j) δ Φ := fun I H σ va vb k ra rb Q q => .inr (wr_Ii c p I H σ va vb k ra rb Q q)
theorem wr_mod {i j : Int} (c : 0 < j) (p : Φ (.int (i % j)) δ) : WR W rModU (.int i) (.int j) δ Φ := fun I H σ va vb k ra rb Q q => wr_Ii (f := fun i j => i % j) (C := fun _ j => 0 < j) c p I H σ va vb k ra rb Q q
theorem wr_pow {i j : Int} (c : 0 ≤ j ∧ (Builtin.Int.intBits i : Int) * j ≤ 2 ^ 27) (p : Φ (.int (i ^ j.toNat)) δ) : WR W rPowU (.int i) (.int j) δ Φ := fun I H σ va vb k ra rb Q q => wr_Ii (f := fun i j => i ^ j.toNat) c p I H σ va vb k ra rb Q q
/-- [x] * n -/
theorem wl_rep {ta tb : TE} {Φ : List D → Fr → Prop} (h : WE W ta δ fun x δ1 => WE W tb δ1 fun y δ2 => ∃ l n, x = .lst l ∧ y = .int n ∧ 0 ≤ n ∧ n ≤ 100000 ∧ l.length * n.toNat ≤ 100000 ∧ Φ (List.replicate n.toNat l).flatten δ2) : WL W (tOp rMulU ta tb) δ Φ := fun I H σ k Q q => by
  refine h I H σ k _ fun x δ1 v I1 H1 h1 k1 s1 r1 => ?_
  refine h1 I1 H1 σ k1 _ fun y δ2 w I2 H2 ⟨l, n, ex, ey, h0, hn, hz, p⟩ k2 s2 r2 => ?_
  subst ex
  subst ey
  obtain ⟨a, vs, rfl, ha, r⟩ := rp_lst (r1.mono s2.ii)
  cases r2
  have e1 := r.length
  have rr : ∀ m : Nat, Rps W I2 (List.replicate m l).flatten (List.replicate m vs).flatten := fun m => by
    induction m with
    | zero => exact .nil
    | succ m ih =>
      rw [List.replicate_succ, List.replicate_succ, List.flatten_cons, List.flatten_cons]
      exact r.append ih
  exact .inr (.inr ⟨a, n, vs, rfl, rfl, k2.ih _ _ ha, by omega, by omega, sz_of (by rw [← e1]; exact hz), wl_new p k2 (s1.trans s2) (rr _) q⟩)

/-! ### truth -/
def D.tru : D → Option Bool
  | .non => some false
  | .bl b => some b
  | .int i => some (i != 0)
  | .lst l => some (!l.isEmpty)
  | .tup l => some (!l.isEmpty)
  | .str s => if s.length ≤ 100000 then some ((s.length : Int) != 0) else none
  | _ => none
def tTru (K : PySem.W.Frag) (ta : TE) : TT := fun σ H Q => ta σ H fun x H' => ∃ k, TruV K x H' k ∧ Q k H'
theorem pt_tru {X : Cx} {a : Expr} {ta : TE} (ha : PE X a ta) (he : ∀ whole, isTrue a X.env whole = (do let v ← whole; standAt a.pos; holding [v] (truthy v)) := by intro _; rfl) : PT X a (tTru X.K ta) := pt_truth ha he
theorem emp_of {I : Hp} {l : List D} {vs : List V} (r : Rps W I l vs) : (!vs.isEmpty) = !l.isEmpty := by
  cases r <;> rfl
theorem wt_tru {te : TE} {Φ : Bool → Fr → Prop} (h : WE W te δ fun x δ1 => ∃ b, x.tru = some b ∧ Φ b δ1) : WT W (tTru W.K te) δ Φ := fun I H σ k Q q => by
  refine h I H σ k _ fun x δ1 v I1 H1 ⟨b, e, p⟩ k1 s1 r1 => ⟨b, ?_, q b δ1 I1 H1 p k1 s1⟩
  cases r1 with
  | non => cases e; rfl
  | bl b => cases e; rfl
  | int i => cases e; rfl
  | str s =>
    have e' : (if s.length ≤ 100000 then some ((s.length : Int) != 0) else none) = some b := e
    by_cases hs : s.length ≤ 100000
    · rw [if_pos hs] at e'
      cases e'
      exact ⟨sz_of hs, rfl⟩
    · rw [if_neg hs] at e'
      cases e'
  | lst h r => cases e; exact .inl ⟨_, sq_l k1.ih h, (emp_of r).symm⟩
  | tup h r => cases e; exact .inr (.inl ⟨_, sq_t k1.ih h, (emp_of r).symm⟩)
  | scr h => cases e
  | ins h k r => cases e
  | ty n => cases e
  | cls c => cases e
  | dic h k r => cases e
  | fz h k r => cases e

/-! ### == of data -/
mutual
def D.py : D → PyData
  | .non => .none
  | .bl b => .bool b
  | .int i => .int i
  | .str s => .str s
  | .lst l => .list (D.pys l)
  | .tup l => .tuple (D.pys l)
  | _ => .none
def D.pys : List D → List PyData
  | [] => []
  | x :: l => x.py :: D.pys l
end
mutual
def D.sh : Nat → D → Bool
  | _, .non => true
  | _, .bl _ => true
  | _, .int _ => true
  | _, .str s => PyData.canLay0 (.str s)
  | n, .lst l => D.shs n l
  | n, .tup l => D.shs n l
  | _, _ => false
def D.shs : Nat → List D → Bool
  | 0, _ => false
  | _, [] => true
  | n + 1, x :: l => D.sh n x && D.shs (n + 1) l
end
mutual
theorem dp_of {I H : Hp} (ih : Ex I H) : ∀ (n : Nat) (x : D) (v : V), D.sh n x = true → Rp W I x v → Dp W.K H v x.py
  | _, .non, _, _, r => by cases r; exact .non
  | _, .bl b, _, _, r => by cases r; exact .bl b
  | _, .int i, _, _, r => by cases r; exact .int i
  | _, .str s, _, _, r => by cases r; exact .str s
  | n, .lst l, _, h, r => by
    obtain ⟨a, vs, rfl, ha, rs⟩ := rp_lst r
    exact .lst (sq_l ih ha) (dps_of ih n l vs (by simpa [D.sh] using h) rs)
  | n, .tup l, _, h, r => by
    obtain ⟨a, vs, rfl, ha, rs⟩ := rp_tup r
    exact .tup (sq_t ih ha) (dps_of ih n l vs (by simpa [D.sh] using h) rs)
  | _, .scr _, _, h, _ => by simp [D.sh] at h
  | _, .ins _ _, _, h, _ => by simp [D.sh] at h
  | _, .ty _, _, h, _ => by simp [D.sh] at h
  | _, .cls _, _, h, _ => by simp [D.sh] at h
  | _, .dic _ _, _, h, _ => by simp [D.sh] at h
theorem dps_of {I H : Hp} (ih : Ex I H) : ∀ (n : Nat) (l : List D) (vs : List V), D.shs n l = true → Rps W I l vs → DpAll W.K H vs (D.pys l)
  | _, [], _, _, r => by cases r; exact .nil
  | 0, _ :: _, _, h, _ => by simp [D.shs] at h
  | n + 1, x :: l, _, h, r => by
    cases r with
    | cons r1 r2 =>
      have h' : D.sh n x = true ∧ D.shs (n + 1) l = true := by simpa [D.shs] using h
      exact .cons (dp_of ih n x _ h'.1 r1) (dps_of ih (n + 1) l _ h'.2 r2)
end
mutual
theorem lay_of : ∀ (n : Nat) (x : D), D.sh n x = true → x.py.canLay0 = true ∧ x.py.depth ≤ n
  | _, .non, _ => ⟨rfl, Nat.zero_le _⟩
  | _, .bl b, _ => ⟨rfl, Nat.zero_le _⟩
  | _, .int i, _ => ⟨rfl, Nat.zero_le _⟩
  | _, .str s, h => ⟨by have h' : PyData.canLay0 (.str s) = true := by simpa [D.sh] using h
                        exact h', Nat.zero_le _⟩
  | n, .lst l, h => by
    obtain ⟨h1, m, h2, h3⟩ := lays_of n l (by simpa [D.sh] using h)
    refine ⟨by simpa [D.py, PyData.canLay0] using h1, ?_⟩
    show PyData.depthAll (D.pys l) + 1 ≤ n
    omega
  | n, .tup l, h => by
    obtain ⟨h1, m, h2, h3⟩ := lays_of n l (by simpa [D.sh] using h)
    refine ⟨by simpa [D.py, PyData.canLay0] using h1, ?_⟩
    show PyData.depthAll (D.pys l) + 1 ≤ n
    omega
  | _, .scr _, h => by simp [D.sh] at h
  | _, .ins _ _, h => by simp [D.sh] at h
  | _, .ty _, h => by simp [D.sh] at h
  | _, .cls _, h => by simp [D.sh] at h
  | _, .dic _ _, h => by simp [D.sh] at h
theorem lays_of : ∀ (n : Nat) (l : List D), D.shs n l = true → PyData.canLayAll0 (D.pys l) = true ∧ ∃ m, n = m + 1 ∧ PyData.depthAll (D.pys l) ≤ m
  | 0, l, h => by cases l <;> simp [D.shs] at h
  | n + 1, [], _ => ⟨rfl, n, rfl, Nat.zero_le _⟩
  | n + 1, x :: l, h => by
    have h' : D.sh n x = true ∧ D.shs (n + 1) l = true := by simpa [D.shs] using h
    obtain ⟨a1, a2⟩ := lay_of n x h'.1
    obtain ⟨b1, m, e, b2⟩ := lays_of (n + 1) l h'.2
    have em : m = n := by omega
    subst em
    refine ⟨by simp [D.pys, PyData.canLayAll0, a1, b1], m, rfl, ?_⟩
    show max (PyData.depth x.py) (PyData.depthAll (D.pys l)) ≤ m
    omega
end
theorem shaped_of {n : Nat} {x : D} (h : D.sh n x = true) (hn : n ≤ 64) : SeqAt.shaped x.py = true := by
  obtain ⟨h1, h2⟩ := lay_of n x h
  unfold SeqAt.shaped
  rw [h1, decide_eq_true (by omega)]
  rfl
/-- what == gives -/
def deq (x y : D) : Bool := PyData.eqv x.py y.py
theorem wr_eqD {x y : D} {n m : Nat} (hx : D.sh n x = true) (hy : D.sh m y = true) (hn : n ≤ 64) (hm : m ≤ 64) (p : Φ (.bl (deq x y)) δ) : WR W (rEqD W.K) x y δ Φ := fun I H σ va vb k ra rb Q q =>
  ⟨x.py, y.py, dp_of k.ih n x va hx ra, dp_of k.ih m y vb hy rb, shaped_of hx hn, shaped_of hy hm, q _ δ _ I H p k (Sx.refl _ _ _) (.bl _)⟩
theorem wr_neD {x y : D} {n m : Nat} (hx : D.sh n x = true) (hy : D.sh m y = true) (hn : n ≤ 64) (hm : m ≤ 64) (p : Φ (.bl (!deq x y)) δ) : WR W (rNeD W.K) x y δ Φ := fun I H σ va vb k ra rb Q q =>
  ⟨x.py, y.py, dp_of k.ih n x va hx ra, dp_of k.ih m y vb hy rb, shaped_of hx hn, shaped_of hy hm, q _ δ _ I H p k (Sx.refl _ _ _) (.bl _)⟩
theorem deq_int (i j : Int) : deq (.int i) (.int j) = decide (i = j) := by
  show (i == j) = decide (i = j)
  rw [Bool.eq_iff_iff]
  simp
theorem pys_map (f : Int → D) (g : Int → PyData) (h : ∀ i, (f i).py = g i) : ∀ ns : List Int, D.pys (ns.map f) = ns.map g
  | [] => rfl
  | n :: ns => by
    show (f n).py :: D.pys (ns.map f) = g n :: ns.map g
    rw [h, pys_map f g h ns]

/-! ### is it a .. -/
def D.tyN : D → String
  | .non => "NoneType"
  | .bl _ => "bool"
  | .int _ => "int"
  | .str _ => "str"
  | .lst _ => "list"
  | .tup _ => "tuple"
  | _ => ""
def D.pln : D → Bool
  | .non => true | .bl _ => true | .int _ => true | .str _ => true | .lst _ => true | .tup _ => true
  | _ => false
theorem tyx_sqt {K : PySem.W.Frag} {H : Hp} {p : Addr} {vs : List V} (h : SqT K H p vs) : TyX K H (.ref p) (.type "tuple") := by
  rcases h with (h | ⟨o, h⟩) | ⟨o, _, _, h, c, _⟩
  · exact .base (.tup h)
  · exact .fTuple h
  · exact .kTuple h c
theorem tyx_of {I H : Hp} (ih : Ex I H) {x : D} {v : V} (h : x.pln = true) (r : Rp W I x v) : TyX W.K H v (.type x.tyN) := by
  cases r with
  | non => exact .base .non
  | bl b => exact .base (.bl b)
  | int i => exact .base (.int i)
  | str s => exact .base (.str s)
  | lst h1 r => exact .base (.lst (ih _ _ h1))
  | tup h1 r => exact tyx_sqt (sqT_ex ih h1)
  | scr h1 => simp [D.pln] at h
  | ins h1 k r => simp [D.pln] at h
  | ty n => simp [D.pln] at h
  | cls c => simp [D.pln] at h
  | dic h1 k r => simp [D.pln] at h
  | fz h1 k r => simp [D.pln] at h
theorem wc_isi {x : D} {T : String} {b : Bool} (hp : x.pln = true) (h : kitB x.tyN T = some b) (p : Φ (.bl b) δ) : WC W (rIsi W.K) [x, .ty T] δ Φ := fun I H σ vs k r Q q => by
  obtain ⟨v, w, rfl, rv, rw'⟩ := rps2 r
  cases rw'
  exact ⟨v, .ty T, .type x.tyN, .type T, b, rfl, .ty T, tyx_of k.ih hp rv, kit_ty h, q _ δ _ I H p k (Sx.refl _ _ _) (.bl _)⟩
theorem we_ty {T : String} (p : Φ (.ty T) δ) : WE W (tC (.ty T)) δ Φ := we_c (fun _ => .ty T) p

/-! ### slices -/
def cutD (l : List D) (lo hi : Option Int) : List D := (l.drop (HT.sIx l.length 0 lo)).take (HT.sIx l.length l.length hi - HT.sIx l.length 0 lo)
theorem Rps.cut {I : Hp} {l : List D} {vs : List V} (r : Rps W I l vs) (lo hi : Option Int) : Rps W I (cutD l lo hi) (cutV vs lo hi) := by
  unfold cutD cutV
  rw [← r.length]
  exact (r.drop _).take _
theorem wo_none {Φ : Option Int → Fr → Prop} (p : Φ none δ) : WO W tNoPart δ Φ := fun I H σ k Q q => q none δ I H p k (Sx.refl _ _ _)
theorem wo_some {te : TE} {Φ : Option Int → Fr → Prop} (h : WE W te δ fun x δ1 => ∃ i, x = .int i ∧ Φ (some i) δ1) : WO W (tPart te) δ Φ := fun I H σ k Q q =>
  h I H σ k _ fun x δ1 v I1 H1 ⟨i, e, p⟩ k1 s1 r1 => by
    subst e
    cases r1
    exact ⟨i, rfl, q _ δ1 I1 H1 p k1 s1⟩
def rSlU (K : PySem.W.Frag) : V → Option Int → Option Int → Hp → VK → Prop := fun x lo hi H Q => rSlL K x lo hi H Q ∨ rSlA K x lo hi H Q ∨ rSlS x lo hi H Q
theorem sl_U {X : Cx} : SlR X (rSlU X.K) := sl_list.or (sl_tupA.or sl_str)
theorem wl_slL {te : TE} {tl th : TO} {Φ : List D → Fr → Prop} (h : WE W te δ fun x δ1 => ∃ l, x = .lst l ∧ WO W tl δ1 fun lo δ2 => WO W th δ2 fun hi δ3 => Φ (cutD l lo hi) δ3) : WL W (tSl (rSlU W.K) te tl th) δ Φ := fun I H σ k Q q =>
  h I H σ k _ fun x δ1 v I1 H1 ⟨l, e, h1⟩ k1 s1 r1 => h1 I1 H1 σ k1 _ fun lo δ2 I2 H2 h2 k2 s2 => h2 I2 H2 σ k2 _ fun hi δ3 I3 H3 p k3 s3 => by
    subst e
    obtain ⟨a, vs, rfl, ha, r⟩ := rp_lst r1
    have r3 := r.mono (s2.ii.trans s3.ii)
    exact .inl ⟨a, vs, rfl, sq_l k3.ih (s3.ii _ _ (s2.ii _ _ ha)), wl_new p k3 ((s1.trans s2).trans s3) (r3.cut lo hi) q⟩
theorem whole_cut {l : List D} {lo hi : Option Int} (h : HT.sIx l.length 0 lo = 0 ∧ HT.sIx l.length l.length hi = l.length) : cutD l lo hi = l := by
  unfold cutD
  rw [h.1, h.2]
  simp
theorem we_slT {te : TE} {tl th : TO} (h : WE W te δ fun x δ1 => ∃ l, x = .tup l ∧ WO W tl δ1 fun lo δ2 => WO W th δ2 fun hi δ3 => Φ (.tup (cutD l lo hi)) δ3) : WE W (tSl (rSlU W.K) te tl th) δ Φ := fun I H σ k Q q =>
  h I H σ k _ fun x δ1 v I1 H1 ⟨l, e, h1⟩ k1 s1 r1 => h1 I1 H1 σ k1 _ fun lo δ2 I2 H2 h2 k2 s2 => h2 I2 H2 σ k2 _ fun hi δ3 I3 H3 p k3 s3 => by
    subst e
    obtain ⟨a, vs, rfl, ha, r⟩ := rp_tup r1
    have r3 := r.mono (s2.ii.trans s3.ii)
    have ha3 := sqT_ex s3.ii (sqT_ex s2.ii ha)
    refine .inr (.inl ⟨a, vs, rfl, sq_t k3.ih ha3, fun z => ?_, fun _ => new_tup k3 (r3.cut lo hi) fun c hc k4 s4 r4 => q _ δ3 _ _ _ p k4 (((s1.trans s2).trans s3).trans s4) r4⟩)
    have e := r.length
    rw [← e] at z
    have p' : Φ (.tup (cutD l lo hi)) δ3 := p
    rw [whole_cut z] at p'
    have p := p'
    exact q _ δ3 _ I3 H3 p k3 ((s1.trans s2).trans s3) (.tup ha3 r3)
theorem we_slS {te : TE} {tl th : TO} (h : WE W te δ fun x δ1 => ∃ s, x = .str s ∧ s.length ≤ 100000 ∧ WO W tl δ1 fun lo δ2 => WO W th δ2 fun hi δ3 => Φ (.str (cutS s lo hi)) δ3) : WE W (tSl (rSlU W.K) te tl th) δ Φ := fun I H σ k Q q =>
  h I H σ k _ fun x δ1 v I1 H1 ⟨l, e, hz, h1⟩ k1 s1 r1 => h1 I1 H1 σ k1 _ fun lo δ2 I2 H2 h2 k2 s2 => h2 I2 H2 σ k2 _ fun hi δ3 I3 H3 p k3 s3 => by
    subst e
    cases r1
    exact .inr (.inr ⟨l, rfl, sz_of hz, q _ δ3 _ I3 H3 p k3 ((s1.trans s2).trans s3) (.str _)⟩)

/-! ### loops over a list or a tuple -/
def iSeq (K : PySem.W.Frag) (te : TE) : TI := fun σ H R => iList K te σ H R ∨ iTup K te σ H R
theorem pi_seq {X : Cx} {tg e : Expr} {te : TE} (h : PE X e te) : PI X tg e (iSeq X.K te) := piOr (pi_list h) (pi_tup h)
theorem wi_seqL {te : TE} {Φ : List D → Fr → Prop} (h : WE W te δ fun x δ1 => ∃ l, x = .lst l ∧ Φ l δ1) : WI W (iSeq W.K te) δ Φ := fun I H σ k R q => .inl (wi_list h I H σ k R q)
theorem wi_seqT {te : TE} {Φ : List D → Fr → Prop} (h : WE W te δ fun x δ1 => ∃ l, x = .tup l ∧ Φ l δ1) : WI W (iSeq W.K te) δ Φ := fun I H σ k R q => .inr (wi_tup h I H σ k R q)

/-! ### x in xs -/
def D.flat : D → Bool
  | .non => true | .bl _ => true | .int _ => true | .str _ => true
  | _ => false
def eqF : D → D → Bool
  | .non, .non => true
  | .bl a, .bl b => a == b
  | .bl a, .int b => (if a then 1 else 0) == b
  | .int a, .bl b => a == (if b then 1 else 0)
  | .int a, .int b => a == b
  | .str a, .str b => a == b
  | _, _ => false
theorem flat_of {I : Hp} {x : D} {v : V} (h : x.flat = true) (r : Rp W I x v) : flatV v = true := by
  cases r <;> first | rfl | (simp [D.flat] at h)
theorem eqF_of {I : Hp} {x y : D} {v w : V} (hx : x.flat = true) (hy : y.flat = true) (r : Rp W I x v) (s : Rp W I y w) : eqV v w = eqF x y := by
  cases r <;> cases s <;> first | rfl | (simp [D.flat] at hx; done) | (simp [D.flat] at hy; done)
def inD (x : D) (l : List D) : Bool := l.any fun y => eqF y x
theorem flats_of {I : Hp} : ∀ {l : List D} {vs : List V}, l.all D.flat = true → Rps W I l vs → vs.all flatV = true
  | _, _, _, .nil => rfl
  | _, _, h, .cons h1 r => by
    have h' := h
    simp only [List.all_cons, Bool.and_eq_true] at h'
    simp only [List.all_cons, Bool.and_eq_true]
    exact ⟨flat_of h'.1 h1, flats_of h'.2 r⟩
theorem in_of {I : Hp} {x : D} {v : V} (hx : x.flat = true) (rx : Rp W I x v) : ∀ {l : List D} {vs : List V}, l.all D.flat = true → Rps W I l vs → inV v vs = inD x l
  | _, _, _, .nil => rfl
  | _, _, h, .cons h1 r => by
    have h' := h
    simp only [List.all_cons, Bool.and_eq_true] at h'
    have ih := in_of hx rx h'.2 r
    unfold inV inD at ih ⊢
    simp only [List.any_cons]
    rw [eqF_of h'.1 hx h1 rx, ih]
theorem wr_inL {x : D} {l : List D} {neg : Bool} (hx : x.flat = true) (hl : l.all D.flat = true) (p : Φ (.bl (if neg then !inD x l else inD x l)) δ) : WR W (L2.rIn W.K neg) x (.lst l) δ Φ := fun I H σ va vb k ra rb Q q => by
  obtain ⟨a, vs, rfl, ha, r⟩ := rp_lst rb
  refine ⟨a, vs, rfl, .inl (sq_l k.ih ha), flat_of hx ra, flats_of hl r, ?_⟩
  rw [in_of hx ra hl r]
  exact q _ δ _ I H p k (Sx.refl _ _ _) (.bl _)
theorem wr_inT {x : D} {l : List D} {neg : Bool} (hx : x.flat = true) (hl : l.all D.flat = true) (p : Φ (.bl (if neg then !inD x l else inD x l)) δ) : WR W (L2.rIn W.K neg) x (.tup l) δ Φ := fun I H σ va vb k ra rb Q q => by
  obtain ⟨a, vs, rfl, ha, r⟩ := rp_tup rb
  refine ⟨a, vs, rfl, .inr (sq_t k.ih ha), flat_of hx ra, flats_of hl r, ?_⟩
  rw [in_of hx ra hl r]
  exact q _ δ _ I H p k (Sx.refl _ _ _) (.bl _)
end
end Dt

namespace L2
theorem Room.units64 {k : Nat} {A : PySem.Around} (r : Room k A) : A.units + 64 < PySem.cLine := by
  have := r.un
  omega
end L2

/-! enumerate over a tuple -/
namespace PySem
open Sem (wp)
open AutoSeq1 (wpAny_loadPart')
set_option maxHeartbeats 1000000 in
theorem dx_enum_new (l : Addr) (items : Array Value) (n : Nat) (dct : Option Addr) (sl : Array (Option Value)) :
    Meets (Builtin.«enumerate.__new__» ⟨[.type "enumerate", .ref l], []⟩) (fun _ R s => s.heap.get? l = some { cls := .type "tuple", dict := dct, data := .seq items n, slots := sl } ∧
      R (.ok (.ret (.ref (s.heap.push { cls := .type "tuple_iterator", data := .fields #[.ref l, .int 0 0] }).objs.size)))
        { s with heap := (s.heap.push { cls := .type "tuple_iterator", data := .fields #[.ref l, .int 0 0] }).push { cls := .type "enumerate", data := .fields #[.none, .bool false, .ref s.heap.objs.size, rawInt 0, .none, .none] } }) :=
  .of_wp fun prog w A R s h => by
    obtain ⟨hp, g, d, tk, os⟩ := s; obtain ⟨hl, h⟩ := h
    have hsub := sub_enumerate
    have hL : Heap.IsTuple (Shared.heap ⟨hp, g, d, tk, os⟩) l items := ⟨_, hl, rfl, n, rfl⟩
    wp_walk using wpAny_loadPart' hl
    refine wpAny_stack_any fun st => wpAny_pure ?_
    split
    · rename_i c _ _ _ _ _
      cases (c == Value.type "enumerate")
      · wp_walk using wpAny_loadPart' hl, wpAny_pyIter_tuple hL
        exact ⟨_, rfl, h⟩
      · wp_walk using wpAny_loadPart' hl, wpAny_pyIter_tuple hL
        exact ⟨_, rfl, h⟩
    · wp_walk using wpAny_loadPart' hl, wpAny_pyIter_tuple hL
      exact ⟨_, rfl, h⟩
section
variable {prog : Program} {w : World} {A : Around} {E : Value → Shared → Prop} {s : Shared}
theorem dx_call_enum {l : Addr} {items : Array Value} {Q : Value → Shared → Prop} (hL : s.heap.IsTuple l items)
    (h : ∀ h', IsEnum h' (s.heap.objs.size + 1) s.heap.objs.size 0 .none → h'.IsTupleIter s.heap.objs.size l 0 → h'.objs.size = s.heap.objs.size + 2 →
      (∀ b o, s.heap.get? b = some o → h'.get? b = some o) → Q (.ref (s.heap.objs.size + 1)) { s with heap := h' }) :
    wpAny (model prog w) A (call (.type "enumerate") [.ref l]) Q E s := by
  obtain ⟨⟨c, dct, dt, sl⟩, hl, hc, n, hd⟩ := hL
  replace hc : c = .type "tuple" := hc
  replace hd : dt = .seq items n := hd
  subst hc hd
  refine callType_new F.called_enumerate (by decide) (F.typeCall_enumerate_1 _) (F.newCall_enumerate_1 _) (fun obj => F.args_object_init_2 obj _) F.entry_enumerate_new
    (dx_enum_new l items n dct sl) ⟨hl, ?_⟩
  have hz : (s.heap.push { cls := .type "tuple_iterator", data := .fields #[.ref l, .int 0 0] }).objs.size = s.heap.objs.size + 1 := Heap.size_push ..
  show _ ∧ _
  rw [hz]
  have he : IsEnum ((s.heap.push { cls := .type "tuple_iterator", data := .fields #[.ref l, .int 0 0] }).push
      { cls := .type "enumerate", data := .fields #[.none, .bool false, .ref s.heap.objs.size, rawInt 0, .none, .none] }) (s.heap.objs.size + 1) s.heap.objs.size 0 .none := by
    have := Heap.get?_push_size (s.heap.push { cls := .type "tuple_iterator", data := .fields #[.ref l, .int 0 0] })
      (o := { cls := .type "enumerate", data := .fields #[.none, .bool false, .ref s.heap.objs.size, rawInt 0, .none, .none] }) rfl
    rw [hz] at this; exact this
  refine ⟨⟨_, he, rfl⟩, h _ he ⟨_, Heap.get?_push_of_some _ (Heap.get?_push_size _ rfl), rfl, rfl⟩ (by rw [Heap.size_push, hz]) fun b o x => Heap.get?_push_of_some _ (Heap.get?_push_of_some _ x)⟩
end
end PySem
namespace L2
open PySem PySem.Spec PyProof.Rows
def IteT (K : PySem.W.Frag) (a : Addr) : It :=
  ⟨fun i H => ∃ (xs : List V) (x : V), SqT K H a xs ∧ xs[i]? = some x, fun i H v H' => ∃ T x, v = .ref T ∧ H T = none ∧ H' = upd H T (.tup [.int (i : Nat), x]) ∧ ∀ xs, SqT K H a xs → xs[i]? = some x, fun i H => ∃ xs : List V, SqT K H a xs ∧ i = xs.length⟩
theorem turn_enumT {P : Program} {w : World} {K : PySem.W.Frag} {elts : List Expr} {kk : Nat} {tpos : Pos} {a e it : Addr} (hae : a ≠ e) (hai : a ≠ it) (hei : e ≠ it) :
    Turn P w K (.Tuple elts kk tpos) (IteT K a) [e, it] e (fun i h => (∃ old, IsEnum h e it ((i : Nat) : Int) old) ∧ h.IsTupleIter it a i) where
  mem := by simp
  obj := fun i h st b hb => by
    obtain ⟨⟨old, he⟩, ⟨o, ho, hc, hd⟩⟩ := st
    have e' : b = e ∨ b = it := by simpa using hb
    rcases e' with z | z
    · rw [z]; exact ⟨_, he, fun v q => nomatch q⟩
    · rw [z]; exact ⟨o, ho, fun v q => by rw [hd] at q; cases q⟩
  keep := fun i h h' st k => let ⟨⟨old, he⟩, hi⟩ := st; ⟨⟨old, k e (by simp) _ he⟩, hi.at fun o q => k it (by simp) o q⟩
  item := by
    intro X hP hw hK hc i pins s σ H E I hf st hg
    subst hP hw hK
    obtain ⟨⟨old, he⟩, hit⟩ := st
    obtain ⟨xs, x, hq, hx⟩ := hg
    obtain ⟨its2, rv, p, hz⟩ := I.tuple hq
    obtain ⟨u, hu, ru⟩ := rv.get hx
    have hel : e < s.heap.objs.size := Heap.lt_size he
    have hil : it < s.heap.objs.size := by obtain ⟨_, q, _⟩ := hit; exact Heap.lt_size q
    have D := Draws.tuple (prog := X.prog) (w := X.w) (A := X.A.in1) (I.ok.hd hc) it a hai its2.toArray
    have hlt : i < its2.toArray.size := by
      rw [List.size_toArray]
      exact (List.getElem?_eq_some_iff.mp hu).1
    refine wpAny_pyNext_enum_itemD D he ⟨hit, p⟩ hlt hei (by simp [hei, Ne.symm hae]) fun x' h' tk hPx ho st' hT hsz hk => ?_
    have ex : x' = u := by
      have z := hPx
      rw [show its2.toArray[i]? = its2[i]? by simp, hu] at z
      exact (Option.some.inj z).symm
    subst ex
    refine ⟨_, rfl, wpAny_letOwnedTupleGo_enum (s := { s with heap := h', toks := tk + 1 }) ho fun h'' he' sb => ?_⟩
    have hT2 : h''.get? s.heap.objs.size = some { cls := .type "tuple", data := .seq #[.int i tk, x'] } := (sb.2 _ (Nat.ne_of_gt hel)).trans hT
    have new : ObjOk X.prog X.w (upd H s.heap.objs.size (.tup [.int (i : Nat), x])) h'' s.heap.objs.size (.tup [.int (i : Nat), x]) :=
      ⟨by show 2 ≤ sizeLine; decide, [.int i tk, x'], .cons ⟨_, rfl⟩ (.cons ru .nil), ⟨_, hT2, rfl, _, rfl⟩⟩
    have I1 : Inv X pins σ (upd H s.heap.objs.size (.tup [.int (i : Nat), x])) { s with heap := h'', toks := tk + 1 } :=
      I.turnedNew (ch := [e, it]) (fun b ob hb q => (sb.2 b (fun z => hb (by simp [z]))).trans (hk b ob (fun z => hb (by simp [z])) (fun z => hb (by simp [z])) q)) hf (Nat.le_refl _) new
    refine ⟨.ref s.heap.objs.size, _, I1, rfl, ⟨_, x, rfl, I.hok.fresh (Nat.le_refl _), rfl, fun ys hy => by rw [I.tuple_inj hy hq]; exact hx⟩, ⟨⟨x', ?_⟩, st'.1.at fun o q => (sb.2 it (Ne.symm hei)).trans q⟩, fun b hb => ?_⟩
    · have e1 : ((i + 1 : Nat) : Int) = (i : Int) + 1 := by omega
      rw [e1]; exact he'
    · have hb' : b < s.heap.objs.size := by
        have e' : b = e ∨ b = it := by simpa using hb
        rcases e' with z | z
        · rw [z]; exact hel
        · rw [z]; exact hil
      rw [upd_ne (Nat.ne_of_lt hb')]
      exact (hf b hb).1
  done := by
    intro X hP hw hK hc i pins s σ H E I hf st hg
    subst hP hw hK
    obtain ⟨⟨old, he⟩, hit⟩ := st
    obtain ⟨xs, hq, hx⟩ := hg
    obtain ⟨its2, rv, p, hz⟩ := I.tuple hq
    obtain ⟨f0, f1, f2, f3, f4, f5⟩ := hf it (by simp)
    have hl := rv.length
    have D := Draws.tuple (prog := X.prog) (w := X.w) (A := X.A.in1) (I.ok.hd hc) it a hai its2.toArray
    have ei : i = its2.toArray.size := by rw [List.size_toArray]; omega
    exact wpAny_pyNext_enum_endD D he (by rw [← ei]; exact ⟨hit, p⟩) fun h' eb => ⟨rfl, I.turned (t' := s.toks) (fun b o hb q => eb b o hb q) f0 f1 f3 f4 f5⟩
  self := fun A i s Q E st h => let ⟨⟨_, he⟩, _⟩ := st; wpAny_pyIter_enum he h
def iEnumT (K : PySem.W.Frag) (ta : TA) : TI := fun σ H R => ta σ H fun vs H1 => ∃ a xs, vs = [.ref a] ∧ SqT K H1 a xs ∧ R (IteT K a) H1
theorem pi_enumT {X : Cx} {e : Expr} {ta : TA} {p pos tpos : Pos} {elts : List Expr} {kk : Nat} (hg : Gl X "enumerate") (hm : X.mg "enumerate" = none) (ha : PA X [e] ta) (hs : starEach [e] X.env = [(false, eval e X.env)] := by rfl) :
    PI X (.Tuple elts kk tpos) (.Call (.Name "enumerate" p) [e] [] pos) (iEnumT X.K ta) := by
  refine ⟨fun pins s σ H R I h => ?_⟩
  refine Call_ (ld_blt I hg hm boot_enumerate (PyProof.Rows.callWith_type1 (thn (ha.run pos pins s σ H _ I h) fun us s1 ⟨vs, H1, I1, r1, q1⟩ => ?_) hs rfl))
  obtain ⟨a, xs, ex, hq, q⟩ := q1
  subst ex
  cases r1 with
  | cons r rr =>
    cases rr
    cases r
    obtain ⟨its, rv, p', hz⟩ := I1.tuple hq
    have hlt : a < s1.heap.objs.size := by
      obtain ⟨o, ho, _⟩ := p'
      exact Heap.lt_size ho
    refine dx_call_enum (show s1.heap.IsTuple a its.toArray from p') fun h' he hit hsz hk => wpAny_pyIter_enum he ?_
    have I2 : Inv X pins σ H1 { s1 with heap := h' } := I1.kept (t' := s1.toks) hk
    refine ⟨s1.heap.objs.size + 1, [s1.heap.objs.size + 1, s1.heap.objs.size], _, _, H1, rfl, I2, turn_enumT (a := a) (e := s1.heap.objs.size + 1) (it := s1.heap.objs.size) (Nat.ne_of_lt (Nat.lt_succ_of_lt hlt)) (Nat.ne_of_lt hlt) (Nat.succ_ne_self _), ⟨⟨.none, he⟩, hit⟩, fun b hb => ?_, q⟩
    have e' : b = s1.heap.objs.size + 1 ∨ b = s1.heap.objs.size := by simpa using hb
    have hle : s1.heap.objs.size ≤ b := by
      rcases e' with z | z
      · rw [z]; exact Nat.le_add_right _ _
      · rw [z]; exact Nat.le_refl _
    exact I1.fpOk hle (I1.hok.fresh hle)
/-! set(t) of a tuple of ints -/
def rSetT (K : PySem.W.Frag) (w : World) : List V → Hp → VK → Prop := fun vs H Q => ∃ (p : Addr) (ns : List Int), vs = [.ref p] ∧ SqT K H p (ns.map V.int) ∧ ns.length ≤ 1000 ∧
  ∀ (q : Addr) (c : Nat), H q = none → c ≤ ns.length → Q (.ref q) (upd H q (SetO w q (fun j => decide (j ∈ ns)) c))
theorem cr_setT {X : Cx} (hc : X.calm = true) : CallR X (.type "set") (rSetT X.K X.w) := by
  intro pins s σ H vs us Q I r h
  obtain ⟨p0, ns, e1, hq, hl, q⟩ := h
  subst e1
  cases r with
  | cons r rr =>
    cases rr
    cases r
    obtain ⟨its, rv, pt, hz⟩ := I.tuple hq
    have hi : IntsAre its.toArray.toList ns := ints_of_vals rv
    refine call_set_tupI ns (I.ok.hd hc) (show s.heap.IsTuple p0 its.toArray from pt) hi (by unfold scanBound; omega) fun h' tk c R1 hcn k => ?_
    have hn := I.hok.fresh (Nat.le_refl s.heap.objs.size)
    exact ⟨.ref s.heap.objs.size, _, I.laid (t' := tk) k (Nat.le_refl _) (setO_new R1), rfl, q _ c hn hcn⟩
/-! t[::-1] -/
theorem adjust_rev (n : Nat) : Builtin.Slice.sliceAdjust none none (-1) (n : Int) = ((n : Int) - 1, -1) := by
  unfold Builtin.Slice.sliceAdjust
  rfl
theorem places_rev (n : Nat) : Builtin.Slice.slicePlaces ((n : Int) - 1) (-1) (-1) = n := by
  unfold Builtin.Slice.slicePlaces
  rw [if_neg (by decide), show (-(-1) : Int) = 1 from rfl, Int.ediv_one]
  by_cases h : (n : Int) - 1 > -1
  · rw [if_pos h]; omega
  · rw [if_neg h]; omega
theorem pick_rev (xs : Array Value) : ((List.range xs.size).filterMap fun (m : Nat) => xs[(((xs.size : Nat) : Int) - 1 + (m : Int) * -1).toNat]?).toArray = xs.toList.reverse.toArray := by
  have e2 : (List.range xs.size).filterMap (fun (m : Nat) => xs[(((xs.size : Nat) : Int) - 1 + (m : Int) * -1).toNat]?) = ((List.range xs.size).map (fun (m : Nat) => (((xs.size : Nat) : Int) - 1 + (m : Int) * -1).toNat)).filterMap (fun j => xs[j]?) := by
    rw [List.filterMap_map]
    rfl
  have e : (List.range xs.size).map (fun (m : Nat) => (((xs.size : Nat) : Int) - 1 + (m : Int) * -1).toNat) = (List.range xs.size).map (fun m => xs.size - 1 - m) := List.map_congr_left fun m hm => by
    have := List.mem_range.mp hm
    omega
  rw [e2, e, PySem.W.krv_range, List.filterMap_reverse, PySem.W.krv_all]
end L2
namespace HT
open PySem PySem.Spec PyProof.Rows
section
variable {prog : Program} {w : World} {A : Around} {E : Value → Shared → Prop} {s : Shared}
theorem sliceApplied_rev {sl : Addr} {vl vu vk : Value} {n : Nat} {Q : Int × Int × Nat → Shared → Prop} (hs : s.heap.IsSliceOf sl vl vu vk) (pl : IsPart vl none) (pu : IsPart vu none) (pk : IsPart vk (some (-1)))
    (h : Q ((n : Int) - 1, -1, n) s) : wpAny (model prog w) A (Builtin.Slice.sliceApplied (.ref sl) (pure (n : Int))) Q E s := by
  obtain ⟨os, hos, hcs, hds⟩ := id hs
  unfold Builtin.Slice.sliceApplied Builtin.Slice.sliceFields
  refine wpAny_bind (wpAny_bind (wpAny_field hos hds (x := vl) rfl (wpAny_bind (wpAny_field hos hds (x := vu) rfl (wpAny_bind (wpAny_field hos hds (x := vk) rfl (wpAny_pure ?_)))))))
  refine wpAny_bind (slicePart_ pk ?_)
  show wpAny _ _ (if ((-1 : Int) == 0) = true then _ else _) _ _ s
  rw [if_neg (by decide)]
  refine wpAny_bind (slicePart_ pl (wpAny_bind (slicePart_ pu (wpAny_bind (wpAny_pure ?_)))))
  show wpAny _ _ (match Builtin.Slice.sliceAdjust none none (-1) (n : Int) with | (lo, hi) => pure (lo, (-1 : Int), Builtin.Slice.slicePlaces lo hi (-1))) _ _ s
  rw [L2.adjust_rev n]
  show wpAny _ _ (pure ((n : Int) - 1, (-1 : Int), Builtin.Slice.slicePlaces ((n : Int) - 1) (-1) (-1))) _ _ s
  rw [L2.places_rev]
  exact wpAny_pure h
theorem getItem_tuple_rev {t sl : Addr} {items : Array Value} {vl vu vk : Value} {Q : Value → Shared → Prop} (ht : IsTup s.heap t items) (hs : s.heap.IsSliceOf sl vl vu vk) (pl : IsPart vl none) (pu : IsPart vu none) (pk : IsPart vk (some (-1)))
    (h : Q (.ref s.heap.objs.size) { s with heap := s.heap.push { cls := .type "tuple", data := .seq items.toList.reverse.toArray } })
    (hsz : items.size ≤ sizeLine) : wpAny (model prog w) A (getItem (.ref t) (.ref sl)) Q E s := by
  have htake : sizeOk (.seq items.toList.reverse.toArray) := by
    show items.toList.reverse.toArray.size ≤ sizeLine
    rw [List.size_toArray, List.length_reverse, Array.length_toList]
    omega
  obtain ⟨os, hos, hcs, hds⟩ := id hs
  have hTs : s.TypeIs (.ref sl) "slice" := ⟨os, hos, hcs⟩
  unfold getItem
  try with_reducible refine wpAny_holding ?_
  first | refine wpAny_bind (wpAny_pure ?_) | skip
  refine wpAny_bind (wpAny_sequenceKey ht.typeIs (by decide) ?_)
  refine wpAny_bind (wpAny_callSpecial?_slot (name := Str.ofString "__getitem__") ht.typeIs PyProof.Rows.slot_tuple_getitem
    (wpAny_call_entry PyProof.Rows.slot_tuple_getitem ht.typeIs entry_tuple_getitem ?_ (args_tuple_getitem _ _)))
  show wpAny _ _ (Builtin.Tuple.tupleItemsOf (.ref t) >>= _) _ _ s
  refine wpAny_bind (tupleItemsOf_ ht ?_)
  refine wpAny_bind (wpAny_typeOf hTs ?_)
  rw [if_pos (by decide)]
  refine wpAny_bind (sliceApplied_rev hs pl pu pk ?_)
  have hno : ¬ (((((items.size : Nat) : Int) - 1) == 0 && (-1 : Int) == 1 && items.size == items.size) = true) := by
    simp
  show wpAny _ _ (if ((((items.size : Nat) : Int) - 1) == 0 && (-1 : Int) == 1 && items.size == items.size) = true then _ else _) _ _ s
  rw [if_neg hno, L2.pick_rev]
  first
    | exact wpAny_bind (m := Builtin.Tuple.tupleExact _) (wpAny_newObj_type (wpAny_pure ⟨_, rfl, wpAny_pure h⟩) htake)
    | exact wpAny_bind (m := Builtin.Tuple.tupleExact _) (wpAny_newObj_type (wpAny_bind (wpAny_pure (wpAny_pure ⟨_, rfl, wpAny_pure h⟩))) htake)
    | exact wpAny_bind (wpAny_bind (m := Builtin.Tuple.tupleExact _) (wpAny_newObj_type (wpAny_pure (wpAny_pure ⟨_, rfl, wpAny_pure h⟩)) htake))
    | exact wpAny_bind (wpAny_bind (m := Builtin.Tuple.tupleExact _) (wpAny_newObj_type (wpAny_pure ⟨_, rfl, wpAny_pure h⟩) htake))
end
end HT
namespace L2
open PySem PySem.Spec PyProof.Rows
theorem Vals.rev : ∀ {xs : List V} {us : List Value}, Vals xs us → Vals xs.reverse us.reverse
  | _, _, .nil => .nil
  | _, _, .cons r t => by
    rw [List.reverse_cons, List.reverse_cons]
    exact Vals.append (Vals.rev t) (.cons r .nil)
def tRevT (K : PySem.W.Frag) (te : TE) : TE := fun σ H Q => te σ H fun x H1 => ∃ a xs, x = .ref a ∧ SqT K H1 a xs ∧ ∀ p, H1 p = none → Q (.ref p) (upd H1 p (.tup xs.reverse))
theorem pe_revT {X : Cx} {e : Expr} {te : TE} {k : Nat} {p1 p2 p3 pos : Pos} (he : PE X e te) : PE X (.Subscript e (.Slice none none (some (.UnaryOp .USub (.Constant (.int 1) k p1) p2)) p3) pos) (tRevT X.K te) := by
  refine ⟨fun pins s σ H Q I h => ?_⟩
  refine Subscript_ (thn (he.run pins s σ H _ I h) fun v s1 ⟨x, H1, I1, r1, q1⟩ => ?_)
  obtain ⟨a, xs, ex, hx, q⟩ := q1
  subst ex
  cases r1
  have hst : PO X (some (.UnaryOp .USub (.Constant (.int 1) k p1) p2)) (tPart (tUn (rU fun i => .int (-i)) (tC (.int 1)))) := po_some (pe_un un_neg pe_int)
  refine wpAny_Slice (thn (po_none.run pins s1 σ H1 (fun o H2 => o = none ∧ H2 = H1) I1 ⟨rfl, rfl⟩) fun vl s2 ⟨l, H2, I2, pl, el, e2⟩ => ?_)
  subst el e2
  refine thn (po_none.run pins s2 σ H2 (fun o H3 => o = none ∧ H3 = H2) I2 ⟨rfl, rfl⟩) fun vu s3 ⟨u, H3, I3, pu, eu, e3⟩ => ?_
  subst eu e3
  refine thn (hst.run pins s3 σ H3 (fun o H4 => o = some (-1) ∧ H4 = H3) I3 ⟨1, rfl, -1, rfl, rfl, rfl⟩) fun vs s4 ⟨o, H4, I4, ps, eo, e4⟩ => ?_
  subst eo e4
  have I5 : Inv X pins σ H4 { s4 with heap := s4.heap.push { cls := .type "slice", data := .fields #[vl, vu, vs] } } := I4.kept (t' := s4.toks) fun b ob q => Heap.get?_push_of_some _ q
  obtain ⟨its, r, ht, hz⟩ := I5.tuple hx
  have hlen := r.length
  show wpAny (model X.prog X.w) X.A (subscriptTail e (.Slice none none (some (.UnaryOp .USub (.Constant (.int 1) k p1) p2)) p3) (.ref a) (.ref s4.heap.objs.size)) (EP X pins σ Q) X.xe { s4 with heap := s4.heap.push { cls := .type "slice", data := .fields #[vl, vu, vs] } }
  refine tail_any (ops := [.ref a, .ref s4.heap.objs.size]) ht.typeIs (PyProof.Rows.slot_tuple_getitem.lookup) ?_ (by with_unfolding_all rfl)
  refine HT.getItem_tuple_rev ht (Heap.IsSliceOf.new _ vl vu vs) pl pu ps ?_ (by rw [List.size_toArray]; omega)
  refine ⟨.ref _, _, I5.laid (t' := s4.toks) (o := .tup xs.reverse) (fun b ob q => Heap.get?_push_of_some _ q) (Nat.le_refl _) ?_, rfl, q _ (I5.hok.fresh (Nat.le_refl _))⟩
  exact ⟨by rw [List.length_reverse]; omega, _, r.rev, IsTup.new _ _⟩
end L2

namespace Dt
open PySem L2
abbrev kvL (ks : List Int) (ws : List V) : List (Key × V) := (ks.map (Sum.inl (β := Str))).zip ws
theorem valV_at : ∀ {ks : List Int} {ws : List V} {k : Int} {j : Nat} {v : V}, ks[j]? = some k → (∀ m : Nat, m < j → ks[m]? ≠ some k) → ws[j]? = some v → valV (kvL ks ws) (Sum.inl k) = some v
  | [], _, _, _, _, h, _, _ => by simp at h
  | k0 :: ks, [], _, _, _, _, _, h => by simp at h
  | k0 :: ks, w :: ws, k, 0, v, h, _, h2 => by
    have e : k0 = k := by simpa using h
    have e2 : w = v := by simpa using h2
    subst e e2
    exact valV_pos rfl
  | k0 :: ks, w :: ws, k, j + 1, v, h, hm, h2 => by
    have ne : k0 ≠ k := fun e => hm 0 (by omega) (by rw [e]; rfl)
    show valV ((Sum.inl k0, w) :: kvL ks ws) (Sum.inl k) = some v
    rw [valV_neg (p := ((Sum.inl k0 : Key), w)) (fun e => ne (Sum.inl.inj e))]
    exact valV_at (j := j) (by simpa using h) (fun m hmj => by simpa using hm (m + 1) (by omega)) (by simpa using h2)
theorem valV_none : ∀ {ks : List Int} {ws : List V} {k : Int}, k ∉ ks → valV (kvL ks ws) (Sum.inl k) = none
  | [], _, _, _ => rfl
  | k0 :: ks, [], _, _ => rfl
  | k0 :: ks, w :: ws, k, h => by
    have ne : k0 ≠ k := fun e => h (by rw [e]; exact List.mem_cons_self)
    show valV ((Sum.inl k0, w) :: kvL ks ws) (Sum.inl k) = none
    rw [valV_neg (p := ((Sum.inl k0 : Key), w)) (fun e => ne (Sum.inl.inj e))]
    exact valV_none fun q => h (List.mem_cons_of_mem _ q)
theorem valV_some : ∀ {ks : List Int} {ws : List V} {k : Int}, ks.length = ws.length → k ∈ ks → ∃ v, valV (kvL ks ws) (Sum.inl k) = some v
  | [], _, _, _, h => by cases h
  | k0 :: ks, [], _, hl, _ => by simp at hl
  | k0 :: ks, w :: ws, k, hl, h => by
    by_cases e : k0 = k
    · exact ⟨w, valV_pos (p := ((Sum.inl k0 : Key), w)) (by rw [e])⟩
    · obtain ⟨v, hv⟩ := valV_some (ks := ks) (ws := ws) (k := k) (by simpa using hl) (by
        rcases List.mem_cons.mp h with q | q
        · exact absurd q.symm e
        · exact q)
      exact ⟨v, by
        show valV ((Sum.inl k0, w) :: kvL ks ws) (Sum.inl k) = some v
        rw [valV_neg (p := ((Sum.inl k0 : Key), w)) (fun q => e (Sum.inl.inj q))]
        exact hv⟩
theorem valV_dec {ks : List Int} {ws : List V} {k : Int} (hl : ks.length = ws.length) : (valV (kvL ks ws) (Sum.inl k)).isSome = decide (k ∈ ks) := by
  by_cases h : k ∈ ks
  · obtain ⟨v, hv⟩ := valV_some hl h
    rw [hv, decide_eq_true h]
    rfl
  · rw [valV_none h, decide_eq_false h]
    rfl
section
variable {W : Wd} {δ : Fr} {Φ : D → Fr → Prop}
theorem rp_dic {I : Hp} {ks : List Int} {l : List D} {v : V} (r : Rp W I (.dic ks l) v) : ∃ p ws, v = .ref p ∧ I p = some (.dK (kvL ks ws)) ∧ ks.length = ws.length ∧ Rps W I l ws := by
  cases r with
  | dic h k r => exact ⟨_, _, rfl, h, k, r⟩
theorem we_din {ty td : TE} (h : WE W ty δ fun y δ1 => WE W td δ1 fun x δ2 => ∃ k ks vs, y = .int k ∧ x = .dic ks vs ∧ Φ (.bl (decide (k ∈ ks))) δ2) : WE W (tDIn ty td) δ Φ := fun I H σ k Q q =>
  h I H σ k _ fun y δ1 v I1 H1 h1 k1 s1 r1 => h1 I1 H1 σ k1 _ fun x δ2 u I2 H2 ⟨kk, ks, vs, ey, ex, p⟩ k2 s2 r2 => by
    subst ey ex
    cases r1
    obtain ⟨a, ws, rfl, ha, hl, r⟩ := rp_dic r2
    refine ⟨a, valV (kvL ks ws) (Sum.inl kk), rfl, .inl ⟨kvL ks ws, Sum.inl kk, .inl (k2.ih _ _ ha), rfl, rfl⟩, ?_⟩
    rw [valV_dec hl]
    exact q _ δ2 _ I2 H2 p k2 (s1.trans s2) (.bl _)
theorem we_dget {ty td : TE} (h : WE W td δ fun x δ1 => WE W ty δ1 fun y δ2 => ∃ (ks : List Int) (vs : List D) (k : Int) (j : Nat) (z : D), x = .dic ks vs ∧ y = .int k ∧ ks[j]? = some k ∧ (∀ m : Nat, m < j → ks[m]? ≠ some k) ∧ vs[j]? = some z ∧ Φ z δ2) : WE W (tDGet td ty) δ Φ := fun I H σ k Q q =>
  h I H σ k _ fun x δ1 v I1 H1 h1 k1 s1 r1 => h1 I1 H1 σ k1 _ fun y δ2 u I2 H2 ⟨ks, vs, kk, j, z, ex, ey, hj, hm, hz, p⟩ k2 s2 r2 => by
    subst ey ex
    cases r2
    obtain ⟨a, ws, rfl, ha, hl, r⟩ := rp_dic (r1.mono s2.ii)
    obtain ⟨w, hw, rw'⟩ := r.get hz
    exact ⟨a, w, rfl, .inl ⟨kvL ks ws, Sum.inl kk, .inl (k2.ih _ _ ha), rfl, (valV_at hj hm hw).symm⟩, q _ δ2 _ I2 H2 p k2 (s1.trans s2) rw'⟩
/-- x = {} -/
theorem ws_setD {i : Nat} {Φ : Out → Prop} (h : ∀ p, Φ (.nx (δ.set i (some (.od p [] []))))) : WS W (tAsg tDNewK (gName i)) δ Φ := fun I H σ Dn k f => by
  intro p hp
  refine f.nx _ _ I _ (h p) ?_ ?_
  · have k1 := k.loose (o := .dK []) hp
    have hn := not_own_of k hp
    have hI := free_of k.ih hp
    refine ⟨k1.ih, by simp [k1.ln], fun j e h => ?_, fun a b e g x y ne h1 h2 h3 h4 => ?_⟩
    · rcases get_set_some h with ⟨c, rfl⟩ | ⟨c, h⟩
      · have hl : i < δ.length := by
          have := (List.getElem?_eq_some_iff.mp h).1
          rw [List.length_set] at this
          omega
        subst c
        exact ⟨.ref p, by rw [List.getElem?_set_self (by rw [← k.ln]; exact hl)], rfl, hI, [], upd_same, rfl, .nil⟩
      · obtain ⟨u, hu, he⟩ := k1.sl j e h
        exact ⟨u, by rw [List.getElem?_set_ne c]; exact hu, he⟩
    · rcases get_set_some h1 with ⟨c1, rfl⟩ | ⟨_, h1⟩
      · rcases get_set_some h2 with ⟨c2, rfl⟩ | ⟨_, h2⟩
        · exact absurd (c1.symm.trans c2) ne
        · cases h3
          exact fun z => hn ⟨b, g, h2, by rw [z]; exact h4⟩
      · rcases get_set_some h2 with ⟨_, rfl⟩ | ⟨_, h2⟩
        · cases h4
          exact fun z => hn ⟨a, e, h1, by rw [← z]; exact h3⟩
        · exact k.ap a b e g x y ne h1 h2 h3 h4
  · have s1 : Sx δ I H δ I (upd H p (.dK [])) := Sx.loose hp
    exact ⟨s1.ii, s1.kp, s1.lv, s1.nw, fun b hb => by
      rcases ownA_set hb with c | c
      · exact .inl c
      · cases c; exact .inr hp, fun b hb => by
      rcases ownT_set hb with c | c
      · exact .inl c
      · cases c⟩
/-- d[k] = v, k new -/
theorem putK_app {ks : List Int} {ws : List V} {k : Int} {v : V} (hl : ks.length = ws.length) (h : k ∉ ks) : putK (kvL ks ws) (Sum.inl k) v = kvL (ks ++ [k]) (ws ++ [v]) := by
  rw [putK_new _ (valV_none h)]
  unfold kvL
  rw [List.map_append, List.zip_append (by simp [hl])]
  rfl
theorem ws_put {ty tv : TE} {i : Nat} {p0 : Addr} {Φ : Out → Prop}
    (h : WE W tv δ fun z δ1 => ∃ ks0 vs0, δ1[i]? = some (some (.od p0 ks0 vs0)) ∧ WE W ty δ1 fun y δ2 => ∃ ks vs k, δ2[i]? = some (some (.od p0 ks vs)) ∧ y = .int k ∧ k ∉ ks ∧ ks.length < 100000 ∧ Φ (.nx (δ2.set i (some (.od p0 (ks ++ [k]) (vs ++ [z])))))) :
    WS W (sDPut (tVar i) ty tv) δ Φ := fun I H σ Dn k f => by
  refine h I H σ k _ fun z δ1 v I1 H1 ⟨ks0, vs0, e0, h1⟩ k1 s1 r1 => ?_
  obtain ⟨v0, hv0, e1, _⟩ := k1.sl i _ e0
  subst e1
  refine ⟨_, hv0, h1 I1 H1 σ k1 _ fun y δ2 u I2 H2 ⟨ks, vs, kk, e, ey, hk, hlen, p⟩ k2 s2 r2 => ?_⟩
  subst ey
  cases r2
  obtain ⟨v2, hv2, e2, e3, ws, e4, e5, e6⟩ := k2.sl i _ e
  have r1' := r1.mono s2.ii
  have hz : (kvL ks ws).length < sizeLine := by
    unfold kvL
    rw [List.length_zip, List.length_map, e5, Nat.min_self, ← e5]
    exact sz_lt hlen
  refine ⟨p0, _, rfl, .inl ⟨kvL ks ws, Sum.inl kk, e4, rfl, hz, rfl⟩, ?_⟩
  rw [putK_app e5 hk]
  refine f.nx _ _ I2 _ p ?_ ((s1.trans s2).trans ?_)
  · refine ⟨fun a o h => ?_, by simp [k2.ln], fun j g hj => ?_, fun a b g g' x y ne h1 h2 h3 h4 => ?_⟩
    · have c : a ≠ p0 := fun c => by rw [c, e3] at h; cases h
      rw [upd_ne c]
      exact k2.ih a o h
    · rcases get_set_some hj with ⟨c, rfl⟩ | ⟨c, hj⟩
      · subst c
        exact ⟨v2, hv2, e2, e3, _, upd_same, by simp [e5], e6.append (.cons r1' .nil)⟩
      · obtain ⟨u, hu, he⟩ := k2.sl j g hj
        refine ⟨u, hu, he.mono (Ex.refl _) fun q hq => ⟨(k2.own_at ⟨j, g, hj, hq⟩).1, upd_ne ?_⟩⟩
        exact k2.ap j i g (.od p0 ks vs) q p0 (Ne.symm c) hj e hq rfl
    · rcases get_set_some h1 with ⟨c1, e9⟩ | ⟨c1, h1⟩
      · rcases get_set_some h2 with ⟨c2, _⟩ | ⟨_, h2⟩
        · exact absurd (c1.symm.trans c2) ne
        · rw [e9] at h3; cases h3
          exact k2.ap i b (.od p0 ks vs) g' p0 y (c1 ▸ ne) e h2 rfl h4
      · rcases get_set_some h2 with ⟨c2, e9⟩ | ⟨_, h2⟩
        · rw [e9] at h4; cases h4
          exact k2.ap a i g (.od p0 ks vs) x p0 (c2 ▸ ne) h1 e h3 rfl
        · exact k2.ap a b g g' x y ne h1 h2 h3 h4
  · exact ⟨Ex.refl _, fun a o h n => by
      have c : a ≠ p0 := fun c => n ⟨i, _, e, by rw [c]; rfl⟩
      rw [upd_ne c]
      exact h, fun a o h => by
      by_cases c : a = p0
      · exact ⟨_, by rw [c]; exact upd_same⟩
      · exact ⟨o, by rw [upd_ne c]; exact h⟩, fun _ _ h => .inl h, fun a h => by
      rcases ownA_set h with c | c
      · exact .inl c
      · cases c; exact .inl ⟨i, _, e, rfl⟩, fun a h => by
      rcases ownT_set h with c | c
      · exact .inl c
      · cases c⟩
/-! a call that is handed the def's own dict, and keeps nothing of it -/
def D.sca : D → Bool
  | .non => true | .bl _ => true | .int _ => true | .str _ => true
  | _ => false
def D.small : D → Bool
  | .tup l => l.all D.sca
  | x => x.sca
theorem sca_of {I I' : Hp} {x : D} {v : V} (h : x.sca = true) (r : Rp W I x v) : Rp W I' x v := by
  cases r with
  | non => exact .non
  | bl b => exact .bl b
  | int i => exact .int i
  | str s => exact .str s
  | _ => simp [D.sca] at h
theorem scas_of {I I' : Hp} : ∀ {l : List D} {vs : List V}, l.all D.sca = true → Rps W I l vs → Rps W I' l vs
  | _, _, _, .nil => .nil
  | _, _, h, .cons h1 r => by
    have h' := h
    simp only [List.all_cons, Bool.and_eq_true] at h'
    exact .cons (sca_of h'.1 h1) (scas_of h'.2 r)
theorem we_callF {S : DSpec} {E : XK} {ta : TA} {i : Nat} {p0 : Addr} {ks0 : List Int} {vs0 : List D} (e0 : δ[i]? = some (some (.od p0 ks0 vs0)))
    (h : WA W ta δ fun xs δ1 => ∃ ks vs, δ1[i]? = some (some (.od p0 ks vs)) ∧ S (.dic ks vs :: xs) fun z => z.small = true ∧ Φ z δ1) : WE W (tCall (pSp W S) [] E (tCons (tVar i) ta)) δ Φ := fun I H σ k Q q => by
  obtain ⟨v, hv, e1, _⟩ := k.sl i _ e0
  subst e1
  refine ⟨_, hv, h I H σ k _ fun xs δ1 vs1 I1 H1 ⟨ks, vs, e, p⟩ k1 s1 r1 => ?_⟩
  obtain ⟨v2, hv2, e2, e3, ws, e4, e5, e6⟩ := k1.sl i _ e
  have iE : Ex I1 (upd I1 p0 (.dK (kvL ks ws))) := Ex.new e3
  refine ⟨upd I1 p0 (.dK (kvL ks ws)), .dic ks vs :: xs, _, fun a o ha => ?_, ?_, p, fun z u I2 H2 ⟨pz, pp⟩ g1 g2 g3 g4 rz => ?_⟩
  · by_cases c : a = p0
    · subst c
      rw [upd_same] at ha
      rw [e4]; exact ha
    · rw [upd_ne c] at ha
      exact k1.ih a o ha
  · rw [List.append_nil]
    exact .cons (.dic upd_same e5 (e6.mono iE)) (r1.mono iE)
  · -- the fixed part without the dict
    have hp2 : I2 p0 = some (.dK (kvL ks ws)) := g1 _ _ upd_same
    let I3 : Hp := fun a => if a = p0 then none else I2 a
    have i3ne : ∀ a, a ≠ p0 → I3 a = I2 a := fun a c => if_neg c
    have i3p : I3 p0 = none := if_pos rfl
    have e13 : Ex I1 I3 := fun a o ha => by
      have c : a ≠ p0 := fun c => by rw [c, e3] at ha; cases ha
      rw [i3ne a c]
      exact g1 a o (by rw [upd_ne c]; exact ha)
    have e32 : Ex I3 I2 := fun a o ha => by
      by_cases c : a = p0
      · rw [c, i3p] at ha; cases ha
      · rw [i3ne a c] at ha; exact ha
    have nw3 : ∀ a o, I3 a = some o → I1 a = some o ∨ H1 a = none := fun a o ha => by
      have c : a ≠ p0 := fun c => by rw [c, i3p] at ha; cases ha
      rcases g4 a o (e32 a o ha) with z | z
      · rw [upd_ne c] at z; exact .inl z
      · exact .inr z
    have rz3 : Rp W I3 z u := by
      cases z with
      | tup l =>
        obtain ⟨a, us, rfl, ha, ru⟩ := rp_tup rz
        refine .tup ?_ (scas_of (by simpa [D.small] using pz) ru)
        rcases ha with (ha | ⟨o, ha⟩) | ha
        · have c : a ≠ p0 := fun c => by rw [c, hp2] at ha; cases ha
          exact .inl (.inl (by rw [i3ne a c]; exact ha))
        · have c : a ≠ p0 := fun c => by rw [c, hp2] at ha; cases ha
          exact .inl (.inr ⟨o, by rw [i3ne a c]; exact ha⟩)
        · exact .inr ha
      | non => exact sca_of rfl rz
      | bl b => exact sca_of rfl rz
      | int b => exact sca_of rfl rz
      | str b => exact sca_of rfl rz
      | _ => simp [D.small, D.sca] at pz
    exact q z δ1 u I3 H2 pp (k1.grow e13 (e32.trans g2) g3 nw3) (s1.trans (Sx.grow e13 g3 nw3)) rz3

/-! lists of a dict's keys, sorted lists, sets -/
def rLstU (K : PySem.W.Frag) : List V → Hp → VK → Prop := fun xs H Q => rListOf K xs H Q ∨ L2.rListD xs H Q
theorem cr_lstU {X : Cx} (hc : X.calm = true) : CallR X (.type "list") (rLstU X.K) := clOr cr_list (call_list_dK hc)
theorem wl_listU {ta : TA} {Φ : List D → Fr → Prop} (h : WA W ta δ fun xs δ1 => ∃ l, (xs = [.lst l] ∨ xs = [.tup l]) ∧ Φ l δ1) : WL W (tCB (rLstU W.K) ta) δ Φ := fun I H σ k Q q =>
  h I H σ k _ fun xs δ1 vs I1 H1 ⟨l, e, p⟩ k1 s1 r1 => by
    rcases e with e | e
    · subst e
      obtain ⟨v, rfl, rv⟩ := rps1 r1
      obtain ⟨a, ws, rfl, ha, rs⟩ := rp_lst rv
      exact .inl ⟨a, ws, rfl, .inl (sq_l k1.ih ha), wl_new p k1 s1 rs q⟩
    · subst e
      obtain ⟨v, rfl, rv⟩ := rps1 r1
      obtain ⟨a, ws, rfl, ha, rs⟩ := rp_tup rv
      exact .inl ⟨a, ws, rfl, .inr (sq_t k1.ih ha), wl_new p k1 s1 rs q⟩
theorem wl_listD {ta : TA} {Φ : List D → Fr → Prop} (h : WA W ta δ fun xs δ1 => ∃ ks vs, xs = [.dic ks vs] ∧ Φ (ks.map D.int) δ1) : WL W (tCB (rLstU W.K) ta) δ Φ := fun I H σ k Q q =>
  h I H σ k _ fun xs δ1 vs I1 H1 ⟨ks, l, e, p⟩ k1 s1 r1 => by
    subst e
    obtain ⟨v, rfl, rv⟩ := rps1 r1
    obtain ⟨a, ws, rfl, ha, hl, rs⟩ := rp_dic rv
    have ee : (kvL ks ws).map (fun kv => kV kv.1) = ks.map V.int := by
      unfold kvL
      have : ∀ (ks : List Int) (ws : List V), ks.length = ws.length → ((ks.map (Sum.inl (β := Str))).zip ws).map (fun kv => kV kv.1) = ks.map V.int := fun ks => by
        induction ks with
        | nil => intro ws _; rfl
        | cons k ks ih =>
          intro ws hl
          cases ws with
          | nil => simp at hl
          | cons w ws =>
            show V.int k :: ((ks.map (Sum.inl (β := Str))).zip ws).map (fun kv => kV kv.1) = V.int k :: ks.map V.int
            rw [ih ws (by simpa using hl)]
      exact this ks ws hl
    refine .inr ⟨a, kvL ks ws, rfl, k1.ih _ _ ha, ?_⟩
    rw [ee]
    exact wl_new p k1 s1 (Rps.ints_of ks) q
theorem wl_sorted {ta : TA} {Φ : List D → Fr → Prop} (h : WA W ta δ fun xs δ1 => ∃ ns : List Int, xs = [.lst (ns.map D.int)] ∧ ∀ ms : List Int, ms.Perm ns → ms.Pairwise (· ≤ ·) → Φ (ms.map D.int) δ1) : WL W (tCB (rSortedI W.K) ta) δ Φ := fun I H σ k Q q =>
  h I H σ k _ fun xs δ1 vs I1 H1 ⟨ns, e, p⟩ k1 s1 r1 => by
    subst e
    obtain ⟨v, rfl, rv⟩ := rps1 r1
    obtain ⟨a, ws, rfl, ha, rs⟩ := rp_lst rv
    have ee := rs.ints
    subst ee
    exact ⟨a, ns, rfl, sq_l k1.ih ha, fun ms b hp hs hb => wl_new (p ms hp hs) k1 s1 (Rps.ints_of ms) q b hb⟩
/-- sorted(set(t)) -/
theorem wl_sortedSet {te : TE} {Φ : List D → Fr → Prop} (h : WE W te δ fun x δ1 => ∃ ns : List Int, x = .tup (ns.map D.int) ∧ ns.length ≤ 60 ∧ ∀ ms : List Int, ms.Pairwise (· < ·) → (∀ k, k ∈ ms ↔ k ∈ ns) → Φ (ms.map D.int) δ1) :
    WL W (tCB (rSortedSet W.w) (tCons (tCB (L2.rSetT W.K W.w) (tCons te tNil)) tNil)) δ Φ := fun I H σ k Q q =>
  h I H σ k _ fun x δ1 v I1 H1 ⟨ns, e, hlen, p⟩ k1 s1 r1 => by
    subst e
    obtain ⟨a, ws, rfl, ha, rs⟩ := rp_tup r1
    have ee := rs.ints
    subst ee
    refine ⟨a, ns, rfl, sq_t k1.ih ha, by omega, fun b c hb hc => ?_⟩
    have k2 := k1.loose (o := SetO W.w b (fun j => decide (j ∈ ns)) c) hb
    have s2 := s1.trans (Sx.loose (δ := δ1) (I := I1) (o := SetO W.w b (fun j => decide (j ∈ ns)) c) hb)
    exact ⟨b, _, c, rfl, upd_same, by omega, fun ms d hs hm hl hd => wl_new (p ms hs fun j => by rw [hm j, decide_eq_true_eq]) k2 s2 (Rps.ints_of ms) q d hd⟩
theorem we_bits {to : TE} (h : WE W to δ fun x δ1 => ∃ i, x = .int i ∧ Φ (.int (Builtin.Int.intBits i : Nat)) δ1) : WE W (tBits to) δ Φ := fun I H σ k Q q =>
  h I H σ k _ fun x δ1 v I1 H1 ⟨i, e, p⟩ k1 s1 r1 => by
    subst e
    cases r1
    exact ⟨i, rfl, q _ δ1 _ I1 H1 p k1 s1 (.int _)⟩
theorem we_revT {te : TE} (h : WE W te δ fun x δ1 => ∃ l, x = .tup l ∧ Φ (.tup l.reverse) δ1) : WE W (L2.tRevT W.K te) δ Φ := fun I H σ k Q q =>
  h I H σ k _ fun x δ1 v I1 H1 ⟨l, e, p⟩ k1 s1 r1 => by
    subst e
    obtain ⟨a, vs, rfl, ha, r⟩ := rp_tup r1
    exact ⟨a, vs, rfl, sq_t k1.ih ha, new_tup k1 r.reverse fun c hc k2 s2 r2 => q _ δ1 _ _ _ p k2 (s1.trans s2) r2⟩
/-! enumerate -/
def iEnumU (K : PySem.W.Frag) (ta : TA) : TI := fun σ H R => iEnum K ta σ H R ∨ iEnumT K ta σ H R
theorem pi_enumU {X : Cx} {e : Expr} {ta : TA} {p pos tpos : Pos} {elts : List Expr} {kk : Nat} (hg : Gl X "enumerate") (hm : X.mg "enumerate" = none) (ha : PA X [e] ta) (hs : starEach [e] X.env = [(false, eval e X.env)] := by rfl) :
    PI X (.Tuple elts kk tpos) (.Call (.Name "enumerate" p) [e] [] pos) (iEnumU X.K ta) := piOr (pi_enum hg hm ha hs) (pi_enumT hg hm ha hs)
def enD : Nat → List D → List D
  | _, [] => []
  | n, x :: l => .tup [.int (n : Int), x] :: enD (n + 1) l
theorem enD_len : ∀ (n : Nat) (l : List D), (enD n l).length = l.length
  | _, [] => rfl
  | n, x :: l => by simp [enD, enD_len (n + 1) l]
theorem enD_get : ∀ (l : List D) (n i : Nat) (x : D), (enD n l)[i]? = some x → ∃ y, l[i]? = some y ∧ x = .tup [.int ((n + i : Nat) : Int), y]
  | [], _, _, _, h => by simp [enD] at h
  | y :: l, n, 0, x, h => by
    simp [enD] at h
    exact ⟨y, rfl, by rw [← h]; simp⟩
  | y :: l, n, i + 1, x, h => by
    have h' : (enD (n + 1) l)[i]? = some x := by simpa [enD] using h
    obtain ⟨z, hz, e⟩ := enD_get l (n + 1) i x h'
    exact ⟨z, by simpa using hz, by rw [e]; congr 3; omega⟩
theorem itd_enumT {I : Hp} {a : Addr} {vs : List V} {l : List D} (h : ∀ I1 H1, Ex I I1 → Ex I1 H1 → SqT W.K H1 a vs) (r : Rps W I l vs) : ItD W (L2.IteT W.K a) I (enD 0 l) where
  go := fun i x I1 H1 e1 e2 hx => by
    obtain ⟨y, hy, _⟩ := enD_get l 0 i x hx
    obtain ⟨v, hv, _⟩ := r.get hy
    exact ⟨vs, v, h I1 H1 e1 e2, hv⟩
  stop := fun I1 H1 e1 e2 => ⟨vs, h I1 H1 e1 e2, by rw [enD_len]; exact r.length⟩
  yld := fun i x I1 H1 v H2 e1 e2 hx y => by
    obtain ⟨z, hz, rfl⟩ := enD_get l 0 i x hx
    obtain ⟨u, hu, ru⟩ := r.get hz
    obtain ⟨T, w, ev, hT, hH, hw⟩ := y
    have q := hw vs (h I1 H1 e1 e2)
    rw [hu] at q
    cases q
    exact .inr ⟨T, [.int (i : Nat), u], _, ev, hT, hH, rfl, .cons (by rw [Nat.zero_add]; exact .int _) (.cons (ru.mono e1) .nil)⟩
theorem itd_enumL {I : Hp} {a : Addr} {vs : List V} {l : List D} (h : ∀ I1 H1, Ex I I1 → Ex I1 H1 → SqL W.K H1 a vs) (r : Rps W I l vs) : ItD W (Ite W.K a) I (enD 0 l) where
  go := fun i x I1 H1 e1 e2 hx => by
    obtain ⟨y, hy, _⟩ := enD_get l 0 i x hx
    obtain ⟨v, hv, _⟩ := r.get hy
    exact ⟨vs, v, h I1 H1 e1 e2, hv⟩
  stop := fun I1 H1 e1 e2 => ⟨vs, h I1 H1 e1 e2, by rw [enD_len, r.length]; exact Nat.le_refl _⟩
  yld := fun i x I1 H1 v H2 e1 e2 hx y => by
    obtain ⟨z, hz, rfl⟩ := enD_get l 0 i x hx
    obtain ⟨u, hu, ru⟩ := r.get hz
    obtain ⟨T, w, ev, hT, hH, hw⟩ := y
    have q := hw vs (h I1 H1 e1 e2)
    rw [hu] at q
    cases q
    exact .inr ⟨T, [.int (i : Nat), u], _, ev, hT, hH, rfl, .cons (by rw [Nat.zero_add]; exact .int _) (.cons (ru.mono e1) .nil)⟩
theorem wi_enumT {ta : TA} {Φ : List D → Fr → Prop} (h : WA W ta δ fun xs δ1 => ∃ l, xs = [.tup l] ∧ Φ (enD 0 l) δ1) : WI W (iEnumU W.K ta) δ Φ := fun I H σ k R q => .inr
  (h I H σ k _ fun xs δ1 vs I1 H1 ⟨l, e, p⟩ k1 s1 r1 => by
    subst e
    obtain ⟨v, rfl, rv⟩ := rps1 r1
    obtain ⟨a, ws, rfl, ha, rs⟩ := rp_tup rv
    exact ⟨a, ws, rfl, sq_t k1.ih ha, q _ δ1 _ I1 H1 p k1 s1 (itd_enumT (fun I2 H2 e1 e2 => sq_t (W := W) e2 (sqT_ex e1 ha)) rs)⟩)
theorem wi_enumL {ta : TA} {Φ : List D → Fr → Prop} (h : WA W ta δ fun xs δ1 => ∃ l, xs = [.lst l] ∧ Φ (enD 0 l) δ1) : WI W (iEnumU W.K ta) δ Φ := fun I H σ k R q => .inl
  (h I H σ k _ fun xs δ1 vs I1 H1 ⟨l, e, p⟩ k1 s1 r1 => by
    subst e
    obtain ⟨v, rfl, rv⟩ := rps1 r1
    obtain ⟨a, ws, rfl, ha, rs⟩ := rp_lst rv
    exact ⟨a, ws, rfl, sq_l k1.ih ha, q _ δ1 _ I1 H1 p k1 s1 (itd_enumL (fun I2 H2 e1 e2 => sq_l (W := W) e2 (e1 _ _ ha)) rs)⟩)
end
end Dt

/-! De: an own dict asked with a default, changed at a key that is there, and its values gone through. -/
namespace Dt
open PySem L2
section
variable {W : Wd} {δ : Fr} {Φ : D → Fr → Prop} {I H : Hp} {σ : L2.St}
theorem kvL_len {ks : List Int} {ws : List V} (h : ks.length = ws.length) : (kvL ks ws).length = ws.length := by
  unfold kvL
  rw [List.length_zip, List.length_map, h, Nat.min_self]
theorem itd_vals {p : Addr} {od : Obj} {ks : List Int} {ws : List V} {vs : List D} (hp : I p = some (.frz od (.dK (kvL ks ws)))) (hl : ks.length = ws.length) (r : Rps W I vs ws) : ItD W (Itd p od (kvL ks ws)) I vs where
  go := fun i x I1 H1 e1 e2 hx => ⟨e2 _ _ (e1 _ _ hp), by
    have := (List.getElem?_eq_some_iff.mp hx).1
    rw [kvL_len hl, ← r.length]; exact this⟩
  stop := fun I1 H1 e1 e2 => ⟨e2 _ _ (e1 _ _ hp), by rw [kvL_len hl, ← r.length]; exact Nat.le_refl _⟩
  yld := fun i x I1 H1 v H2 e1 e2 hx ⟨eh, k, hk⟩ => by
    obtain ⟨w, hw, rw'⟩ := r.get hx
    refine .inl ⟨eh, ?_⟩
    unfold kvL at hk
    rw [List.getElem?_zip_eq_some] at hk
    rw [hw] at hk
    cases hk.2
    exact rw'.mono e1
theorem wi_vals {te : TE} {Φ : List D → Fr → Prop} (h : WE W te δ fun x δ1 => ∃ ks vs, x = .fz ks vs ∧ Φ vs δ1) : WI W (iVals te) δ Φ := fun I H σ k R q =>
  h I H σ k _ fun x δ1 v I1 H1 ⟨ks, vs, e, p⟩ k1 s1 r1 => by
    subst e
    cases r1 with
    | fz h hl r => exact ⟨_, _, _, rfl, k1.ih _ _ h, q vs δ1 _ I1 H1 p k1 s1 (itd_vals h hl r)⟩
/-- an own dict is held fast for an expression that comes to a truth -/
theorem we_lockO {t : TE} {i : Nat} {p0 : Addr} {ks : List Int} {vs : List D} (e0 : δ[i]? = some (some (.od p0 ks vs))) (only : ∀ (j : Nat) e, δ[j]? = some (some e) → j ≠ i → ∃ x, e = .d x)
    (h : WE W t (δ.set i (some (.d (.fz ks vs)))) fun x δ1 => ∃ b, x = .bl b ∧ δ1 = δ.set i (some (.d (.fz ks vs))) ∧ Φ (.bl b) δ) : WE W (tLockE t) δ Φ := fun I H σ k Q q => by
  obtain ⟨v, hv, e1, e2, ws, e4, e5, e6⟩ := k.sl i _ e0
  subst e1
  refine ⟨p0, .dK (kvL ks ws), e4, trivial, fun od => ?_⟩
  have hE : Ex I (upd I p0 (.frz od (.dK (kvL ks ws)))) := Ex.new e2
  have own0 : ownA δ p0 := ⟨i, _, e0, rfl⟩
  have dd : ∀ (j : Nat) f, (δ.set i (some (.d (.fz ks vs))))[j]? = some (some f) → f.adr = none := fun j f hj => by
    rcases get_set_some hj with ⟨_, rfl⟩ | ⟨c, hj⟩
    · rfl
    · obtain ⟨x, rfl⟩ := only j f hj (Ne.symm c)
      rfl
  have k1 : OK W (upd I p0 (.frz od (.dK (kvL ks ws)))) (upd H p0 (.frz od (.dK (kvL ks ws)))) (δ.set i (some (.d (.fz ks vs)))) σ := by
    refine ⟨fun a o h => ?_, by simp [k.ln], fun j f hj => ?_, fun a b f g x y ne h1 h2 h3 h4 => ?_⟩
    · by_cases c : a = p0
      · subst c; rw [upd_same] at h ⊢; exact h
      · rw [upd_ne c] at h ⊢; exact k.ih a o h
    · rcases get_set_some hj with ⟨c, rfl⟩ | ⟨c, hj⟩
      · subst c
        exact ⟨_, hv, .fz upd_same e5 (e6.mono hE)⟩
      · obtain ⟨x, rfl⟩ := only j f hj (Ne.symm c)
        obtain ⟨u, hu, he⟩ := k.sl j _ hj
        exact ⟨u, hu, Rp.mono hE he⟩
    · rw [dd a f h1] at h3; cases h3
  refine h _ _ σ k1 _ fun x δ1 v1 I2 H2 ⟨b, ex, ed, p⟩ k2 s2 r2 => ?_
  subst ex ed
  cases r2
  have hp : H2 p0 = some (.frz od (.dK (kvL ks ws))) := k2.ih _ _ (s2.ii _ _ upd_same)
  refine ⟨hp, q _ δ _ I _ p ⟨fun a o h => ?_, k.ln, fun j f hj => ?_, k.ap⟩ ⟨Ex.refl _, fun a o h n => ?_, fun a o h => ?_, fun _ _ h => .inl h, fun _ h => .inl h, fun _ h => .inl h⟩ (.bl b)⟩
  · have c : a ≠ p0 := fun c => by rw [c, e2] at h; cases h
    rw [upd_ne c]
    exact k2.ih _ _ (s2.ii _ _ (hE _ _ h))
  · by_cases c : j = i
    · subst c
      rw [e0] at hj
      cases hj
      exact ⟨_, hv, rfl, e2, ws, upd_same, e5, e6⟩
    · obtain ⟨x, rfl⟩ := only j f hj c
      exact k.sl j _ hj
  · have c : a ≠ p0 := fun c => n (c ▸ own0)
    rw [upd_ne c]
    refine s2.kp a o (by rw [upd_ne c]; exact h) fun z => n (ownA_set_d z)
  · by_cases c : a = p0
    · exact ⟨_, by rw [c]; exact upd_same⟩
    · rw [upd_ne c]
      exact s2.lv a o (by rw [upd_ne c]; exact h)
/-- d.get(k, x) of an own dict -/
theorem we_dget2O {ty tx : TE} {i : Nat} {p0 : Addr} {ks0 : List Int} {vs0 : List D} (e0 : δ[i]? = some (some (.od p0 ks0 vs0)))
    (h : WE W ty δ fun y δ1 => WE W tx δ1 fun z δ2 => ∃ ks vs k, δ2[i]? = some (some (.od p0 ks vs)) ∧ y = .int k ∧ ((k ∉ ks ∧ Φ z δ2) ∨ ∃ (j : Nat) (x : D), ks[j]? = some k ∧ (∀ m : Nat, m < j → ks[m]? ≠ some k) ∧ vs[j]? = some x ∧ Φ x δ2)) :
    WE W (tDGet2 (tVar i) ty tx) δ Φ := fun I H σ k Q q => by
  obtain ⟨v, hv, e1, e2, ws0, e4, e5, e6⟩ := k.sl i _ e0
  subst e1
  refine ⟨_, hv, p0, rfl, .inl ⟨_, .inl e4⟩, h I H σ k _ fun y δ1 u I1 H1 h1 k1 s1 r1 => h1 I1 H1 σ k1 _ fun z δ2 w I2 H2 ⟨ks, vs, kk, e, ey, c⟩ k2 s2 r2 => ?_⟩
  subst ey
  cases r1
  obtain ⟨v2, hv2, f1, f2, ws, f3, f4, f5⟩ := k2.sl i _ e
  rcases c with ⟨hk, p⟩ | ⟨j, x, hj, hm, hx, p⟩
  · refine ⟨none, .inl ⟨kvL ks ws, Sum.inl kk, .inl f3, rfl, (valV_none hk).symm⟩, q z δ2 _ I2 H2 p k2 (s1.trans s2) r2⟩
  · obtain ⟨w2, hw2, rw'⟩ := f5.get hx
    exact ⟨some w2, .inl ⟨kvL ks ws, Sum.inl kk, .inl f3, rfl, (valV_at hj hm hw2).symm⟩, q x δ2 _ I2 H2 p k2 (s1.trans s2) rw'⟩
end
theorem putK_set : ∀ {ks : List Int} {ws : List V} {k : Int} {v : V} {j : Nat}, ks.Nodup → ks.length = ws.length → ks[j]? = some k → ((kvL ks ws).map fun kv => if kv.1 = (Sum.inl k : Key) then (kv.1, v) else kv) = kvL ks (ws.set j v)
  | [], _, _, _, _, _, _, h => by simp at h
  | x :: ks, [], _, _, _, _, h, _ => by simp at h
  | x :: ks, w :: ws, k, v, j, nd, hl, hj => by
    have nd' := List.nodup_cons.mp nd
    cases j with
    | zero =>
      cases hj
      show (if (Sum.inl x : Key) = Sum.inl x then ((Sum.inl x : Key), v) else (Sum.inl x, w)) :: (kvL ks ws).map _ = ((Sum.inl x : Key), v) :: kvL ks ws
      rw [if_pos rfl]
      congr 1
      have hk : ∀ kv ∈ kvL ks ws, (if kv.1 = (Sum.inl x : Key) then (kv.1, v) else kv) = kv := fun kv hkv => by
        have h1 : kv.1 ∈ ks.map (Sum.inl (β := Str)) := (List.of_mem_zip (a := kv.1) (b := kv.2) hkv).1
        obtain ⟨y, hy, e⟩ := List.mem_map.mp h1
        rw [if_neg fun c => nd'.1 (by rw [← e] at c; exact (Sum.inl.inj c) ▸ hy)]
      exact (List.map_congr_left hk).trans (List.map_id' _)
    | succ j =>
      have hj' : ks[j]? = some k := hj
      have ne : x ≠ k := fun c => nd'.1 (c ▸ List.mem_of_getElem? hj')
      show (if (Sum.inl x : Key) = Sum.inl k then ((Sum.inl x : Key), v) else (Sum.inl x, w)) :: (kvL ks ws).map _ = ((Sum.inl x : Key), w) :: kvL ks (ws.set j v)
      rw [if_neg (fun c => ne (Sum.inl.inj c))]
      congr 1
      exact putK_set nd'.2 (by simpa using hl) hj'
theorem putK_old {ks : List Int} {ws : List V} {k : Int} {v : V} {j : Nat} (nd : ks.Nodup) (hl : ks.length = ws.length) (hj : ks[j]? = some k) : putK (kvL ks ws) (Sum.inl k) v = kvL ks (ws.set j v) := by
  unfold putK
  rw [valV_any, valV_dec hl, if_pos (decide_eq_true (List.mem_of_getElem? hj))]
  exact putK_set nd hl hj
section
variable {W : Wd} {δ : Fr}
/-- d[k] = v, k new or there -/
theorem ws_put2 {ty tv : TE} {i : Nat} {p0 : Addr} {Φ : Out → Prop}
    (h : WE W tv δ fun z δ1 => ∃ ks0 vs0, δ1[i]? = some (some (.od p0 ks0 vs0)) ∧ WE W ty δ1 fun y δ2 => ∃ ks vs k, δ2[i]? = some (some (.od p0 ks vs)) ∧ y = .int k ∧ ks.length < 100000 ∧
      ((k ∉ ks ∧ Φ (.nx (δ2.set i (some (.od p0 (ks ++ [k]) (vs ++ [z])))))) ∨ ∃ j : Nat, ks.Nodup ∧ ks[j]? = some k ∧ Φ (.nx (δ2.set i (some (.od p0 ks (vs.set j z))))))) :
    WS W (sDPut (tVar i) ty tv) δ Φ := fun I H σ Dn k f => by
  refine h I H σ k _ fun z δ1 v I1 H1 ⟨ks0, vs0, e0, h1⟩ k1 s1 r1 => ?_
  obtain ⟨v0, hv0, e1, _⟩ := k1.sl i _ e0
  subst e1
  refine ⟨_, hv0, h1 I1 H1 σ k1 _ fun y δ2 u I2 H2 ⟨ks, vs, kk, e, ey, hlen, c⟩ k2 s2 r2 => ?_⟩
  subst ey
  cases r2
  obtain ⟨v2, hv2, e2, e3, ws, e4, e5, e6⟩ := k2.sl i _ e
  have r1' := r1.mono s2.ii
  have hz : (kvL ks ws).length < sizeLine := by
    rw [kvL_len e5, ← e5]
    exact sz_lt hlen
  refine ⟨p0, _, rfl, .inl ⟨kvL ks ws, Sum.inl kk, e4, rfl, hz, rfl⟩, ?_⟩
  -- either way: other keys and values stand there
  have go : ∀ (ks' : List Int) (vs' : List D) (ws' : List V), ks'.length = ws'.length → Rps W I2 vs' ws' → Φ (.nx (δ2.set i (some (.od p0 ks' vs')))) → Dn.nx σ (upd H2 p0 (.dK (kvL ks' ws'))) := fun ks' vs' ws' hl' rr p => by
    refine f.nx _ _ I2 _ p ?_ ((s1.trans s2).trans ?_)
    · refine ⟨fun a o h => ?_, by simp [k2.ln], fun j g hj => ?_, fun a b g g' x y ne h1 h2 h3 h4 => ?_⟩
      · have c : a ≠ p0 := fun c => by rw [c, e3] at h; cases h
        rw [upd_ne c]
        exact k2.ih a o h
      · rcases get_set_some hj with ⟨c, rfl⟩ | ⟨c, hj⟩
        · subst c
          exact ⟨v2, hv2, e2, e3, _, upd_same, hl', rr⟩
        · obtain ⟨u, hu, he⟩ := k2.sl j g hj
          refine ⟨u, hu, he.mono (Ex.refl _) fun q hq => ⟨(k2.own_at ⟨j, g, hj, hq⟩).1, upd_ne ?_⟩⟩
          exact k2.ap j i g (.od p0 ks vs) q p0 (Ne.symm c) hj e hq rfl
      · rcases get_set_some h1 with ⟨c1, e9⟩ | ⟨c1, h1⟩
        · rcases get_set_some h2 with ⟨c2, _⟩ | ⟨_, h2⟩
          · exact absurd (c1.symm.trans c2) ne
          · rw [e9] at h3; cases h3
            exact k2.ap i b (.od p0 ks vs) g' p0 y (c1 ▸ ne) e h2 rfl h4
        · rcases get_set_some h2 with ⟨c2, e9⟩ | ⟨_, h2⟩
          · rw [e9] at h4; cases h4
            exact k2.ap a i g (.od p0 ks vs) x p0 (c2 ▸ ne) h1 e h3 rfl
          · exact k2.ap a b g g' x y ne h1 h2 h3 h4
    · exact ⟨Ex.refl _, fun a o h n => by
        have c : a ≠ p0 := fun c => n ⟨i, _, e, by rw [c]; rfl⟩
        rw [upd_ne c]
        exact h, fun a o h => by
        by_cases c : a = p0
        · exact ⟨_, by rw [c]; exact upd_same⟩
        · exact ⟨o, by rw [upd_ne c]; exact h⟩, fun _ _ h => .inl h, fun a h => by
        rcases ownA_set h with c | c
        · exact .inl c
        · cases c; exact .inl ⟨i, _, e, rfl⟩, fun a h => by
        rcases ownT_set h with c | c
        · exact .inl c
        · cases c⟩
  rcases c with ⟨hk, p⟩ | ⟨j, nd, hj, p⟩
  · rw [putK_app e5 hk]
    exact go _ _ _ (by simp [e5]) (e6.append (.cons r1' .nil)) p
  · rw [putK_old nd e5 hj]
    exact go _ _ _ (by rw [List.length_set]; exact e5) (e6.set r1' j) p
end
end Dt

namespace Dt
open PySem L2
theorem iteB {c A B : Prop} [Decidable c] (h1 : c → A) (h2 : ¬ c → B) : if decide c = true then A else B := by
  by_cases h : c
  · rw [if_pos (decide_eq_true h)]; exact h1 h
  · rw [if_neg (by simpa using h)]; exact h2 h
theorem iteTr {b : Bool} {A B : Prop} (hb : b = true) (h : A) : if b = true then A else B := by rw [if_pos hb]; exact h
theorem iteFa {b : Bool} {A B : Prop} (hb : b = false) (h : B) : if b = true then A else B := by rw [if_neg (by rw [hb]; decide)]; exact h
theorem ite2B {b : Bool} {A B : Prop} (h1 : b = true → A) (h2 : b = false → B) : if b = true then A else B := by
  cases b with
  | true => exact h1 rfl
  | false => exact h2 rfl
theorem bitAnd_nat (a b : Nat) : Builtin.bitAnd (a : Int) (b : Int) = ((a &&& b : Nat) : Int) := by simp [Builtin.bitAnd]
theorem bitOr_nat (a b : Nat) : Builtin.bitOr (a : Int) (b : Int) = ((a ||| b : Nat) : Int) := by
  rw [bitOr_nn (by omega) (by omega)]
  rfl
theorem bitXor_nat (a b : Nat) : Builtin.bitXor (a : Int) (b : Int) = ((a ^^^ b : Nat) : Int) := by
  rw [Bits.bitXor_pp (by omega) (by omega)]
  rfl
theorem shr_nat (a b : Nat) : (a : Int) / 2 ^ (b : Int).toNat = ((a >>> b : Nat) : Int) := by
  rw [Int.toNat_natCast, Nat.shiftRight_eq_div_pow]
  simp
/-- the kinds that isinstance tells apart -/
theorem kb_int : ∀ {x : D}, x.pln = true → kitB x.tyN "int" = some (match x with | .int _ => true | .bl _ => true | _ => false)
  | .non, _ => (by decide +kernel : kitB "NoneType" "int" = some false)
  | .bl _, _ => (by decide +kernel : kitB "bool" "int" = some true)
  | .int _, _ => (by decide +kernel : kitB "int" "int" = some true)
  | .str _, _ => (by decide +kernel : kitB "str" "int" = some false)
  | .lst _, _ => (by decide +kernel : kitB "list" "int" = some false)
  | .tup _, _ => (by decide +kernel : kitB "tuple" "int" = some false)
  | .scr _, h => by simp [D.pln] at h
  | .ins _ _, h => by simp [D.pln] at h
  | .ty _, h => by simp [D.pln] at h
  | .cls _, h => by simp [D.pln] at h
  | .dic _ _, h => by simp [D.pln] at h
theorem kb_bool : ∀ {x : D}, x.pln = true → kitB x.tyN "bool" = some (match x with | .bl _ => true | _ => false)
  | .non, _ => (by decide +kernel : kitB "NoneType" "bool" = some false)
  | .bl _, _ => (by decide +kernel : kitB "bool" "bool" = some true)
  | .int _, _ => (by decide +kernel : kitB "int" "bool" = some false)
  | .str _, _ => (by decide +kernel : kitB "str" "bool" = some false)
  | .lst _, _ => (by decide +kernel : kitB "list" "bool" = some false)
  | .tup _, _ => (by decide +kernel : kitB "tuple" "bool" = some false)
  | .scr _, h => by simp [D.pln] at h
  | .ins _ _, h => by simp [D.pln] at h
  | .ty _, h => by simp [D.pln] at h
  | .cls _, h => by simp [D.pln] at h
  | .dic _ _, h => by simp [D.pln] at h
theorem kb_tuple : ∀ {x : D}, x.pln = true → kitB x.tyN "tuple" = some (match x with | .tup _ => true | _ => false)
  | .non, _ => (by decide +kernel : kitB "NoneType" "tuple" = some false)
  | .bl _, _ => (by decide +kernel : kitB "bool" "tuple" = some false)
  | .int _, _ => (by decide +kernel : kitB "int" "tuple" = some false)
  | .str _, _ => (by decide +kernel : kitB "str" "tuple" = some false)
  | .lst _, _ => (by decide +kernel : kitB "list" "tuple" = some false)
  | .tup _, _ => (by decide +kernel : kitB "tuple" "tuple" = some true)
  | .scr _, h => by simp [D.pln] at h
  | .ins _ _, h => by simp [D.pln] at h
  | .ty _, h => by simp [D.pln] at h
  | .cls _, h => by simp [D.pln] at h
  | .dic _ _, h => by simp [D.pln] at h
theorem kb_str : ∀ {x : D}, x.pln = true → kitB x.tyN "str" = some (match x with | .str _ => true | _ => false)
  | .non, _ => (by decide +kernel : kitB "NoneType" "str" = some false)
  | .bl _, _ => (by decide +kernel : kitB "bool" "str" = some false)
  | .int _, _ => (by decide +kernel : kitB "int" "str" = some false)
  | .str _, _ => (by decide +kernel : kitB "str" "str" = some true)
  | .lst _, _ => (by decide +kernel : kitB "list" "str" = some false)
  | .tup _, _ => (by decide +kernel : kitB "tuple" "str" = some false)
  | .scr _, h => by simp [D.pln] at h
  | .ins _ _, h => by simp [D.pln] at h
  | .ty _, h => by simp [D.pln] at h
  | .cls _, h => by simp [D.pln] at h
  | .dic _ _, h => by simp [D.pln] at h
def D.isI : D → Bool
  | .int _ => true
  | _ => false
def D.isT : D → Bool
  | .tup _ => true
  | _ => false
def D.isS : D → Bool
  | .str _ => true
  | _ => false
def D.isB : D → Bool
  | .bl _ => true
  | _ => false
section
variable {W : Wd} {δ : Fr} {Φ : D → Fr → Prop} {x : D}
theorem wc_isiT (hp : x.pln = true) (p : Φ (.bl x.isT) δ) : WC W (rIsi W.K) [x, .ty "tuple"] δ Φ := wc_isi hp (by rw [kb_tuple hp]; cases x <;> rfl) p
theorem wc_isiS (hp : x.pln = true) (p : Φ (.bl x.isS) δ) : WC W (rIsi W.K) [x, .ty "str"] δ Φ := wc_isi hp (by rw [kb_str hp]; cases x <;> rfl) p
theorem wc_isiI (hp : x.pln = true) (p : Φ (.bl (x.isI || x.isB)) δ) : WC W (rIsi W.K) [x, .ty "int"] δ Φ := wc_isi hp (by rw [kb_int hp]; cases x <;> rfl) p
theorem wc_isiB (hp : x.pln = true) (p : Φ (.bl x.isB) δ) : WC W (rIsi W.K) [x, .ty "bool"] δ Φ := wc_isi hp (by rw [kb_bool hp]; cases x <;> rfl) p
end
section
variable {W : Wd} {δ : Fr} {u : TS} {x : D} {p : Addr}
theorem so_nx {Φ : Out → Prop} (h : WS W u δ Φ) : seqO W u Φ (.nx δ) := h
theorem so_rt {Φ : Out → Prop} (h : Φ (.rt x δ)) : seqO W u Φ (.rt x δ) := h
theorem so_bk {Φ : Out → Prop} (h : Φ (.bk δ)) : seqO W u Φ (.bk δ) := h
theorem so_ct {Φ : Out → Prop} (h : Φ (.ct δ)) : seqO W u Φ (.ct δ) := h
theorem lo_nx {P : Fr → Prop} {Φ : Out → Prop} (h : P δ) : loopO P Φ (.nx δ) := h
theorem lo_ct {P : Fr → Prop} {Φ : Out → Prop} (h : P δ) : loopO P Φ (.ct δ) := h
theorem lo_bk {P : Fr → Prop} {Φ : Out → Prop} (h : Φ (.nx δ)) : loopO P Φ (.bk δ) := h
theorem lo_rt {P : Fr → Prop} {Φ : Out → Prop} (h : Φ (.rt x δ)) : loopO P Φ (.rt x δ) := h
theorem ro_nx {Φ : D → Prop} (h : Φ .non) : rtO Φ (.nx δ) := h
theorem ro_rt {Φ : D → Prop} (h : Φ x) : rtO Φ (.rt x δ) := h
theorem rj_nx {Φ : D → Prop} (e : δ[0]? = some (some (.jg p))) (h : Φ .non) : rtJ p Φ (.nx δ) := ⟨e, h⟩
theorem rj_rt {Φ : D → Prop} (e : δ[0]? = some (some (.jg p))) (h : Φ x) : rtJ p Φ (.rt x δ) := ⟨e, h⟩
end
/-! comprehensions and loops in short -/
def FrSub (δ3 δ : Fr) : Prop := ∀ (k : Nat) e a, δ3[k]? = some (some e) → e.adr = some a → δ[k]? = some (some e)
theorem frsub_refl (δ : Fr) : FrSub δ δ := fun _ _ _ h _ => h
theorem frsub_set {δ : Fr} {i : Nat} {x : D} : FrSub (δ.set i (some (.d x))) δ := fun k e a h ha => by
  rcases get_set_some h with ⟨_, rfl⟩ | ⟨_, h⟩
  · cases ha
  · exact h
theorem frsub_set2 {δ : Fr} {i j : Nat} {x y : D} : FrSub ((δ.set i (some (.d x))).set j (some (.d y))) δ := fun k e a h ha => frsub_set k e a (frsub_set k e a h ha) ha
section
variable {W : Wd} {δ : Fr} {wi : TI} {g : TG} {tt : TT} {te : TE} {vs js : List Nat} {Φ : List D → Fr → Prop}
theorem wl_inv (hj : ∀ j, j ∈ js → j ∈ vs) (h : WI W wi δ fun l δ1 => l.length ≤ 100000 ∧ ∃ Pv : Nat → List D → Prop, Pv 0 [] ∧ (∀ (i : Nat) x acc, l[i]? = some x → Pv i acc → acc.length ≤ i → WG W g js x (wipeF δ1 vs) fun δ3 => FrSub δ3 (wipeF δ1 vs) ∧
      WT W tt δ3 fun b δ4 => δ4 = δ3 ∧ if b = true then WE W te δ3 fun y δ5 => δ5 = δ3 ∧ Pv (i + 1) (acc ++ [y]) else Pv (i + 1) acc) ∧ (∀ acc, Pv l.length acc → acc.length ≤ l.length → Φ acc δ1)) :
    WL W (tLc wi g tt te vs) δ Φ := wl_lc hj h
theorem WI.imp {Φ Ψ : List D → Fr → Prop} (h : WI W wi δ Φ) (i : ∀ l δ', Φ l δ' → Ψ l δ') : WI W wi δ Ψ := fun I H σ k R q => h I H σ k R fun l δ' J I' H' p => q l δ' J I' H' (i l δ' p)
theorem WG.imp {x : D} {Φ Ψ : Fr → Prop} (h : WG W g js x δ Φ) (i : ∀ δ', Φ δ' → Ψ δ') : WG W g js x δ Ψ := fun I H σ v k r Q q => h I H σ v k r Q fun δ' σ' p => q δ' σ' (i δ' p)
/-- [f x for x in l] -/
theorem wl_map {f : D → D} (hj : ∀ j, j ∈ js → j ∈ vs) (h : WI W wi δ fun l δ1 => l.length ≤ 100000 ∧ (∀ x, x ∈ l → WG W g js x (wipeF δ1 vs) fun δ3 => FrSub δ3 (wipeF δ1 vs) ∧ WE W te δ3 fun y δ5 => δ5 = δ3 ∧ y = f x) ∧ Φ (l.map f) δ1) :
    WL W (tLc wi g tYes te vs) δ Φ := wl_inv hj (h.imp fun l δ1 ⟨hl, hx, p⟩ => ⟨hl, fun i acc => acc = (l.take i).map f, rfl, fun i x acc hi ha _ => (hx x (List.mem_of_getElem? hi)).imp fun δ3 ⟨h1, h2⟩ => ⟨h1, wt_yes ⟨rfl, by
    rw [if_pos rfl]
    exact h2.imp fun y δ5 ⟨e1, e2⟩ => ⟨e1, by
      show acc ++ [y] = (l.take (i + 1)).map f
      rw [show acc = (l.take i).map f from ha, e2, List.take_add_one, hi, List.map_append]
      rfl⟩⟩⟩, fun acc ha _ => by
    rw [show acc = (l.take l.length).map f from ha, List.take_length]
    exact p⟩)
/-- [f x for x in l if b x] -/
theorem wl_filt {f : D → D} {b : D → Bool} (hj : ∀ j, j ∈ js → j ∈ vs) (h : WI W wi δ fun l δ1 => l.length ≤ 100000 ∧ (∀ x, x ∈ l → WG W g js x (wipeF δ1 vs) fun δ3 => FrSub δ3 (wipeF δ1 vs) ∧ WT W tt δ3 fun c δ4 => δ4 = δ3 ∧ c = b x ∧ (b x = true → WE W te δ3 fun y δ5 => δ5 = δ3 ∧ y = f x)) ∧ Φ ((l.filter b).map f) δ1) :
    WL W (tLc wi g tt te vs) δ Φ := wl_inv hj (h.imp fun l δ1 ⟨hl, hx, p⟩ => ⟨hl, fun i acc => acc = ((l.take i).filter b).map f, rfl, fun i x acc hi ha _ => (hx x (List.mem_of_getElem? hi)).imp fun δ3 ⟨h1, h2⟩ => ⟨h1, fun I H σ k Q q => h2 I H σ k Q fun c δ4 I' H' ⟨e4, ec, hc⟩ => q c δ4 I' H' ⟨e4, by
    have et : ((l.take (i + 1)).filter b).map f = ((l.take i).filter b).map f ++ (if b x = true then [f x] else []) := by
      rw [List.take_add_one, hi, List.filter_append, List.map_append]
      congr 1
      show ((List.filter b [x]).map f) = _
      rw [List.filter_cons]
      split <;> rfl
    cases c with
    | true =>
      rw [if_pos rfl]
      exact (hc ec.symm).imp fun y δ5 ⟨e1, e2⟩ => ⟨e1, by
        show acc ++ [y] = ((l.take (i + 1)).filter b).map f
        rw [et, ← ec, if_pos rfl, show acc = ((l.take i).filter b).map f from ha, e2]⟩
    | false =>
      rw [if_neg (by decide)]
      show acc = ((l.take (i + 1)).filter b).map f
      rw [et, ← ec, if_neg (by decide), show acc = ((l.take i).filter b).map f from ha, List.append_nil]⟩⟩, fun acc ha _ => by
    rw [show acc = ((l.take l.length).filter b).map f from ha, List.take_length]
    exact p⟩)
/-- for x in l -/
theorem ws_forN {tb : TS} {j : Nat} {Φ : Out → Prop} (h : WI W wi δ fun l δ1 => ∃ Pv : Nat → Fr → Prop, Pv 0 δ1 ∧ (∀ (i : Nat) x δ2, l[i]? = some x → Pv i δ2 → WS W tb (δ2.set j (some (.d x))) (loopO (Pv (i + 1)) Φ)) ∧ ∀ δ2, Pv l.length δ2 → Φ (.nx δ2)) :
    WS W (tFor wi (gName j) tb) δ Φ := ws_for (js := [j]) (h.imp fun l δ1 ⟨Pv, h0, hs, hd⟩ => ⟨Pv, h0, fun i x δ2 hi p => wg_name (hs i x δ2 hi p), hd⟩)
/-- for x, y in l -/
theorem ws_for2 {tb : TS} {j1 j2 : Nat} {Φ : Out → Prop} (h : WI W wi δ fun l δ1 => ∃ Pv : Nat → Fr → Prop, Pv 0 δ1 ∧ (∀ (i : Nat) x δ2, l[i]? = some x → Pv i δ2 → ∃ a b, x = .tup [a, b] ∧ WS W tb ((δ2.set j1 (some (.d a))).set j2 (some (.d b))) (loopO (Pv (i + 1)) Φ)) ∧ ∀ δ2, Pv l.length δ2 → Φ (.nx δ2)) :
    WS W (tFor wi (gTup W.K 2 (gCons (gName j1) (gCons (gName j2) gNil))) tb) δ Φ := ws_for (js := [j1, j2]) (h.imp fun l δ1 ⟨Pv, h0, hs, hd⟩ => ⟨Pv, h0, fun i x δ2 hi p => by
    obtain ⟨a, b, rfl, q⟩ := hs i x δ2 hi p
    exact wg_2 rfl q, hd⟩)
end
theorem mem1 {i : Nat} : ∀ j, j ∈ [i] → j ∈ [i] := fun _ h => h
theorem mem2 {i k : Nat} : ∀ j, j ∈ [i, k] → j ∈ [i, k] := fun _ h => h
section
variable {W : Wd} {δ : Fr} {Φ : D → Fr → Prop} {ta tb tc : TE}
theorem we_chain {r r' : R2} (h : WE W ta δ fun x δ1 => WE W tb δ1 fun y δ2 => WR W r x y δ2 fun z δ3 => ∃ k, z = .bl k ∧ if k = true then WE W tc δ3 fun w δ4 => WR W r' y w δ4 Φ else Φ (.bl false) δ3) : WE W (tChain r r' ta tb tc) δ Φ := fun I H σ k Q q => by
  refine h I H σ k _ fun x δ1 v I1 H1 h1 k1 s1 r1 => ?_
  refine h1 I1 H1 σ k1 _ fun y δ2 w I2 H2 h2 k2 s2 r2 => ?_
  refine h2 I2 H2 σ v w k2 (r1.mono s2.ii) r2 _ fun z δ3 u I3 H3 ⟨c, e, p⟩ k3 s3 r3 => ?_
  subst e
  cases r3
  refine ⟨c, rfl, ?_⟩
  cases c with
  | true => exact p I3 H3 σ k3 _ fun w' δ4 u4 I4 H4 h4 k4 s4 r4 => h4 I4 H4 σ w u4 k4 (r2.mono (s3.ii.trans s4.ii)) r4 Q fun z δ5 u5 I5 H5 p5 k5 s5 r5 => q z δ5 u5 I5 H5 p5 k5 ((((s1.trans s2).trans s3).trans s4).trans s5) r5
  | false => exact q _ δ3 _ I3 H3 p k3 ((s1.trans s2).trans s3) (.bl _)
end
theorem pln_tup {l : List D} : (D.tup l).pln = true := rfl
theorem pln_lst {l : List D} : (D.lst l).pln = true := rfl
theorem pln_int {l : Int} : (D.int l).pln = true := rfl
theorem pln_bl {l : Bool} : (D.bl l).pln = true := rfl
theorem pln_str {l : Str} : (D.str l).pln = true := rfl
theorem pln_non : (D.non).pln = true := rfl
end Dt

namespace Dt
open PySem L2
section
variable {W : Wd} {δ : Fr} {Φ : D → Fr → Prop} {S : DSpec} {ta : TA} {E E' : XK}
/-- f(maker(..)) -/
theorem we_callJM {Sm : List D → Prop} (h : WA W ta δ fun ms δ1 => Sm ms ∧ S [] fun z => Φ z δ1) : WE W (tCall (jSp W S) [] E (tCons (tCall (mSp W Sm) [] E' ta) tNil)) δ Φ := fun I H σ k Q q =>
  h I H σ k _ fun ms δ1 vs I1 H1 ⟨hS, p⟩ k1 s1 r1 => ⟨I1, ms, k1.ih, by rw [List.append_nil]; exact r1, hS, fun a H2 ha e2 hj =>
    ⟨I1, a, [], [], _, by simp, k1.ih.trans e2, free_of k1.ih ha, hj, .nil, p, fun z u I2 H3 pz g1 g2 g3 g4 g5 g6 rz => by
      have hh : Ex H1 H3 := fun b o hb => g3 b o (e2 b o hb) fun c => by rw [c, ha] at hb; cases hb
      have nw : ∀ b o, I2 b = some o → I1 b = some o ∨ H1 b = none := fun b o hb => (g6 b o hb).elim .inl fun c => .inr (by
        cases z : H1 b with
        | none => rfl
        | some o' => rw [e2 b o' z] at c; cases c)
      exact q z δ1 u I2 H3 pz (k1.grow g1 g2 hh nw) (s1.trans (Sx.grow g1 hh nw)) rz⟩⟩
end
end Dt

namespace Dt
open PySem L2
theorem atI_n {α : Type} {xs : List α} {j : Nat} (h : j < xs.length) : atI xs (j : Int) = xs[j]? := by
  unfold atI ixN
  rw [if_pos (by omega), if_pos (by omega)]
  simp
theorem atI_i {α : Type} {xs : List α} {r : Int} (h0 : 0 ≤ r) (h1 : r < xs.length) : atI xs r = xs[r.toNat]? := by
  obtain ⟨n, rfl⟩ := Int.eq_ofNat_of_zero_le h0
  exact atI_n (by simpa using h1)
theorem co_rt {i : Nat} {p : Addr} {Φ : Out → Prop} {x : D} {δ : Fr} {a b c : Int} (e : δ[i]? = some (some (.jo p [.int a, .int b, .int c]))) (h : Φ (.rt x (δ.set i (some (.jg p))))) : closeO i p Φ (.rt x δ) := ⟨a, b, c, e, h⟩
theorem co_nx {i : Nat} {p : Addr} {Φ : Out → Prop} {δ : Fr} {a b c : Int} (e : δ[i]? = some (some (.jo p [.int a, .int b, .int c]))) (h : Φ (.nx (δ.set i (some (.jg p))))) : closeO i p Φ (.nx δ) := ⟨a, b, c, e, h⟩
/-! the draws' list is made -/
def WM (W : Wd) (ts : TS) (δ : Fr) : Prop := ∀ (I H : Hp) (σ : L2.St) (Dn : Ends), OK W I H δ σ → (∀ p H', H p = none → (∀ a o, H a = some o → ¬ ownA δ a → H' a = some o) → (∃ a b c : Int, H' p = some (.lst [.int a, .int b, .int c])) → Dn.rt (.ref p) H') → ts Dn σ H
theorem wm_seq {W : Wd} {t u : TS} {δ : Fr} (h : WS W t δ fun o => ∃ δ1, o = .nx δ1 ∧ WM W u δ1) : WM W (tSeq t u) δ := fun I H σ Dn k q =>
  h I H σ { Dn with nx := u Dn } k ⟨fun δ' σ' I' H' ⟨δ1, e, m⟩ k' s' => by
    cases e
    exact m I' H' σ' Dn k' fun p H2 hp kp hj => q p H2 (none_back s'.lv hp) (fun a o e hn => kp a o (s'.kp a o e hn) fun c => (s'.oa a c).elim hn fun z => by rw [z] at e; cases e) hj,
  fun x δ' σ' v I' H' ⟨δ1, e, m⟩ _ _ _ => (nomatch e), fun δ' σ' I' H' ⟨δ1, e, m⟩ _ _ => (nomatch e), fun δ' σ' I' H' ⟨δ1, e, m⟩ _ _ => (nomatch e)⟩
theorem wm_ret {W : Wd} {te : TE} {δ : Fr} (h : WL W te δ fun xs _ => ∃ a b c : Int, xs = [.int a, .int b, .int c]) : WM W (tRet te) δ := fun I H σ Dn k q =>
  h I H σ k _ fun xs δ' p vs I' H' ⟨a, b, c, e⟩ k1 s1 hI hH r hn h0 => q p H' h0 s1.kp ⟨a, b, c, by
    subst e
    rw [hH, Rps.ints (ns := [a, b, c]) r]
    rfl⟩
theorem mk_body {W : Wd} {S : List D → Prop} {H : Hp} {t : TS} {N : List Str} {n : Nat} (hn : n ≤ N.length) (hlen : ∀ xs, S xs → xs.length = n) (h : ∀ xs, S xs → WM W t (frD N.length xs)) {vs : List V} {Q : VK} {E : XK} (q : mSp W S vs H Q E) :
    t { nx := fun _ H' => Q .non H', rt := Q } (L2.start N vs) H := by
  obtain ⟨I, xs, ih, r, s, k⟩ := q
  have hx := hlen xs s
  exact h xs s I H _ _ (ok_frD ih r (by omega)) fun p H' hp kp hj => k p H' hp (fun a o e => kp a o e noown_frD) hj
/-! shapes, == -/
theorem sh_pln : ∀ {n : Nat} {x : D}, x.sh n = true → x.pln = true := fun {n x} h => by
  cases x <;> first | rfl | (simp [D.sh] at h)
theorem shs_mem : ∀ {n : Nat} {l : List D}, D.shs (n + 1) l = true → ∀ x ∈ l, x.sh n = true
  | n, [], _, x, hx => nomatch hx
  | n, y :: l, h, x, hx => by
    have h' : (D.sh n y && D.shs (n + 1) l) = true := h
    rw [Bool.and_eq_true] at h'
    rcases List.mem_cons.mp hx with c | c
    · rw [c]; exact h'.1
    · exact shs_mem h'.2 x c
theorem shs_all : ∀ {n : Nat} {l : List D}, (∀ x ∈ l, x.sh n = true) → D.shs (n + 1) l = true
  | n, [], _ => rfl
  | n, y :: l, h => by
    show (D.sh n y && D.shs (n + 1) l) = true
    rw [Bool.and_eq_true]
    exact ⟨h y (List.mem_cons_self ..), shs_all fun x hx => h x (List.mem_cons_of_mem _ hx)⟩
theorem deq_nil (l : List D) : deq (.lst l) (.lst []) = l.isEmpty := by
  cases l with
  | nil => rfl
  | cons x l => rfl
theorem eqvAll_ints : ∀ a b : List Int, PyData.eqvAll (a.map PyData.int) (b.map PyData.int) = decide (a = b)
  | [], [] => rfl
  | [], y :: b => rfl
  | x :: a, [] => rfl
  | x :: a, y :: b => by
    show ((x == y) && PyData.eqvAll (a.map PyData.int) (b.map PyData.int)) = _
    rw [eqvAll_ints a b, Bool.eq_iff_iff]
    simp
theorem filter_not {l : List D} {b : D → Bool} : (l.filter b).isEmpty = l.all fun x => !b x := by
  induction l with
  | nil => rfl
  | cons x l ih =>
    rw [List.filter_cons, List.all_cons]
    cases h : b x with
    | true => simp
    | false => simpa using ih
theorem map_empty {l : List D} {f : D → D} : (l.map f).isEmpty = l.isEmpty := by cases l <;> rfl
theorem sh_map (f : D → D) (l : List D) (n : Nat) (h : ∀ x ∈ l, (f x).sh n = true) : D.shs (n + 1) (l.map f) = true := shs_all fun x hx => by
  obtain ⟨y, hy, rfl⟩ := List.mem_map.mp hx
  exact h y hy
theorem sh_ints (ns : List Int) : D.shs 2 (ns.map D.int) = true := shs_all fun x hx => by
  obtain ⟨i, _, rfl⟩ := List.mem_map.mp hx
  rfl
theorem cut_from1 (l : List D) : cutD l (some 1) none = l.drop 1 := by
  unfold cutD
  rw [show HT.sIx l.length 0 (some 1) = min 1 l.length from HT.sIx_nat l.length 0 1, HT.sIx_none]
  cases l with
  | nil => rfl
  | cons x r =>
    rw [show min 1 (x :: r).length = 1 by rw [List.length_cons]; omega]
    show List.take ((x :: r).length - 1) r = r
    rw [List.length_cons, Nat.add_sub_cancel]
    exact List.take_length
theorem zipD_int : ∀ ns ms : List Int, zipD (ns.map D.int) (ms.map D.int) = (ns.zip ms).map fun p => D.tup [.int p.1, .int p.2] := fun ns ms => by
  unfold zipD
  rw [List.zip_map, List.map_map]
  rfl
theorem bits_lt (m : Nat) : m < 2 ^ Builtin.Int.intBits (m : Int) := by
  by_cases h : m = 0
  · subst h; decide
  · unfold Builtin.Int.intBits
    rw [if_neg (by simpa using h)]
    simpa using Nat.lt_log2_self (n := m)
theorem bits_le {m k : Nat} (h : m < 2 ^ k) : Builtin.Int.intBits (m : Int) ≤ k := PyProof.Rows.intBits_le (by simpa using h)
theorem wr_shl {W : Wd} {δ : Fr} {Φ : D → Fr → Prop} {j : Int} (h0 : 0 ≤ j) (h1 : j ≤ 100000000) (p : Φ (.int (1 * 2 ^ j.toNat)) δ) : WR W (rI CShl fun i j => .int (i * 2 ^ j.toNat)) (.int 1) (.int j) δ Φ :=
  wr_Ii (f := fun i j => i * 2 ^ j.toNat) ⟨h0, by rw [show Builtin.Int.intBits 1 = 1 from by decide]; omega⟩ p
end Dt

/-! Lo: operators, ==, !=, truth, str, static methods of own classes. -/
namespace LO
open PySem PySem.Spec PyProof.Rows L2
section
variable {X : Cx} {k j : Nat} {C : Addr} {m : Str} {sp : Sp}
theorem met_r (c : C8.Met X.prog X.w X.K X.mg X.base k C m sp []) : ∃ f, Cls X.K C ∧ Meth X.K C m f ∧ FnR X.prog X.w X.K X.mg X.base C8.CX0 k f sp := by
  obtain ⟨f, fd, ps, ds, hc, hm, F, b, d⟩ := c.ex
  refine ⟨f, hc, hm, ?_⟩
  cases d
  have := FnOk.raw F b .nil
  exact FnR.imp this fun vs H Q E h => by rw [List.append_nil]; exact h
theorem inst_of {pins : List (Addr × Obj)} {σ : L2.St} {H : Hp} {s : Shared} {a dx : Addr} {fs : List (Str × V)} (I : Inv X pins σ H s) (ha : H a = some (.ins C dx fs)) : ∃ od, PySem.W.InstAt s.heap a (PySem.W.instObj C dx) C (some od) := by
  obtain ⟨mA, O, _⟩ := ins_get I.hok ha
  obtain ⟨od, J, _⟩ := O.look
  exact ⟨od, J⟩
/-- x op y, both instances of the class at C -/
def rBin (C : Addr) (sp : Sp) : R2 := fun x y H Q => ∃ a dx fs b dy gs, x = .ref a ∧ y = .ref b ∧ H a = some (.ins C dx fs) ∧ H b = some (.ins C dy gs) ∧ sp [x, y] H Q C8.E0
/-- x op y, x an instance of the class at C, y a whole number -/
def rBinI (C : Addr) (sp : Sp) : R2 := fun x y H Q => ∃ a dx fs i, x = .ref a ∧ y = .int i ∧ H a = some (.ins C dx fs) ∧ sp [x, y] H Q C8.E0
theorem op_bin {op : Operator} (c : C8.Met X.prog X.w X.K X.mg X.base k C m sp []) (hn : PySem.dunder op.info.2 = m) (sf : PySem.W.selfFirst X.K C = true) (hr : Room j X.A) (hk : k ≤ j) : OpR X (binaryOp op) (rBin C sp) := by
  intro pins s σ H x y v u Q I rx ry h
  obtain ⟨a, dx, fs, b, dy, gs, rfl, rfl, ha, hb, q⟩ := h
  cases (show v = Value.ref a from rx)
  cases (show u = Value.ref b from ry)
  obtain ⟨g, hc, hm, F⟩ := met_r c
  obtain ⟨od, J⟩ := inst_of I ha
  obtain ⟨od', J'⟩ := inst_of I hb
  obtain ⟨mm, hF⟩ := I.fr
  refine PySem.W.binop_K hF I.ok.mod.kin J J'.type sf (by rw [hn]; exact hm.at_) hm.fn ?_
  refine wpAny_mono (wpAny_call (run_fnR (us := [.ref a, .ref b]) (vs := [.ref a, .ref b]) F (hr.mono hk) C8.pass0 I (.cons rfl (.cons rfl .nil)) q)) (fun w s' z => ?_) fun _ _ x => x
  obtain ⟨z', H', I', rz, qz⟩ := z
  exact SlX.cmpback rz ⟨z', H', I', rz, qz⟩
/-- what an operator asks of the type int at its right -/
structure OpI (K : PySem.W.Frag) (C : Addr) (nm : String) : Prop where
  rc : PySem.W.findIn K (.ref C) (dunderR nm) = some none
  i1 : ∃ fo, PySem.W.findIn K (.type "int") (PySem.dunder nm) = some fo
  i2 : ∃ ro, PySem.W.findIn K (.type "int") (dunderR nm) = some ro
  sb : PySem.W.subIn K (.type "int") (.ref C) = some false
theorem op_binI {op : Operator} (c : C8.Met X.prog X.w X.K X.mg X.base k C m sp []) (hn : PySem.dunder op.info.2 = m) (sf : PySem.W.selfFirst X.K C = true) (oi : OpI X.K C op.info.2) (hr : Room j X.A) (hk : k ≤ j) : OpR X (binaryOp op) (rBinI C sp) := by
  intro pins s σ H x y v u Q I rx ry h
  obtain ⟨a, dx, fs, i, rfl, rfl, ha, q⟩ := h
  cases (show v = Value.ref a from rx)
  obtain ⟨t, rfl⟩ := (show ∃ t, u = Value.int i t from ry)
  obtain ⟨g, hc, hm, F⟩ := met_r c
  obtain ⟨od, J⟩ := inst_of I ha
  obtain ⟨mm, hF⟩ := I.fr
  obtain ⟨fo, h1⟩ := oi.i1
  obtain ⟨ro, h2⟩ := oi.i2
  refine PySem.W.ksp_binT hF I.ok.mod.kin J rfl sf (by rw [hn]; exact hm.at_) hm.fn oi.rc (.inl rfl) h1 h2 oi.sb ?_
  refine wpAny_mono (wpAny_call (run_fnR (us := [.ref a, .int i t]) (vs := [.ref a, .int i]) F (hr.mono hk) C8.pass0 I (.cons rfl (.cons ⟨t, rfl⟩ .nil)) q)) (fun w s' z => ?_) fun _ _ x => x
  obtain ⟨z', H', I', rz, qz⟩ := z
  exact SlX.cmpback rz ⟨z', H', I', rz, qz⟩
/-- -x -/
def rNeg (C : Addr) (sp : Sp) : V → Hp → VK → Prop := fun x H Q => ∃ a dx fs, x = .ref a ∧ H a = some (.ins C dx fs) ∧ sp [x] H Q C8.E0
theorem un_negO (c : C8.Met X.prog X.w X.K X.mg X.base k C "__neg__" sp []) (hr : Room j X.A) (hk : k ≤ j) : UnR X (unaryOp .USub) (rNeg C sp) := by
  intro pins s σ H x v Q I rx h
  obtain ⟨a, dx, fs, rfl, ha, q⟩ := h
  cases (show v = Value.ref a from rx)
  obtain ⟨g, hc, hm, F⟩ := met_r c
  obtain ⟨od, J⟩ := inst_of I ha
  obtain ⟨mm, hF⟩ := I.fr
  exact PySem.W.ksp_neg hF I.ok.mod.kin J hm.at_ hm.fn (wpAny_call (run_fnR (us := [.ref a]) (vs := [.ref a]) F (hr.mono hk) C8.pass0 I (.cons rfl .nil) q))
/-- x == y, x an instance of the class at C with an own __eq__ -/
def rEqO (K : PySem.W.Frag) (C : Addr) (sp : Sp) : R2 := fun x y H Q => ∃ a dx fs t, x = .ref a ∧ H a = some (.ins C dx fs) ∧ TyX K H y t ∧ PySem.W.notFirst K C t = true ∧ sp [x, y] H Q C8.E0
theorem op_eqO (c : C8.Met X.prog X.w X.K X.mg X.base k C "__eq__" sp []) (hr : Room j X.A) (hk : k ≤ j) : OpR X (compareOp .Eq) (rEqO X.K C sp) := by
  intro pins s σ H x y v u Q I rx ry h
  obtain ⟨a, dx, fs, t, rfl, ha, ty, hn, q⟩ := h
  cases (show v = Value.ref a from rx)
  obtain ⟨g, hc, hm, F⟩ := met_r c
  obtain ⟨od, J⟩ := inst_of I ha
  obtain ⟨mm, hF⟩ := I.fr
  obtain ⟨P, Z, p, _⟩ := kit_of I ry ty
  show wpAny (model X.prog X.w) X.A (richCompare .Eq (.ref a) u) (EP X pins σ Q) X.xe s
  refine PySem.W.cmp_K (op := .Eq) (tb := t) hr.units0 hF I.ok.mod.kin J (Z.ty _ _ I.kIn p) hn hm.at_ hm.fn ?_
  refine wpAny_mono (wpAny_call (run_fnR (us := [.ref a, u]) (vs := [.ref a, y]) F (hr.mono hk) C8.pass0 I (.cons rfl (.cons ry .nil)) q)) (fun w s' z => ?_) fun _ _ x => x
  obtain ⟨z', H', I', rz, qz⟩ := z
  exact SlX.cmpback rz ⟨z', H', I', rz, qz⟩
end
section
variable {prog : Program} {w : World} {A : Around} {E : Value → Shared → Prop} {s : Shared} {K : PySem.W.Frag} {x C L f : Addr} {h₀ : Heap} {m : Str → Option Value} {ox : Obj} {od : Option Obj} {b tb : Value}
open PySem.W in
theorem isObj (X : K.In s.heap) (I : InstAt s.heap x ox C od) (hob : subIn K (.ref C) (.type "object") = some true) {M : Model} : Looks M s.heap (isInstance (.ref x) (.type "object")) true := I.type.andThen (looks_subIn X hob)
open PySem.W PySem.Builtin in
theorem objNe (X : K.In s.heap) (I : InstAt s.heap x ox C od) (hu : A.units < cLine) (hs : findIn K (.ref C) "__eq__" = some (some (.ref f))) (hf : isFn K (.ref f) = true) {Q : Fin → Shared → Prop}
    (hcall : wpAny (model prog w) A (call (.ref f) [.ref x, b]) (fun v s' => ∃ r, v = .bool r ∧ Q (.done (.ret (.bool (!r)))) s') E s) : wpAny (model prog w) A (Builtin.«object.__ne__» ⟨[.ref x, b], []⟩) Q E s := by
  obtain ⟨h, g, d, t, os⟩ := s
  unfold Builtin.«object.__ne__»
  repeat (first
    | with_reducible refine wpAny_cRoomFor hu ?_
    | (refine wpAny_bind (m := callSpecialIfBound? (.ref x) (Str.ofString "__eq__") [b])
        (ifBound_K X I hs hf (wpAny_mono hcall (fun r s' hr => by
          obtain ⟨b, rfl, hq⟩ := hr
          repeat (first | exact hq | exact wpAny_pure hq | exact wpAny_truthy_bool hq | (refine wpAny_bind (m := truthy (.bool _)) (wpAny_truthy_bool ?_)) | wp_step)) fun _ _ e => e)))
    | wp_step)
open PySem.W in
theorem tryNe (X : K.In s.heap) (I : InstAt s.heap x ox C od) (hu : A.units + 1 < cLine) (hne : findIn K (.ref C) "__ne__" = some (some (.builtin "object.__ne__"))) (hob : subIn K (.ref C) (.type "object") = some true)
    (hs : findIn K (.ref C) "__eq__" = some (some (.ref f))) (hf : isFn K (.ref f) = true) {Q : Value → Shared → Prop}
    (h : wpAny (model prog w) A.in1 (call (.ref f) [.ref x, b]) (fun v s' => ∃ r, v = .bool r ∧ Q (.bool (!r)) s') E s) : wpAny (model prog w) A (tryCompare (.ref x) "__ne__" b) (fun r s' => ∃ v, r = some v ∧ Q v s') E s := by
  have hc : wpAny (model prog w) A (call (.builtin "object.__ne__") [.ref x, b]) (fun v s' => ∃ r, v = .bool (!r) ∧ Q (.bool (!r)) s') E s := by
    refine wpAny_call (codeAny_call_builtin F.cmp_object.ne.plain F.cmpEntry_ne (PySem.W.check_slot F.cmpKind_ne F.cmpSplit_ne (isObj X I hob) (F.cmpArgs_ne _ _) ?_))
    exact objNe X I hu hs hf (wpAny_mono h (fun v s' ⟨r, e, q⟩ => ⟨r, e, ⟨r, rfl, q⟩⟩) fun _ _ e => e)
  unfold tryCompare
  refine wpAny_bind (m := callSpecialIfBound? (.ref x) _ [b]) ?_
  simp only [callSpecialIfBound?, bindSpecialIfBound?]
  refine wpAny_holding (wpAny_bind (wpAny_bind (wpAny_bind (I.type.here ((looks_findIn X hne).here ?_)))))
  refine wpAny_bind (wpAny_askSetting (wpAny_ite ?_))
  have fin : wpAny (model prog w) A (call (.builtin "object.__ne__") ([.ref x] ++ [b]) >>= fun v => pure (some v)) (fun r s' => wpAny (model prog w) A (match r with | some .notImplemented | none => pure none | some v => pure (some v)) (fun r s' => ∃ v, r = some v ∧ Q v s') E s') E s :=
    wpAny_bind (wpAny_mono hc (fun v s' ⟨r, e, q⟩ => by subst e; exact wpAny_pure (wpAny_pure ⟨_, rfl, q⟩)) fun _ _ e => e)
  split
  · exact wpAny_bind (wpAny_of_eq (F.cmp_object.ne.bind _) (wpAny_pure (by exact fin)))
  · exact wpAny_tryCatch (wpAny_bind (wpAny_of_eq (F.cmp_object.ne.bind _) (wpAny_pure (by exact fin))))
end
section
variable {X : Cx} {k j : Nat} {C : Addr} {m : Str} {sp : Sp}
/-- what != asks of the class besides -/
structure NeC (K : PySem.W.Frag) (C : Addr) : Prop where
  ne : PySem.W.findIn K (.ref C) "__ne__" = some (some (.builtin "object.__ne__"))
  ob : PySem.W.subIn K (.ref C) (.type "object") = some true
/-- x != y by the own __eq__ -/
def rNeO (K : PySem.W.Frag) (C : Addr) (sp : Sp) : R2 := fun x y H Q => ∃ a dx fs t, x = .ref a ∧ H a = some (.ins C dx fs) ∧ TyX K H y t ∧ PySem.W.notFirst K C t = true ∧ sp [x, y] H (fun z H' => ∃ r, z = .bl r ∧ Q (.bl (!r)) H') C8.E0
theorem op_neO (c : C8.Met X.prog X.w X.K X.mg X.base k C "__eq__" sp []) (nc : NeC X.K C) (hr : Room j X.A) (hk : k + 1 ≤ j) : OpR X (compareOp .NotEq) (rNeO X.K C sp) := by
  intro pins s σ H x y v u Q I rx ry h
  obtain ⟨a, dx, fs, t, rfl, ha, ty, hn, q⟩ := h
  cases (show v = Value.ref a from rx)
  obtain ⟨g, hc, hm, F⟩ := met_r c
  obtain ⟨od, J⟩ := inst_of I ha
  obtain ⟨mm, hF⟩ := I.fr
  obtain ⟨P, Z, p, _⟩ := kit_of I ry ty
  show wpAny (model X.prog X.w) X.A (richCompare .NotEq (.ref a) u) (EP X pins σ Q) X.xe s
  have hr1 : Room k X.A.in1 := (hr.mono hk).in1
  have hu : X.A.units + 1 < cLine := by have := hr.un; omega
  have one : wpAny (model X.prog X.w) X.A (tryCompare (.ref a) "__ne__" u) (fun r s' => ∃ v, r = some v ∧ EP X pins σ Q v s') X.xe s := by
    refine tryNe I.kIn J hu nc.ne nc.ob hm.at_ hm.fn (wpAny_mono (wpAny_call (SlX.run_at (us := [.ref a, u]) (ws := [.ref a, y]) F hr1 I.env0.in1 C8.pass0 I (.cons rfl (.cons ry .nil)) q)) (fun w s' z => ?_) fun _ _ x => x)
    obtain ⟨z', H', I', rz, r, e, qz⟩ := z
    subst e
    exact ⟨r, rz, .bl (!r), H', I', rfl, qz⟩
  unfold richCompare
  simp only [oneThing_ref]
  refine wpAny_holding (wpAny_bind (wpAny_cRoomFor hr.units0 ?_))
  refine wpAny_bind (J.type.here (wpAny_bind ((Z.ty _ _ I.kIn p).here ?_)))
  split
  · rename_i q
    have e : PySem.W.subIn X.K t (.ref C) = some false := by
      rcases Bool.or_eq_true_iff.mp hn with e | e
      · rw [beq_iff_eq.mp e] at q; simp at q
      · exact beq_iff_eq.mp e
    refine wpAny_bind ((PySem.W.looks_subIn I.kIn e).here ?_)
    simp only [Bool.false_eq_true, if_false]
    refine wpAny_bind (wpAny_mono one (fun r s' z => ?_) fun _ _ e => e)
    obtain ⟨v, rfl, hq⟩ := z
    exact wpAny_pure hq
  · refine wpAny_bind (wpAny_pure ?_)
    simp only [Bool.false_eq_true, if_false]
    refine wpAny_bind (wpAny_mono one (fun r s' z => ?_) fun _ _ e => e)
    obtain ⟨v, rfl, hq⟩ := z
    exact wpAny_pure hq
/-- str(x) -/
def rStrO (C : Addr) (sp : Sp) : List V → Hp → VK → Prop := fun xs H Q => ∃ a dx fs, xs = [.ref a] ∧ H a = some (.ins C dx fs) ∧ sp [.ref a] H (fun z H' => ∃ t, z = .str t ∧ Q z H') C8.E0
theorem call_strO (c : C8.Met X.prog X.w X.K X.mg X.base k C "__str__" sp []) (hr : Room j X.A) (hk : k + 2 ≤ j) : CallR X (.type "str") (rStrO C sp) := by
  intro pins s σ H xs us Q I r h
  obtain ⟨a, dx, fs, rfl, ha, q⟩ := h
  obtain ⟨u, rfl, ru⟩ := vals1 r
  cases (show u = Value.ref a from ru)
  obtain ⟨g, hc, hm, F⟩ := met_r c
  obtain ⟨od, J⟩ := inst_of I ha
  have hr2 : Room k X.A.in1.in1 := ((show Room (k + 1 + 1) X.A from hr.mono hk).in1).in1
  refine PySem.W.kso_call hr2.units0 I.kIn J hm.at_ hm.fn (wpAny_mono (wpAny_call (SlX.run_at (us := [.ref a]) (ws := [.ref a]) F hr2 I.env0.in1.in1 C8.pass0 I (.cons rfl .nil) q)) (fun w s' z => ?_) fun _ _ x => x)
  obtain ⟨z', H', I', rz, t, e, qz⟩ := z
  subst e
  obtain ⟨tk, rfl⟩ := (show ∃ tk, w = Value.str t tk from rz)
  exact ⟨.str t, H', I', ⟨tk, rfl⟩, qz⟩
/-- a static method of the class at C -/
structure Stat (P : Program) (w : World) (K : PySem.W.Frag) (mg : Str → Option Value) (base : Heap) (k : Nat) (C : Addr) (m : Str) (sp : Sp) : Prop where
  ex : ∃ (mc : Value) (p f : Addr) (fd : FuncData) (ps : List Str), ClX.CRead K C mc ∧ PySem.W.findCls K (.ref C) mc m = some (.get (.builtin "staticmethod.__get__") (.ref p) .none (.ref C)) ∧ (∃ rest, PySem.W.recIn K p "staticmethod" = some (.ref f :: rest)) ∧
    PySem.W.keepIn K (.ref f) = true ∧ FnOk P w K mg base C8.CX0 k f fd ps sp ∧ Binds K fd ps []
def tSMeth (C : Addr) (sp : Sp) (ta : TE) (t : TA) : TE := fun σ H Q => ta σ H fun x H1 => x = .ref C ∧ t σ H1 fun vs H2 => sp vs H2 Q C8.E0
theorem pe_smeth {pl : Sem Bool} {o e : Expr} {es : List Expr} {ta : TE} {t : TA} {pos apos : Pos} (c : Stat X.prog X.w X.K X.mg X.base k C m sp) (hr : Room j X.A) (hk : k ≤ j) (he : PE X o ta) (ha : PA X (e :: es) t)
    (hst : starEach (e :: es) X.env = (false, eval e X.env) :: starEach es X.env := by rfl) (hpl : (backTo pos (starEach es X.env)).any (·.1) = false := by rfl)
    (ht : eval (.Call (.Attribute o m apos) (e :: es) [] pos) X.env = (do
      let ov ← eval o X.env
      standAt apos.atName
      let (f, first) ← holding [ov] (getMethod ov m pl)
      callWith pos f first (backTo pos (starEach (e :: es) X.env)) (backToKw pos (keywordEach [] X.env))) := by rfl) :
    PE X (.Call (.Attribute o m apos) (e :: es) [] pos) (tSMeth C sp ta t) := by
  obtain ⟨mc, p, f, fd, ps, r, at_, ⟨rest, hp⟩, kp, F, b⟩ := c.ex
  refine ⟨fun pins s σ H Q I h => ?_⟩
  refine PySem.W.methodCall_KW (pl := pl) (thn (he.run pins s σ H _ I h) fun u s1 ⟨x, H1, I1, rx, ex, q⟩ => ?_) ht
  subst ex
  obtain rfl : u = Value.ref C := rx
  refine PySem.W.method_cls I1.kIn r.ga (PySem.W.cls_bind I1.kIn r.rd at_ (wpAny_call (PySem.W.sm_get (s := { s1 with toks := s1.toks + 1 }) I1.kIn hp (PySem.W.handed_on rfl ?_))))
  have I2 : Inv X pins σ H1 { s1 with toks := s1.toks + 1 } := I1.tok (s1.toks + 1)
  refine PySem.W.callWith_K (first := []) (h₀ := X.base) I.ok.mod.kin kp (thn (ha.run pos pins _ σ H1 _ I2 q) fun us s2 ⟨vs, H2, I3, rv, q2⟩ => ⟨I3.kIn, ?_⟩) hst hpl
  exact run_fn F (hr.mono hk) b .nil C8.pass0 I3 rv (by rw [List.append_nil]; exact q2)
/-- a property of the class at C -/
structure Prp (P : Program) (w : World) (K : PySem.W.Frag) (mg : Str → Option Value) (base : Heap) (k : Nat) (C : Addr) (m : Str) (sp : Sp) : Prop where
  ex : ∃ (p g : Addr) (fd : FuncData) (ps : List Str), Cls K C ∧ PropOf K C m p g ∧ FnOk P w K mg base C8.CX0 k g fd ps sp ∧ Binds K fd ps []
theorem pe_prp {e : Expr} {ta : TE} {pos : Pos} (c : Prp X.prog X.w X.K X.mg X.base k C m sp) (hr : Room j X.A) (hk : k + 1 ≤ j) (he : PE X e ta) (hab : attributeBase e m X.env (eval e X.env) = eval e X.env := by rfl) : PE X (.Attribute e m pos) (tProp C sp [] C8.E0 ta) := by
  obtain ⟨p, g, fd, ps, hc, hp, F, b⟩ := c.ex
  exact pe_prop he hc hp F (hr.mono hk) b .nil C8.pass0 hab
end
section
variable {P : Program} {w : World} {K : PySem.W.Frag} {mg : Str → Option Value} {base : Heap}
theorem prp0 {m qual : Str} {C p : Addr} {st : Stmt} {f : Addr} {fd : FuncData} {N ps : List Str} {k : Nat} {sp : Sp} (c : Cls K C) (me : PropOf K C m p f) (F : C8.Fun K m qual st f fd) (b : Binds K fd ps []) (S : FnScope N ps (C8.fnScope st)) (len : ∀ vs H Q E, sp vs H Q E → vs.length = ps.length)
    (hbody : ∀ (cdv : Value) (A : Around) (outer : List Env) (s : Shared) (H : Hp) (vs : List V) (Q : VK) (E : XK), Room k (A.deeper (envOfC qual (C8.fnScope st) s.heap.objs.size f cdv)) → sp vs H Q E →
      ∃ t, PSs (cxOf C8.CX0 P w K mg base N qual (C8.fnScope st) f cdv A outer s H E).nox (C8.fnBody st) t ∧ t { nx := fun _ H' => Q .non H', rt := Q } (start N vs) H) : Prp P w K mg base (k + 1) C m sp :=
  ⟨p, f, fd, ps, c, me, C8.fn0 F S len hbody, b⟩
theorem sta0 {m qual : Str} {mc : Value} {C p : Addr} {st : Stmt} {f : Addr} {fd : FuncData} {N ps : List Str} {k : Nat} {sp : Sp} (r : ClX.CRead K C mc) (at_ : PySem.W.findCls K (.ref C) mc m = some (.get (.builtin "staticmethod.__get__") (.ref p) .none (.ref C))) (rc : ∃ rest, PySem.W.recIn K p "staticmethod" = some (.ref f :: rest))
    (kp : PySem.W.keepIn K (.ref f) = true) (F : C8.Fun K m qual st f fd) (b : Binds K fd ps []) (S : FnScope N ps (C8.fnScope st)) (len : ∀ vs H Q E, sp vs H Q E → vs.length = ps.length)
    (hbody : ∀ (cdv : Value) (A : Around) (outer : List Env) (s : Shared) (H : Hp) (vs : List V) (Q : VK) (E : XK), Room k (A.deeper (envOfC qual (C8.fnScope st) s.heap.objs.size f cdv)) → sp vs H Q E →
      ∃ t, PSs (cxOf C8.CX0 P w K mg base N qual (C8.fnScope st) f cdv A outer s H E).nox (C8.fnBody st) t ∧ t { nx := fun _ H' => Q .non H', rt := Q } (start N vs) H) : Stat P w K mg base (k + 1) C m sp :=
  ⟨mc, p, f, fd, ps, r, at_, rc, kp, C8.fn0 F S len hbody, b⟩
end
end LO

/-! Do: instances of own classes as data. -/
namespace Dt
open PySem L2 LO
def tysD : List String := ["NoneType", "bool", "int", "str", "list", "tuple"]
/-- what the walks ask of the class with the number c and its attributes -/
structure CInf (W : Wd) (c : Nat) (ats : List Str) : Prop where
  eq : (W.cl c).2 = ats
  nd : ats.Nodup
  ln : ats.length < 1000
  cl : Cls W.K (W.cl c).1
  na : ∀ f ∈ ats, NoAttr W.K (W.cl c).1 f
  ca : PySem.W.findIn W.K (.ref (W.cl c).1) "__class__" = some (some (.builtin "object.__class__"))
  cn : PySem.W.specialIn W.K (.builtin "object.__class__") "__get__" = some (some (.builtin "getset_descriptor.__get__"))
  ct : PySem.W.takesIn W.K (.builtin "object.__class__") = some true
  cm : PySem.W.mroIn W.K (W.cl c).1 (.type "object") = some true
  tp : PySem.W.typeIn W.K (.ref (W.cl c).1) = some (.type "type")
  ic : PySem.W.isClsIn W.K (W.cl c).1 = true
  su : ∀ T ∈ tysD, PySem.W.subIn W.K (.type T) (.ref (W.cl c).1) = some false
  up : ∀ T ∈ tysD.drop 1, PySem.W.subIn W.K (.ref (W.cl c).1) (.type T) = some false
theorem zip_lookup {β : Type} : ∀ {ats : List Str} {vs : List β} {i : Nat} {f : Str} {v : β}, ats.Nodup → ats[i]? = some f → vs[i]? = some v → (ats.zip vs).lookup f = some v
  | [], _, _, _, _, _, h, _ => by simp at h
  | _ :: _, [], _, _, _, _, _, h => by simp at h
  | g :: ats, u :: vs, 0, f, v, _, h, k => by
    simp at h k
    subst h; subst k
    simp [List.zip_cons_cons, List.lookup_cons]
  | g :: ats, u :: vs, i + 1, f, v, nd, h, k => by
    have h' : ats[i]? = some f := by simpa using h
    have k' : vs[i]? = some v := by simpa using k
    have nd' := List.nodup_cons.mp nd
    have ne : f ≠ g := fun z => nd'.1 (z ▸ List.mem_of_getElem? h')
    rw [List.zip_cons_cons, List.lookup_cons]
    have : (f == g) = false := by simpa using ne
    rw [this]
    exact zip_lookup nd'.2 h' k'
theorem zip_none {β : Type} : ∀ {ats : List Str} {vs : List β} {f : Str}, f ∉ ats → (ats.zip vs).lookup f = none
  | [], _, _, _ => by simp
  | _ :: _, [], _, _ => by simp
  | g :: ats, u :: vs, f, h => by
    rw [List.zip_cons_cons, List.lookup_cons]
    have ne : (f == g) = false := by
      rw [beq_eq_false_iff_ne]
      intro z
      exact h (by rw [z]; exact List.mem_cons_self ..)
    rw [ne]
    exact zip_none fun z => h (List.mem_cons_of_mem _ z)
/-- a new attribute behind the others -/
theorem put_new : ∀ {ats : List Str} {ws : List V} {f : Str} {v : V}, ats.Nodup → ats[ws.length]? = some f → putF f v (ats.zip ws) = ats.zip (ws ++ [v])
  | [], _, _, _, _, h => by simp at h
  | g :: ats, [], f, v, _, h => by
    simp at h
    subst h
    cases ats <;> rfl
  | g :: ats, w :: ws, f, v, nd, h => by
    have h' : ats[ws.length]? = some f := by simpa using h
    have nd' := List.nodup_cons.mp nd
    have ne : ¬ g = f := fun z => nd'.1 (z ▸ List.mem_of_getElem? h')
    show (if g = f then _ else (g, w) :: putF f v (ats.zip ws)) = (g, w) :: ats.zip (ws ++ [v])
    rw [if_neg ne, put_new nd'.2 h']
theorem put_set : ∀ {ats : List Str} {ws : List V} {f : Str} {v : V} {i : Nat}, ats.Nodup → ats[i]? = some f → i < ws.length → putF f v (ats.zip ws) = ats.zip (ws.set i v)
  | [], _, _, _, _, _, h, _ => by simp at h
  | _ :: _, [], _, _, _, _, _, h => by simp at h
  | g :: ats, w :: ws, f, v, 0, _, h, _ => by
    simp at h
    subst h
    show (if g = g then (g, v) :: ats.zip ws else _) = _
    rw [if_pos rfl]
    rfl
  | g :: ats, w :: ws, f, v, i + 1, nd, h, hi => by
    have h' : ats[i]? = some f := by simpa using h
    have nd' := List.nodup_cons.mp nd
    have ne : ¬ g = f := fun z => nd'.1 (z ▸ List.mem_of_getElem? h')
    show (if g = f then _ else (g, w) :: putF f v (ats.zip ws)) = (g, w) :: ats.zip (ws.set i v)
    rw [if_neg ne, put_set nd'.2 h' (by simpa using hi)]
section
variable {W : Wd} {I H : Hp} {δ : Fr} {Φ : D → Fr → Prop} {ta tb tv : TE} {t : TA} {c i j : Nat} {ats : List Str} {f m : Str} {S : DSpec} {x y : D} {l : List D}
theorem rp_ins {v : V} (r : Rp W I (.ins c l) v) : ∃ p dx vs, v = .ref p ∧ I p = some (.ins (W.cl c).1 dx ((W.cl c).2.zip vs)) ∧ vs.length = (W.cl c).2.length ∧ Rps W I l vs := by
  cases r with
  | ins h k r => exact ⟨_, _, _, rfl, h, k, r⟩
/-! ### reading attributes, properties, methods, operators -/
abbrev tFldC (W : Wd) (c i : Nat) (f : Str) (ta : TE) : TE := tFld W.K ta f
theorem we_fldC (hc : CInf W c ats) (hi : ats[i]? = some f) (h : WE W ta δ fun x δ1 => ∃ l y, x = .ins c l ∧ l[i]? = some y ∧ Φ y δ1) : WE W (tFldC W c i f ta) δ Φ := fun I H σ k Q q =>
  h I H σ k _ fun x δ1 v I1 H1 ⟨l, y, e, hy, p⟩ k1 s1 r1 => by
    subst e
    obtain ⟨p0, dx, vs, rfl, hI, hl, r⟩ := rp_ins r1
    obtain ⟨u, hu, ru⟩ := r.get hy
    exact ⟨p0, _, dx, _, u, rfl, k1.ih _ _ hI, hc.cl, hc.na f (List.mem_of_getElem? hi), by rw [hc.eq]; exact zip_lookup hc.nd hi hu, q y δ1 u I1 H1 p k1 s1 ru⟩
abbrev tPropC (W : Wd) (c : Nat) (S : DSpec) (ta : TE) : TE := tProp (W.cl c).1 (pSp W S) [] C8.E0 ta
theorem we_propC (h : WE W ta δ fun x δ1 => ∃ l, x = .ins c l ∧ S [x] fun z => Φ z δ1) : WE W (tPropC W c S ta) δ Φ := fun I H σ k Q q =>
  h I H σ k _ fun x δ1 v I1 H1 ⟨l, e, p⟩ k1 s1 r1 => by
    subst e
    have r0 := r1
    obtain ⟨p0, dx, vs, rfl, hI, hl, r⟩ := rp_ins r1
    exact ⟨p0, dx, _, rfl, k1.ih _ _ hI, I1, [.ins c l], _, k1.ih, .cons r0 .nil, p, fun z v I2 H2 pz e1 e2 e3 e4 rz =>
      q z δ1 v I2 H2 pz (k1.grow e1 e2 e3 e4) (s1.trans (Sx.grow e1 e3 e4)) rz⟩
abbrev tMethC (W : Wd) (c : Nat) (m : Str) (S : DSpec) (ta : TE) (t : TA) : TE := tMeth (W.cl c).1 m (pSp W S) [] C8.E0 ta t
theorem we_methC (hc : CInf W c ats) (hm : m ∉ ats) (h : WE W ta δ fun x δ1 => ∃ l, x = .ins c l ∧ WA W t δ1 fun xs δ2 => S (x :: xs) fun z => Φ z δ2) : WE W (tMethC W c m S ta t) δ Φ := fun I H σ k Q q =>
  h I H σ k _ fun x δ1 v I1 H1 ⟨l, e, p⟩ k1 s1 r1 => by
    subst e
    have r0 := r1
    obtain ⟨p0, dx, vs, rfl, hI, hl, r⟩ := rp_ins r1
    refine ⟨p0, dx, _, rfl, k1.ih _ _ hI, by rw [hc.eq]; exact zip_none hm, ?_⟩
    exact p I1 H1 σ k1 _ fun xs δ2 ws I2 H2 p2 k2 s2 r2 => ⟨I2, .ins c l :: xs, _, k2.ih, by rw [List.append_nil]; exact .cons (r0.mono s2.ii) r2, p2, fun z v I3 H3 pz e1 e2 e3 e4 rz =>
      q z δ2 v I3 H3 pz (k2.grow e1 e2 e3 e4) ((s1.trans s2).trans (Sx.grow e1 e3 e4)) rz⟩
theorem pSp_go {I H : Hp} {σ : L2.St} {δ : Fr} {xs : List D} {vs : List V} {Q : VK} {E : XK} {Ψ : D → Prop} (k : OK W I H δ σ) (r : Rps W I xs vs) (s : S xs Ψ)
    (q : ∀ z v I' H', Ψ z → OK W I' H' δ σ → Sx δ I H δ I' H' → Rp W I' z v → Q v H') : pSp W S vs H Q E :=
  ⟨I, xs, Ψ, k.ih, r, s, fun z v I' H' pz e1 e2 e3 e4 rz => q z v I' H' pz (k.grow e1 e2 e3 e4) (Sx.grow e1 e3 e4) rz⟩
abbrev rBinC (W : Wd) (c : Nat) (S : DSpec) : R2 := rBin (W.cl c).1 (pSp W S)
theorem wr_binC {l' : List D} (s : S [.ins c l, .ins c l'] fun z => Φ z δ) : WR W (rBinC W c S) (.ins c l) (.ins c l') δ Φ := fun I H σ va vb k ra rb Q q => by
  have ra0 := ra
  have rb0 := rb
  obtain ⟨p0, dx, vs, rfl, hI, hl, r⟩ := rp_ins ra
  obtain ⟨p1, dy, ws, rfl, hJ, hl', r'⟩ := rp_ins rb
  exact ⟨p0, dx, _, p1, dy, _, rfl, rfl, k.ih _ _ hI, k.ih _ _ hJ, pSp_go k (.cons ra0 (.cons rb0 .nil)) s fun z v I' H' pz k' s' r' => q z δ v I' H' pz k' s' r'⟩
abbrev rBinCI (W : Wd) (c : Nat) (S : DSpec) : R2 := rBinI (W.cl c).1 (pSp W S)
theorem wr_binCI {n : Int} (s : S [.ins c l, .int n] fun z => Φ z δ) : WR W (rBinCI W c S) (.ins c l) (.int n) δ Φ := fun I H σ va vb k ra rb Q q => by
  have ra0 := ra
  obtain ⟨p0, dx, vs, rfl, hI, hl, r⟩ := rp_ins ra
  cases rb
  exact ⟨p0, dx, _, n, rfl, rfl, k.ih _ _ hI, pSp_go k (.cons ra0 (.cons (.int n) .nil)) s fun z v I' H' pz k' s' r' => q z δ v I' H' pz k' s' r'⟩
abbrev rNegC (W : Wd) (c : Nat) (S : DSpec) : V → Hp → VK → Prop := rNeg (W.cl c).1 (pSp W S)
theorem wu_negC (s : S [.ins c l] fun z => Φ z δ) : WU W (rNegC W c S) (.ins c l) δ Φ := fun I H σ va k ra Q q => by
  have ra0 := ra
  obtain ⟨p0, dx, vs, rfl, hI, hl, r⟩ := rp_ins ra
  exact ⟨p0, dx, _, rfl, k.ih _ _ hI, pSp_go k (.cons ra0 .nil) s fun z v I' H' pz k' s' r' => q z δ v I' H' pz k' s' r'⟩
abbrev tCls (W : Wd) (c : Nat) : TE := tC (.ref (W.cl c).1)
theorem we_cls (p : Φ (.cls c) δ) : WE W (tCls W c) δ Φ := we_c (fun _ => .cls c) p
abbrev tSMethC (W : Wd) (c : Nat) (S : DSpec) (t : TA) : TE := tSMeth (W.cl c).1 (pSp W S) (tCls W c) t
theorem we_smethC (h : WA W t δ fun xs δ1 => S xs fun z => Φ z δ1) : WE W (tSMethC W c S t) δ Φ := fun I H σ k Q q => ⟨rfl,
  h I H σ k _ fun xs δ1 vs I1 H1 p k1 s1 r1 => pSp_go k1 r1 p fun z v I' H' pz k' s' r' => q z δ1 v I' H' pz k' (s1.trans s') r'⟩
/-! ### types -/
/-- the value's kind is known to the rules: a plain datum, or an instance of a known class -/
inductive Kn (W : Wd) : D → Value → Prop where
  | pln {x : D} (h : x.pln = true) : Kn W x (.type x.tyN)
  | ins {c : Nat} {ats : List Str} {l : List D} (h : CInf W c ats) : Kn W (.ins c l) (.ref (W.cl c).1)
theorem Kn.ty {x : D} {v : V} {t : Value} (k : Kn W x t) (ih : Ex I H) (r : Rp W I x v) : TyX W.K H v t := by
  cases k with
  | ins hc =>
    obtain ⟨p0, dx, vs, rfl, hI, hl, r⟩ := rp_ins r
    exact .base (.ins (ih _ _ hI) hc.cl hc.ca hc.cn hc.ct hc.cm)
  | pln h =>
    cases r with
    | non => exact .base .non
    | bl b => exact .base (.bl b)
    | int i => exact .base (.int i)
    | str s => exact .base (.str s)
    | lst hI r => exact .base (.lst (ih _ _ hI))
    | tup hI r => exact tyx_sqt (sqT_ex ih hI)
    | _ => simp [D.pln] at h
theorem tyN_in {x : D} (h : x.pln = true) : x.tyN ∈ tysD := by
  cases x <;> first | (simp [D.pln] at h; done) | (simp [D.tyN, tysD])
/-- whether it is an instance of the class -/
def D.isC (c : Nat) : D → Bool
  | .ins c' _ => c' == c
  | _ => false
theorem kit_pln {x : D} (hc : CInf W c ats) (h : x.pln = true) : PySem.W.kitOne W.K (.type x.tyN) (.ref (W.cl c).1) = some false := by
  unfold PySem.W.kitOne PySem.W.kitCls
  rw [if_neg (by simp)]
  have := hc.ic
  unfold PySem.W.isClsIn at this
  show (if ((PySem.W.clsIn W.K (W.cl c).1).isSome && PySem.W.typeIn W.K (Value.ref (W.cl c).1) == some (Value.type "type")) = true then PySem.W.subIn W.K (Value.type x.tyN) (Value.ref (W.cl c).1) else none) = _
  rw [this, hc.tp, if_pos (by simp)]
  exact hc.su _ (tyN_in h)
theorem wc_isC (hc : CInf W c ats) (hx : x.pln = true ∨ ∃ l, x = .ins c l) (p : Φ (.bl (x.isC c)) δ) : WC W (rIsi W.K) [x, .cls c] δ Φ := fun I H σ vs k r Q q => by
  obtain ⟨v, w, rfl, r1, r2⟩ := rps2 r
  cases r2
  rcases hx with h | ⟨l, rfl⟩
  · have e : x.isC c = false := by cases x <;> first | rfl | (simp [D.pln] at h)
    rw [e] at p
    exact ⟨v, _, _, _, false, rfl, .own _, (Kn.pln h).ty k.ih r1, kit_pln hc h, q _ δ _ I H p k (Sx.refl _ _ _) (.bl _)⟩
  · have e : (D.ins c l).isC c = true := by simp [D.isC]
    rw [e] at p
    exact ⟨v, _, _, _, true, rfl, .own _, (Kn.ins hc).ty k.ih r1, by unfold PySem.W.kitOne; rw [if_pos (by simp)], q _ δ _ I H p k (Sx.refl _ _ _) (.bl _)⟩
theorem kit_up (hc : CInf W c ats) {T : String} (hT : T ∈ tysD.drop 1) : PySem.W.kitOne W.K (.ref (W.cl c).1) (.type T) = some false := by
  unfold PySem.W.kitOne PySem.W.kitCls
  rw [if_neg (by simp)]
  have : PySem.W.kitMeta T = true := by
    simp only [tysD, List.drop_succ_cons, List.drop_zero, List.mem_cons, List.not_mem_nil, or_false] at hT
    rcases hT with rfl | rfl | rfl | rfl | rfl <;> decide +kernel
  show (if PySem.W.kitMeta T = true then PySem.W.subIn W.K (.ref (W.cl c).1) (.type T) else none) = _
  rw [if_pos this]
  exact hc.up T hT
theorem wc_isIns {T : String} (hc : CInf W c ats) (hT : T ∈ tysD.drop 1) (p : Φ (.bl false) δ) : WC W (rIsi W.K) [.ins c l, .ty T] δ Φ := fun I H σ vs k r Q q => by
  obtain ⟨v, w, rfl, r1, r2⟩ := rps2 r
  cases r2
  exact ⟨v, _, _, _, false, rfl, .ty T, (Kn.ins hc).ty k.ih r1, kit_up hc hT, q _ δ _ I H p k (Sx.refl _ _ _) (.bl _)⟩
/-! ### == and != -/
abbrev rEqC (W : Wd) (c : Nat) (S : DSpec) : R2 := rEqO W.K (W.cl c).1 (pSp W S)
abbrev rNeC (W : Wd) (c : Nat) (S : DSpec) : R2 := rNeO W.K (W.cl c).1 (pSp W S)
theorem nf_of (hc : CInf W c ats) (hy : y.pln = true ∨ ∃ l, y = .ins c l) : ∃ t, Kn W y t ∧ PySem.W.notFirst W.K (W.cl c).1 t = true := by
  rcases hy with h | ⟨l, rfl⟩
  · exact ⟨_, .pln h, by unfold PySem.W.notFirst; rw [hc.su _ (tyN_in h)]; simp⟩
  · exact ⟨_, .ins hc, by unfold PySem.W.notFirst; simp⟩
theorem wr_eqC (hc : CInf W c ats) (hy : y.pln = true ∨ ∃ l, y = .ins c l) (s : S [.ins c l, y] fun z => Φ z δ) : WR W (rEqC W c S) (.ins c l) y δ Φ := fun I H σ va vb k ra rb Q q => by
  have ra0 := ra
  obtain ⟨p0, dx, vs, rfl, hI, hl, r⟩ := rp_ins ra
  obtain ⟨t, kn, nf⟩ := nf_of hc hy
  exact ⟨p0, dx, _, t, rfl, k.ih _ _ hI, kn.ty k.ih rb, nf, pSp_go k (.cons ra0 (.cons rb .nil)) s fun z v I' H' pz k' s' r' => q z δ v I' H' pz k' s' r'⟩
theorem wr_neC (hc : CInf W c ats) (hy : y.pln = true ∨ ∃ l, y = .ins c l) (s : S [.ins c l, y] fun z => ∃ r, z = .bl r ∧ Φ (.bl (!r)) δ) : WR W (rNeC W c S) (.ins c l) y δ Φ := fun I H σ va vb k ra rb Q q => by
  have ra0 := ra
  obtain ⟨p0, dx, vs, rfl, hI, hl, r⟩ := rp_ins ra
  obtain ⟨t, kn, nf⟩ := nf_of hc hy
  exact ⟨p0, dx, _, t, rfl, k.ih _ _ hI, kn.ty k.ih rb, nf, pSp_go k (.cons ra0 (.cons rb .nil)) s fun z v I' H' ⟨b, e, pz⟩ k' s' r' => by
    subst e
    cases r'
    exact ⟨b, rfl, q _ δ _ I' H' pz k' s' (.bl _)⟩⟩
end
end Dt

/-! Dp: instances made. -/
namespace Dt
open PySem L2 LO
abbrev ISpec := List D → (List D → Prop) → Prop
/-- an __init__: self, new and without attributes, then the arguments; behind it self has all its attributes -/
def iSp (W : Wd) (c : Nat) (S : ISpec) : Sp := fun vs H Q _ => ∃ (I : Hp) (p : Addr) (rest : List V) (xs : List D) (Φ : List D → Prop), vs = .ref p :: rest ∧ Ex I H ∧ I p = none ∧ (∃ dx, H p = some (.ins (W.cl c).1 dx [])) ∧ Rps W I xs rest ∧ S xs Φ ∧
  ∀ l I' H', Φ l → l.length = (W.cl c).2.length → Ex I I' → Ex I' H' → (∀ a o, H a = some o → a ≠ p → H' a = some o) → (∃ dx ws, H' p = some (.ins (W.cl c).1 dx ((W.cl c).2.zip ws)) ∧ Rps W I' l ws) → I' p = none →
    (∀ a o, I' a = some o → I a = some o ∨ H a = none) → Q .non H'
def frI (n : Nat) (p : Addr) (c : Nat) (xs : List D) : Fr := some (En.oi p c [] false) :: frD (n - 1) xs
/-- with the object kept -/
def rtI (p : Addr) (c n : Nat) (Φ : List D → Prop) : Out → Prop
  | .nx δ => ∃ l, δ[0]? = some (some (.oi p c l false)) ∧ l.length = n ∧ Φ l
  | _ => False
section
variable {W : Wd} {S : ISpec} {I H : Hp} {c : Nat}
theorem frI_get {n : Nat} {p : Addr} {xs : List D} {i : Nat} {e : En} (h : (frI n p c xs)[i]? = some (some e)) : (i = 0 ∧ e = .oi p c [] false) ∨ ∃ j x, i = j + 1 ∧ xs[j]? = some x ∧ e = .d x := by
  cases i with
  | zero => left; refine ⟨rfl, ?_⟩; simpa [frI] using h.symm
  | succ j =>
    right
    have h' : (frD (n - 1) xs)[j]? = some (some e) := by simpa [frI] using h
    obtain ⟨x, hx, e'⟩ := frD_get h'
    exact ⟨j, x, rfl, hx, e'⟩
theorem noT_frI {n : Nat} {p : Addr} {xs : List D} {a : Addr} : ¬ ownT (frI n p c xs) a := fun ⟨i, l, h, f⟩ => by
  rcases frI_get h with ⟨_, rfl⟩ | ⟨j, x, _, _, rfl⟩ <;> cases f
theorem own_frI {n : Nat} {p : Addr} {xs : List D} {a : Addr} (h : ownA (frI n p c xs) a) : a = p := by
  obtain ⟨i, e, h, ea⟩ := h
  rcases frI_get h with ⟨_, rfl⟩ | ⟨j, x, _, _, rfl⟩
  · cases ea; rfl
  · cases ea
theorem init_body {ats : List Str} (hc : CInf W c ats) {t : TS} {x0 : Str} {N : List Str} {n : Nat} (hn : n ≤ N.length) (hlen : ∀ xs Φ, S xs Φ → xs.length = n) (h : ∀ p xs Φ, S xs Φ → WS W t (frI (N.length + 1) p c xs) (rtI p c ats.length Φ)) {vs : List V} {Q : VK} {E : XK} (q : iSp W c S vs H Q E) :
    t { nx := fun _ H' => Q .non H', rt := Q } (L2.start (x0 :: N) vs) H := by
  obtain ⟨I, p, rest, xs, Φ, e, ih, hI, ⟨dx, hp⟩, r, s, k⟩ := q
  subst e
  have hx := hlen xs Φ s
  have k0 : OK W I H (frD N.length xs) (L2.start N rest) := ok_frD ih r (by omega)
  have k1 : OK W I H (frI (N.length + 1) p c xs) (L2.start (x0 :: N) (.ref p :: rest)) := by
    rw [start_cons]
    refine ⟨ih, ?_, fun i e h => ?_, fun i j e f a b ne h1 h2 h3 h4 => ?_⟩
    · have := k0.ln
      unfold frI
      simp only [List.length_cons, Nat.add_sub_cancel]
      rw [this]
    · rcases frI_get h with ⟨rfl, rfl⟩ | ⟨j, x, rfl, hx, rfl⟩
      · exact ⟨.ref p, rfl, rfl, hI, dx, [], by rw [hp]; simp, Nat.zero_le _, .nil⟩
      · obtain ⟨v, hv, rv⟩ := r.get hx
        exact ⟨v, by rw [List.getElem?_cons_succ]; exact start_get hv, rv⟩
    · rcases frI_get h1 with ⟨rfl, rfl⟩ | ⟨j1, x, _, _, rfl⟩
      · rcases frI_get h2 with ⟨rfl, rfl⟩ | ⟨j2, y, _, _, rfl⟩
        · exact absurd rfl ne
        · cases h4
      · cases h3
  refine h p xs Φ s I H _ _ k1 ⟨fun δ' σ' I' H' ⟨l, ej, hl, p'⟩ k' s' => ?_, fun _ _ _ _ _ _ p _ _ _ => p.elim, fun _ _ _ _ p _ _ => p.elim, fun _ _ _ _ p _ _ => p.elim⟩
  obtain ⟨v, hv, _, e2, dx', ws, e3, e4, e5⟩ := k'.sl 0 _ ej
  exact k l I' H' p' (by rw [hc.eq]; exact hl) s'.ii k'.ih (fun a o e ne => s'.kp a o e fun z => ne (own_frI z)) ⟨dx', ws, e3, e5⟩ e2 (fun a o e => (s'.nw a o e).elim .inl fun z => z.elim .inr fun z => absurd z noT_frI)
end
section
variable {W : Wd} {δ : Fr} {Φ : D → Fr → Prop} {ta tb tv : TE} {t : TA} {c i j : Nat} {ats : List Str} {f m : Str} {S : ISpec} {x y : D} {l : List D}
/-- self.f = v, a new attribute or one that is there -/
theorem OK.mutI {I H : Hp} {σ : L2.St} {i : Nat} {p : Addr} {dx : Addr} {ws : List V} {xs ys : List D} {fz : Bool} (k : OK W I H δ σ) (e : δ[i]? = some (some (.oi p c xs fz))) (hl : ws.length ≤ (W.cl c).2.length) (r : Rps W I ys ws) :
    OK W I (upd H p (.ins (W.cl c).1 dx ((W.cl c).2.zip ws))) (δ.set i (some (.oi p c ys fz))) σ ∧ Sx δ I H (δ.set i (some (.oi p c ys fz))) I (upd H p (.ins (W.cl c).1 dx ((W.cl c).2.zip ws))) := by
  obtain ⟨v, hv, e1, e2, dx0, ws0, e3, e4, e5⟩ := k.sl i _ e
  have hA : ownA δ p := ⟨i, _, e, rfl⟩
  refine ⟨⟨fun a o h => ?_, by simp [k.ln], fun j f h => ?_, fun a b f g x y ne h1 h2 h3 h4 => ?_⟩, ⟨Ex.refl _, fun a o h n => ?_, fun a o h => ?_, fun a o h => .inl h, fun a h => ?_, fun a h => ?_⟩⟩
  · have : a ≠ p := fun z => by rw [z, e2] at h; cases h
    rw [upd_ne this]
    exact k.ih a o h
  · rcases get_set_some h with ⟨z, rfl⟩ | ⟨z, h⟩
    · subst z
      exact ⟨v, hv, e1, e2, dx, ws, upd_same, hl, r⟩
    · obtain ⟨u, hu, he⟩ := k.sl j f h
      refine ⟨u, hu, he.mono (Ex.refl _) fun q hq => ⟨(k.own_at ⟨j, f, h, hq⟩).1, ?_⟩⟩
      rw [upd_ne (k.ap j i f _ q p (Ne.symm z) h e hq rfl)]
  · rcases get_set_some h1 with ⟨z1, rfl⟩ | ⟨z1, h1⟩
    · rcases get_set_some h2 with ⟨z2, rfl⟩ | ⟨z2, h2⟩
      · exact absurd (z1.symm.trans z2) ne
      · cases h3
        exact k.ap i b _ g p y z2 e h2 rfl h4
    · rcases get_set_some h2 with ⟨z2, rfl⟩ | ⟨z2, h2⟩
      · cases h4
        exact k.ap a i f _ x p (Ne.symm z1) h1 e h3 rfl
      · exact k.ap a b f g x y ne h1 h2 h3 h4
  · have : a ≠ p := fun z => n (z ▸ hA)
    rw [upd_ne this]; exact h
  · by_cases z : a = p
    · subst z; exact ⟨_, upd_same⟩
    · exact ⟨o, by rw [upd_ne z]; exact h⟩
  · rcases ownA_set h with z | z
    · exact .inl z
    · cases z; exact .inl hA
  · rcases ownT_set h with z | z
    · exact .inl z
    · exact .inl ⟨i, _, e, by cases fz <;> first | exact z | cases z⟩
theorem ws_fldN (hc : CInf W c ats) {Φ : Out → Prop} {fz : Bool} (h : WE W tv δ fun y δ1 => ∃ p l, δ1[j]? = some (some (.oi p c l fz)) ∧ ats[l.length]? = some f ∧ Φ (.nx (δ1.set j (some (.oi p c (l ++ [y]) fz))))) : WS W (sFld W.K (tVar j) tv f) δ Φ := fun I H σ Dn k q =>
  h I H σ k _ fun y δ1 v I1 H1 ⟨p, l, e, hf, p1⟩ k1 s1 r1 => by
    obtain ⟨u, hu, e1, e2, dx, ws, e3, e4, e5⟩ := k1.sl j _ e
    subst e1
    have hlen : l.length = ws.length := e5.length
    have hlt : l.length < ats.length := (List.getElem?_eq_some_iff.mp hf).1
    refine ⟨_, hu, p, _, dx, _, rfl, e3, hc.cl, hc.na f (List.mem_of_getElem? hf), ?_, ?_⟩
    · rw [List.length_zip]
      have := hc.ln
      rw [hc.eq]
      omega
    · have pe : putF f v ((W.cl c).2.zip ws) = (W.cl c).2.zip (ws ++ [v]) := by
        rw [hc.eq]
        exact put_new hc.nd (by rw [← hlen]; exact hf)
      rw [pe]
      obtain ⟨k2, s2⟩ := k1.mutI (dx := dx) (ws := ws ++ [v]) (ys := l ++ [y]) e (by rw [hc.eq, List.length_append]; simp; omega) (e5.append (.cons r1 .nil))
      exact q.nx _ _ I1 _ p1 k2 (s1.trans s2)
theorem ws_fldU (hc : CInf W c ats) {Φ : Out → Prop} {fz : Bool} (hi : ats[i]? = some f) (h : WE W tv δ fun y δ1 => ∃ p l, δ1[j]? = some (some (.oi p c l fz)) ∧ i < l.length ∧ Φ (.nx (δ1.set j (some (.oi p c (l.set i y) fz))))) : WS W (sFld W.K (tVar j) tv f) δ Φ := fun I H σ Dn k q =>
  h I H σ k _ fun y δ1 v I1 H1 ⟨p, l, e, hf, p1⟩ k1 s1 r1 => by
    obtain ⟨u, hu, e1, e2, dx, ws, e3, e4, e5⟩ := k1.sl j _ e
    subst e1
    have hlen : l.length = ws.length := e5.length
    refine ⟨_, hu, p, _, dx, _, rfl, e3, hc.cl, hc.na f (List.mem_of_getElem? hi), ?_, ?_⟩
    · rw [List.length_zip]
      have := hc.ln
      rw [hc.eq]
      omega
    · have pe : putF f v ((W.cl c).2.zip ws) = (W.cl c).2.zip (ws.set i v) := by
        rw [hc.eq]
        exact put_set hc.nd hi (by rw [← hlen]; exact hf)
      rw [pe]
      obtain ⟨k2, s2⟩ := k1.mutI (dx := dx) (ws := ws.set i v) (ys := l.set i y) e (by rw [List.length_set]; exact e4) (e5.set r1 i)
      exact q.nx _ _ I1 _ p1 k2 (s1.trans s2)
/-- the object becomes a datum -/
theorem OK.frzI {I H : Hp} {σ : L2.St} (hc : CInf W c ats) {p : Addr} (k : OK W I H δ σ) (e : δ[i]? = some (some (.oi p c l true))) (hl : l.length = ats.length) : ∃ o, OK W (upd I p o) H (δ.set i (some (.d (.ins c l)))) σ ∧ Sx δ I H (δ.set i (some (.d (.ins c l)))) (upd I p o) H := by
  obtain ⟨v, hv, e1, e2, dx, ws, e3, e4, e5⟩ := k.sl i _ e
  refine ⟨_, k.frzG e rfl e2 e3 fun u ⟨f1, f2, dx', ws', f3, f4, f5⟩ => ?_⟩
  rw [f1]
  rw [e3] at f3
  refine .ins (dx := dx') (vs := ws') (by rw [upd_same, f3]) (by rw [← f5.length, hc.eq]; exact hl) (f5.mono (Ex.new e2))
theorem we_fzI {te : TE} (hc : CInf W c ats) {p : Addr} (e : δ[i]? = some (some (.oi p c l true))) (hl : l.length = ats.length) (h : WE W te (δ.set i (some (.d (.ins c l)))) Φ) : WE W te δ Φ := fun I H σ k Q q => by
  obtain ⟨o, k1, s1⟩ := k.frzI hc e hl
  exact h _ _ σ k1 Q fun x δ' v I' H' p' k' s' => q x δ' v I' H' p' k' (s1.trans s')
theorem ws_fzI {ts : TS} (hc : CInf W c ats) {Φ : Out → Prop} {p : Addr} (e : δ[i]? = some (some (.oi p c l true))) (hl : l.length = ats.length) (h : WS W ts (δ.set i (some (.d (.ins c l)))) Φ) : WS W ts δ Φ := fun I H σ Dn k f => by
  obtain ⟨o, k1, s1⟩ := k.frzI hc e hl
  exact h _ _ _ _ k1 (f.step s1)
/-! ### C(..) -/
abbrev tMakeC (W : Wd) (c : Nat) (S : ISpec) (dvs : List V) (t : TA) : TE := tMake (W.cl c).1 (iSp W c S) dvs C8.E0 t
theorem make_go {ds : List D} {dvs : List V} (hd : ∀ I, Rps W I ds dvs) {I H : Hp} {σ : L2.St} {xs : List D} {vs : List V} {Ψ : List D → Prop} {Q : VK} (k : OK W I H δ σ) (r : Rps W I xs vs) (s : S (xs ++ ds) Ψ)
    (q : ∀ p l I' H', Ψ l → l.length = (W.cl c).2.length → H p = none → I' p = none → OK W I' H' δ σ → ¬ ownA δ p → Sx δ I H δ I' H' → (∃ dx ws, H' p = some (.ins (W.cl c).1 dx ((W.cl c).2.zip ws)) ∧ Rps W I' l ws) → Q (.ref p) H') :
    ∀ x dx, H x = none → H dx = none → dx ≠ x → iSp W c S (.ref x :: (vs ++ dvs)) (upd (upd H dx (.own x)) x (.ins (W.cl c).1 dx [])) (fun v H2 => v = .non ∧ Q (.ref x) H2) C8.E0 := fun x dx hx hdx ne => by
  have eH : Ex H (upd (upd H dx (.own x)) x (.ins (W.cl c).1 dx [])) := fun a o h => by
    rw [upd_ne (ne_of_none h hx), upd_ne (ne_of_none h hdx)]
    exact h
  refine ⟨I, x, vs ++ dvs, xs ++ ds, Ψ, rfl, k.ih.trans eH, free_of k.ih hx, ⟨dx, upd_same⟩, r.append (hd I), s, fun l I' H' pl hl e1 e2 e3 e4 e5 e6 => ⟨rfl, ?_⟩⟩
  have hh : Ex H H' := fun a o h => e3 a o (eH a o h) (ne_of_none h hx)
  have nw : ∀ a o, I' a = some o → I a = some o ∨ H a = none := fun a o h => (e6 a o h).elim .inl fun z => .inr (by
    cases y : H a with
    | none => rfl
    | some o' => rw [eH a o' y] at z; cases z)
  exact q x l I' H' pl hl hx e5 (k.grow e1 e2 hh nw) (not_own_of k hx) (Sx.grow e1 hh nw) e4
theorem we_makeC (hc : CInf W c ats) {ds : List D} {dvs : List V} (hd : ∀ I, Rps W I ds dvs) (h : WA W t δ fun xs δ1 => S (xs ++ ds) fun l => Φ (.ins c l) δ1) : WE W (tMakeC W c S dvs t) δ Φ := fun I H σ k Q q =>
  h I H σ k _ fun xs δ1 vs I1 H1 p k1 s1 r1 => make_go hd k1 r1 p fun a l I' H' pl hl h0 hI k2 hn s2 ⟨dx, ws, hH, r2⟩ => by
    have k3 := k2.fixd hI hH hn
    refine q _ δ1 _ _ _ pl k3 (s1.trans (s2.fixd h0 hI)) (.ins upd_same (by rw [← r2.length]; exact hl) (r2.mono (Ex.new hI)))
/-- x = C(..), to be changed yet -/
theorem ws_setI (hc : CInf W c ats) {ds : List D} {dvs : List V} (hd : ∀ I, Rps W I ds dvs) {Φ : Out → Prop} (h : WA W t δ fun xs δ1 => S (xs ++ ds) fun l => l.length = ats.length → ∀ p, Φ (.nx (δ1.set i (some (.oi p c l true))))) : WS W (tAsg (tMakeC W c S dvs t) (gName i)) δ Φ := fun I H σ Dn k f =>
  h I H σ k _ fun xs δ1 vs I1 H1 p k1 s1 r1 => make_go (c := c) (Q := fun x H1 => gName i x σ H1 Dn.nx) hd k1 r1 p fun a l I' H' pl hl h0 hI k2 hn s2 ⟨dx, ws, hH, r2⟩ => by
    have hlen : ws.length = (W.cl c).2.length := by rw [← r2.length]; exact hl
    refine f.nx _ (σ.set i (some (.ref a))) I' H' (pl (by rw [← hc.eq]; exact hl) a) ?_ ?_
    · refine ⟨k2.ih, by simp [k2.ln], fun j e h => ?_, fun a1 b e f x y ne h1 h2 h3 h4 => ?_⟩
      · rcases get_set_some h with ⟨z, rfl⟩ | ⟨z, h⟩
        · have hl : i < δ1.length := by
            have := (List.getElem?_eq_some_iff.mp h).1
            rw [List.length_set] at this
            omega
          subst z
          exact ⟨.ref a, by rw [List.getElem?_set_self (by rw [← k2.ln]; exact hl)], rfl, hI, dx, ws, hH, by omega, r2⟩
        · obtain ⟨u, hu, he⟩ := k2.sl j e h
          exact ⟨u, by rw [List.getElem?_set_ne z]; exact hu, he⟩
      · rcases get_set_some h1 with ⟨c1, rfl⟩ | ⟨_, h1⟩
        · rcases get_set_some h2 with ⟨c2, rfl⟩ | ⟨_, h2⟩
          · exact absurd (c1.symm.trans c2) ne
          · cases h3
            exact fun z => hn ⟨b, f, h2, by rw [z]; exact h4⟩
        · rcases get_set_some h2 with ⟨_, rfl⟩ | ⟨_, h2⟩
          · cases h4
            exact fun z => hn ⟨a1, e, h1, by rw [← z]; exact h3⟩
          · exact k2.ap a1 b e f x y ne h1 h2 h3 h4
    · have s3 := s1.trans s2
      exact ⟨s3.ii, s3.kp, s3.lv, s3.nw, fun b hb => by
        rcases ownA_set hb with z | z
        · exact s3.oa b z
        · cases z; exact .inr (none_back s1.lv h0), fun b hb => by
        rcases ownT_set hb with z | z
        · exact s3.ot b z
        · cases z; exact .inr (none_back s1.lv h0)⟩
theorem iSp_len {n : Nat} (h : ∀ xs Φ, S xs Φ → xs.length = n) : ∀ vs H Q E, iSp W c S vs H Q E → vs.length = n + 1 := fun vs H Q E q => by
  obtain ⟨I, p, rest, xs, Φ, e, ih, hI, hp, r, s, k⟩ := q
  rw [e, List.length_cons, ← r.length, h xs Φ s]
end
end Dt
namespace Dt
open PySem L2
/-- the law's promise, whatever the classes' table is -/
def lawSp (K : PySem.W.Frag) (w : World) (S : DSpec) : Sp := fun vs H Q E => ∀ cl : Nat → Addr × List Str, pSp ⟨K, cl, w⟩ S vs H Q E
abbrev rStrC (W : Wd) (c : Nat) (S : DSpec) : List V → Hp → VK → Prop := LO.rStrO (W.cl c).1 (pSp W S)
end Dt

/-! Dq: ranges as lists and tuples; == of tuples of instances, where it is True. -/
namespace Dt
open PySem L2 LO
section
variable {W : Wd} {I H : Hp} {δ : Fr} {Φ : D → Fr → Prop} {ta tb : TE} {c : Nat} {ats : List Str} {S : DSpec}
theorem rng_ints (a : Int) (n : Nat) : rng a n = ((List.range n).map fun (i : Nat) => a + (i : Int)).map D.int := by
  unfold rng
  rw [List.map_map]
  rfl
theorem rps_rg (a b : Int) : Rps W I (rng a (b - a).toNat) (rgV a b) := by
  rw [rng_ints]
  have : rgV a b = ((List.range (b - a).toNat).map fun (i : Nat) => a + (i : Int)).map V.int := by
    unfold rgV
    rw [List.map_map]
    rfl
  rw [this]
  exact Rps.ints_of _
theorem rg_ok {a b : Int} (h : -100000 ≤ a ∧ a ≤ 100000 ∧ -100000 ≤ b ∧ b ≤ 100000) : RgOk a b := ⟨by omega, by omega, by omega, by omega, by omega⟩
theorem wl_listRg1 {Φ : List D → Fr → Prop} (h : WE W ta δ fun x δ1 => ∃ n : Int, x = .int n ∧ -100000 ≤ n ∧ n ≤ 100000 ∧ Φ (rng 0 n.toNat) δ1) : WL W (tLstRg (tRg1 ta)) δ Φ := fun I H σ k Q q =>
  h I H σ k _ fun x δ1 v I1 H1 ⟨n, e, h0, h1, p⟩ k1 s1 r1 => by
    subst e
    cases r1
    refine ⟨n, rfl, rg_ok ⟨by omega, by omega, h0, h1⟩, ?_⟩
    exact wl_new p k1 s1 (by have := rps_rg (W := W) (I := I1) 0 n; rw [show n - 0 = n by omega] at this; exact this) q
theorem wl_listRg2 {Φ : List D → Fr → Prop} (h : WE W ta δ fun x δ1 => WE W tb δ1 fun y δ2 => ∃ a b : Int, x = .int a ∧ y = .int b ∧ (-100000 ≤ a ∧ a ≤ 100000 ∧ -100000 ≤ b ∧ b ≤ 100000) ∧ Φ (rng a (b - a).toNat) δ2) : WL W (tLstRg (tRg2 ta tb)) δ Φ := fun I H σ k Q q =>
  h I H σ k _ fun x δ1 v I1 H1 h1 k1 s1 r1 => h1 I1 H1 σ k1 _ fun y δ2 u I2 H2 ⟨a, b, e1, e2, hb, p⟩ k2 s2 r2 => by
    subst e1; subst e2
    cases r1; cases r2
    exact ⟨a, b, rfl, rfl, rg_ok hb, wl_new p k2 (s1.trans s2) (rps_rg a b) q⟩
theorem we_tupRg1 (h : WE W ta δ fun x δ1 => ∃ n : Int, x = .int n ∧ -100000 ≤ n ∧ n ≤ 100000 ∧ Φ (.tup (rng 0 n.toNat)) δ1) : WE W (tTupRg (tRg1 ta)) δ Φ := fun I H σ k Q q =>
  h I H σ k _ fun x δ1 v I1 H1 ⟨n, e, h0, h1, p⟩ k1 s1 r1 => by
    subst e
    cases r1
    refine ⟨n, rfl, rg_ok ⟨by omega, by omega, h0, h1⟩, ?_⟩
    exact new_tup k1 (by have := rps_rg (W := W) (I := I1) 0 n; rw [show n - 0 = n by omega] at this; exact this) fun a ha k2 s2 r2 => q _ δ1 _ _ _ p k2 (s1.trans s2) r2
theorem we_tupRg2 (h : WE W ta δ fun x δ1 => WE W tb δ1 fun y δ2 => ∃ a b : Int, x = .int a ∧ y = .int b ∧ (-100000 ≤ a ∧ a ≤ 100000 ∧ -100000 ≤ b ∧ b ≤ 100000) ∧ Φ (.tup (rng a (b - a).toNat)) δ2) : WE W (tTupRg (tRg2 ta tb)) δ Φ := fun I H σ k Q q =>
  h I H σ k _ fun x δ1 v I1 H1 h1 k1 s1 r1 => h1 I1 H1 σ k1 _ fun y δ2 u I2 H2 ⟨a, b, e1, e2, hb, p⟩ k2 s2 r2 => by
    subst e1; subst e2
    cases r1; cases r2
    exact ⟨a, b, rfl, rfl, rg_ok hb, new_tup k2 (rps_rg a b) fun a ha k3 s3 r3 => q _ δ2 _ _ _ p k3 ((s1.trans s2).trans s3) r3⟩
/-- a, b, c = a list -/
theorem wg_3L {i j m : Nat} {l : List D} {x y z : D} {Φ : Fr → Prop} (e : l = [x, y, z]) (p : Φ (((δ.set i (some (.d x))).set j (some (.d y))).set m (some (.d z)))) :
    WG W (gUnl W.K 3 (gCons (gName i) (gCons (gName j) (gCons (gName m) gNil)))) [i, j, m] (.lst l) δ Φ := fun I H σ v k r Q q => by
  subst e
  obtain ⟨a, vs, rfl, ha, rs⟩ := rp_lst r
  cases rs with
  | cons r1 rs =>
    cases rs with
    | cons r2 rs =>
      cases rs with
      | cons r3 rs =>
        cases rs
        exact ⟨a, _, rfl, sq_l k.ih ha, rfl, _, _, rfl, _, _, rfl, _, _, rfl, rfl, q _ _ p (((k.setD r1).setD r2).setD r3) ((Sx.setD.trans Sx.setD).trans Sx.setD) (((agr_set (by simp)).trans (agr_set (by simp))).trans (agr_set (by simp)))⟩
theorem wg_2L {i j : Nat} {l : List D} {x y : D} {Φ : Fr → Prop} (e : l = [x, y]) (p : Φ ((δ.set i (some (.d x))).set j (some (.d y)))) : WG W (gUnl W.K 2 (gCons (gName i) (gCons (gName j) gNil))) [i, j] (.lst l) δ Φ := fun I H σ v k r Q q => by
  subst e
  obtain ⟨a, vs, rfl, ha, rs⟩ := rp_lst r
  cases rs with
  | cons r1 rs =>
    cases rs with
    | cons r2 rs =>
      cases rs
      exact ⟨a, _, rfl, sq_l k.ih ha, rfl, _, _, rfl, _, _, rfl, rfl, q _ _ p ((k.setD r1).setD r2) (Sx.setD.trans Sx.setD) ((agr_set (by simp)).trans (agr_set (by simp)))⟩
/-- x, y = two own lists -/
theorem ws_parO {te1 te2 : TE} {i j : Nat} {Φ : Out → Prop} (h : WL W te1 δ fun xs δ1 => WL W te2 δ1 fun ys δ2 => ∀ p q, Φ (.nx ((δ2.set i (some (.own p xs))).set j (some (.own q ys))))) : WS W (tPar i j (tCons te1 (tCons te2 tNil))) δ Φ := fun I H σ Dn k f =>
  h I H σ k _ fun xs δ1 p1 vs1 I1 H1 h1 k1 s1 hI1 hH1 r1 hn1 h01 => h1 I1 H1 σ k1 _ fun ys δ2 p2 vs2 I2 H2 p k2 s2 hI2 hH2 r2 hn2 h02 => by
    have hne : p1 ≠ p2 := fun z => by rw [z, h02] at hH1; cases hH1
    have a1 : H2 p1 = some (.lst vs1) := s2.kp _ _ hH1 hn1
    have a2 : I2 p1 = none := by
      cases z : I2 p1 with
      | none => rfl
      | some o =>
        rcases s2.nw p1 o z with y | y | y
        · rw [hI1] at y; cases y
        · rw [hH1] at y; cases y
        · exact absurd y.a hn1
    have a3 : ¬ ownA δ2 p1 := fun z => (s2.oa p1 z).elim hn1 fun y => by rw [hH1] at y; cases y
    have k3 := k2.setO (i := i) a2 a1 (r1.mono s2.ii) a3
    have a4 : ¬ ownA (δ2.set i (some (.own p1 xs))) p2 := fun z => (ownA_set z).elim hn2 fun y => hne (by cases y; rfl)
    have k4 := k3.setO (i := j) hI2 hH2 r2 a4
    have s3 := s1.trans s2
    refine ⟨_, _, rfl, f.nx _ _ I2 H2 (p p1 p2) k4 ⟨s3.ii, s3.kp, s3.lv, s3.nw, fun b hb => ?_, fun b hb => ?_⟩⟩
    · rcases ownA_set hb with z | z
      · rcases ownA_set z with z | z
        · exact s3.oa b z
        · cases z; exact .inr h01
      · cases z; exact .inr (none_back s1.lv h02)
    · rcases ownT_set hb with z | z
      · rcases ownT_set z with z | z
        · exact s3.ot b z
        · cases z; exact .inr h01
      · cases z; exact .inr (none_back s1.lv h02)
/-! ### == of tuples of instances, True -/
/-- two instances at a and b that their own __eq__ calls equal -/
def EqA (W : Wd) (c : Nat) (S : DSpec) (a b : Addr) (H : Hp) : Prop := ∃ I l m, Ex I H ∧ Rp W I (.ins c l) (.ref a) ∧ Rp W I (.ins c m) (.ref b) ∧ S [.ins c l, .ins c m] fun z => z = .bl true
def EqN (W : Wd) (c : Nat) (S : DSpec) : Nat → Eqv
  | 0 => DIns (W.cl c).1 (EqA W c S)
  | n + 1 => fun x y H => DTup W.K (EqN W c S n) x y H ∨ DList (EqN W c S n) x y H
theorem mon_eqN : ∀ n, Mon (EqN W c S n)
  | 0 => mon_ins fun a b H H' e ⟨I, l, m, h1, h2, h3, h4⟩ => ⟨I, l, m, h1.trans e, h2, h3, h4⟩
  | n + 1 => Mon.or (mon_tup (mon_eqN n)) (mon_list (mon_eqN n))
/-- the same of data -/
inductive DEq (c : Nat) (S : DSpec) : Nat → D → D → Prop
  | ins {l m : List D} (h : S [.ins c l, .ins c m] fun z => z = .bl true) : DEq c S 0 (.ins c l) (.ins c m)
  | tup {n : Nat} {l m : List D} (hl : l.length = m.length) (h : ∀ (i : Nat) x y, l[i]? = some x → m[i]? = some y → DEq c S n x y) : DEq c S (n + 1) (.tup l) (.tup m)
  | lst {n : Nat} {l m : List D} (hl : l.length = m.length) (h : ∀ (i : Nat) x y, l[i]? = some x → m[i]? = some y → DEq c S n x y) : DEq c S (n + 1) (.lst l) (.lst m)
theorem DEq.eqn (ih : Ex I H) : ∀ {n : Nat} {x y : D} {u v : V}, DEq c S n x y → Rp W I x u → Rp W I y v → EqN W c S n u v H
  | 0, _, _, u, v, .ins h, r, s => by
    have r0 := r
    have s0 := s
    obtain ⟨p, dx, vs, rfl, hI, hl, _⟩ := rp_ins r
    obtain ⟨q, dy, ws, rfl, hJ, hm, _⟩ := rp_ins s
    exact ⟨p, q, dx, dy, _, _, rfl, rfl, ih _ _ hI, ih _ _ hJ, I, _, _, ih, r0, s0, h⟩
  | n + 1, _, _, u, v, .tup hl h, r, s => by
    obtain ⟨p, vs, rfl, hI, r'⟩ := rp_tup r
    obtain ⟨q, ws, rfl, hJ, s'⟩ := rp_tup s
    refine .inl ⟨p, q, vs, ws, rfl, rfl, sq_t ih hI, sq_t ih hJ, by rw [← r'.length, ← s'.length]; exact hl, fun i a b ha hb => ?_⟩
    obtain ⟨x, hx, rx⟩ := r'.getV ha
    obtain ⟨y, hy, ry⟩ := s'.getV hb
    exact DEq.eqn ih (h i x y hx hy) rx ry
  | n + 1, _, _, u, v, .lst hl h, r, s => by
    obtain ⟨p, vs, rfl, hI, r'⟩ := rp_lst r
    obtain ⟨q, ws, rfl, hJ, s'⟩ := rp_lst s
    refine .inr ⟨p, q, vs, ws, rfl, rfl, ih _ _ hI, ih _ _ hJ, by rw [← r'.length, ← s'.length]; exact hl, fun i a b ha hb => ?_⟩
    obtain ⟨x, hx, rx⟩ := r'.getV ha
    obtain ⟨y, hy, ry⟩ := s'.getV hb
    exact DEq.eqn ih (h i x y hx hy) rx ry
theorem wr_eqN {n : Nat} {x y : D} (h : DEq c S n x y) (p : Φ (.bl true) δ) : WR W (rEqG (EqN W c S n)) x y δ Φ := fun I H σ va vb k ra rb Q q =>
  ⟨DEq.eqn k.ih h ra rb, fun H' e => q _ δ _ I H' p (k.grow (Ex.refl _) (k.ih.trans e) e fun _ _ h => .inl h) (Sx.grow (Ex.refl _) e fun _ _ h => .inl h) (.bl true)⟩
end
end Dt
namespace LO
open PySem PySem.Spec PyProof.Rows L2 Dt
section
variable {X : Cx} {k j : Nat} {W : Wd} {c : Nat} {S : DSpec}
theorem eqG_ins0 (hW : W.K = X.K) (m : C8.Met X.prog X.w X.K X.mg X.base k (W.cl c).1 "__eq__" (pSp W S) []) : EqG X k (EqN W c S 0) := by
  obtain ⟨f, fd, ps, ds, hc, hm, F, b, d⟩ := m.ex
  cases d
  have F' : FnOk X.prog X.w X.K X.mg X.base C8.CX0 k f fd ps (spEq (EqA W c S)) := F.imp fun vs H Q E ⟨a, b, e, ⟨I, l, m, h1, h2, h3, h4⟩, q⟩ => by
    subst e
    exact ⟨I, [.ins c l, .ins c m], _, h1, .cons h2 (.cons h3 .nil), h4, fun z v I' H' ez e1 e2 e3 e4 rz => by
      subst ez
      cases rz
      exact q H' e3⟩
  exact eqG_ins (E := C8.E0) F' hm.at_ hm.fn b C8.pass0
theorem eqG_N (hW : W.K = X.K) (m : C8.Met X.prog X.w X.K X.mg X.base k (W.cl c).1 "__eq__" (pSp W S) []) : ∀ n, EqG X (k + n) (EqN W c S n)
  | 0 => eqG_ins0 hW m
  | n + 1 => by
    have h := eqG_N hW m n
    have a := eqG_tup (mon_eqN (W := W) (c := c) (S := S) n) h
    have b := eqG_list (mon_eqN (W := W) (c := c) (S := S) n) h
    rw [← hW] at a
    exact EqG.or a b
theorem RcG.or {D D' : Eqv} {n : Nat} (h : RcG X n D) (h' : RcG X n D') : RcG X n (fun x y H => D x y H ∨ D' x y H) := fun A pins s σ H x y u v sb I rx ry d => by
  rcases d with d | d
  · exact h A pins s σ H x y u v sb I rx ry d
  · exact h' A pins s σ H x y u v sb I rx ry d
theorem op_eqN {n : Nat} (hW : W.K = X.K) (m : C8.Met X.prog X.w X.K X.mg X.base k (W.cl c).1 "__eq__" (pSp W S) []) (hr : Room j X.A) (hk : k + n + 1 ≤ j) : OpR X (compareOp .Eq) (rEqG (EqN W c S (n + 1))) := by
  have h := eqG_N hW m n
  have a := rcG_tup (mon_eqN (W := W) (c := c) (S := S) n) h
  have b := rcG_list (mon_eqN (W := W) (c := c) (S := S) n) h
  rw [← hW] at a
  exact op_eqG (RcG.or a b) (hr.mono hk)
end
end LO

namespace Q
open PySem L2 Dt
/-! sign tables by their marks -/
abbrev at' (ms : List Int) (i : Nat) : Int := ms.getD i 0
def ix (ms : List Int) (i : Nat) : Nat := (at' ms i).natAbs - 1
structure SgT (n : Nat) (ms : List Int) : Prop where
  ln : ms.length = n
  lo : 1 ≤ n
  hi : n ≤ 64
  rg : ∀ i, i < n → 1 ≤ (at' ms i).natAbs ∧ (at' ms i).natAbs ≤ n
  inj : ∀ i j, i < n → j < n → (at' ms i).natAbs = (at' ms j).natAbs → i = j
  su : ∀ j, j < n → ∃ i, i < n ∧ (at' ms i).natAbs = j + 1
def mul (ms os : List Int) : List Int := ms.map fun m => at' os (m.natAbs - 1) * m.sign
def idl (n : Nat) : List Int := (List.range n).map fun (i : Nat) => (i : Int) + 1
def ngt (ms : List Int) : List Int := ms.map fun m => -m
def Trn (n : Nat) (ms ts : List Int) : Prop := ts.length = n ∧ ∀ k, k < n → at' ts (ix ms k) = ((k : Int) + 1) * (at' ms k).sign
theorem at_map {f : Int → Int} {ms : List Int} {i : Nat} (h : i < ms.length) : at' (ms.map f) i = f (at' ms i) := by
  simp [at', List.getD_eq_getElem?_getD, h]
theorem at_idl {n i : Nat} (h : i < n) : at' (idl n) i = (i : Int) + 1 := by
  simp [at', idl, List.getD_eq_getElem?_getD, h]
theorem ext_at {a b : List Int} (hl : a.length = b.length) (h : ∀ i, i < a.length → at' a i = at' b i) : a = b := by
  apply List.ext_getElem hl
  intro i h1 h2
  have := h i h1
  simpa [at', List.getD_eq_getElem?_getD, h1, h2] using this
theorem sg_sq {m : Int} (h : 1 ≤ m.natAbs) : m.sign * m.sign = 1 := by
  rcases Int.lt_trichotomy m 0 with c | c | c
  · rw [Int.sign_eq_neg_one_of_neg c]; rfl
  · subst c; simp at h
  · rw [Int.sign_eq_one_of_pos c]; rfl
theorem sg_abs (m : Int) : m * m.sign = (m.natAbs : Int) := Int.mul_sign_self m ▸ rfl
theorem abs_sg {m s : Int} (h : 1 ≤ s.natAbs) : (m * s.sign).natAbs = m.natAbs := by
  rw [Int.natAbs_mul, Int.natAbs_sign_of_ne_zero (by intro z; rw [z] at h; simp at h), Nat.mul_one]
theorem sgn_mul (a b : Int) : (a * b.sign).sign = a.sign * b.sign := by rw [Int.sign_mul, Int.sign_sign]
section
variable {n : Nat} {x y z t u : List Int}
theorem SgT.ixl (h : SgT n x) {i : Nat} (hi : i < n) : ix x i < n ∧ (ix x i : Int) + 1 = (at' x i).natAbs ∧ ix x i + 1 = (at' x i).natAbs := by
  have := h.rg i hi
  unfold ix
  omega
theorem len_mul : (mul x y).length = x.length := by simp [mul]
theorem at_mul (h : SgT n x) {i : Nat} (hi : i < n) : at' (mul x y) i = at' y (ix x i) * (at' x i).sign := by
  unfold mul
  rw [at_map (by rw [h.ln]; exact hi)]
  rfl
theorem abs_mul (h : SgT n x) {i : Nat} (hi : i < n) : (at' (mul x y) i).natAbs = (at' y (ix x i)).natAbs := by
  rw [at_mul h hi, abs_sg (h.rg i hi).1]
theorem ix_mul (h : SgT n x) {i : Nat} (hi : i < n) : ix (mul x y) i = ix y (ix x i) := by
  unfold ix
  rw [abs_mul h hi]
  rfl
theorem sg_mul (h : SgT n x) {i : Nat} (hi : i < n) : (at' (mul x y) i).sign = (at' y (ix x i)).sign * (at' x i).sign := by
  rw [at_mul h hi, sgn_mul]
theorem SgT.mul (h : SgT n x) (k : SgT n y) : SgT n (mul x y) := by
  refine ⟨by rw [len_mul, h.ln], h.lo, h.hi, fun i hi => ?_, fun i j hi hj e => ?_, fun j hj => ?_⟩
  · rw [abs_mul h hi]; exact k.rg _ (h.ixl hi).1
  · rw [abs_mul h hi, abs_mul h hj] at e
    have := k.inj _ _ (h.ixl hi).1 (h.ixl hj).1 e
    have a := (h.ixl hi).2.2
    have b := (h.ixl hj).2.2
    exact h.inj i j hi hj (by omega)
  · obtain ⟨p, hp, e⟩ := k.su j hj
    obtain ⟨i, hi, e'⟩ := h.su p hp
    refine ⟨i, hi, ?_⟩
    rw [abs_mul h hi, show ix x i = p by have := (h.ixl hi).2.2; omega]
    exact e
theorem SgT.idl (h : 1 ≤ n) (h2 : n ≤ 64) : SgT n (idl n) := by
  have a : ∀ i, i < n → (at' (Q.idl n) i).natAbs = i + 1 := fun i hi => by rw [at_idl hi]; omega
  exact ⟨by simp [Q.idl], h, h2, fun i hi => by rw [a i hi]; omega, fun i j hi hj e => by rw [a i hi, a j hj] at e; omega, fun j hj => ⟨j, hj, a j hj⟩⟩
theorem SgT.ngt (h : SgT n x) : SgT n (ngt x) := by
  have a : ∀ i, i < n → (at' (Q.ngt x) i).natAbs = (at' x i).natAbs := fun i hi => by
    unfold Q.ngt; rw [at_map (by rw [h.ln]; exact hi), Int.natAbs_neg]
  exact ⟨by simp [Q.ngt, h.ln], h.lo, h.hi, fun i hi => by rw [a i hi]; exact h.rg i hi, fun i j hi hj e => by rw [a i hi, a j hj] at e; exact h.inj i j hi hj e, fun j hj => by
    obtain ⟨i, hi, e⟩ := h.su j hj
    exact ⟨i, hi, by rw [a i hi]; exact e⟩⟩
theorem mul_assoc' (h : SgT n x) (k : SgT n y) : mul (mul x y) z = mul x (mul y z) := by
  refine ext_at (by rw [len_mul, len_mul, len_mul]) fun i hi => ?_
  rw [len_mul, len_mul, h.ln] at hi
  have hx := (h.ixl hi).1
  rw [at_mul (h.mul k) hi, ix_mul h hi, sg_mul h hi, at_mul h hi (y := mul y z), at_mul k hx, Int.mul_assoc]
theorem idl_mul (h : SgT n x) : mul (idl n) x = x := by
  have hi' := SgT.idl h.lo h.hi
  refine ext_at (by rw [len_mul, hi'.ln, h.ln]) fun i hi => ?_
  rw [len_mul, hi'.ln] at hi
  rw [at_mul hi' hi]
  have : ix (idl n) i = i := by unfold ix; rw [at_idl hi]; omega
  rw [this, at_idl hi, Int.sign_eq_one_of_pos (by omega), Int.mul_one]
theorem mul_idl (h : SgT n x) : mul x (idl n) = x := by
  refine ext_at (by rw [len_mul]) fun i hi => ?_
  rw [len_mul, h.ln] at hi
  have a := h.ixl hi
  rw [at_mul h hi, at_idl a.1, a.2.1]
  have e := sg_abs (at' x i)
  rw [← e, Int.mul_assoc, sg_sq (h.rg i hi).1, Int.mul_one]
theorem ngt_ngt : ngt (ngt x) = x := by
  unfold ngt
  rw [List.map_map]
  exact (List.map_congr_left fun m _ => by show - -m = id m; rw [Int.neg_neg]; rfl).trans (List.map_id x)
theorem Trn.abs (h : SgT n x) (k : Trn n x t) {i : Nat} (hi : i < n) : (at' t (ix x i)).natAbs = i + 1 ∧ ix t (ix x i) = i ∧ (at' t (ix x i)).sign = (at' x i).sign := by
  have e := k.2 i hi
  have p : (at' t (ix x i)).natAbs = i + 1 := by rw [e, abs_sg (h.rg i hi).1]; omega
  refine ⟨p, by unfold ix at p ⊢; rw [p]; omega, ?_⟩
  rw [e, sgn_mul, Int.sign_eq_one_of_pos (by omega), Int.one_mul]
theorem Trn.sg (h : SgT n x) (k : Trn n x t) : SgT n t := by
  have onto : ∀ j, j < n → ∃ i, i < n ∧ ix x i = j := fun j hj => by
    obtain ⟨i, hi, e⟩ := h.su j hj
    exact ⟨i, hi, by have := (h.ixl hi).2.2; omega⟩
  refine ⟨k.1, h.lo, h.hi, fun j hj => ?_, fun a b ha hb e => ?_, fun i hi => ?_⟩
  · obtain ⟨i, hi, rfl⟩ := onto j hj
    rw [(Trn.abs h k hi).1]; omega
  · obtain ⟨i, hi, rfl⟩ := onto a ha
    obtain ⟨j, hj, rfl⟩ := onto b hb
    rw [(Trn.abs h k hi).1, (Trn.abs h k hj).1] at e
    rw [show i = j by omega]
  · exact ⟨ix x i, (h.ixl hi).1, (Trn.abs h k hi).1⟩
theorem Trn.uniq (h : SgT n x) (k : Trn n x t) (k' : Trn n x u) : t = u := by
  refine ext_at (by rw [k.1, k'.1]) fun j hj => ?_
  rw [k.1] at hj
  obtain ⟨i, hi, e⟩ := h.su j hj
  have : ix x i = j := by have := (h.ixl hi).2.2; omega
  rw [← this, k.2 i hi, k'.2 i hi]
theorem mul_trn (h : SgT n x) (k : Trn n x t) : mul x t = idl n := by
  have hi' := SgT.idl h.lo h.hi
  refine ext_at (by rw [len_mul, h.ln, hi'.ln]) fun i hi => ?_
  rw [len_mul, h.ln] at hi
  rw [at_mul h hi, k.2 i hi, at_idl hi, Int.mul_assoc, sg_sq (h.rg i hi).1, Int.mul_one]
theorem trn_mul (h : SgT n x) (k : Trn n x t) : mul t x = idl n := by
  have hi' := SgT.idl h.lo h.hi
  have ht := Trn.sg h k
  refine ext_at (by rw [len_mul, ht.ln, hi'.ln]) fun j hj => ?_
  rw [len_mul, ht.ln] at hj
  obtain ⟨i, hi, e⟩ := h.su j hj
  have e2 : ix x i = j := by have := (h.ixl hi).2.2; omega
  subst e2
  obtain ⟨a, b, c⟩ := Trn.abs h k hi
  rw [at_mul ht hj, b, c, sg_abs, at_idl hj, (h.ixl hi).2.1]
theorem trn_trn (h : SgT n x) (k : Trn n x t) : Trn n t x := by
  refine ⟨h.ln, fun j hj => ?_⟩
  obtain ⟨i, hi, e⟩ := h.su j hj
  have e2 : ix x i = j := by have := (h.ixl hi).2.2; omega
  subst e2
  obtain ⟨a, b, c⟩ := Trn.abs h k hi
  rw [b, c, (h.ixl hi).2.1, ← sg_abs, Int.mul_assoc, sg_sq (h.rg i hi).1, Int.mul_one]
theorem trn_of_mul (h : SgT n x) (k : SgT n y) (hx : Trn n x t) (hy : Trn n y u) : Trn n (mul x y) (mul u t) := by
  have hu := Trn.sg k hy
  refine ⟨by rw [len_mul, hu.ln], fun i hi => ?_⟩
  have hp := (h.ixl hi).1
  obtain ⟨a, b, c⟩ := Trn.abs k hy hp
  rw [ix_mul h hi, at_mul hu (k.ixl hp).1, b, c, hx.2 i hi, sg_mul h hi, Int.mul_assoc, Int.mul_comm (at' x i).sign]
end
/-! rows -/
def row (n : Nat) (m : Int) : List Int := (List.range n).map fun (j : Nat) => if j + 1 = m.natAbs then m.sign else 0
def dns (ms : List Int) : List (List Int) := ms.map (row ms.length)
theorem sum_zero (n : Nat) : ((List.range n).map fun _ => (0 : Int)).sum = 0 := by
  induction n with
  | zero => rfl
  | succ n ih => rw [List.range_succ, List.map_append, List.sum_append, ih]; rfl
theorem sum_one {n k : Nat} {f : Nat → Int} {s : Int} (hk : k < n) : ((List.range n).map fun i => (if i = k then s else 0) * f i).sum = s * f k := by
  induction n with
  | zero => omega
  | succ n ih =>
    rw [List.range_succ, List.map_append, List.sum_append]
    by_cases c : k = n
    · subst c
      have z : ((List.range k).map fun i => (if i = k then s else 0) * f i).sum = 0 := by
        have : ((List.range k).map fun i => (if i = k then s else 0) * f i) = (List.range k).map fun _ => (0 : Int) := List.map_congr_left fun i hi => by
          have := List.mem_range.mp hi
          rw [if_neg (by omega), Int.zero_mul]
        rw [this, sum_zero]
      rw [z]
      simp
    · rw [ih (by omega)]
      simp [show n ≠ k from fun z => c z.symm]
theorem row_get {n j : Nat} {m : Int} (h : j < n) : at' (row n m) j = if j + 1 = m.natAbs then m.sign else 0 := by
  simp [at', row, List.getD_eq_getElem?_getD, h]
theorem row_len (n : Nat) (m : Int) : (row n m).length = n := by simp [row]
/-- the product of rows -/
def rowMul (n : Nat) (r : List Int) (o : List (List Int)) : List Int := (List.range n).map fun j => ((r.zip o).map fun p => p.1 * at' p.2 j).sum
theorem zip_sum (n : Nat) (m : Int) (os : List Int) (ho : os.length = n) (j : Nat) : (((row n m).zip (dns os)).map fun p => p.1 * at' p.2 j) = (List.range n).map fun i => (if i + 1 = m.natAbs then m.sign else 0) * at' (row n (at' os i)) j := by
  apply List.ext_getElem
  · simp [row_len, dns, ho]
  · intro i h1 h2
    have hi : i < n := by simpa using h2
    have ho' : i < os.length := by omega
    have e1 : os[i] = at' os i := by simp [at', List.getD_eq_getElem?_getD, ho']
    simp only [List.getElem_map, List.getElem_zip, List.getElem_range, row, dns]
    rw [e1, ho]
theorem dns_mul {n : Nat} {x y : List Int} (h : SgT n x) (k : SgT n y) : (dns x).map (fun r => rowMul n r (dns y)) = dns (mul x y) := by
  unfold dns mul
  rw [List.map_map, List.map_map, List.length_map, h.ln]
  refine List.map_congr_left fun m hm => ?_
  obtain ⟨i, hi, e⟩ := List.mem_iff_getElem.mp hm
  rw [h.ln] at hi
  have ea : at' x i = m := by simp [at', List.getD_eq_getElem?_getD, h.ln, hi, e]
  have rg := h.rg i hi
  rw [ea] at rg
  show rowMul n (row n m) (y.map (row y.length)) = row n (at' y (m.natAbs - 1) * m.sign)
  unfold rowMul
  apply List.map_congr_left
  intro j hj
  have hj' := List.mem_range.mp hj
  have := zip_sum n m y k.ln j
  unfold dns at this
  rw [this]
  have e2 : (fun i => (if i + 1 = m.natAbs then m.sign else 0) * at' (row n (at' y i)) j) = fun i => (if i = m.natAbs - 1 then m.sign else 0) * at' (row n (at' y i)) j := by
    funext i
    by_cases c : i + 1 = m.natAbs
    · rw [if_pos c, if_pos (by omega)]
    · rw [if_neg c, if_neg (by omega)]
  rw [e2, sum_one (f := fun i => at' (row n (at' y i)) j) (by omega), row_get hj', abs_sg rg.1, sgn_mul]
  by_cases c : j + 1 = (at' y (m.natAbs - 1)).natAbs
  · rw [if_pos c, if_pos c, Int.mul_comm]
  · rw [if_neg c, if_neg c, Int.mul_zero]
/-- columns -/
def cols (n : Nat) (r : List (List Int)) : List (List Int) := (List.range n).map fun j => r.map fun w => at' w j
theorem dns_trn {n : Nat} {x t : List Int} (h : SgT n x) (k : Trn n x t) : cols n (dns x) = dns t := by
  have ht := Trn.sg h k
  unfold cols dns
  rw [ht.ln, h.ln]
  apply List.ext_getElem
  · simp [ht.ln]
  · intro j h1 h2
    have hj : j < n := by simpa using h1
    simp only [List.getElem_map, List.getElem_range]
    apply List.ext_getElem
    · simp [row, h.ln]
    · intro i g1 g2
      have hi : i < n := by simpa [h.ln] using g1
      have ex : x[i]'(by rw [h.ln]; exact hi) = at' x i := by simp [at', List.getD_eq_getElem?_getD, h.ln, hi]
      have et : t[j]'(by rw [ht.ln]; exact hj) = at' t j := by simp [at', List.getD_eq_getElem?_getD, ht.ln, hj]
      simp only [List.getElem_map, row, List.getElem_range]
      rw [ex, et]
      have r1 := row_get (m := at' x i) hj
      unfold row at r1
      rw [r1]
      obtain ⟨p, hp, e⟩ := h.su j hj
      have e2 : ix x p = j := by have := (h.ixl hp).2.2; omega
      subst e2
      obtain ⟨a, b, c⟩ := Trn.abs h k hp
      have q := (h.ixl hp).2.2
      by_cases z : i = p
      · subst z
        rw [if_pos q, if_pos a.symm, c]
      · rw [if_neg (fun w => z (h.inj i p hi hp (by omega))), if_neg (by omega)]
theorem dns_ngt (x : List Int) : (dns x).map (fun r => r.map fun e => -e) = dns (ngt x) := by
  unfold dns ngt
  rw [List.map_map, List.map_map, List.length_map]
  refine List.map_congr_left fun m _ => ?_
  show (row x.length m).map (fun e => -e) = row x.length (-m)
  unfold row
  rw [List.map_map]
  refine List.map_congr_left fun j _ => ?_
  show -(if j + 1 = m.natAbs then m.sign else 0) = _
  rw [Int.natAbs_neg, Int.sign_neg]
  split <;> rfl
/-- the diagonal -/
def dia (x : List Int) : List Int := (List.range x.length).map fun i => if i + 1 = (at' x i).natAbs then (at' x i).sign else 0
theorem dia_idl {n : Nat} {x : List Int} (h : SgT n x) : decide (dia x = List.replicate n 1) = decide (x = idl n) := by
  rw [Bool.eq_iff_iff, decide_eq_true_eq, decide_eq_true_eq]
  constructor
  · intro e
    refine ext_at (by rw [h.ln, (SgT.idl h.lo h.hi).ln]) fun i hi => ?_
    rw [h.ln] at hi
    have this : at' (dia x) i = 1 := by rw [e]; simp [at', List.getD_eq_getElem?_getD, hi]
    have d2 : at' (dia x) i = if i + 1 = (at' x i).natAbs then (at' x i).sign else 0 := by
      unfold dia
      rw [h.ln]
      show ((List.range n).map _).getD i 0 = _
      rw [List.getD_eq_getElem?_getD, List.getElem?_map, List.getElem?_range hi]
      rfl
    rw [d2] at this
    rw [at_idl hi]
    by_cases c : i + 1 = (at' x i).natAbs
    · rw [if_pos c] at this
      have := Int.sign_eq_one_iff_pos.mp this
      omega
    · rw [if_neg c] at this
      cases this
  · intro e
    rw [e]
    unfold dia
    rw [(SgT.idl h.lo h.hi).ln]
    apply List.ext_getElem
    · simp
    · intro i h1 h2
      have hi : i < n := by simpa using h1
      simp only [List.getElem_map, List.getElem_range, List.getElem_replicate]
      rw [at_idl hi, if_pos (by omega), Int.sign_eq_one_of_pos (by omega)]
end Q

namespace Dt
open PySem L2 LO
theorem wc_gcd {W : Wd} {δ : Fr} {Φ : D → Fr → Prop} {a b : Int} (p : Φ (.int ((Nat.gcd a.natAbs b.natAbs : Nat) : Int)) δ) : WC W L2.rGcd [.int a, .int b] δ Φ := fun I H σ vs k r Q q => by
  obtain ⟨v, w, rfl, r1, r2⟩ := rps2 r
  cases r1; cases r2
  exact ⟨a, b, rfl, q _ δ _ I H p k (Sx.refl _ _ _) (.int _)⟩
theorem deq_tupI (a b : List Int) : deq (.tup (a.map D.int)) (.tup (b.map D.int)) = decide (a = b) := by
  show PyData.eqvAll (D.pys (a.map D.int)) (D.pys (b.map D.int)) = _
  rw [pys_map D.int PyData.int (fun _ => rfl), pys_map D.int PyData.int (fun _ => rfl)]
  exact eqvAll_ints a b
theorem deq_lstI (a b : List Int) : deq (.lst (a.map D.int)) (.lst (b.map D.int)) = decide (a = b) := by
  show PyData.eqvAll (D.pys (a.map D.int)) (D.pys (b.map D.int)) = _
  rw [pys_map D.int PyData.int (fun _ => rfl), pys_map D.int PyData.int (fun _ => rfl)]
  exact eqvAll_ints a b
theorem deq_refl_all : ∀ l : List D, (∀ x ∈ l, deq x x = true) → PyData.eqvAll (D.pys l) (D.pys l) = true
  | [], _ => rfl
  | x :: l, h => by
    show (PyData.eqv x.py x.py && PyData.eqvAll (D.pys l) (D.pys l)) = true
    rw [deq_refl_all l fun y hy => h y (List.mem_cons_of_mem _ hy), Bool.and_true]
    exact h x (List.mem_cons_self ..)
theorem deq_lst_refl (l : List D) (h : ∀ x ∈ l, deq x x = true) : deq (.lst l) (.lst l) = true := deq_refl_all l h
theorem deq_tup_refl (l : List D) (h : ∀ x ∈ l, deq x x = true) : deq (.tup l) (.tup l) = true := deq_refl_all l h
theorem sh_lstI (a : List Int) : D.sh 2 (.lst (a.map D.int)) = true := sh_ints a
theorem sh_tupI (a : List Int) : D.sh 2 (.tup (a.map D.int)) = true := sh_ints a
theorem asc_extI : ∀ {a b : List Int}, a.Pairwise (· < ·) → b.Pairwise (· < ·) → (∀ x, x ∈ a ↔ x ∈ b) → a = b
  | [], [], _, _, _ => rfl
  | [], y :: b, _, _, h => absurd ((h y).mpr List.mem_cons_self) (by simp)
  | x :: a, [], _, _, h => absurd ((h x).mp List.mem_cons_self) (by simp)
  | x :: a, y :: b, ha, hb, h => by
    obtain ⟨a1, a2⟩ := List.pairwise_cons.mp ha
    obtain ⟨b1, b2⟩ := List.pairwise_cons.mp hb
    have e : x = y := by
      rcases List.mem_cons.mp ((h x).mp List.mem_cons_self) with e | e
      · exact e
      · rcases List.mem_cons.mp ((h y).mpr List.mem_cons_self) with f | f
        · exact f.symm
        · have := b1 x e
          have := a1 y f
          omega
    subst e
    congr 1
    refine asc_extI a2 b2 fun z => ⟨fun hz => ?_, fun hz => ?_⟩
    · rcases List.mem_cons.mp ((h z).mp (List.mem_cons_of_mem _ hz)) with e | e
      · have := a1 z hz; omega
      · exact e
    · rcases List.mem_cons.mp ((h z).mpr (List.mem_cons_of_mem _ hz)) with e | e
      · have := b1 z hz; omega
      · exact e
end Dt

namespace Q
open PySem L2 Dt
def S_is_integer : DSpec := fun ds Φ => ∃ x, ds = [x] ∧ x.pln = true ∧ Φ (.bl x.isI)
def S_check_number : DSpec := fun ds Φ => ∃ v l m : Int, ds = [.int v, .int l, .int m] ∧ l ≤ v ∧ v ≤ m ∧ Φ .non
end Q
namespace Q
open PySem L2 Dt
/-! is_integer : 0=value -/
def T_is_integer (W : Wd) : TS :=
  (tRet (tAndV (tCB (rIsi W.K) (tCons (tVar 0) (tCons (tC (.ty "int")) tNil))) (tNotV (tCB (rIsi W.K) (tCons (tVar 0) (tCons (tC (.ty "bool")) tNil))))))
/-! check_number : 0=value 1=least 2=most -/
def T_check_number (W : Wd) : TS :=
  (tIfS (tNot (tAnd (tTru W.K (tCall (pSp W S_is_integer) [] C8.E0 (tCons (tVar 0) tNil))) (tTest (tChain (rI0 fun i j => .bl (decide (i ≤ j))) (rI0 fun i j => .bl (decide (i ≤ j))) (tVar 1) (tVar 0) (tVar 2))))) tNever tNext)
end Q
namespace Q
open PySem L2 Dt
local macro_rules | `(tactic| walk_at "d") => `(tactic| with_reducible first
  | refine ws_seq ?_
  | refine so_nx ?_
  | refine so_rt ?_
  | refine so_bk ?_
  | refine so_ct ?_
  | refine ro_rt ?_
  | refine ro_nx ?_
  | refine rj_rt rfl ?_
  | refine rj_nx rfl ?_
  | refine lo_nx ?_
  | refine lo_ct ?_
  | refine lo_bk ?_
  | refine lo_rt ?_
  | refine ws_if ?_
  | refine ws_ret ?_
  | refine ws_next ?_
  | refine ws_retN ?_
  | refine ws_set ?_
  | refine ws_drop ?_
  | refine ws_par ?_
  | refine we_var rfl ?_
  | refine we_int ?_
  | refine we_bl ?_
  | refine we_str ?_
  | refine we_non ?_
  | refine we_ty ?_
  | refine we_op ?_
  | refine we_un ?_
  | refine we_tup ?_
  | refine we_chain ?_
  | refine we_cb ?_
  | refine wa_nil ?_
  | refine wa_cons ?_
  | refine we_call ?_
  | refine we_andV ?_
  | refine we_orV ?_
  | refine we_notV ?_
  | refine we_if ?_
  | refine we_isN ?_
  | refine we_notN ?_
  | refine we_bits ?_
  | refine wt_B ?_
  | refine wt_test ?_
  | refine wt_tru ?_
  | refine wt_and ?_
  | refine wt_or ?_
  | refine wt_not ?_
  | refine wt_yes ?_
  | refine wr_I0i ?_
  | refine wr_I0b ?_
  | refine wr_addI ?_
  | refine wu_i ?_
  | refine wc_intI ?_
  | refine wc_intB ?_
  | refine wc_abs ?_
  | refine wc_max2 ?_
  | refine wc_min2 ?_
  | refine wc_lenL ?_
  | refine wc_lenT ?_
  | refine wc_lenScr ?_
  | refine wc_tupleL ?_
  | refine wc_isiT (by first | assumption | exact pln_tup | exact pln_int | exact pln_str | exact pln_lst | exact pln_bl | exact pln_non) ?_
  | refine wc_isiI (by first | assumption | exact pln_tup | exact pln_int | exact pln_str | exact pln_lst | exact pln_bl | exact pln_non) ?_
  | refine wc_isiB (by first | assumption | exact pln_tup | exact pln_int | exact pln_str | exact pln_lst | exact pln_bl | exact pln_non) ?_
  | refine wc_isiS (by first | assumption | exact pln_tup | exact pln_int | exact pln_str | exact pln_lst | exact pln_bl | exact pln_non) ?_
  | refine ⟨_, rfl, ?_⟩)
theorem l_is_integer : ∀ xs Φ, S_is_integer xs Φ → xs.length = 1 := fun _ _ ⟨_, e, _⟩ => by rw [e]; rfl
theorem w_is_integer (W : Wd) (xs : List D) (Φ : D → Prop) (s : S_is_integer xs Φ) : WS W (T_is_integer W) (frD 1 xs) (rtO Φ) := by
  obtain ⟨x, rfl, hp, q⟩ := s
  show WS W _ [some (.d x)] _
  unfold T_is_integer
  repeat walk_at "d"
  refine ite2B (fun h => ?_) fun h => ?_
  · repeat walk_at "d"
    have e : (!x.isB) = x.isI := by
      cases x <;> first | rfl | (simp [D.isI, D.isB] at h)
    rw [e]; exact q
  · repeat walk_at "d"
    have e : false = x.isI := by
      cases x <;> first | rfl | (simp [D.isI, D.isB] at h)
    rw [e]; exact q
theorem l_check_number : ∀ xs Φ, S_check_number xs Φ → xs.length = 3 := fun _ _ ⟨_, _, _, e, _⟩ => by rw [e]; rfl
theorem w_check_number (W : Wd) (xs : List D) (Φ : D → Prop) (s : S_check_number xs Φ) : WS W (T_check_number W) (frD 3 xs) (rtO Φ) := by
  obtain ⟨v, l, m, rfl, h1, h2, q⟩ := s
  show WS W _ [some (.d (.int v)), some (.d (.int l)), some (.d (.int m))] _
  unfold T_check_number
  repeat walk_at "d"
  refine ⟨_, rfl, rfl, ?_⟩
  refine ⟨_, rfl, ?_⟩
  refine iteTr rfl ?_
  repeat walk_at "d"
  refine iteTr (decide_eq_true h1) ?_
  repeat walk_at "d"
  refine iteFa (by rw [decide_eq_true h2]; rfl) ?_
  repeat walk_at "d"
  exact q
end Q

namespace Q
open PySem L2 Dt
abbrev TL : Int := 1000000000000000000000000000000000000000000000000000000000000
def psd : D → Bool
  | .int i => decide (-TL < i) && decide (i < TL)
  | _ => false
def gc (t b : Int) : Int := ((Nat.gcd t.natAbs b.natAbs : Nat) : Int)
abbrev dMs (ms : List Int) : D := .tup (ms.map D.int)
abbrev dSg (ms : List Int) : D := .ins 1 [dMs ms]
abbrev dRt (t b : Int) : D := .ins 0 [.int t, .int b]
abbrev atR : List Str := ["_top", "_bottom"]
abbrev atS : List Str := ["_marks"]
abbrev dTab (r : List (List Int)) : D := .tup (r.map fun w => .tup (w.map fun e => dRt e 1))
def S_is_passed_integer : DSpec := fun ds Φ => ∃ x, ds = [x] ∧ x.pln = true ∧ Φ (.bl (psd x))
def S_sign_of : DSpec := fun ds Φ => ∃ n : Int, ds = [.int n] ∧ Φ (.int n.sign)
def S__lowest_terms : DSpec := fun ds Φ => ∃ t b : Int, ds = [.int t, .int b] ∧ 0 < b ∧ b < TL ∧ Φ (.tup [.int (t / gc t b), .int (b / gc t b)])
def S_Ratio___init__ : ISpec := fun ds Φ => ∃ t b : Int, ds = [.int t, .int b] ∧ -TL < t ∧ t < TL ∧ 0 < b ∧ b < TL ∧ Φ [.int (t / gc t b), .int (b / gc t b)]
def S_Ratio___eq__ : DSpec := fun ds Φ => ∃ a b c d : Int, ds = [dRt a b, dRt c d] ∧ Φ (.bl (decide (a = c) && decide (b = d)))
def S__tell_table : DSpec := fun ds Φ => ∃ n ms, ds = [dMs ms] ∧ SgT n ms ∧ Φ (.bl true)
def S__row_of : DSpec := fun ds Φ => ∃ (m : Int) (n : Nat), ds = [.int m, .int n] ∧ 1 ≤ m.natAbs ∧ m.natAbs ≤ n ∧ n ≤ 32 ∧ Φ (.tup ((row n m).map fun e => dRt e 1))
def S_SignTable___init__ : ISpec := fun ds Φ => ∃ n ms, ds = [dMs ms] ∧ SgT n ms ∧ Φ [dMs ms]
def S_SignTable_idle : DSpec := fun ds Φ => ∃ n : Nat, ds = [.int n] ∧ 1 ≤ n ∧ n ≤ 64 ∧ Φ (dSg (idl n))
def S_SignTable_size : DSpec := fun ds Φ => ∃ ms, ds = [dSg ms] ∧ Φ (.int (ms.length : Nat))
def S_SignTable_marks : DSpec := fun ds Φ => ∃ ms, ds = [dSg ms] ∧ Φ (dMs ms)
def S_SignTable_trace : DSpec := fun ds Φ => ∃ n ms, ds = [dSg ms] ∧ SgT n ms ∧ Φ (.int (dia ms).sum)
def S_SignTable_is_idle : DSpec := fun ds Φ => ∃ n ms, ds = [dSg ms] ∧ SgT n ms ∧ Φ (.bl (decide (ms = idl n)))
def S_SignTable_turned : DSpec := fun ds Φ => ∃ n ms, ds = [dSg ms] ∧ SgT n ms ∧ ∀ ts, Trn n ms ts → Φ (dSg ts)
def S_SignTable_table : DSpec := fun ds Φ => ∃ n ms, ds = [dSg ms] ∧ SgT n ms ∧ n ≤ 32 ∧ Φ (dTab (dns ms))
def S_SignTable___mul__ : DSpec := fun ds Φ => ∃ n x y, ds = [dSg x, dSg y] ∧ SgT n x ∧ SgT n y ∧ Φ (dSg (mul x y))
def S_SignTable___neg__ : DSpec := fun ds Φ => ∃ n x, ds = [dSg x] ∧ SgT n x ∧ Φ (dSg (ngt x))
def S_SignTable___eq__ : DSpec := fun ds Φ => (∃ x y : List Int, ds = [dSg x, dSg y] ∧ Φ (.bl (decide (x = y)))) ∨ ∃ (x : List Int) (y : D), ds = [dSg x, y] ∧ y.pln = true ∧ Φ (.bl false)
end Q
namespace Q
open PySem L2 Dt
/-! is_passed_integer : 0=value -/
def T_is_passed_integer (W : Wd) : TS :=
  (tRet (tAndV (tCall (pSp W S_is_integer) [] C8.E0 (tCons (tVar 0) tNil)) (tChain (rI0 fun i j => .bl (decide (i < j))) (rI0 fun i j => .bl (decide (i < j))) (tUn (rU fun i => .int (-i)) (tC (.int 1000000000000000000000000000000000000000000000000000000000000))) (tVar 0) (tC (.int 1000000000000000000000000000000000000000000000000000000000000)))))
/-! sign_of : 0=number -/
def T_sign_of (W : Wd) : TS :=
  (tSeq (tIfS (tTest (tOp (rI0 fun i j => .bl (decide (i < j))) (tVar 0) (tC (.int 0)))) (tRet (tUn (rU fun i => .int (-i)) (tC (.int 1)))) tNext)
  (tRet (tIf (tTest (tOp (rI0 fun i j => .bl (decide (j < i))) (tVar 0) (tC (.int 0)))) (tC (.int 1)) (tC (.int 0)))))
/-! _lowest_terms : 0=top 1=bottom 2=shared -/
def T__lowest_terms (W : Wd) : TS :=
  (tSeq (tAsg (tCB L2.rGcd (tCons (tVar 0) (tCons (tVar 1) tNil))) (gName 2))
  (tSeq (tIfS (tTest (tOp (rI0 fun i j => .bl (decide (i < j))) (tVar 1) (tC (.int 0)))) (tAsg (tUn (rU fun i => .int (-i)) (tVar 2)) (gName 2)) tNext)
  (tRet (tTup (tCons (tOp rDivU (tVar 0) (tVar 2)) (tCons (tOp rDivU (tVar 1) (tVar 2)) tNil))))))
/-! Ratio.__init__ : 0=self 1=top 2=bottom 3=terms -/
def T_Ratio___init__ (W : Wd) : TS :=
  (tSeq (tIfS (tNot (tTru W.K (tCall (pSp W S_is_passed_integer) [] C8.E0 (tCons (tVar 1) tNil)))) tNever tNext)
  (tSeq (tIfS (tOr (tNot (tTru W.K (tCall (pSp W S_is_passed_integer) [] C8.E0 (tCons (tVar 2) tNil)))) (tTest (tOp (rEqD W.K) (tVar 2) (tC (.int 0))))) tNever tNext)
  (tSeq (tAsg (tCall (pSp W S__lowest_terms) [] C8.E0 (tCons (tVar 1) (tCons (tVar 2) tNil))) (gName 3))
  (tSeq (sFld W.K (tVar 0) (tOp (L2.rIx W.K) (tVar 3) (tC (.int 0))) "_top")
  (sFld W.K (tVar 0) (tOp (L2.rIx W.K) (tVar 3) (tC (.int 1))) "_bottom")))))
/-! Ratio.__eq__ : 0=self 1=other -/
def T_Ratio___eq__ (W : Wd) : TS :=
  (tSeq (tIfS (tTru W.K (tCB (rIsi W.K) (tCons (tVar 1) (tCons (tCls W 0) tNil)))) (tRet (tAndV (tOp (rEqD W.K) (tFldC W 0 0 "_top" (tVar 0)) (tFldC W 0 0 "_top" (tVar 1))) (tOp (rEqD W.K) (tFldC W 0 1 "_bottom" (tVar 0)) (tFldC W 0 1 "_bottom" (tVar 1))))) tNext)
  (tRet (tAndV (tCall (pSp W S_is_integer) [] C8.E0 (tCons (tVar 1) tNil)) (tAndV (tOp (rEqD W.K) (tFldC W 0 1 "_bottom" (tVar 0)) (tC (.int 1))) (tOp (rEqD W.K) (tFldC W 0 0 "_top" (tVar 0)) (tVar 1))))))
/-! _tell_table : 0=marks 1=mark -/
def T__tell_table (W : Wd) : TS :=
  (tSeq (tIfS (tNot (tAnd (tTru W.K (tCB (rIsi W.K) (tCons (tVar 0) (tCons (tC (.ty "tuple")) tNil)))) (tTest (tChain (rI0 fun i j => .bl (decide (i ≤ j))) (rI0 fun i j => .bl (decide (i ≤ j))) (tC (.int 1)) (tCB (rLenD W.K) (tCons (tVar 0) tNil)) (tC (.int 64)))))) (tRet (tC (.bl false))) tNext)
  (tSeq (tIfS (tNot (tTru W.K (tCB (rAll W.K) (tCons (tLc (iSeq W.K (tVar 0)) (gName 1) tYes (tCall (pSp W S_is_integer) [] C8.E0 (tCons (tVar 1) tNil)) [1]) tNil)))) (tRet (tC (.bl false))) tNext)
  (tRet (tOp (rEqD W.K) (tCB (rSortedI W.K) (tCons (tLc (iSeq W.K (tVar 0)) (gName 1) tYes (tCB rAbs (tCons (tVar 1) tNil)) [1]) tNil)) (tLstRg (tRg2 (tC (.int 1)) (tOp (rAddU W.K) (tCB (rLenD W.K) (tCons (tVar 0) tNil)) (tC (.int 1)))))))))
/-! _row_of : 0=mark 1=size 2=row -/
def T__row_of (W : Wd) : TS :=
  (tSeq (tAsg (tOp rMulU (tLst (tCons (tMakeC W 0 S_Ratio___init__ [.int 1] (tCons (tC (.int 0)) tNil)) tNil)) (tVar 1)) (gName 2))
  (tSeq (tAsg (tMakeC W 0 S_Ratio___init__ [.int 1] (tCons (tCall (pSp W S_sign_of) [] C8.E0 (tCons (tVar 0) tNil)) tNil)) (gSub (tVar 2) (tOp (rI0 fun i j => .int (i - j)) (tCB rAbs (tCons (tVar 0) tNil)) (tC (.int 1))) rSetL))
  (tRet (tCB (rTupleOf W.K) (tCons (tVar 2) tNil)))))
/-! SignTable.__init__ : 0=self 1=marks -/
def T_SignTable___init__ (W : Wd) : TS :=
  (tSeq (tIfS (tNot (tTru W.K (tCall (pSp W S__tell_table) [] C8.E0 (tCons (tVar 1) tNil)))) tNever tNext)
  (sFld W.K (tVar 0) (tVar 1) "_marks"))
/-! SignTable.idle : 0=size -/
def T_SignTable_idle (W : Wd) : TS :=
  (tSeq (tDrop (tCall (pSp W S_check_number) [] C8.E0 (tCons (tVar 0) (tCons (tC (.int 1)) (tCons (tC (.int 64)) tNil)))))
  (tRet (tMakeC W 1 S_SignTable___init__ [] (tCons (tTupRg (tRg2 (tC (.int 1)) (tOp (rAddU W.K) (tVar 0) (tC (.int 1))))) tNil))))
/-! SignTable.size : 0=self -/
def T_SignTable_size (W : Wd) : TS :=
  (tRet (tCB (rLenD W.K) (tCons (tFldC W 1 0 "_marks" (tVar 0)) tNil)))
/-! SignTable.marks : 0=self -/
def T_SignTable_marks (W : Wd) : TS :=
  (tRet (tFldC W 1 0 "_marks" (tVar 0)))
/-! SignTable.trace : 0=self 1=row 2=mark -/
def T_SignTable_trace (W : Wd) : TS :=
  (tRet (tCB (rSum W.K) (tCons (tLc (iEnumU W.K (tCons (tFldC W 1 0 "_marks" (tVar 0)) tNil)) (gTup W.K 2 (gCons (gName 1) (gCons (gName 2) gNil))) (tTest (tOp (rEqD W.K) (tCB rAbs (tCons (tVar 2) tNil)) (tOp (rAddU W.K) (tVar 1) (tC (.int 1))))) (tCall (pSp W S_sign_of) [] C8.E0 (tCons (tVar 2) tNil)) [1, 2]) tNil)))
/-! SignTable.is_idle : 0=self -/
def T_SignTable_is_idle (W : Wd) : TS :=
  (tRet (tOp (rEqD W.K) (tFldC W 1 0 "_marks" (tVar 0)) (tTupRg (tRg2 (tC (.int 1)) (tOp (rAddU W.K) (tCB (rLenD W.K) (tCons (tFldC W 1 0 "_marks" (tVar 0)) tNil)) (tC (.int 1)))))))
/-! SignTable.turned : 0=self 1=marks 2=row 3=mark -/
def T_SignTable_turned (W : Wd) : TS :=
  (tSeq (tAsg (tOp rMulU (tLst (tCons (tC (.int 0)) tNil)) (tCB (rLenD W.K) (tCons (tFldC W 1 0 "_marks" (tVar 0)) tNil))) (gName 1))
  (tSeq (tFor (iEnumU W.K (tCons (tFldC W 1 0 "_marks" (tVar 0)) tNil)) (gTup W.K 2 (gCons (gName 2) (gCons (gName 3) gNil))) (tAsg (tOp rMulU (tOp (rAddU W.K) (tVar 2) (tC (.int 1))) (tCall (pSp W S_sign_of) [] C8.E0 (tCons (tVar 3) tNil))) (gSub (tVar 1) (tOp (rI0 fun i j => .int (i - j)) (tCB rAbs (tCons (tVar 3) tNil)) (tC (.int 1))) rSetL)))
  (tRet (tMakeC W 1 S_SignTable___init__ [] (tCons (tCB (rTupleOf W.K) (tCons (tVar 1) tNil)) tNil)))))
/-! SignTable.table : 0=self 1=size 2=mark -/
def T_SignTable_table (W : Wd) : TS :=
  (tSeq (tAsg (tCB (rLenD W.K) (tCons (tFldC W 1 0 "_marks" (tVar 0)) tNil)) (gName 1))
  (tSeq (tIfS (tTest (tOp (rI0 fun i j => .bl (decide (j < i))) (tVar 1) (tC (.int 32)))) tNever tNext)
  (tRet (tCB (rTupleOf W.K) (tCons (tLc (iSeq W.K (tFldC W 1 0 "_marks" (tVar 0))) (gName 2) tYes (tCall (pSp W S__row_of) [] C8.E0 (tCons (tVar 2) (tCons (tVar 1) tNil))) [2]) tNil)))))
/-! SignTable.__mul__ : 0=self 1=other 2=mark -/
def T_SignTable___mul__ (W : Wd) : TS :=
  (tSeq (tIfS (tNot (tTru W.K (tCB (rIsi W.K) (tCons (tVar 1) (tCons (tCls W 1) tNil))))) tNever tNext)
  (tSeq (tIfS (tTest (tOp (rNeD W.K) (tCB (rLenD W.K) (tCons (tFldC W 1 0 "_marks" (tVar 0)) tNil)) (tCB (rLenD W.K) (tCons (tFldC W 1 0 "_marks" (tVar 1)) tNil)))) tNever tNext)
  (tRet (tMakeC W 1 S_SignTable___init__ [] (tCons (tCB (rTupleOf W.K) (tCons (tLc (iSeq W.K (tFldC W 1 0 "_marks" (tVar 0))) (gName 2) tYes (tOp rMulU (tOp (L2.rIx W.K) (tFldC W 1 0 "_marks" (tVar 1)) (tOp (rI0 fun i j => .int (i - j)) (tCB rAbs (tCons (tVar 2) tNil)) (tC (.int 1)))) (tCall (pSp W S_sign_of) [] C8.E0 (tCons (tVar 2) tNil))) [2]) tNil)) tNil)))))
/-! SignTable.__neg__ : 0=self 1=mark -/
def T_SignTable___neg__ (W : Wd) : TS :=
  (tRet (tMakeC W 1 S_SignTable___init__ [] (tCons (tCB (rTupleOf W.K) (tCons (tLc (iSeq W.K (tFldC W 1 0 "_marks" (tVar 0))) (gName 1) tYes (tUn (rU fun i => .int (-i)) (tVar 1)) [1]) tNil)) tNil)))
/-! SignTable.__eq__ : 0=self 1=other -/
def T_SignTable___eq__ (W : Wd) : TS :=
  (tRet (tAndV (tCB (rIsi W.K) (tCons (tVar 1) (tCons (tCls W 1) tNil))) (tOp (rEqD W.K) (tFldC W 1 0 "_marks" (tVar 0)) (tFldC W 1 0 "_marks" (tVar 1)))))
end Q

namespace Q
open PySem L2 Dt
local macro_rules | `(tactic| walk_at "d") => `(tactic| with_reducible first
  | refine ws_seq ?_
  | refine so_nx ?_
  | refine so_rt ?_
  | refine so_bk ?_
  | refine so_ct ?_
  | refine ro_rt ?_
  | refine ro_nx ?_
  | refine rj_rt rfl ?_
  | refine rj_nx rfl ?_
  | refine lo_nx ?_
  | refine lo_ct ?_
  | refine lo_bk ?_
  | refine lo_rt ?_
  | refine ws_if ?_
  | refine ws_ret ?_
  | refine ws_next ?_
  | refine ws_retN ?_
  | refine ws_set ?_
  | refine ws_drop ?_
  | refine ws_par ?_
  | refine we_var rfl ?_
  | refine we_int ?_
  | refine we_bl ?_
  | refine we_str ?_
  | refine we_non ?_
  | refine we_ty ?_
  | refine we_op ?_
  | refine we_un ?_
  | refine we_tup ?_
  | refine we_chain ?_
  | refine we_cb ?_
  | refine wa_nil ?_
  | refine wa_cons ?_
  | refine we_call ?_
  | refine we_andV ?_
  | refine we_orV ?_
  | refine we_notV ?_
  | refine we_if ?_
  | refine we_isN ?_
  | refine we_notN ?_
  | refine we_bits ?_
  | refine wt_B ?_
  | refine wt_test ?_
  | refine wt_tru ?_
  | refine wt_and ?_
  | refine wt_or ?_
  | refine wt_not ?_
  | refine wt_yes ?_
  | refine wr_I0i ?_
  | refine wr_I0b ?_
  | refine wr_addI ?_
  | refine wu_i ?_
  | refine wc_intI ?_
  | refine wc_intB ?_
  | refine wc_abs ?_
  | refine wc_max2 ?_
  | refine wc_min2 ?_
  | refine wc_lenL ?_
  | refine wc_lenT ?_
  | refine wc_lenScr ?_
  | refine wc_tupleL ?_
  | refine wc_isiT (by first | assumption | exact pln_tup | exact pln_int | exact pln_str | exact pln_lst | exact pln_bl | exact pln_non) ?_
  | refine wc_isiI (by first | assumption | exact pln_tup | exact pln_int | exact pln_str | exact pln_lst | exact pln_bl | exact pln_non) ?_
  | refine wc_isiB (by first | assumption | exact pln_tup | exact pln_int | exact pln_str | exact pln_lst | exact pln_bl | exact pln_non) ?_
  | refine wc_isiS (by first | assumption | exact pln_tup | exact pln_int | exact pln_str | exact pln_lst | exact pln_bl | exact pln_non) ?_
  | refine ⟨_, rfl, ?_⟩
  | refine we_fldC (by assumption) rfl ?_
  | refine we_propC ?_
  | refine we_methC (by assumption) (by decide +kernel) ?_
  | refine we_cls ?_
  | refine we_smethC ?_
  | refine wc_isC (by assumption) (.inl (by first | assumption | exact pln_tup | exact pln_int | exact pln_str | exact pln_lst | exact pln_bl | exact pln_non)) ?_
  | refine wc_isC (by assumption) (.inr ⟨_, rfl⟩) ?_
  | refine ⟨_, _, rfl, rfl, ?_⟩)
theorem l_is_passed_integer : ∀ xs Φ, S_is_passed_integer xs Φ → xs.length = 1 := fun _ _ ⟨_, e, _⟩ => by rw [e]; rfl
theorem w_is_passed_integer (W : Wd) (xs : List D) (Φ : D → Prop) (s : S_is_passed_integer xs Φ) : WS W (T_is_passed_integer W) (frD 1 xs) (rtO Φ) := by
  obtain ⟨x, rfl, hp, q⟩ := s
  show WS W _ [some (.d x)] _
  unfold T_is_passed_integer
  repeat walk_at "d"
  refine ⟨_, rfl, hp, ?_⟩
  refine ⟨_, rfl, ?_⟩
  refine ite2B (fun h => ?_) fun h => ?_
  · cases x with
    | int i =>
      repeat walk_at "d"
      have e : psd (.int i) = (decide (-TL < i) && decide (i < TL)) := rfl
      rw [e] at q
      refine iteB (fun c => ?_) fun c => ?_
      · repeat walk_at "d"
        rw [decide_eq_true (show -TL < i from c), Bool.true_and] at q
        exact q
      · rw [decide_eq_false (show ¬ -TL < i from c), Bool.false_and] at q
        exact q
    | _ => simp [D.isI] at h
  · repeat walk_at "d"
    have e : psd x = false := by cases x <;> first | rfl | (simp [D.isI] at h)
    rw [e] at q
    exact q
theorem l_sign_of : ∀ xs Φ, S_sign_of xs Φ → xs.length = 1 := fun _ _ ⟨_, e, _⟩ => by rw [e]; rfl
theorem w_sign_of (W : Wd) (xs : List D) (Φ : D → Prop) (s : S_sign_of xs Φ) : WS W (T_sign_of W) (frD 1 xs) (rtO Φ) := by
  obtain ⟨n, rfl, q⟩ := s
  show WS W _ [some (.d (.int n))] _
  unfold T_sign_of
  repeat walk_at "d"
  refine iteB (fun c => ?_) fun c => ?_
  · repeat walk_at "d"
    rw [Int.sign_eq_neg_one_of_neg c] at q
    exact q
  · repeat walk_at "d"
    refine iteB (fun d => ?_) fun d => ?_
    · repeat walk_at "d"
      rw [Int.sign_eq_one_of_pos d] at q
      exact q
    · repeat walk_at "d"
      rw [show n = 0 by omega] at q
      exact q
theorem gc_pos {t b : Int} (h : 0 < b) : 0 < gc t b := by
  have : 0 < Nat.gcd t.natAbs b.natAbs := Nat.gcd_pos_of_pos_right _ (by omega)
  unfold gc
  omega
theorem gc_le {t b : Int} (h : 0 < b) : gc t b ≤ b := by
  have := Nat.gcd_le_right (m := t.natAbs) (n := b.natAbs) (by omega)
  unfold gc
  omega
theorem log_TL {i : Int} (h0 : 0 < i) (h : i < TL) : i.natAbs.log2 < 9000 := by
  have h : i < 1000000000000000000000000000000000000000000000000000000000000 := h
  have : i.natAbs < 2 ^ 200 := Nat.lt_of_lt_of_le (show i.natAbs < 1000000000000000000000000000000000000000000000000000000000000 by omega) (by decide)
  have := (Nat.log2_lt (n := i.natAbs) (by omega)).mpr this
  omega
theorem l__lowest_terms : ∀ xs Φ, S__lowest_terms xs Φ → xs.length = 2 := fun _ _ ⟨_, _, e, _⟩ => by rw [e]; rfl
theorem w__lowest_terms (W : Wd) (xs : List D) (Φ : D → Prop) (s : S__lowest_terms xs Φ) : WS W (T__lowest_terms W) (frD 3 xs) (rtO Φ) := by
  obtain ⟨t, b, rfl, h0, h1, q⟩ := s
  show WS W _ [some (.d (.int t)), some (.d (.int b)), none] _
  unfold T__lowest_terms
  have g0 := gc_pos (t := t) h0
  have g1 := gc_le (t := t) h0
  have dv : CDivW 0 (gc t b) := ⟨g0, log_TL g0 (by omega)⟩
  repeat walk_at "d"
  refine wc_gcd ?_
  repeat walk_at "d"
  refine iteFa (decide_eq_false (by omega)) ?_
  repeat walk_at "d"
  refine wr_divW dv ?_
  repeat walk_at "d"
  refine wr_divW dv ?_
  repeat walk_at "d"
  exact ⟨by simp, q⟩
theorem l_Ratio___init__ : ∀ xs Φ, S_Ratio___init__ xs Φ → xs.length = 2 := fun _ _ ⟨_, _, e, _⟩ => by rw [e]; rfl
theorem w_Ratio___init__ (W : Wd) (hR : CInf W 0 atR) (p : Addr) (xs : List D) (Φ : List D → Prop) (s : S_Ratio___init__ xs Φ) : WS W (T_Ratio___init__ W) (frI 4 p 0 xs) (rtI p 0 2 Φ) := by
  obtain ⟨t, b, rfl, t0, t1, b0, b1, q⟩ := s
  show WS W _ [some (.oi p 0 [] false), some (.d (.int t)), some (.d (.int b)), none] _
  unfold T_Ratio___init__
  repeat walk_at "d"
  refine ⟨_, rfl, rfl, ?_⟩
  refine ⟨_, rfl, ?_⟩
  refine iteFa (by show (!(decide (-TL < t) && decide (t < TL))) = false; rw [decide_eq_true t0, decide_eq_true t1]; rfl) ?_
  repeat walk_at "d"
  refine ⟨_, rfl, rfl, ?_⟩
  refine ⟨_, rfl, ?_⟩
  refine iteFa (by show (!(decide (-TL < b) && decide (b < TL))) = false; rw [decide_eq_true (show -TL < b by omega), decide_eq_true b1]; rfl) ?_
  repeat walk_at "d"
  refine wr_eqD (n := 1) (m := 1) rfl rfl (by decide) (by decide) ?_
  refine ⟨_, rfl, ?_⟩
  rw [deq_int]
  refine iteFa (decide_eq_false (by omega)) ?_
  repeat walk_at "d"
  refine ⟨t, b, rfl, b0, b1, ?_⟩
  repeat walk_at "d"
  refine ws_fldN (fz := false) hR ?_
  repeat walk_at "d"
  refine wr_ixST (z := .int (t / gc t b)) rfl ?_
  refine ⟨_, _, rfl, rfl, ?_⟩
  repeat walk_at "d"
  refine ws_fldN (fz := false) hR ?_
  repeat walk_at "d"
  refine wr_ixST (z := .int (b / gc t b)) rfl ?_
  refine ⟨_, _, rfl, rfl, ?_⟩
  exact ⟨_, rfl, rfl, q⟩
theorem l_Ratio___eq__ : ∀ xs Φ, S_Ratio___eq__ xs Φ → xs.length = 2 := fun _ _ ⟨_, _, _, _, e, _⟩ => by rw [e]; rfl
theorem w_Ratio___eq__ (W : Wd) (hR : CInf W 0 atR) (xs : List D) (Φ : D → Prop) (s : S_Ratio___eq__ xs Φ) : WS W (T_Ratio___eq__ W) (frD 2 xs) (rtO Φ) := by
  obtain ⟨a, b, c, d, rfl, q⟩ := s
  show WS W _ [some (.d (dRt a b)), some (.d (dRt c d))] _
  unfold T_Ratio___eq__
  repeat walk_at "d"
  refine iteTr (by simp [D.isC]) ?_
  repeat walk_at "d"
  refine wr_eqD (n := 1) (m := 1) rfl rfl (by decide) (by decide) ?_
  refine ⟨_, rfl, ?_⟩
  rw [deq_int]
  refine iteB (fun e => ?_) fun e => ?_
  · repeat walk_at "d"
    refine wr_eqD (n := 1) (m := 1) rfl rfl (by decide) (by decide) ?_
    rw [deq_int]
    rw [decide_eq_true e, Bool.true_and] at q
    exact q
  · rw [decide_eq_false e, Bool.false_and] at q
    exact q
end Q

namespace Q
open PySem L2 Dt
local macro_rules | `(tactic| walk_at "d") => `(tactic| with_reducible first
  | refine ws_seq ?_
  | refine so_nx ?_
  | refine so_rt ?_
  | refine so_bk ?_
  | refine so_ct ?_
  | refine ro_rt ?_
  | refine ro_nx ?_
  | refine rj_rt rfl ?_
  | refine rj_nx rfl ?_
  | refine lo_nx ?_
  | refine lo_ct ?_
  | refine lo_bk ?_
  | refine lo_rt ?_
  | refine ws_if ?_
  | refine ws_ret ?_
  | refine ws_next ?_
  | refine ws_retN ?_
  | refine ws_set ?_
  | refine ws_drop ?_
  | refine ws_par ?_
  | refine we_var rfl ?_
  | refine we_int ?_
  | refine we_bl ?_
  | refine we_str ?_
  | refine we_non ?_
  | refine we_ty ?_
  | refine we_op ?_
  | refine we_un ?_
  | refine we_tup ?_
  | refine we_chain ?_
  | refine we_cb ?_
  | refine wa_nil ?_
  | refine wa_cons ?_
  | refine we_call ?_
  | refine we_andV ?_
  | refine we_orV ?_
  | refine we_notV ?_
  | refine we_if ?_
  | refine we_isN ?_
  | refine we_notN ?_
  | refine we_bits ?_
  | refine wt_B ?_
  | refine wt_test ?_
  | refine wt_tru ?_
  | refine wt_and ?_
  | refine wt_or ?_
  | refine wt_not ?_
  | refine wt_yes ?_
  | refine wr_I0i ?_
  | refine wr_I0b ?_
  | refine wr_addI ?_
  | refine wu_i ?_
  | refine wc_intI ?_
  | refine wc_intB ?_
  | refine wc_abs ?_
  | refine wc_max2 ?_
  | refine wc_min2 ?_
  | refine wc_lenL ?_
  | refine wc_lenT ?_
  | refine wc_lenScr ?_
  | refine wc_tupleL ?_
  | refine wc_isiT (by first | assumption | exact pln_tup | exact pln_int | exact pln_str | exact pln_lst | exact pln_bl | exact pln_non) ?_
  | refine wc_isiI (by first | assumption | exact pln_tup | exact pln_int | exact pln_str | exact pln_lst | exact pln_bl | exact pln_non) ?_
  | refine wc_isiB (by first | assumption | exact pln_tup | exact pln_int | exact pln_str | exact pln_lst | exact pln_bl | exact pln_non) ?_
  | refine wc_isiS (by first | assumption | exact pln_tup | exact pln_int | exact pln_str | exact pln_lst | exact pln_bl | exact pln_non) ?_
  | refine ⟨_, rfl, ?_⟩
  | refine we_fldC (by assumption) rfl ?_
  | refine we_propC ?_
  | refine we_methC (by assumption) (by decide +kernel) ?_
  | refine we_cls ?_
  | refine we_smethC ?_
  | refine wc_isC (by assumption) (.inl (by first | assumption | exact pln_tup | exact pln_int | exact pln_str | exact pln_lst | exact pln_bl | exact pln_non)) ?_
  | refine wc_isC (by assumption) (.inr ⟨_, rfl⟩) ?_
  | refine ⟨_, _, rfl, rfl, ?_⟩)
local macro_rules | `(tactic| walk_at "d") => `(tactic| with_reducible first
  | refine we_lst ?_)
theorem gc_one (t : Int) : gc t 1 = 1 := by unfold gc; simp
/-- Ratio(t) -/
theorem we_rat {W : Wd} {δ : Fr} {Φ : D → Fr → Prop} {te : TE} (hR : CInf W 0 atR) (h : WE W te δ fun x δ1 => ∃ t : Int, x = .int t ∧ -TL < t ∧ t < TL ∧ Φ (dRt t 1) δ1) : WE W (tMakeC W 0 S_Ratio___init__ [.int 1] (tCons te tNil)) δ Φ :=
  we_makeC (ds := [.int 1]) hR (fun _ => .cons (.int 1) .nil) (wa_cons (h.imp fun x δ1 ⟨t, e, h0, h1, p⟩ => wa_nil ⟨t, 1, by rw [e]; rfl, h0, h1, by decide, by decide, by rw [gc_one, Int.ediv_one]; exact p⟩))
theorem abs_if (m : Int) : (if m < 0 then -m else m) = (m.natAbs : Int) := by split <;> omega
theorem mem_at {n : Nat} {ms : List Int} (h : SgT n ms) {m : Int} (hm : m ∈ ms) : ∃ i, i < n ∧ at' ms i = m := by
  obtain ⟨i, hi, e⟩ := List.mem_iff_getElem.mp hm
  rw [h.ln] at hi
  exact ⟨i, hi, by simp [at', List.getD_eq_getElem?_getD, h.ln, hi, e]⟩
theorem rg_mem {n : Nat} {ms : List Int} (h : SgT n ms) {m : Int} (hm : m ∈ ms) : 1 ≤ m.natAbs ∧ m.natAbs ≤ n := by
  obtain ⟨i, hi, e⟩ := mem_at h hm
  rw [← e]; exact h.rg i hi
theorem at_mem {n : Nat} {ms : List Int} (h : SgT n ms) {i : Nat} (hi : i < n) : at' ms i ∈ ms := by
  have : at' ms i = ms[i]'(by rw [h.ln]; exact hi) := by simp [at', List.getD_eq_getElem?_getD, h.ln, hi]
  rw [this]; exact List.getElem_mem _
theorem at_get {n : Nat} {ms : List Int} (h : SgT n ms) {i : Nat} (hi : i < n) : ms[i]? = some (at' ms i) := by
  simp [at', List.getD_eq_getElem?_getD, h.ln, hi]
/-- sorted, the sizes are 1, 2, .. n -/
theorem sorted_abs {n : Nat} {ms ks : List Int} (h : SgT n ms) (hp : ks.Perm (ms.map fun m => if m < 0 then -m else m)) (hs : ks.Pairwise (· ≤ ·)) : ks = (List.range n).map fun (i : Nat) => 1 + (i : Int) := by
  have nd : (ms.map fun m => if m < 0 then -m else m).Nodup := by
    rw [List.Nodup, List.pairwise_iff_getElem]
    intro i j hi hj hij e
    have hi' : i < n := by simpa [h.ln] using hi
    have hj' : j < n := by simpa [h.ln] using hj
    rw [List.getElem_map, List.getElem_map, abs_if, abs_if] at e
    have ei : ms[i]'(by rw [h.ln]; exact hi') = at' ms i := by simp [at', List.getD_eq_getElem?_getD, h.ln, hi']
    have ej : ms[j]'(by rw [h.ln]; exact hj') = at' ms j := by simp [at', List.getD_eq_getElem?_getD, h.ln, hj']
    rw [ei, ej] at e
    have := h.inj i j hi' hj' (by omega)
    omega
  refine asc_extI ((hs.and (hp.nodup_iff.mpr nd)).imp fun ⟨a, b⟩ => by omega) ?_ fun x => ?_
  · rw [List.pairwise_map]
    exact List.pairwise_lt_range.imp fun a => by omega
  · rw [hp.mem_iff, List.mem_map, List.mem_map]
    constructor
    · rintro ⟨m, hm, rfl⟩
      have := rg_mem h hm
      rw [abs_if]
      exact ⟨m.natAbs - 1, List.mem_range.mpr (by omega), by omega⟩
    · rintro ⟨i, hi, rfl⟩
      obtain ⟨k, hk, e⟩ := h.su i (List.mem_range.mp hi)
      exact ⟨at' ms k, at_mem h hk, by rw [abs_if, e]; omega⟩
theorem l__tell_table : ∀ xs Φ, S__tell_table xs Φ → xs.length = 1 := fun _ _ ⟨_, _, e, _⟩ => by rw [e]; rfl
theorem w__tell_table (W : Wd) (xs : List D) (Φ : D → Prop) (s : S__tell_table xs Φ) : WS W (T__tell_table W) (frD 2 xs) (rtO Φ) := by
  obtain ⟨n, ms, rfl, h, q⟩ := s
  show WS W _ [some (.d (dMs ms)), none] _
  unfold T__tell_table
  have h1 := h.lo
  have h2 := h.hi
  have hl := h.ln
  repeat walk_at "d"
  refine iteTr rfl ?_
  repeat walk_at "d"
  rw [List.length_map, hl]
  refine iteTr (decide_eq_true (by omega)) ?_
  repeat walk_at "d"
  refine iteFa (by rw [decide_eq_true (by omega)]; rfl) ?_
  repeat walk_at "d"
  refine we_l (wl_map (f := fun _ => .bl true) mem1 (wi_seqT ?_))
  repeat walk_at "d"
  refine ⟨by simp; omega, fun y hy => wg_name ⟨frsub_set, ?_⟩, ?_⟩
  · obtain ⟨i, _, rfl⟩ := List.mem_map.mp hy
    repeat walk_at "d"
    exact ⟨_, rfl, rfl, rfl, rfl⟩
  · have e : (ms.map D.int).map (fun _ => D.bl true) = (ms.map fun _ => true).map D.bl := by rw [List.map_map, List.map_map]; rfl
    rw [e]
    walk_at "d"
    refine wc_all ?_
    repeat walk_at "d"
    refine iteFa (by simp) ?_
    walk_at "d"
    walk_at "d"
    refine ws_ret (we_op (we_l (wl_sorted ?_)))
    repeat walk_at "d"
    refine we_l (wl_map (f := fun y => match y with | .int m => .int (if m < 0 then -m else m) | _ => .non) mem1 (wi_seqT ?_))
    repeat walk_at "d"
    refine ⟨by simp; omega, fun y hy => wg_name ⟨frsub_set, ?_⟩, ?_⟩
    · obtain ⟨i, _, rfl⟩ := List.mem_map.mp hy
      repeat walk_at "d"
      exact ⟨rfl, rfl⟩
    · have e2 : (ms.map D.int).map (fun y => match y with | .int m => D.int (if m < 0 then -m else m) | _ => .non) = (ms.map fun m => if m < 0 then -m else m).map D.int := by rw [List.map_map, List.map_map]; rfl
      rw [e2]
      repeat walk_at "d"
      refine fun ks hp hs => ?_
      have ek := sorted_abs h hp hs
      subst ek
      refine we_l (wl_listRg2 ?_)
      repeat walk_at "d"
      refine ⟨by rw [List.length_map]; omega, ?_⟩
      rw [rng_ints, List.length_map, hl, show ((n : Int) + 1 - 1).toNat = n by omega]
      refine wr_eqD (n := 2) (m := 2) (sh_lstI _) (sh_lstI _) (by decide) (by decide) ?_
      rw [deq_lstI, decide_eq_true rfl]
      exact q
theorem rep_flat {α : Type} (n : Nat) (x : α) : (List.replicate n [x]).flatten = List.replicate n x := by
  induction n with
  | zero => rfl
  | succ n ih => rw [List.replicate_succ, List.flatten_cons, ih]; rfl
theorem row_set {β : Type} (f : Int → β) {n : Nat} {m : Int} (h0 : 1 ≤ m.natAbs) (h1 : m.natAbs ≤ n) : (List.replicate n (f 0)).set (m.natAbs - 1) (f m.sign) = (row n m).map f := by
  apply List.ext_getElem
  · simp [row]
  · intro i g1 g2
    have hi : i < n := by simpa using g1
    simp only [List.getElem_set, List.getElem_replicate, row, List.getElem_map, List.getElem_range]
    by_cases c : m.natAbs - 1 = i
    · rw [if_pos c, if_pos (by omega)]
    · rw [if_neg c, if_neg (by omega)]
theorem sign_TL (m : Int) : -TL < m.sign ∧ m.sign < TL := by
  have : -1 ≤ m.sign ∧ m.sign ≤ 1 := by
    rcases Int.lt_trichotomy m 0 with c | c | c
    · rw [Int.sign_eq_neg_one_of_neg c]; decide
    · subst c; decide
    · rw [Int.sign_eq_one_of_pos c]; decide
  constructor
  · exact Int.lt_of_lt_of_le (show -TL < -1 by decide) this.1
  · exact Int.lt_of_le_of_lt this.2 (show (1 : Int) < TL by decide)
theorem ixN_nat {n j : Nat} {k : Int} (h : k = (j : Int)) (hj : j < n) : ixN n k = some j := by
  subst h
  unfold ixN
  rw [if_pos (by omega), if_pos (by omega)]
  simp
theorem l__row_of : ∀ xs Φ, S__row_of xs Φ → xs.length = 2 := fun _ _ ⟨_, _, e, _⟩ => by rw [e]; rfl
theorem w__row_of (W : Wd) (hR : CInf W 0 atR) (hS : CInf W 1 atS) (xs : List D) (Φ : D → Prop) (s : S__row_of xs Φ) : WS W (T__row_of W) (frD 3 xs) (rtO Φ) := by
  obtain ⟨m, n, rfl, h0, h1, h2, q⟩ := s
  show WS W _ [some (.d (.int m)), some (.d (.int (n : Nat))), none] _
  unfold T__row_of
  refine ws_seq ?_
  refine ws_setO (wl_rep ?_)
  repeat walk_at "d"
  refine we_rat hR ?_
  repeat walk_at "d"
  refine ⟨by decide, by decide, ?_⟩
  repeat walk_at "d"
  refine ⟨by simp, ?_⟩
  repeat walk_at "d"
  refine ⟨by omega, by omega, by simp; omega, fun p => ?_⟩
  rw [Int.toNat_natCast, rep_flat]
  repeat walk_at "d"
  refine ws_setL (p0 := p) (l0 := []) ?_
  refine we_rat hR ?_
  repeat walk_at "d"
  refine ⟨_, rfl, ?_⟩
  refine ⟨_, rfl, (sign_TL m).1, (sign_TL m).2, ?_⟩
  refine ⟨_, rfl, ?_⟩
  repeat walk_at "d"
  rw [abs_if]
  refine ⟨_, _, _, rfl, rfl, ixN_nat (j := m.natAbs - 1) (by omega) (by simp; omega), ?_⟩
  walk_at "d"
  refine ws_ret (we_tupleO rfl ?_)
  repeat walk_at "d"
  rw [row_set (fun e => dRt e 1) h0 h1]
  exact q
theorem l_SignTable___init__ : ∀ xs Φ, S_SignTable___init__ xs Φ → xs.length = 1 := fun _ _ ⟨_, _, e, _⟩ => by rw [e]; rfl
theorem w_SignTable___init__ (W : Wd) (hR : CInf W 0 atR) (hS : CInf W 1 atS) (p : Addr) (xs : List D) (Φ : List D → Prop) (s : S_SignTable___init__ xs Φ) : WS W (T_SignTable___init__ W) (frI 2 p 1 xs) (rtI p 1 1 Φ) := by
  obtain ⟨n, ms, rfl, h, q⟩ := s
  show WS W _ [some (.oi p 1 [] false), some (.d (dMs ms))] _
  unfold T_SignTable___init__
  repeat walk_at "d"
  refine ⟨n, ms, rfl, h, ?_⟩
  refine ⟨_, rfl, ?_⟩
  refine iteFa rfl ?_
  repeat walk_at "d"
  refine ws_fldN (fz := false) hS ?_
  repeat walk_at "d"
  exact ⟨_, rfl, rfl, q⟩
/-- SignTable(e) -/
theorem we_sgn {W : Wd} {δ : Fr} {Φ : D → Fr → Prop} {te : TE} (hS : CInf W 1 atS) (h : WE W te δ fun x δ1 => ∃ n ms, x = dMs ms ∧ SgT n ms ∧ Φ (dSg ms) δ1) : WE W (tMakeC W 1 S_SignTable___init__ [] (tCons te tNil)) δ Φ :=
  we_makeC (ds := []) hS (fun _ => .nil) (wa_cons (h.imp fun x δ1 ⟨n, ms, e, h, p⟩ => wa_nil ⟨n, ms, by rw [e]; rfl, h, p⟩))
theorem rng_idl (n : Nat) : rng 1 n = (idl n).map D.int := by
  rw [rng_ints]
  unfold idl
  rw [List.map_map, List.map_map]
  refine List.map_congr_left fun i _ => ?_
  show D.int (1 + (i : Int)) = D.int ((i : Int) + 1)
  rw [Int.add_comm]
theorem l_SignTable_idle : ∀ xs Φ, S_SignTable_idle xs Φ → xs.length = 1 := fun _ _ ⟨_, e, _⟩ => by rw [e]; rfl
theorem w_SignTable_idle (W : Wd) (hR : CInf W 0 atR) (hS : CInf W 1 atS) (xs : List D) (Φ : D → Prop) (s : S_SignTable_idle xs Φ) : WS W (T_SignTable_idle W) (frD 1 xs) (rtO Φ) := by
  obtain ⟨n, rfl, h1, h2, q⟩ := s
  show WS W _ [some (.d (.int (n : Nat)))] _
  unfold T_SignTable_idle
  repeat walk_at "d"
  refine ⟨_, 1, 64, rfl, by omega, by omega, ?_⟩
  repeat walk_at "d"
  refine we_sgn hS ?_
  refine we_tupRg2 ?_
  repeat walk_at "d"
  refine ⟨by omega, ?_⟩
  rw [show ((n : Int) + 1 - 1).toNat = n by omega, rng_idl]
  exact ⟨n, idl n, rfl, SgT.idl h1 h2, q⟩
theorem l_SignTable_size : ∀ xs Φ, S_SignTable_size xs Φ → xs.length = 1 := fun _ _ ⟨_, e, _⟩ => by rw [e]; rfl
theorem w_SignTable_size (W : Wd) (hR : CInf W 0 atR) (hS : CInf W 1 atS) (xs : List D) (Φ : D → Prop) (s : S_SignTable_size xs Φ) : WS W (T_SignTable_size W) (frD 1 xs) (rtO Φ) := by
  obtain ⟨ms, rfl, q⟩ := s
  show WS W _ [some (.d (dSg ms))] _
  unfold T_SignTable_size
  repeat walk_at "d"
  rw [List.length_map]
  exact q
theorem l_SignTable_marks : ∀ xs Φ, S_SignTable_marks xs Φ → xs.length = 1 := fun _ _ ⟨_, e, _⟩ => by rw [e]; rfl
theorem w_SignTable_marks (W : Wd) (hR : CInf W 0 atR) (hS : CInf W 1 atS) (xs : List D) (Φ : D → Prop) (s : S_SignTable_marks xs Φ) : WS W (T_SignTable_marks W) (frD 1 xs) (rtO Φ) := by
  obtain ⟨ms, rfl, q⟩ := s
  show WS W _ [some (.d (dSg ms))] _
  unfold T_SignTable_marks
  repeat walk_at "d"
  exact q
theorem l_SignTable_is_idle : ∀ xs Φ, S_SignTable_is_idle xs Φ → xs.length = 1 := fun _ _ ⟨_, _, e, _⟩ => by rw [e]; rfl
theorem w_SignTable_is_idle (W : Wd) (hR : CInf W 0 atR) (hS : CInf W 1 atS) (xs : List D) (Φ : D → Prop) (s : S_SignTable_is_idle xs Φ) : WS W (T_SignTable_is_idle W) (frD 1 xs) (rtO Φ) := by
  obtain ⟨n, ms, rfl, h, q⟩ := s
  show WS W _ [some (.d (dSg ms))] _
  unfold T_SignTable_is_idle
  have h1 := h.lo
  have h2 := h.hi
  repeat walk_at "d"
  refine we_tupRg2 ?_
  repeat walk_at "d"
  refine ⟨by rw [List.length_map, h.ln]; omega, ?_⟩
  rw [List.length_map, h.ln, show ((n : Int) + 1 - 1).toNat = n by omega, rng_idl]
  refine wr_eqD (n := 2) (m := 2) (sh_tupI _) (sh_tupI _) (by decide) (by decide) ?_
  rw [deq_tupI]
  exact q
end Q

namespace Q
open PySem L2 Dt
local macro_rules | `(tactic| walk_at "d") => `(tactic| with_reducible first
  | refine ws_seq ?_
  | refine so_nx ?_
  | refine so_rt ?_
  | refine so_bk ?_
  | refine so_ct ?_
  | refine ro_rt ?_
  | refine ro_nx ?_
  | refine rj_rt rfl ?_
  | refine rj_nx rfl ?_
  | refine lo_nx ?_
  | refine lo_ct ?_
  | refine lo_bk ?_
  | refine lo_rt ?_
  | refine ws_if ?_
  | refine ws_ret ?_
  | refine ws_next ?_
  | refine ws_retN ?_
  | refine ws_set ?_
  | refine ws_drop ?_
  | refine ws_par ?_
  | refine we_var rfl ?_
  | refine we_int ?_
  | refine we_bl ?_
  | refine we_str ?_
  | refine we_non ?_
  | refine we_ty ?_
  | refine we_op ?_
  | refine we_un ?_
  | refine we_tup ?_
  | refine we_chain ?_
  | refine we_cb ?_
  | refine wa_nil ?_
  | refine wa_cons ?_
  | refine we_call ?_
  | refine we_andV ?_
  | refine we_orV ?_
  | refine we_notV ?_
  | refine we_if ?_
  | refine we_isN ?_
  | refine we_notN ?_
  | refine we_bits ?_
  | refine wt_B ?_
  | refine wt_test ?_
  | refine wt_tru ?_
  | refine wt_and ?_
  | refine wt_or ?_
  | refine wt_not ?_
  | refine wt_yes ?_
  | refine wr_I0i ?_
  | refine wr_I0b ?_
  | refine wr_addI ?_
  | refine wu_i ?_
  | refine wc_intI ?_
  | refine wc_intB ?_
  | refine wc_abs ?_
  | refine wc_max2 ?_
  | refine wc_min2 ?_
  | refine wc_lenL ?_
  | refine wc_lenT ?_
  | refine wc_lenScr ?_
  | refine wc_tupleL ?_
  | refine wc_isiT (by first | assumption | exact pln_tup | exact pln_int | exact pln_str | exact pln_lst | exact pln_bl | exact pln_non) ?_
  | refine wc_isiI (by first | assumption | exact pln_tup | exact pln_int | exact pln_str | exact pln_lst | exact pln_bl | exact pln_non) ?_
  | refine wc_isiB (by first | assumption | exact pln_tup | exact pln_int | exact pln_str | exact pln_lst | exact pln_bl | exact pln_non) ?_
  | refine wc_isiS (by first | assumption | exact pln_tup | exact pln_int | exact pln_str | exact pln_lst | exact pln_bl | exact pln_non) ?_
  | refine ⟨_, rfl, ?_⟩
  | refine we_fldC (by assumption) rfl ?_
  | refine we_propC ?_
  | refine we_methC (by assumption) (by decide +kernel) ?_
  | refine we_cls ?_
  | refine we_smethC ?_
  | refine wc_isC (by assumption) (.inl (by first | assumption | exact pln_tup | exact pln_int | exact pln_str | exact pln_lst | exact pln_bl | exact pln_non)) ?_
  | refine wc_isC (by assumption) (.inr ⟨_, rfl⟩) ?_
  | refine ⟨_, _, rfl, rfl, ?_⟩)
local macro_rules | `(tactic| walk_at "d") => `(tactic| with_reducible first
  | refine we_lst ?_)
theorem l_SignTable_trace : ∀ xs Φ, S_SignTable_trace xs Φ → xs.length = 1 := fun _ _ ⟨_, _, e, _⟩ => by rw [e]; rfl
theorem take_map_succ {β : Type} (f : Nat → β) (n i : Nat) (h : i < n) : (((List.range n).map f).take (i + 1)) = (((List.range n).map f).take i) ++ [f i] := by
  rw [List.take_add_one, List.getElem?_map, List.getElem?_range h]
  rfl
theorem w_SignTable_trace (W : Wd) (hR : CInf W 0 atR) (hS : CInf W 1 atS) (xs : List D) (Φ : D → Prop) (s : S_SignTable_trace xs Φ) : WS W (T_SignTable_trace W) (frD 3 xs) (rtO Φ) := by
  obtain ⟨n, ms, rfl, h, q⟩ := s
  show WS W _ [some (.d (dSg ms)), none, none] _
  unfold T_SignTable_trace
  have h1 := h.lo
  have h2 := h.hi
  have hl := h.ln
  have de : dia ms = (List.range n).map fun i => if i + 1 = (at' ms i).natAbs then (at' ms i).sign else 0 := by unfold dia; rw [hl]
  repeat walk_at "d"
  refine we_l (wl_inv mem2 (wi_enumT ?_))
  repeat walk_at "d"
  refine ⟨by rw [enD_len]; simp; omega, fun i acc => ∃ ns : List Int, acc = ns.map D.int ∧ ns.sum = ((dia ms).take i).sum, ⟨[], rfl, rfl⟩, ?_, ?_⟩
  · rintro i x acc hx ⟨ns, rfl, hs⟩ _
    obtain ⟨y, hy, rfl⟩ := enD_get _ 0 i x hx
    have hi : i < n := by
      have := (List.getElem?_eq_some_iff.mp hy).1
      simpa [hl] using this
    rw [List.getElem?_map, at_get h hi] at hy
    cases hy
    refine wg_2 rfl ⟨frsub_set2, ?_⟩
    repeat walk_at "d"
    rw [abs_if]
    refine wr_eqD (n := 1) (m := 1) rfl rfl (by decide) (by decide) ?_
    rw [deq_int, Nat.zero_add]
    have st : ((dia ms).take (i + 1)).sum = ((dia ms).take i).sum + (if i + 1 = (at' ms i).natAbs then (at' ms i).sign else 0) := by
      rw [de, take_map_succ _ n i hi, List.sum_append]
      simp
    refine ⟨_, rfl, rfl, ?_⟩
    refine iteB (fun c => ?_) fun c => ?_
    · repeat walk_at "d"
      refine ⟨_, rfl, ?_⟩
      refine ⟨rfl, ns ++ [(at' ms i).sign], by rw [List.map_append]; rfl, ?_⟩
      rw [st, if_pos (by omega), List.sum_append, hs]
      simp
    · refine ⟨ns, rfl, ?_⟩
      rw [st, if_neg (by omega), hs, Int.add_zero]
  · rintro acc ⟨ns, rfl, hs⟩ _
    repeat walk_at "d"
    refine wc_sum ?_
    repeat walk_at "d"
    rw [enD_len, List.length_map, hl, List.take_of_length_le (by rw [de]; simp)] at hs
    rw [hs]
    exact q
theorem l_SignTable_turned : ∀ xs Φ, S_SignTable_turned xs Φ → xs.length = 1 := fun _ _ ⟨_, _, e, _⟩ => by rw [e]; rfl
theorem w_SignTable_turned (W : Wd) (hR : CInf W 0 atR) (hS : CInf W 1 atS) (xs : List D) (Φ : D → Prop) (s : S_SignTable_turned xs Φ) : WS W (T_SignTable_turned W) (frD 4 xs) (rtO Φ) := by
  obtain ⟨n, ms, rfl, h, q⟩ := s
  show WS W _ [some (.d (dSg ms)), none, none, none] _
  unfold T_SignTable_turned
  have h1 := h.lo
  have h2 := h.hi
  have hl := h.ln
  refine ws_seq ?_
  refine ws_setO (wl_rep ?_)
  repeat walk_at "d"
  refine ⟨by simp, ?_⟩
  repeat walk_at "d"
  rw [List.length_map, hl]
  refine ⟨by omega, by omega, by simp; omega, fun p => ?_⟩
  rw [Int.toNat_natCast, rep_flat]
  repeat walk_at "d"
  refine ws_for2 (wi_enumT ?_)
  repeat walk_at "d"
  refine ⟨fun i δ => ∃ (ts : List Int) (e1 e2 : Option En), δ = [some (.d (dSg ms)), some (.own p (ts.map D.int)), e1, e2] ∧ ts.length = n ∧ ∀ k, k < i → k < n → at' ts (ix ms k) = ((k : Int) + 1) * (at' ms k).sign, ⟨List.replicate n 0, none, none, by rw [List.map_replicate]; rfl, by simp, fun k hk => absurd hk (Nat.not_lt_zero k)⟩, ?_, ?_⟩
  · rintro i x δ2 hx ⟨ts, e1, e2, rfl, ht, hk⟩
    obtain ⟨y, hy, rfl⟩ := enD_get _ 0 i x hx
    have hi : i < n := by
      have := (List.getElem?_eq_some_iff.mp hy).1
      simpa [hl] using this
    rw [List.getElem?_map, at_get h hi] at hy
    cases hy
    obtain ⟨a1, a2, a3⟩ := h.ixl hi
    refine ⟨_, _, rfl, ?_⟩
    refine ws_setL (p0 := p) (l0 := []) ?_
    repeat walk_at "d"
    refine ⟨_, rfl, ?_⟩
    refine wr_mulI (.inl (by omega)) ?_
    refine ⟨_, rfl, ?_⟩
    repeat walk_at "d"
    rw [abs_if]
    refine ⟨_, _, _, rfl, rfl, ixN_nat (j := ix ms i) (by omega) (by simp; omega), ?_⟩
    refine lo_nx ⟨ts.set (ix ms i) (((i : Int) + 1) * (at' ms i).sign), _, _, by rw [List.map_set, Nat.zero_add]; rfl, by simp [ht], fun k hk' hkn => ?_⟩
    by_cases c : k = i
    · subst c
      simp [at', List.getD_eq_getElem?_getD, ht, a1]
    · have hne : ix ms i ≠ ix ms k := fun z => by
        have := (h.ixl hkn).2.2
        exact c (h.inj k i hkn hi (by omega))
      have := hk k (by omega) hkn
      simpa [at', List.getD_eq_getElem?_getD, List.getElem?_set_ne hne] using this
  · rintro δ2 ⟨ts, e1, e2, rfl, ht, hk⟩
    rw [enD_len, List.length_map, hl] at hk
    have tr : Trn n ms ts := ⟨ht, fun k hkn => hk k hkn hkn⟩
    walk_at "d"
    refine ws_ret (we_sgn hS (we_tupleO rfl ?_))
    exact ⟨n, ts, rfl, Trn.sg h tr, q ts tr⟩
theorem l_SignTable_table : ∀ xs Φ, S_SignTable_table xs Φ → xs.length = 1 := fun _ _ ⟨_, _, e, _⟩ => by rw [e]; rfl
theorem w_SignTable_table (W : Wd) (hR : CInf W 0 atR) (hS : CInf W 1 atS) (xs : List D) (Φ : D → Prop) (s : S_SignTable_table xs Φ) : WS W (T_SignTable_table W) (frD 3 xs) (rtO Φ) := by
  obtain ⟨n, ms, rfl, h, h32, q⟩ := s
  show WS W _ [some (.d (dSg ms)), none, none] _
  unfold T_SignTable_table
  have h1 := h.lo
  have hl := h.ln
  repeat walk_at "d"
  rw [List.length_map, hl]
  refine iteFa (decide_eq_false (by omega)) ?_
  repeat walk_at "d"
  refine we_l (wl_map (f := fun y => match y with | .int m => .tup ((row n m).map fun e => dRt e 1) | _ => .non) mem1 (wi_seqT ?_))
  repeat walk_at "d"
  refine ⟨by simp; omega, fun y hy => wg_name ⟨frsub_set, ?_⟩, ?_⟩
  · obtain ⟨m, hm, rfl⟩ := List.mem_map.mp hy
    have := rg_mem h hm
    repeat walk_at "d"
    exact ⟨m, n, rfl, this.1, this.2, h32, rfl, rfl⟩
  · repeat walk_at "d"
    rw [List.map_map]
    have e : dTab (dns ms) = .tup (ms.map ((fun y => match y with | .int m => D.tup ((row n m).map fun e => dRt e 1) | _ => .non) ∘ D.int)) := by
      unfold dTab dns
      rw [List.map_map, hl]
      rfl
    rw [e] at q
    exact q
theorem l_SignTable___mul__ : ∀ xs Φ, S_SignTable___mul__ xs Φ → xs.length = 2 := fun _ _ ⟨_, _, _, e, _⟩ => by rw [e]; rfl
theorem w_SignTable___mul__ (W : Wd) (hR : CInf W 0 atR) (hS : CInf W 1 atS) (xs : List D) (Φ : D → Prop) (s : S_SignTable___mul__ xs Φ) : WS W (T_SignTable___mul__ W) (frD 3 xs) (rtO Φ) := by
  obtain ⟨n, x, y, rfl, hx, hy, q⟩ := s
  show WS W _ [some (.d (dSg x)), some (.d (dSg y)), none] _
  unfold T_SignTable___mul__
  have h1 := hx.lo
  have h2 := hx.hi
  repeat walk_at "d"
  refine iteFa (by simp [D.isC]) ?_
  repeat walk_at "d"
  refine wr_neD (n := 1) (m := 1) rfl rfl (by decide) (by decide) ?_
  refine ⟨_, rfl, ?_⟩
  rw [deq_int, List.length_map, List.length_map, hx.ln, hy.ln, decide_eq_true rfl]
  refine iteFa rfl ?_
  walk_at "d"
  walk_at "d"
  refine ws_ret (we_sgn hS ?_)
  repeat walk_at "d"
  refine we_l (wl_map (f := fun z => match z with | .int m => .int (at' y (m.natAbs - 1) * m.sign) | _ => .non) mem1 (wi_seqT ?_))
  repeat walk_at "d"
  refine ⟨by simp; have := hx.ln; omega, fun z hz => wg_name ⟨frsub_set, ?_⟩, ?_⟩
  · obtain ⟨m, hm, rfl⟩ := List.mem_map.mp hz
    have rg := rg_mem hx hm
    repeat walk_at "d"
    rw [abs_if]
    refine wr_ixST (z := .int (at' y (m.natAbs - 1))) ?_ ?_
    · rw [show (m.natAbs : Int) - 1 = ((m.natAbs - 1 : Nat) : Int) by omega, atI_n (by simp; have := hy.ln; omega), List.getElem?_map, at_get hy (by omega)]
      rfl
    · repeat walk_at "d"
      refine ⟨_, rfl, ?_⟩
      refine wr_mulI (.inr ⟨Int.lt_of_lt_of_le (by decide) (show (-1 : Int) ≤ m.sign from ?_), Int.lt_of_le_of_lt (show m.sign ≤ 1 from ?_) (by decide)⟩) ⟨rfl, rfl⟩
      · rcases Int.lt_trichotomy m 0 with c | c | c
        · rw [Int.sign_eq_neg_one_of_neg c]; decide
        · subst c; decide
        · rw [Int.sign_eq_one_of_pos c]; decide
      · rcases Int.lt_trichotomy m 0 with c | c | c
        · rw [Int.sign_eq_neg_one_of_neg c]; decide
        · subst c; decide
        · rw [Int.sign_eq_one_of_pos c]; decide
  · repeat walk_at "d"
    refine ⟨n, mul x y, ?_, hx.mul hy, q⟩
    unfold mul
    rw [List.map_map]
    show _ = D.tup _
    rw [List.map_map]
    rfl
theorem l_SignTable___neg__ : ∀ xs Φ, S_SignTable___neg__ xs Φ → xs.length = 1 := fun _ _ ⟨_, _, e, _⟩ => by rw [e]; rfl
theorem w_SignTable___neg__ (W : Wd) (hR : CInf W 0 atR) (hS : CInf W 1 atS) (xs : List D) (Φ : D → Prop) (s : S_SignTable___neg__ xs Φ) : WS W (T_SignTable___neg__ W) (frD 2 xs) (rtO Φ) := by
  obtain ⟨n, x, rfl, hx, q⟩ := s
  show WS W _ [some (.d (dSg x)), none] _
  unfold T_SignTable___neg__
  have h1 := hx.lo
  have h2 := hx.hi
  refine ws_ret (we_sgn hS ?_)
  repeat walk_at "d"
  refine we_l (wl_map (f := fun z => match z with | .int m => .int (-m) | _ => .non) mem1 (wi_seqT ?_))
  repeat walk_at "d"
  refine ⟨by simp; have := hx.ln; omega, fun z hz => wg_name ⟨frsub_set, ?_⟩, ?_⟩
  · obtain ⟨m, hm, rfl⟩ := List.mem_map.mp hz
    repeat walk_at "d"
    exact ⟨rfl, rfl⟩
  · repeat walk_at "d"
    refine ⟨n, ngt x, ?_, hx.ngt, q⟩
    unfold ngt
    rw [List.map_map]
    show _ = D.tup _
    rw [List.map_map]
    rfl
theorem l_SignTable___eq__ : ∀ xs Φ, S_SignTable___eq__ xs Φ → xs.length = 2 := fun _ _ h => by
  rcases h with ⟨_, _, e, _⟩ | ⟨_, _, e, _⟩ <;> (rw [e]; rfl)
theorem w_SignTable___eq__ (W : Wd) (hR : CInf W 0 atR) (hS : CInf W 1 atS) (xs : List D) (Φ : D → Prop) (s : S_SignTable___eq__ xs Φ) : WS W (T_SignTable___eq__ W) (frD 2 xs) (rtO Φ) := by
  rcases s with ⟨x, y, rfl, q⟩ | ⟨x, y, rfl, hp, q⟩
  · show WS W _ [some (.d (dSg x)), some (.d (dSg y))] _
    unfold T_SignTable___eq__
    repeat walk_at "d"
    refine iteTr (by simp [D.isC]) ?_
    repeat walk_at "d"
    refine wr_eqD (n := 2) (m := 2) (sh_tupI _) (sh_tupI _) (by decide) (by decide) ?_
    rw [deq_tupI]
    exact q
  · show WS W _ [some (.d (dSg x)), some (.d y)] _
    unfold T_SignTable___eq__
    repeat walk_at "d"
    refine iteFa (by cases y <;> first | rfl | (simp [D.pln] at hp)) ?_
    exact q
end Q

/-! Lz: zip of a tuple and a list. -/
namespace LO
open PySem PySem.Spec PyProof.Rows L2
/-- five records, each somewhere -/
theorem five {α : Type} {P : α → Prop} {a b c d e : α} (ha : P a) (hb : P b) (hc : P c) (hd : P d) (he : P e) : ∀ x ∈ [a, b, c, d, e], P x := fun x hx => by
  simp only [List.mem_cons, List.not_mem_nil, or_false] at hx
  rcases hx with rfl | rfl | rfl | rfl | rfl <;> assumption
def ItzM (K : PySem.W.Frag) (a b : Addr) : It where
  go i H := ∃ us ws u w, SqT K H a us ∧ SqL K H b ws ∧ us[i]? = some u ∧ ws[i]? = some w
  yld i H v H' := ∃ T u w, v = .ref T ∧ H T = none ∧ H' = upd H T (.tup [u, w]) ∧ (∀ us, SqT K H a us → us[i]? = some u) ∧ ∀ ws, SqL K H b ws → ws[i]? = some w
  stop i H := ∃ us ws, SqT K H a us ∧ SqL K H b ws ∧ min us.length ws.length = i
abbrev stM (z ti to j1 j2 a b : Addr) (i : Nat) (h : Heap) : Prop :=
  (∃ u w, IsTupOf2 h to u w) ∧ IsZip h z ti to .none ∧ IsTupOf2 h ti (.ref j1) (.ref j2) ∧ h.IsTupleIter j1 a i ∧ h.IsListIter j2 b i
theorem sep_of {z ti to j1 j2 a b : Addr} (D : ZipApart z ti to j1 j2 a b) : ZipSep2 z ti to j1 j2 [j1, a] [j2, b] := by
  obtain ⟨d1, d2, d3, d4, d5, d6, d7, d8, d9, d10, e1, e2, e3, e4, f1, f2, f3, f4⟩ := D
  constructor <;> first | assumption | simp [d3, d4, d8, d9, d10, e1, e2, f1, f2, d3.symm, d4.symm, e1.symm, e2.symm, f1.symm, f2.symm, f3.symm, e4.symm, d10.symm]
theorem turn_M {P : Program} {w : World} {K : PySem.W.Frag} {es : List Expr} {n : Nat} {q : Pos} {a b z ti to j1 j2 : Addr} (D : ZipApart z ti to j1 j2 a b) :
    Turn P w K (.Tuple es n q) (ItzM K a b) [z, ti, to, j1, j2] z (stM z ti to j1 j2 a b) where
  mem := List.mem_cons_self ..
  obj := fun i h ⟨⟨_, _, ho⟩, hz, ht, ⟨_, g1, _, k1⟩, ⟨_, g2, _, k2⟩⟩ =>
    five (P := fun b => ∃ o, h.get? b = some o ∧ ∀ v, o.data ≠ .cell v) ⟨_, hz, fun _ x => nomatch x⟩ ⟨_, ht, fun _ x => nomatch x⟩ ⟨_, ho, fun _ x => nomatch x⟩
      ⟨_, g1, fun _ x => nomatch k1.symm.trans x⟩ ⟨_, g2, fun _ x => nomatch k2.symm.trans x⟩
  keep := fun i h h' ⟨⟨u, v, ho⟩, hz, ht, g1, g2⟩ k =>
    ⟨⟨u, v, k _ (by simp) _ ho⟩, k _ (by simp) _ hz, k _ (by simp) _ ht, g1.at fun o => k _ (by simp) o, g2.at fun o => k _ (by simp) o⟩
  item := fun X hP hw hK hc i pins s σ H E I hf ⟨⟨_, _, ho⟩, hz, ht, g1, g2⟩ ⟨us, ws, u, v, ha, hb, hu, hv⟩ => by
    subst hP hw hK
    obtain ⟨is1, r1, p1, _⟩ := I.tuple ha
    obtain ⟨is2, r2, p2, _⟩ := I.list hb
    obtain ⟨y1, m1, n1⟩ := r1.get hu
    obtain ⟨y2, m2, n2⟩ := r2.get hv
    have hh : (X.A.in1).handled = none := I.ok.hd hc
    have L1 : i < is1.length := (List.getElem?_eq_some_iff.mp m1).1
    have L2 : i < is2.length := (List.getElem?_eq_some_iff.mp m2).1
    refine wpAny_pyNext_zipD2_item (A := X.A) (sep_of D) (Draws.tuple hh j1 a D.l1i1 is1.toArray) (Draws.list hh j2 b D.l2i2 is2.toArray) hz ht ho ⟨g1, p1⟩ ⟨g2, p2.isList⟩ (by simpa using L1) (by simpa using L2) fun x1 x2 h1 tk e1 e2 z1 o1 s1 s2 T1 sz k => ?_
    refine ⟨_, rfl, wpAny_letOwnedTupleGo_zip (s := { s with heap := h1, toks := tk }) z1 fun h2 z2 sb => ?_⟩
    have ez : s.heap.objs.size ≠ z := Nat.ne_of_gt (Heap.lt_size hz)
    have c1 : x1 = y1 := Option.some.inj (e1.symm.trans (by simpa using m1))
    have c2 : x2 = y2 := Option.some.inj (e2.symm.trans (by simpa using m2))
    subst c1 c2
    have T2 : IsTupOf2 h2 s.heap.objs.size x1 x2 := (sb.2 _ ez).trans T1
    have nw : ObjOk X.prog X.w (upd H s.heap.objs.size (.tup [u, v])) h2 s.heap.objs.size (.tup [u, v]) :=
      ⟨show 2 ≤ sizeLine by decide, [x1, x2], .cons n1 (.cons n2 .nil), ⟨_, T2, rfl, _, rfl⟩⟩
    refine ⟨.ref s.heap.objs.size, _, I.turnedNew (t' := tk) (ch := [z, ti, to, j1, j2]) (fun c o hx e => ?_) hf (Nat.le_refl _) nw, rfl,
      ⟨_, u, v, rfl, I.hok.fresh (Nat.le_refl _), rfl, fun l hl => I.tuple_inj hl ha ▸ hu, fun l hl => I.list_inj hl hb ▸ hv⟩,
      ⟨⟨x1, x2, (sb.2 _ D.TOz).trans o1⟩, z2, (sb.2 _ D.TIz).trans (k _ _ D.TIz D.TITO D.TIi1 D.TIi2 ht), s1.1.at fun o e => (sb.2 _ D.i1z).trans e, s2.1.at fun o e => (sb.2 _ D.i2z).trans e⟩, fun c hx => ?_⟩
    · simp only [List.mem_cons, List.not_mem_nil, or_false, not_or] at hx
      exact (sb.2 c hx.1).trans (k c o hx.1 hx.2.2.1 hx.2.2.2.1 hx.2.2.2.2 e)
    · have lt : c < s.heap.objs.size := by
        obtain ⟨_, g1, _⟩ := g1
        obtain ⟨_, g2, _⟩ := g2
        exact five (P := fun c => c < s.heap.objs.size) (Heap.lt_size hz) (Heap.lt_size ht) (Heap.lt_size ho) (Heap.lt_size g1) (Heap.lt_size g2) c hx
      exact (upd_ne (Nat.ne_of_lt lt)).trans (hf c hx).1
  done := fun X hP hw hK hc i pins s σ H E I hf ⟨⟨_, _, ho⟩, hz, ht, g1, g2⟩ ⟨us, ws, ha, hb, hl⟩ => by
    subst hP hw hK
    obtain ⟨is1, r1, p1, _⟩ := I.tuple ha
    obtain ⟨is2, r2, p2, _⟩ := I.list hb
    have hh : (X.A.in1).handled = none := I.ok.hd hc
    have q1 := r1.length
    have q2 := r2.length
    refine wpAny_pyNext_zipD2_end (A := X.A) (sep_of D) (Draws.tuple hh j1 a D.l1i1 is1.toArray) (Draws.list hh j2 b D.l2i2 is2.toArray) hz ht ho ⟨g1, p1⟩ ⟨g2, p2.isList⟩ (by simp; omega) (by simp; omega) (by simp; omega) fun h1 tk k => ⟨rfl, ?_⟩
    refine I.turnedL (t' := tk) (ch := [z, ti, to, j1, j2]) (fun c o hx e => ?_) hf
    simp only [List.mem_cons, List.not_mem_nil, or_false, not_or] at hx
    exact k c o hx.1 hx.2.2.1 hx.2.2.2.1 hx.2.2.2.2 e
  self := fun A i s Q E st h => wpAny_pyIter_zip st.2.1 h
/-- zip(tuple, list) -/
def iZipM (K : PySem.W.Frag) (ta : TA) : TI := fun σ H R => ta σ H fun vs H1 => ∃ a b us ws, vs = [.ref a, .ref b] ∧ SqT K H1 a us ∧ SqL K H1 b ws ∧ R (ItzM K a b) H1
theorem pi_zipM {X : Cx} {e e2 : Expr} {ta : TA} {p pos q : Pos} {es : List Expr} {n : Nat} (hg : Gl X "zip") (hm : X.mg "zip" = none) (ha : PA X [e, e2] ta)
    (hs : starEach [e, e2] X.env = (false, eval e X.env) :: starEach [e2] X.env := by rfl) (hp : (backTo pos (starEach [e2] X.env)).any (·.1) = false := by rfl) :
    PI X (.Tuple es n q) (.Call (.Name "zip" p) [e, e2] [] pos) (iZipM X.K ta) where
  run pins s σ H R I h := by
    refine Call_ (ld_blt I hg hm boot_zip (callWith_type1 (thn (ha.run pos pins s σ H _ I h) fun us s1 ⟨vs, H1, I1, r1, a, b, us, ws, ev, qa, qb, k⟩ => ?_) hs hp))
    subst ev
    cases r1 with
    | cons t rr =>
      cases rr with
      | cons t' rr =>
        cases rr
        cases t
        cases t'
        obtain ⟨is1, _, p1, _⟩ := I1.tuple qa
        obtain ⟨is2, _, p2, _⟩ := I1.list qb
        have b1 := begins_tuple a is1.toArray
        have b2 := begins_list b is2.toArray
        have la : a < s1.heap.objs.size := by obtain ⟨_, g, _⟩ := id p1; exact Heap.lt_size g
        have lb : b < s1.heap.objs.size := p2.lt
        refine zip_begins2 b1 b2 p1 p2.isList fun h1 hz ht ho g1 g2 sz k1 => wpAny_pyIter_zip hz ?_
        have I2 : Inv X pins σ H1 { s1 with heap := h1 } := I1.kept (t' := s1.toks) k1
        have fr : ∀ c, s1.heap.objs.size ≤ c → FpOk X pins H1 c := fun c hc => I1.fpOk hc (I1.hok.fresh hc)
        exact ⟨_, [_, _, _, _, _], _, _, H1, rfl, I2, turn_M (PySem.W.ktu_apart _ a b la lb), ⟨⟨_, _, ho⟩, hz, ht, ⟨_, g1, rfl, rfl⟩, ⟨_, g2, rfl, rfl⟩⟩,
          five (P := fun c => FpOk X pins H1 c) (fr _ (Nat.le_add_right ..)) (fr _ (Nat.le_add_right ..)) (fr _ (Nat.le_add_right ..)) (fr _ (Nat.le_refl _)) (fr _ (Nat.le_add_right ..)), k⟩
end LO

/-! Dz: zip of a tuple and a list. -/
namespace Dt
open PySem L2 LO
section
variable {W : Wd} {δ : Fr} {ta : TA} {Φ : List D → Fr → Prop}
theorem itd_zipM {I : Hp} {a b : Addr} {vs ws : List V} {l m : List D} (h : ∀ I1 H1, Ex I I1 → Ex I1 H1 → SqT W.K H1 a vs) (h' : ∀ I1 H1, Ex I I1 → Ex I1 H1 → SqL W.K H1 b ws) (r : Rps W I l vs) (s : Rps W I m ws) : ItD W (ItzM W.K a b) I (zipD l m) := by
  refine ⟨fun i x I1 H1 e1 e2 hx => ?_, fun I1 H1 e1 e2 => ?_, fun i x I1 H1 v H2 e1 e2 hx y => ?_⟩
  · obtain ⟨p, q, hp, hq, _⟩ := zipD_get hx
    obtain ⟨u1, hu1, ru1⟩ := r.get hp
    obtain ⟨u2, hu2, ru2⟩ := s.get hq
    exact ⟨vs, ws, u1, u2, h I1 H1 e1 e2, h' I1 H1 e1 e2, hu1, hu2⟩
  · refine ⟨vs, ws, h I1 H1 e1 e2, h' I1 H1 e1 e2, ?_⟩
    rw [zipD_len, ← r.length, ← s.length]
  · obtain ⟨p, q, hp, hq, rfl⟩ := zipD_get hx
    obtain ⟨T, v1, v2, ev, hT, hH, g1, g2⟩ := y
    obtain ⟨u1, hu1, ru1⟩ := r.get hp
    obtain ⟨u2, hu2, ru2⟩ := s.get hq
    have z1 := hu1.symm.trans (g1 vs (h I1 H1 e1 e2))
    have z2 := hu2.symm.trans (g2 ws (h' I1 H1 e1 e2))
    cases z1
    cases z2
    exact .inr ⟨T, _, _, ev, hT, hH, rfl, .cons (ru1.mono e1) (.cons (ru2.mono e1) .nil)⟩
theorem wi_zipM (h : WA W ta δ fun xs δ1 => ∃ l m, xs = [.tup l, .lst m] ∧ Φ (zipD l m) δ1) : WI W (iZipM W.K ta) δ Φ := fun I H σ k R q =>
  h I H σ k _ fun xs δ1 vs I1 H1 ⟨l, m, e, p⟩ k1 s1 r1 => by
    subst e
    cases r1 with
    | cons r1 rs =>
      cases rs with
      | cons r2 rs =>
        cases rs
        obtain ⟨a, vs, rfl, ha, r⟩ := rp_tup r1
        obtain ⟨b, ws, rfl, hb, s⟩ := rp_lst r2
        exact ⟨a, b, vs, ws, rfl, sq_t k1.ih ha, sq_l k1.ih hb, q _ δ1 _ I1 H1 p k1 s1 (itd_zipM (fun I2 H2 e1 e2 => sq_t (W := W) e2 (sqT_ex e1 ha)) (fun I2 H2 e1 e2 => sq_l (W := W) e2 (e1 _ _ hb)) r s)⟩
end
end Dt

namespace K15
open PySem L2 Dt Q
abbrev dRw (r : List (List Int)) : D := .lst (r.map dMs)
def S__law_jug : List D → Prop := fun ds => ∃ (ns : List Int) (i : Int), ds = [.scr ns, .int i] ∧ 0 ≤ i ∧ i ≤ 1000 ∧ ns.length ≤ 63
def S__law_pour : DSpec := fun ds Φ => ∃ t : Int, ds = [.int t] ∧ 0 < t ∧ t < 1073741824 ∧ ∀ r : Int, 0 ≤ r → r < t → Φ (.int r)
def S__law_pick : DSpec := fun ds Φ => ∃ l : List D, ds = [.lst l] ∧ 0 < l.length ∧ l.length ≤ 1000 ∧ ∀ x, x ∈ l → Φ x
def S__law_marks : DSpec := fun ds Φ => ∃ n : Nat, ds = [.int n] ∧ 1 ≤ n ∧ n ≤ 64 ∧ ∀ ms, SgT n ms → Φ (dMs ms)
def S__law_dense : DSpec := fun ds Φ => ∃ n ms, ds = [dMs ms] ∧ SgT n ms ∧ Φ (dRw (dns ms))
def S__law_product : DSpec := fun ds Φ => ∃ n x y, ds = [dRw (dns x), dRw (dns y)] ∧ SgT n x ∧ SgT n y ∧ Φ (dRw (dns (mul x y)))
def S__law_flat : DSpec := fun ds Φ => ∃ n x, ds = [dRw (dns x)] ∧ SgT n x ∧ Φ (dRw (cols n (dns x)))
def S__law_is_dense : DSpec := fun ds Φ => ∃ n x, ds = [dSg x, dRw (dns x)] ∧ SgT n x ∧ Φ (.bl true)
def S__law_right : DSpec := fun ds Φ => ds = [] ∧ Φ (.bl true)
def S_law : DSpec := fun ds Φ => ∃ ns : List Int, ds = [.scr ns] ∧ ns.length ≤ 63 ∧ Φ (.bl true)
end K15
namespace K15
open PySem L2 Dt Q
/-! _law_jug : 0=_law_script 1=_law_at 2=_law_cell 3=_law_great -/
def T__law_jug (W : Wd) : TS :=
  (tSeq (tAsg (tIf (tTest (tOp (rI0 fun i j => .bl (decide (i < j))) (tVar 1) (tCB (rLenD W.K) (tCons (tVar 0) tNil)))) (tCB rInt1 (tCons (tOp (L2.rIx W.K) (tVar 0) (tVar 1)) tNil)) (tOp (rAddU W.K) (tOp rMulU (tC (.int 409)) (tVar 1)) (tC (.int 67)))) (gName 2))
  (tSeq (tAsg (tOp rModU (tCB rInt1 (tCons (tCB rAbs (tCons (tVar 2) tNil)) tNil)) (tOp rPowU (tOp rPowU (tC (.int 10)) (tC (.int 57))) (tC (.int 6)))) (gName 3))
  (tRet (tLst (tCons (tCB rMax2 (tCons (tC (.int 0)) (tCons (tOp (rI0 fun i j => .int (i - j)) (tVar 3) (tOp rPowU (tC (.int 10)) (tC (.int 17)))) tNil))) (tCons (tOp (rAddU W.K) (tOp (rAddU W.K) (tOp (rAddU W.K) (tOp rMulU (tOp rModU (tVar 3) (tC (.int 1000000000039))) (tC (.int 104729))) (tOp rMulU (tC (.int 4547)) (tVar 1))) (tOp rMulU (tC (.int 29)) (tCB rInt1 (tCons (tOp (rI0 fun i j => .bl (decide (i < j))) (tVar 2) (tC (.int 0))) tNil)))) (tC (.int 17))) (tCons (tC (.int 0)) tNil)))))))
/-! _law_pour : 0=_law_jug_here 1=_law_total 2=_law_found 3=_law_one 4=_law_two -/
def T__law_pour (W : Wd) : TS :=
  (tSeq (tIfS (tTest (tOp (rI0 fun i j => .bl (decide (j < i))) (tOp (L2.rIx W.K) (tVar 0) (tC (.int 0))) (tC (.int 0)))) (tSeq (tAsg (tOp rModU (tCB rInt1 (tCons (tOp (L2.rIx W.K) (tVar 0) (tC (.int 0))) tNil)) (tVar 1)) (gName 2))
  (tSeq (tAsg (tOp rDivU (tOp (L2.rIx W.K) (tVar 0) (tC (.int 0))) (tVar 1)) (gSub (tVar 0) (tC (.int 0)) rSetL))
  (tRet (tVar 2)))) tNext)
  (tSeq (tAsg (tOp (rAddU W.K) (tOp (L2.rIx W.K) (tVar 0) (tC (.int 2))) (tC (.int 1))) (gSub (tVar 0) (tC (.int 2)) rSetL))
  (tSeq (tAsg (tOp rModU (tCB rInt1 (tCons (tOp (rAddU W.K) (tOp (L2.rIx W.K) (tVar 0) (tC (.int 1))) (tOp rMulU (tC (.int 3372073)) (tOp (L2.rIx W.K) (tVar 0) (tC (.int 2))))) tNil)) (tC (.int 2305843009213693951))) (gName 3))
  (tSeq (tAsg (tOp rModU (tCB rInt1 (tCons (tOp (rAddU W.K) (tOp rMulU (tVar 3) (tVar 3)) (tOp rMulU (tC (.int 700361)) (tOp (L2.rIx W.K) (tVar 0) (tC (.int 2))))) tNil)) (tC (.int 2305843009213693921))) (gName 4))
  (tRet (tOp rModU (tCB rInt1 (tCons (tOp rDivU (tOp (rAddU W.K) (tOp rMulU (tVar 4) (tC (.int 41))) (tVar 3)) (tC (.int 131072))) tNil)) (tVar 1)))))))
/-! _law_pick : 0=_law_jug_here 1=_law_items -/
def T__law_pick (W : Wd) : TS :=
  (tRet (tOp (L2.rIx W.K) (tVar 1) (tCall (jSp W S__law_pour) [] C8.E0 (tCons (tVar 0) (tCons (tCB (rLenD W.K) (tCons (tVar 1) tNil)) tNil)))))
/-! _law_marks : 0=_law_jug_here 1=_law_size 2=_law_left 3=_law_found 4=_law_turn -/
def T__law_marks (W : Wd) : TS :=
  (tSeq (tPar 2 3 (tCons (tLstRg (tRg2 (tC (.int 1)) (tOp (rAddU W.K) (tVar 1) (tC (.int 1))))) (tCons (tLst tNil) tNil)))
  (tSeq (tFor (iRng1 (tCons (tVar 1) tNil)) (gName 4) (tDrop (tBM W.K "list" rAppend (tVar 3) (tCons (tOp rMulU (tBM W.K "list" rPopAt (tVar 2) (tCons (tCall (jSp W S__law_pour) [] C8.E0 (tCons (tVar 0) (tCons (tCB (rLenD W.K) (tCons (tVar 2) tNil)) tNil))) tNil)) (tCall (jSp W S__law_pick) [] C8.E0 (tCons (tVar 0) (tCons (tLst (tCons (tC (.int 1)) (tCons (tUn (rU fun i => .int (-i)) (tC (.int 1))) tNil))) tNil)))) tNil))))
  (tRet (tCB (rTupleOf W.K) (tCons (tVar 3) tNil)))))
/-! _law_dense : 0=_law_marks_here 1=_law_found 2=_law_mark 3=_law_row -/
def T__law_dense (W : Wd) : TS :=
  (tSeq (tAsg (tLst tNil) (gName 1))
  (tSeq (tFor (iSeq W.K (tVar 0)) (gName 2) (tSeq (tAsg (tOp rMulU (tLst (tCons (tC (.int 0)) tNil)) (tCB (rLenD W.K) (tCons (tVar 0) tNil))) (gName 3))
  (tSeq (tAsg (tIf (tTest (tOp (rI0 fun i j => .bl (decide (j < i))) (tVar 2) (tC (.int 0)))) (tC (.int 1)) (tUn (rU fun i => .int (-i)) (tC (.int 1)))) (gSub (tVar 3) (tOp (rI0 fun i j => .int (i - j)) (tCB rAbs (tCons (tVar 2) tNil)) (tC (.int 1))) rSetL))
  (tDrop (tBM W.K "list" rAppend (tVar 1) (tCons (tCB (rTupleOf W.K) (tCons (tVar 3) tNil)) tNil))))))
  (tRet (tVar 1))))
/-! _law_product : 0=_law_one 1=_law_other 2=_law_found 3=_law_row 4=_law_made 5=_law_column 6=_law_entry 7=_law_line -/
def T__law_product (W : Wd) : TS :=
  (tSeq (tAsg (tLst tNil) (gName 2))
  (tSeq (tFor (iSeq W.K (tVar 0)) (gName 3) (tSeq (tAsg (tLst tNil) (gName 4))
  (tSeq (tFor (iRng1 (tCons (tCB (rLenD W.K) (tCons (tOp (L2.rIx W.K) (tVar 1) (tC (.int 0))) tNil)) tNil)) (gName 5) (tDrop (tBM W.K "list" rAppend (tVar 4) (tCons (tCB (rSum W.K) (tCons (tLc (LO.iZipM W.K (tCons (tVar 3) (tCons (tVar 1) tNil))) (gTup W.K 2 (gCons (gName 6) (gCons (gName 7) gNil))) tYes (tOp rMulU (tVar 6) (tOp (L2.rIx W.K) (tVar 7) (tVar 5))) [6, 7]) tNil)) tNil))))
  (tDrop (tBM W.K "list" rAppend (tVar 2) (tCons (tCB (rTupleOf W.K) (tCons (tVar 4) tNil)) tNil))))))
  (tRet (tVar 2))))
/-! _law_flat : 0=_law_rows 1=_law_row 2=_law_column -/
def T__law_flat (W : Wd) : TS :=
  (tRet (tLc (iRng1 (tCons (tCB (rLenD W.K) (tCons (tOp (L2.rIx W.K) (tVar 0) (tC (.int 0))) tNil)) tNil)) (gName 2) tYes (tCB (rTupleOf W.K) (tCons (tLc (iSeq W.K (tVar 0)) (gName 1) tYes (tOp (L2.rIx W.K) (tVar 1) (tVar 2)) [1]) tNil)) [2]))
/-! _law_is_dense : 0=_law_signs 1=_law_rows 2=_law_diagonal 3=_law_at 4=_law_entry 5=_law_row -/
def T__law_is_dense (W : Wd) : TS :=
  (tSeq (tIfS (tOr (tTest (tOp (rNeD W.K) (tPropC W 1 S_SignTable_size (tVar 0)) (tCB (rLenD W.K) (tCons (tVar 1) tNil)))) (tTest (tOp (rNeD W.K) (tCall (pSp W S__law_dense) [] C8.E0 (tCons (tPropC W 1 S_SignTable_marks (tVar 0)) tNil)) (tVar 1)))) (tRet (tC (.bl false))) tNext)
  (tSeq (tAsg (tLc (iRng1 (tCons (tCB (rLenD W.K) (tCons (tVar 1) tNil)) tNil)) (gName 3) tYes (tOp (L2.rIx W.K) (tOp (L2.rIx W.K) (tVar 1) (tVar 3)) (tVar 3)) [3]) (gName 2))
  (tSeq (tIfS (tOr (tTest (tOp (rNeD W.K) (tPropC W 1 S_SignTable_trace (tVar 0)) (tCB (rSum W.K) (tCons (tVar 2) tNil)))) (tTest (tOp (rNeD W.K) (tPropC W 1 S_SignTable_is_idle (tVar 0)) (tOp (rEqD W.K) (tVar 2) (tOp rMulU (tLst (tCons (tC (.int 1)) tNil)) (tCB (rLenD W.K) (tCons (tVar 1) tNil))))))) (tRet (tC (.bl false))) tNext)
  (tSeq (tIfS (tTest (tOp (rI0 fun i j => .bl (decide (j < i))) (tCB (rLenD W.K) (tCons (tVar 1) tNil)) (tC (.int 8)))) (tRet (tC (.bl true))) tNext)
  (tRet (tOp (rEqG (EqN W 0 S_Ratio___eq__ 2)) (tMethC W 1 "table" S_SignTable_table (tVar 0) tNil) (tCB (rTupleOf W.K) (tCons (tLc (iSeq W.K (tVar 1)) (gName 5) tYes (tCB (rTupleOf W.K) (tCons (tLc (iSeq W.K (tVar 5)) (gName 4) tYes (tMakeC W 0 S_Ratio___init__ [.int 1] (tCons (tVar 4) tNil)) [4]) tNil)) [5]) tNil))))))))
/-! _law_right : 0=_law_jug_here 1=_law_size 2=_law_marks_here 3=_law_turn 4=_law_one 5=_law_other 6=_law_third 7=_law_some 8=_law_first 9=_law_second 10=_law_entry 11=_law_row 12=_law_idle -/
def T__law_right (W : Wd) : TS :=
  (tSeq (tAsg (tCall (jSp W S__law_pick) [] C8.E0 (tCons (tVar 0) (tCons (tLst (tCons (tC (.int 1)) (tCons (tC (.int 2)) (tCons (tC (.int 2)) (tCons (tC (.int 3)) (tCons (tC (.int 4)) (tCons (tC (.int 6)) (tCons (tC (.int 8)) (tCons (tC (.int 12)) (tCons (tC (.int 20)) tNil)))))))))) tNil))) (gName 1))
  (tSeq (tAsg (tLc (iRng1 (tCons (tC (.int 3)) tNil)) (gName 3) tYes (tCall (jSp W S__law_marks) [] C8.E0 (tCons (tVar 0) (tCons (tVar 1) tNil))) [3]) (gName 2))
  (tSeq (tAsg (tLc (iSeq W.K (tVar 2)) (gName 7) tYes (tMakeC W 1 S_SignTable___init__ [] (tCons (tVar 7) tNil)) [7]) (gUnl W.K 3 (gCons (gName 4) (gCons (gName 5) (gCons (gName 6) gNil)))))
  (tSeq (tPar 8 9 (tCons (tCall (pSp W S__law_dense) [] C8.E0 (tCons (tOp (L2.rIx W.K) (tVar 2) (tC (.int 0))) tNil)) (tCons (tCall (pSp W S__law_dense) [] C8.E0 (tCons (tOp (L2.rIx W.K) (tVar 2) (tC (.int 1))) tNil)) tNil)))
  (tSeq (tIfS (tOr (tNot (tTru W.K (tCall (pSp W S__law_is_dense) [] C8.E0 (tCons (tVar 4) (tCons (tVar 8) tNil))))) (tNot (tTru W.K (tCall (pSp W S__law_is_dense) [] C8.E0 (tCons (tOp (rBinC W 1 S_SignTable___mul__) (tVar 4) (tVar 5)) (tCons (tCall (pSp W S__law_product) [] C8.E0 (tCons (tVar 8) (tCons (tVar 9) tNil))) tNil)))))) (tRet (tC (.bl false))) tNext)
  (tSeq (tIfS (tOr (tNot (tTru W.K (tCall (pSp W S__law_is_dense) [] C8.E0 (tCons (tMethC W 1 "turned" S_SignTable_turned (tVar 4) tNil) (tCons (tCall (pSp W S__law_flat) [] C8.E0 (tCons (tVar 8) tNil)) tNil))))) (tNot (tTru W.K (tCall (pSp W S__law_is_dense) [] C8.E0 (tCons (tOp (rBinC W 1 S_SignTable___mul__) (tVar 5) (tVar 4)) (tCons (tCall (pSp W S__law_product) [] C8.E0 (tCons (tVar 9) (tCons (tVar 8) tNil))) tNil)))))) (tRet (tC (.bl false))) tNext)
  (tSeq (tIfS (tOr (tNot (tTru W.K (tCall (pSp W S__law_is_dense) [] C8.E0 (tCons (tUn (rNegC W 1 S_SignTable___neg__) (tVar 4)) (tCons (tLc (iSeq W.K (tVar 8)) (gName 11) tYes (tCB (rTupleOf W.K) (tCons (tLc (iSeq W.K (tVar 11)) (gName 10) tYes (tUn (rU fun i => .int (-i)) (tVar 10)) [10]) tNil)) [11]) tNil))))) (tTest (tOp (rNeC W 1 S_SignTable___eq__) (tUn (rNegC W 1 S_SignTable___neg__) (tUn (rNegC W 1 S_SignTable___neg__) (tVar 4))) (tVar 4)))) (tRet (tC (.bl false))) tNext)
  (tSeq (tAsg (tSMethC W 1 S_SignTable_idle (tCons (tVar 1) tNil)) (gName 12))
  (tSeq (tIfS (tOr (tTest (tOp (rNeC W 1 S_SignTable___eq__) (tOp (rBinC W 1 S_SignTable___mul__) (tVar 4) (tMethC W 1 "turned" S_SignTable_turned (tVar 4) tNil)) (tVar 12))) (tOr (tTest (tOp (rNeC W 1 S_SignTable___eq__) (tOp (rBinC W 1 S_SignTable___mul__) (tMethC W 1 "turned" S_SignTable_turned (tVar 4) tNil) (tVar 4)) (tVar 12))) (tOr (tTest (tOp (rNeC W 1 S_SignTable___eq__) (tOp (rBinC W 1 S_SignTable___mul__) (tVar 12) (tVar 4)) (tVar 4))) (tTest (tOp (rNeC W 1 S_SignTable___eq__) (tOp (rBinC W 1 S_SignTable___mul__) (tVar 4) (tVar 12)) (tVar 4)))))) (tRet (tC (.bl false))) tNext)
  (tSeq (tIfS (tOr (tTest (tOp (rNeC W 1 S_SignTable___eq__) (tOp (rBinC W 1 S_SignTable___mul__) (tOp (rBinC W 1 S_SignTable___mul__) (tVar 4) (tVar 5)) (tVar 6)) (tOp (rBinC W 1 S_SignTable___mul__) (tVar 4) (tOp (rBinC W 1 S_SignTable___mul__) (tVar 5) (tVar 6))))) (tTest (tOp (rNeC W 1 S_SignTable___eq__) (tMethC W 1 "turned" S_SignTable_turned (tOp (rBinC W 1 S_SignTable___mul__) (tVar 4) (tVar 5)) tNil) (tOp (rBinC W 1 S_SignTable___mul__) (tMethC W 1 "turned" S_SignTable_turned (tVar 5) tNil) (tMethC W 1 "turned" S_SignTable_turned (tVar 4) tNil))))) (tRet (tC (.bl false))) tNext)
  (tSeq (tIfS (tOr (tTest (tOp (rNeD W.K) (tOp (rEqC W 1 S_SignTable___eq__) (tVar 4) (tVar 5)) (tOp (rEqD W.K) (tOp (L2.rIx W.K) (tVar 2) (tC (.int 0))) (tOp (L2.rIx W.K) (tVar 2) (tC (.int 1)))))) (tOr (tTest (tOp (rNeD W.K) (tPropC W 1 S_SignTable_marks (tVar 4)) (tOp (L2.rIx W.K) (tVar 2) (tC (.int 0))))) (tTest (tOp (rEqC W 1 S_SignTable___eq__) (tVar 4) (tOp (L2.rIx W.K) (tVar 2) (tC (.int 0))))))) (tRet (tC (.bl false))) tNext)
  (tRet (tOp (rEqC W 1 S_SignTable___eq__) (tMethC W 1 "turned" S_SignTable_turned (tMethC W 1 "turned" S_SignTable_turned (tVar 4) tNil) tNil) (tVar 4))))))))))))))
/-! law : 0=_law_script 1=_law_at 2=_law_jug_here 3=_law_great 4=_law_swap 5=_law_side 6=_law_told -/
def T_law (W : Wd) : TS :=
  (tSeq (tFor (iRng1 (tCons (tCB rMax2 (tCons (tC (.int 1)) (tCons (tCB rMin2 (tCons (tC (.int 3)) (tCons (tCB (rLenD W.K) (tCons (tVar 0) tNil)) tNil))) tNil))) tNil)) (gName 1) (tSeq (tAsg (tCall (mSp W S__law_jug) [] C8.E0 (tCons (tVar 0) (tCons (tVar 1) tNil))) (gName 2))
  (tSeq (tIfS (tNot (tTru W.K (tCall (jSp W S__law_right) [] C8.E0 (tCons (tVar 2) tNil)))) (tRet (tC (.bl false))) tNext)
  (tSeq (tAsg (tMakeC W 1 S_SignTable___init__ [] (tCons (tCall (jSp W S__law_marks) [] C8.E0 (tCons (tVar 2) (tCons (tC (.int 64)) tNil))) tNil)) (gName 3))
  (tIfS (tOr (tTest (tOp (rNeC W 1 S_SignTable___eq__) (tOp (rBinC W 1 S_SignTable___mul__) (tVar 3) (tMethC W 1 "turned" S_SignTable_turned (tVar 3) tNil)) (tSMethC W 1 S_SignTable_idle (tCons (tC (.int 64)) tNil)))) (tTest (tOp (rNeD W.K) (tCB (rLenD W.K) (tCons (tPropC W 1 S_SignTable_marks (tOp (rBinC W 1 S_SignTable___mul__) (tVar 3) (tVar 3))) tNil)) (tC (.int 64))))) (tRet (tC (.bl false))) tNext)))))
  (tSeq (tPar 4 5 (tCons (tMakeC W 1 S_SignTable___init__ [] (tCons (tTup (tCons (tC (.int 2)) (tCons (tUn (rU fun i => .int (-i)) (tC (.int 1))) tNil))) tNil)) (tCons (tMakeC W 1 S_SignTable___init__ [] (tCons (tTup (tCons (tUn (rU fun i => .int (-i)) (tC (.int 1))) (tCons (tC (.int 2)) tNil))) tNil)) tNil)))
  (tSeq (tAsg (tLst (tCons (tPropC W 1 S_SignTable_marks (tOp (rBinC W 1 S_SignTable___mul__) (tVar 4) (tVar 4))) (tCons (tPropC W 1 S_SignTable_marks (tOp (rBinC W 1 S_SignTable___mul__) (tVar 4) (tVar 5))) (tCons (tPropC W 1 S_SignTable_marks (tOp (rBinC W 1 S_SignTable___mul__) (tVar 5) (tVar 4))) (tCons (tPropC W 1 S_SignTable_marks (tSMethC W 1 S_SignTable_idle (tCons (tC (.int 1)) tNil))) tNil))))) (gName 6))
  (tRet (tOp (rEqD W.K) (tOp (rAddU W.K) (tVar 6) (tLst (tCons (tPropC W 1 S_SignTable_trace (tSMethC W 1 S_SignTable_idle (tCons (tC (.int 64)) tNil))) tNil))) (tLst (tCons (tTup (tCons (tUn (rU fun i => .int (-i)) (tC (.int 1))) (tCons (tUn (rU fun i => .int (-i)) (tC (.int 2))) tNil))) (tCons (tTup (tCons (tC (.int 2)) (tCons (tC (.int 1)) tNil))) (tCons (tTup (tCons (tUn (rU fun i => .int (-i)) (tC (.int 2))) (tCons (tUn (rU fun i => .int (-i)) (tC (.int 1))) tNil))) (tCons (tTup (tCons (tC (.int 1)) tNil)) (tCons (tC (.int 64)) tNil)))))))))))
end K15

namespace K15
open PySem L2 Dt Q
local macro_rules | `(tactic| walk_at "d") => `(tactic| with_reducible first
  | refine ws_seq ?_
  | refine so_nx ?_
  | refine so_rt ?_
  | refine so_bk ?_
  | refine so_ct ?_
  | refine ro_rt ?_
  | refine ro_nx ?_
  | refine rj_rt rfl ?_
  | refine rj_nx rfl ?_
  | refine lo_nx ?_
  | refine lo_ct ?_
  | refine lo_bk ?_
  | refine lo_rt ?_
  | refine ws_if ?_
  | refine ws_ret ?_
  | refine ws_next ?_
  | refine ws_retN ?_
  | refine ws_set ?_
  | refine ws_drop ?_
  | refine ws_par ?_
  | refine we_var rfl ?_
  | refine we_int ?_
  | refine we_bl ?_
  | refine we_str ?_
  | refine we_non ?_
  | refine we_ty ?_
  | refine we_op ?_
  | refine we_un ?_
  | refine we_tup ?_
  | refine we_chain ?_
  | refine we_cb ?_
  | refine wa_nil ?_
  | refine wa_cons ?_
  | refine we_call ?_
  | refine we_andV ?_
  | refine we_orV ?_
  | refine we_notV ?_
  | refine we_if ?_
  | refine we_isN ?_
  | refine we_notN ?_
  | refine we_bits ?_
  | refine wt_B ?_
  | refine wt_test ?_
  | refine wt_tru ?_
  | refine wt_and ?_
  | refine wt_or ?_
  | refine wt_not ?_
  | refine wt_yes ?_
  | refine wr_I0i ?_
  | refine wr_I0b ?_
  | refine wr_addI ?_
  | refine wu_i ?_
  | refine wc_intI ?_
  | refine wc_intB ?_
  | refine wc_abs ?_
  | refine wc_max2 ?_
  | refine wc_min2 ?_
  | refine wc_lenL ?_
  | refine wc_lenT ?_
  | refine wc_lenScr ?_
  | refine wc_tupleL ?_
  | refine wc_isiT (by first | assumption | exact pln_tup | exact pln_int | exact pln_str | exact pln_lst | exact pln_bl | exact pln_non) ?_
  | refine wc_isiI (by first | assumption | exact pln_tup | exact pln_int | exact pln_str | exact pln_lst | exact pln_bl | exact pln_non) ?_
  | refine wc_isiB (by first | assumption | exact pln_tup | exact pln_int | exact pln_str | exact pln_lst | exact pln_bl | exact pln_non) ?_
  | refine wc_isiS (by first | assumption | exact pln_tup | exact pln_int | exact pln_str | exact pln_lst | exact pln_bl | exact pln_non) ?_
  | refine ⟨_, rfl, ?_⟩
  | refine we_fldC (by assumption) rfl ?_
  | refine we_propC ?_
  | refine we_methC (by assumption) (by decide +kernel) ?_
  | refine we_cls ?_
  | refine we_smethC ?_
  | refine wc_isC (by assumption) (.inl (by first | assumption | exact pln_tup | exact pln_int | exact pln_str | exact pln_lst | exact pln_bl | exact pln_non)) ?_
  | refine wc_isC (by assumption) (.inr ⟨_, rfl⟩) ?_
  | refine ⟨_, _, rfl, rfl, ?_⟩)
local macro_rules | `(tactic| walk_at "d") => `(tactic| with_reducible first
  | refine we_callJ rfl ?_
  | refine we_ixJ rfl ?_
  | refine co_rt rfl ?_
  | refine ⟨_, _, _, rfl, rfl, rfl, ?_⟩)
theorem l__law_pour : ∀ xs Φ, S__law_pour xs Φ → xs.length = 1 := fun _ _ ⟨_, e, _⟩ => by rw [e]; rfl
theorem w__law_pour (W : Wd) (p : Addr) (xs : List D) (Φ : D → Prop) (s : S__law_pour xs Φ) : WS W (T__law_pour W) (frJ 5 p xs) (rtJ p Φ) := by
  obtain ⟨t, rfl, ht, ht2, q⟩ := s
  show WS W _ [some (.jg p), some (.d (.int t)), none, none, none] _
  unfold T__law_pour
  refine ws_jopen (i := 0) rfl fun a b c => ?_
  show WS W _ [some (.jo p [.int a, .int b, .int c]), some (.d (.int t)), none, none, none] _
  repeat walk_at "d"
  refine iteB (fun h => ?_) fun h => ?_
  · repeat walk_at "d"
    refine wr_mod ht ?_
    repeat walk_at "d"
    refine ws_setLJ (p0 := p) (l0 := []) ?_
    repeat walk_at "d"
    refine wr_divI ⟨ht, ht2⟩ ?_
    repeat walk_at "d"
    exact q _ (Int.emod_nonneg _ (by omega)) (Int.emod_lt_of_pos _ ht)
  · repeat walk_at "d"
    refine ws_setLJ (p0 := p) (l0 := []) ?_
    repeat walk_at "d"
    refine wr_mulI (i := 3372073) (.inl (by decide)) ?_
    repeat walk_at "d"
    refine wr_mod (j := 2305843009213693951) (by decide) ?_
    repeat walk_at "d"
    have h1 := Int.emod_nonneg (b + 3372073 * (c + 1)) (show (2305843009213693951 : Int) ≠ 0 by decide)
    have h2 := Int.emod_lt_of_pos (b + 3372073 * (c + 1)) (show (0 : Int) < 2305843009213693951 by decide)
    generalize (b + 3372073 * (c + 1)) % 2305843009213693951 = u at h1 h2
    refine wr_mulI (.inl (by omega)) ?_
    repeat walk_at "d"
    refine wr_mulI (i := 700361) (.inl (by decide)) ?_
    repeat walk_at "d"
    refine wr_mod (j := 2305843009213693921) (by decide) ?_
    repeat walk_at "d"
    refine wr_mulI (j := 41) (.inr (by decide)) ?_
    repeat walk_at "d"
    refine wr_divI (j := 131072) (by decide) ?_
    repeat walk_at "d"
    refine wr_mod ht ?_
    repeat walk_at "d"
    exact q _ (Int.emod_nonneg _ (by omega)) (Int.emod_lt_of_pos _ ht)
theorem l__law_pick : ∀ xs Φ, S__law_pick xs Φ → xs.length = 1 := fun _ _ ⟨_, e, _⟩ => by rw [e]; rfl
theorem w__law_pick (W : Wd) (p : Addr) (xs : List D) (Φ : D → Prop) (s : S__law_pick xs Φ) : WS W (T__law_pick W) (frJ 2 p xs) (rtJ p Φ) := by
  obtain ⟨l, rfl, h0, h1, q⟩ := s
  show WS W _ [some (.jg p), some (.d (.lst l))] _
  unfold T__law_pick
  repeat walk_at "d"
  refine ⟨rfl, _, rfl, by omega, by omega, fun r r0 r1 => ?_⟩
  have hr : r.toNat < l.length := by omega
  refine wr_ixSL (z := l[r.toNat]) (by rw [atI_i r0 r1]; exact List.getElem?_eq_getElem hr) ?_
  repeat walk_at "d"
  exact q _ (List.getElem_mem hr)
theorem l__law_jug : ∀ xs, S__law_jug xs → xs.length = 2 := fun _ ⟨_, _, e, _⟩ => by rw [e]; rfl
theorem bits57 : (Builtin.Int.intBits ((10 : Int) ^ (57 : Int).toNat) : Int) * 6 ≤ 2 ^ 27 := by decide +kernel
theorem w__law_jug (W : Wd) (xs : List D) (s : S__law_jug xs) : WM W (T__law_jug W) (frD 4 xs) := by
  obtain ⟨ns, i, rfl, h0, h1, h63⟩ := s
  show WM W _ [some (.d (.scr ns)), some (.d (.int i)), none, none]
  unfold T__law_jug
  have fin : WS W (tAsg (tIf (tTest (tOp (rI0 fun i j => .bl (decide (i < j))) (tVar 1) (tCB (rLenD W.K) (tCons (tVar 0) tNil)))) (tCB rInt1 (tCons (tOp (L2.rIx W.K) (tVar 0) (tVar 1)) tNil)) (tOp (rAddU W.K) (tOp rMulU (tC (.int 409)) (tVar 1)) (tC (.int 67)))) (gName 2)) [some (.d (.scr ns)), some (.d (.int i)), none, none] fun o => ∃ c, o = .nx [some (.d (.scr ns)), some (.d (.int i)), some (.d (.int c)), none] := by
    repeat walk_at "d"
    refine iteB (fun c => ?_) fun c => ?_
    · repeat walk_at "d"
      have hi : i.toNat < ns.length := by omega
      refine wr_ixSScr (z := ns[i.toNat]) (by rw [atI_i h0 c]; exact List.getElem?_eq_getElem hi) ?_
      repeat walk_at "d"
      exact ⟨_, rfl⟩
    · repeat walk_at "d"
      refine wr_mulI (i := 409) (.inl (by decide)) ?_
      repeat walk_at "d"
      exact ⟨_, rfl⟩
  refine wm_seq (fin.imp fun o ⟨cell, e⟩ => ⟨_, e, ?_⟩)
  refine wm_seq ?_
  repeat walk_at "d"
  refine wr_pow (i := 10) (j := 57) (by decide) ?_
  repeat walk_at "d"
  refine wr_pow (j := 6) ⟨by decide, bits57⟩ ?_
  repeat walk_at "d"
  refine wr_mod (Int.pow_pos (Int.pow_pos (by decide))) ?_
  generalize (if cell < 0 then -cell else cell) % (((10 : Int) ^ (57 : Int).toNat) ^ (6 : Int).toNat) = great
  repeat walk_at "d"
  refine wm_ret (wl_lst ?_)
  repeat walk_at "d"
  refine wr_pow (i := 10) (j := 17) (by decide) ?_
  repeat walk_at "d"
  refine wr_mod (j := 1000000000039) (by decide) ?_
  repeat walk_at "d"
  refine wr_mulI (j := 104729) (.inr (by decide)) ?_
  repeat walk_at "d"
  refine wr_mulI (i := 4547) (.inl (by decide)) ?_
  repeat walk_at "d"
  refine wr_mulI (i := 29) (.inl (by decide)) ?_
  repeat walk_at "d"
  exact ⟨by simp, _, _, _, rfl⟩
end K15

namespace K15
open PySem L2 Dt Q
local macro_rules | `(tactic| walk_at "d") => `(tactic| with_reducible first
  | refine ws_seq ?_
  | refine so_nx ?_
  | refine so_rt ?_
  | refine so_bk ?_
  | refine so_ct ?_
  | refine ro_rt ?_
  | refine ro_nx ?_
  | refine rj_rt rfl ?_
  | refine rj_nx rfl ?_
  | refine lo_nx ?_
  | refine lo_ct ?_
  | refine lo_bk ?_
  | refine lo_rt ?_
  | refine ws_if ?_
  | refine ws_ret ?_
  | refine ws_next ?_
  | refine ws_retN ?_
  | refine ws_set ?_
  | refine ws_drop ?_
  | refine ws_par ?_
  | refine we_var rfl ?_
  | refine we_int ?_
  | refine we_bl ?_
  | refine we_str ?_
  | refine we_non ?_
  | refine we_ty ?_
  | refine we_op ?_
  | refine we_un ?_
  | refine we_tup ?_
  | refine we_chain ?_
  | refine we_cb ?_
  | refine wa_nil ?_
  | refine wa_cons ?_
  | refine we_call ?_
  | refine we_andV ?_
  | refine we_orV ?_
  | refine we_notV ?_
  | refine we_if ?_
  | refine we_isN ?_
  | refine we_notN ?_
  | refine we_bits ?_
  | refine wt_B ?_
  | refine wt_test ?_
  | refine wt_tru ?_
  | refine wt_and ?_
  | refine wt_or ?_
  | refine wt_not ?_
  | refine wt_yes ?_
  | refine wr_I0i ?_
  | refine wr_I0b ?_
  | refine wr_addI ?_
  | refine wu_i ?_
  | refine wc_intI ?_
  | refine wc_intB ?_
  | refine wc_abs ?_
  | refine wc_max2 ?_
  | refine wc_min2 ?_
  | refine wc_lenL ?_
  | refine wc_lenT ?_
  | refine wc_lenScr ?_
  | refine wc_tupleL ?_
  | refine wc_isiT (by first | assumption | exact pln_tup | exact pln_int | exact pln_str | exact pln_lst | exact pln_bl | exact pln_non) ?_
  | refine wc_isiI (by first | assumption | exact pln_tup | exact pln_int | exact pln_str | exact pln_lst | exact pln_bl | exact pln_non) ?_
  | refine wc_isiB (by first | assumption | exact pln_tup | exact pln_int | exact pln_str | exact pln_lst | exact pln_bl | exact pln_non) ?_
  | refine wc_isiS (by first | assumption | exact pln_tup | exact pln_int | exact pln_str | exact pln_lst | exact pln_bl | exact pln_non) ?_
  | refine ⟨_, rfl, ?_⟩
  | refine we_fldC (by assumption) rfl ?_
  | refine we_propC ?_
  | refine we_methC (by assumption) (by decide +kernel) ?_
  | refine we_cls ?_
  | refine we_smethC ?_
  | refine wc_isC (by assumption) (.inl (by first | assumption | exact pln_tup | exact pln_int | exact pln_str | exact pln_lst | exact pln_bl | exact pln_non)) ?_
  | refine wc_isC (by assumption) (.inr ⟨_, rfl⟩) ?_
  | refine ⟨_, _, rfl, rfl, ?_⟩)
local macro_rules | `(tactic| walk_at "d") => `(tactic| with_reducible first
  | refine we_lst ?_
  | refine we_callJ rfl ?_
  | refine lo_nx ?_)
theorem er_map {β : Type} (f : Int → β) : ∀ (l : List Int) (k : Nat), (l.map f).eraseIdx k = (l.eraseIdx k).map f
  | [], _ => rfl
  | _ :: _, 0 => rfl
  | x :: l, k + 1 => congrArg (f x :: ·) (er_map f l k)
theorem er_perm : ∀ (l : List Int) (k : Nat) (h : k < l.length), (l[k] :: l.eraseIdx k).Perm l
  | _ :: _, 0, _ => List.Perm.refl _
  | x :: l, k + 1, h => (List.Perm.swap _ _ _).trans ((er_perm l k (Nat.lt_of_succ_lt_succ h)).cons x)
theorem sgT_perm {n : Nat} {ms : List Int} (h1 : 1 ≤ n) (h2 : n ≤ 64) (hp : (ms.map fun m => (m.natAbs : Int)).Perm ((List.range n).map fun (i : Nat) => (1 : Int) + (i : Int))) : SgT n ms := by
  have hl : ms.length = n := by simpa using hp.length_eq
  have nd : (ms.map fun m => (m.natAbs : Int)).Nodup := hp.nodup_iff.mpr (by
    rw [List.Nodup, List.pairwise_map]
    exact List.nodup_range.imp fun a => by omega)
  have ga : ∀ i, i < n → (ms.map fun m => (m.natAbs : Int))[i]? = some ((at' ms i).natAbs : Int) := fun i hi => by
    simp [at', List.getD_eq_getElem?_getD, hl, hi]
  refine ⟨hl, h1, h2, fun i hi => ?_, fun i j hi hj e => ?_, fun j hj => ?_⟩
  · have := hp.mem_iff.mp (List.mem_of_getElem? (ga i hi))
    obtain ⟨k, hk, e⟩ := List.mem_map.mp this
    have := List.mem_range.mp hk
    omega
  · have a := ga i hi
    have b := ga j hj
    rw [e, ← b] at a
    obtain ⟨hli, _⟩ := List.getElem?_eq_some_iff.mp (ga i hi)
    exact (List.getElem?_inj hli nd).mp a
  · have : ((1 : Int) + (j : Int)) ∈ ms.map fun m => (m.natAbs : Int) := hp.mem_iff.mpr (List.mem_map.mpr ⟨j, List.mem_range.mpr hj, rfl⟩)
    obtain ⟨i, hi⟩ := List.mem_iff_getElem?.mp this
    have hin : i < n := by
      have := (List.getElem?_eq_some_iff.mp hi).1
      simpa [hl] using this
    have := (ga i hin).symm.trans hi
    have := Option.some.inj this
    exact ⟨i, hin, by omega⟩
theorem l__law_marks : ∀ xs Φ, S__law_marks xs Φ → xs.length = 1 := fun _ _ ⟨_, e, _⟩ => by rw [e]; rfl
theorem w__law_marks (W : Wd) (p : Addr) (xs : List D) (Φ : D → Prop) (s : S__law_marks xs Φ) : WS W (T__law_marks W) (frJ 5 p xs) (rtJ p Φ) := by
  obtain ⟨n, rfl, h1, h2, q⟩ := s
  show WS W _ [some (.jg p), some (.d (.int (n : Nat))), none, none, none] _
  unfold T__law_marks
  refine ws_seq ?_
  refine ws_parO (wl_listRg2 ?_)
  repeat walk_at "d"
  refine ⟨by omega, wl_lst (wa_nil ⟨by simp, fun pa pb => ?_⟩)⟩
  repeat walk_at "d"
  refine ws_forN (wi_r1 ?_)
  repeat walk_at "d"
  refine ⟨by omega, by omega, fun i δ => ∃ (ls ms : List Int) (e : Option En), δ = [some (.jg p), some (.d (.int (n : Nat))), some (.own pa (ls.map D.int)), some (.own pb (ms.map D.int)), e] ∧ ms.length = i ∧ (ls ++ ms.map fun m => (m.natAbs : Int)).Perm ((List.range n).map fun (i : Nat) => (1 : Int) + (i : Int)), ⟨(List.range n).map fun (i : Nat) => (1 : Int) + (i : Int), [], none, ?_, rfl, by simp⟩, ?_, ?_⟩
  · rw [rng_ints, show ((n : Int) + 1 - 1).toNat = n by omega]
    rfl
  · rintro i z δ2 hx ⟨ls, ms, e, rfl, hm, hp⟩
    have hi : i < n := by
      have := (rng_get hx).1
      omega
    have hl : ls.length + i = n := by
      have := hp.length_eq
      simp only [List.length_append, List.length_map, List.length_range, hm] at this
      exact this
    refine ws_app (p0 := pb) (l0 := ms.map D.int) rfl ?_
    refine we_op ?_
    refine we_popAt (p0 := pa) (l0 := ls.map D.int) rfl ?_
    refine we_callJ rfl (wa_cons (we_lenO rfl ?_))
    repeat walk_at "d"
    refine ⟨rfl, _, rfl, by simp; omega, by simp; omega, fun r r0 r1 => ?_⟩
    rw [List.length_map] at r1
    have hr : r.toNat < ls.length := by omega
    refine ⟨_, r, r.toNat, .int ls[r.toNat], rfl, rfl, r0, by omega, rfl, ?_, ?_⟩
    · rw [List.getElem?_map, List.getElem?_eq_getElem hr]; rfl
    repeat walk_at "d"
    refine ⟨by simp, wa_nil ⟨rfl, _, rfl, by simp, by simp, fun x hx => ?_⟩⟩
    have hs : ∃ s : Int, x = .int s ∧ (s = 1 ∨ s = -1) := by
      simp only [List.mem_cons, List.not_mem_nil, or_false] at hx
      rcases hx with rfl | rfl
      · exact ⟨1, rfl, .inl rfl⟩
      · exact ⟨-1, rfl, .inr rfl⟩
    obtain ⟨s, rfl, hs⟩ := hs
    refine wr_mulI (.inr (by rcases hs with rfl | rfl <;> decide)) ?_
    refine ⟨_, rfl, by simp; omega, lo_nx ⟨ls.eraseIdx r.toNat, ms ++ [ls[r.toNat] * s], some (.d z), ?_, by simp [hm], ?_⟩⟩
    · rw [List.map_append, ← er_map]
      rfl
    · have pos : ((ls[r.toNat] * s).natAbs : Int) = ls[r.toNat] := by
        have := hp.mem_iff.mp (List.mem_append_left _ (List.getElem_mem hr))
        obtain ⟨k, _, e⟩ := List.mem_map.mp this
        rcases hs with rfl | rfl <;> omega
      rw [List.map_append, List.map_cons, pos, List.map_nil, ← List.append_assoc]
      refine List.Perm.trans ?_ hp
      refine (List.perm_append_singleton ..).trans ?_
      rw [← List.cons_append]
      exact (er_perm ls r.toNat hr).append_right _
  · rintro δ2 ⟨ls, ms, e, rfl, hm, hp⟩
    rw [rng_len] at hm
    have hl : ls.length + n = n := by
      have := hp.length_eq
      simp only [List.length_append, List.length_map, List.length_range, hm] at this
      omega
    have : ls = [] := List.length_eq_zero_iff.mp (by omega)
    subst this
    walk_at "d"
    refine ws_ret (we_tupleO rfl ?_)
    repeat walk_at "d"
    exact q ms (sgT_perm h1 h2 hp)
theorem l__law_dense : ∀ xs Φ, S__law_dense xs Φ → xs.length = 1 := fun _ _ ⟨_, _, e, _⟩ => by rw [e]; rfl
theorem w__law_dense (W : Wd) (xs : List D) (Φ : D → Prop) (s : S__law_dense xs Φ) : WS W (T__law_dense W) (frD 4 xs) (rtO Φ) := by
  obtain ⟨n, ms, rfl, h, q⟩ := s
  show WS W _ [some (.d (dMs ms)), none, none, none] _
  unfold T__law_dense
  have h1 := h.lo
  have h2 := h.hi
  have hl := h.ln
  refine ws_seq ?_
  refine ws_setO (wl_lst (wa_nil ⟨by simp, fun p => ?_⟩))
  repeat walk_at "d"
  refine ws_forN (wi_seqT ?_)
  repeat walk_at "d"
  refine ⟨fun i δ => ∃ e2 e3 : Option En, δ = [some (.d (dMs ms)), some (.own p (((ms.take i).map (row n)).map dMs)), e2, e3], ⟨none, none, rfl⟩, ?_, ?_⟩
  · rintro i x δ2 hx ⟨e2, e3, rfl⟩
    have hi : i < n := by
      have := (List.getElem?_eq_some_iff.mp hx).1
      simpa [hl] using this
    rw [List.getElem?_map, at_get h hi] at hx
    cases hx
    have rg := h.rg i hi
    refine ws_seq ?_
    refine ws_setO (wl_rep ?_)
    repeat walk_at "d"
    refine ⟨by simp, ?_⟩
    repeat walk_at "d"
    rw [List.length_map, hl]
    refine ⟨by omega, by omega, by simp; omega, fun p2 => ?_⟩
    rw [Int.toNat_natCast, rep_flat]
    walk_at "d"
    walk_at "d"
    refine ws_setL (p0 := p2) (l0 := []) ?_
    have vl : WE W (tIf (tTest (tOp (rI0 fun i j => .bl (decide (j < i))) (tVar 2) (tC (.int 0)))) (tC (.int 1)) (tUn (rU fun i => .int (-i)) (tC (.int 1)))) [some (.d (dMs ms)), some (.own p (((ms.take i).map (row n)).map dMs)), some (.d (.int (at' ms i))), some (.own p2 (List.replicate n (.int 0)))] fun y δ1 => y = .int (at' ms i).sign ∧ δ1 = [some (.d (dMs ms)), some (.own p (((ms.take i).map (row n)).map dMs)), some (.d (.int (at' ms i))), some (.own p2 (List.replicate n (.int 0)))] := by
      repeat walk_at "d"
      refine iteB (fun c => ?_) fun c => ?_
      · repeat walk_at "d"
        exact ⟨by rw [Int.sign_eq_one_of_pos c], rfl⟩
      · repeat walk_at "d"
        exact ⟨by rw [Int.sign_eq_neg_one_of_neg (by omega)], rfl⟩
    refine vl.imp fun y δ1 ⟨ey, ed⟩ => ?_
    subst ey ed
    refine ⟨_, rfl, ?_⟩
    repeat walk_at "d"
    rw [abs_if]
    refine ⟨_, _, _, rfl, rfl, ixN_nat (j := (at' ms i).natAbs - 1) (by omega) (by rw [List.length_replicate]; omega), ?_⟩
    walk_at "d"
    refine ws_app (p0 := p) rfl (we_tupleO rfl ⟨_, rfl, by simp; omega, lo_nx ⟨_, _, by
      rw [row_set D.int rg.1 rg.2, List.take_add_one, at_get h hi, List.map_append, List.map_append]
      rfl⟩⟩)
  · rintro δ2 ⟨e2, e3, rfl⟩
    refine ws_fz (i := 1) rfl ?_
    repeat walk_at "d"
    rw [List.length_map, List.take_length] at *
    have e : dns ms = ms.map (row n) := by unfold dns; rw [hl]
    rw [e] at q
    exact q
end K15

namespace K15
open PySem L2 Dt Q
local macro_rules | `(tactic| walk_at "d") => `(tactic| with_reducible first
  | refine ws_seq ?_
  | refine so_nx ?_
  | refine so_rt ?_
  | refine so_bk ?_
  | refine so_ct ?_
  | refine ro_rt ?_
  | refine ro_nx ?_
  | refine rj_rt rfl ?_
  | refine rj_nx rfl ?_
  | refine lo_nx ?_
  | refine lo_ct ?_
  | refine lo_bk ?_
  | refine lo_rt ?_
  | refine ws_if ?_
  | refine ws_ret ?_
  | refine ws_next ?_
  | refine ws_retN ?_
  | refine ws_set ?_
  | refine ws_drop ?_
  | refine ws_par ?_
  | refine we_var rfl ?_
  | refine we_int ?_
  | refine we_bl ?_
  | refine we_str ?_
  | refine we_non ?_
  | refine we_ty ?_
  | refine we_op ?_
  | refine we_un ?_
  | refine we_tup ?_
  | refine we_chain ?_
  | refine we_cb ?_
  | refine wa_nil ?_
  | refine wa_cons ?_
  | refine we_call ?_
  | refine we_andV ?_
  | refine we_orV ?_
  | refine we_notV ?_
  | refine we_if ?_
  | refine we_isN ?_
  | refine we_notN ?_
  | refine we_bits ?_
  | refine wt_B ?_
  | refine wt_test ?_
  | refine wt_tru ?_
  | refine wt_and ?_
  | refine wt_or ?_
  | refine wt_not ?_
  | refine wt_yes ?_
  | refine wr_I0i ?_
  | refine wr_I0b ?_
  | refine wr_addI ?_
  | refine wu_i ?_
  | refine wc_intI ?_
  | refine wc_intB ?_
  | refine wc_abs ?_
  | refine wc_max2 ?_
  | refine wc_min2 ?_
  | refine wc_lenL ?_
  | refine wc_lenT ?_
  | refine wc_lenScr ?_
  | refine wc_tupleL ?_
  | refine wc_isiT (by first | assumption | exact pln_tup | exact pln_int | exact pln_str | exact pln_lst | exact pln_bl | exact pln_non) ?_
  | refine wc_isiI (by first | assumption | exact pln_tup | exact pln_int | exact pln_str | exact pln_lst | exact pln_bl | exact pln_non) ?_
  | refine wc_isiB (by first | assumption | exact pln_tup | exact pln_int | exact pln_str | exact pln_lst | exact pln_bl | exact pln_non) ?_
  | refine wc_isiS (by first | assumption | exact pln_tup | exact pln_int | exact pln_str | exact pln_lst | exact pln_bl | exact pln_non) ?_
  | refine ⟨_, rfl, ?_⟩
  | refine we_fldC (by assumption) rfl ?_
  | refine we_propC ?_
  | refine we_methC (by assumption) (by decide +kernel) ?_
  | refine we_cls ?_
  | refine we_smethC ?_
  | refine wc_isC (by assumption) (.inl (by first | assumption | exact pln_tup | exact pln_int | exact pln_str | exact pln_lst | exact pln_bl | exact pln_non)) ?_
  | refine wc_isC (by assumption) (.inr ⟨_, rfl⟩) ?_
  | refine ⟨_, _, rfl, rfl, ?_⟩)
local macro_rules | `(tactic| walk_at "d") => `(tactic| with_reducible first
  | refine we_lst ?_
  | refine lo_nx ?_)
/-- an entry of a row -/
theorem row_mem {n : Nat} {m a : Int} (h : a ∈ row n m) : -1 ≤ a ∧ a ≤ 1 := by
  obtain ⟨j, _, e⟩ := List.mem_map.mp h
  subst e
  split
  · rcases Int.lt_trichotomy m 0 with c | c | c
    · rw [Int.sign_eq_neg_one_of_neg c]; omega
    · subst c; decide
    · rw [Int.sign_eq_one_of_pos c]; omega
  · omega
theorem dns_get {n : Nat} {x : List Int} (h : SgT n x) {i : Nat} (hi : i < n) : (dns x)[i]? = some (row n (at' x i)) := by
  unfold dns
  rw [List.getElem?_map, at_get h hi, h.ln]
  rfl
theorem dns_len (x : List Int) : (dns x).length = x.length := by simp [dns]
theorem dns_mem {n : Nat} {x : List Int} (h : SgT n x) {w : List Int} (hw : w ∈ dns x) : ∃ m, w = row n m := by
  obtain ⟨m, _, e⟩ := List.mem_map.mp hw
  rw [h.ln] at e
  exact ⟨m, e.symm⟩
def iv : D → Int
  | .int b => b
  | _ => 0
def ent (j : Nat) : D → D
  | .tup [.int a, .tup w] => .int (a * iv (w.getD j .non))
  | _ => .non
theorem ent_map (j : Nat) (r : List Int) (o : List (List Int)) : (zipD (r.map D.int) (o.map dMs)).map (ent j) = ((r.zip o).map fun p => p.1 * at' p.2 j).map D.int := by
  unfold zipD
  rw [List.zip_map, List.map_map, List.map_map, List.map_map]
  refine List.map_congr_left fun p _ => ?_
  show D.int (p.1 * iv ((p.2.map D.int).getD j .non)) = .int (p.1 * at' p.2 j)
  unfold at'
  simp only [List.getD_eq_getElem?_getD, List.getElem?_map]
  cases p.2[j]? <;> rfl
theorem l__law_product : ∀ xs Φ, S__law_product xs Φ → xs.length = 2 := fun _ _ ⟨_, _, _, e, _⟩ => by rw [e]; rfl
theorem w__law_product (W : Wd) (xs : List D) (Φ : D → Prop) (s : S__law_product xs Φ) : WS W (T__law_product W) (frD 8 xs) (rtO Φ) := by
  obtain ⟨n, x, y, rfl, h, k, q⟩ := s
  show WS W _ [some (.d (dRw (dns x))), some (.d (dRw (dns y))), none, none, none, none, none, none] _
  unfold T__law_product
  have h1 := h.lo
  have h2 := h.hi
  refine ws_seq ?_
  refine ws_setO (wl_lst (wa_nil ⟨by simp, fun p => ?_⟩))
  repeat walk_at "d"
  refine ws_forN (wi_seqL ?_)
  repeat walk_at "d"
  refine ⟨fun i δ => ∃ e3 e4 e5 e6 e7 : Option En, δ = [some (.d (dRw (dns x))), some (.d (dRw (dns y))), some (.own p ((((dns x).take i).map fun r => rowMul n r (dns y)).map dMs)), e3, e4, e5, e6, e7], ⟨none, none, none, none, none, rfl⟩, ?_, ?_⟩
  · rintro i z δ2 hx ⟨e3, e4, e5, e6, e7, rfl⟩
    have hi : i < n := by
      have := (List.getElem?_eq_some_iff.mp hx).1
      simpa [dns_len, h.ln] using this
    rw [List.getElem?_map, dns_get h hi] at hx
    cases hx
    obtain ⟨m, hm⟩ : ∃ m, m = at' x i := ⟨_, rfl⟩
    rw [← hm]
    refine ws_seq ?_
    refine ws_setO (wl_lst (wa_nil ⟨by simp, fun p2 => ?_⟩))
    walk_at "d"
    walk_at "d"
    refine ws_forN (wi_r1 ?_)
    repeat walk_at "d"
    refine wr_ixSL (z := dMs (row n (at' y 0))) (by rw [show (0 : Int) = ((0 : Nat) : Int) from rfl, atI_n (by simp [dns_len]; have := k.ln; omega), List.getElem?_map, dns_get k (by omega)]; rfl) ?_
    repeat walk_at "d"
    rw [List.length_map, row_len]
    refine ⟨by omega, by omega, fun j δ => ∃ e5 e6 e7 : Option En, δ = [some (.d (dRw (dns x))), some (.d (dRw (dns y))), some (.own p ((((dns x).take i).map fun r => rowMul n r (dns y)).map dMs)), some (.d (dMs (row n m))), some (.own p2 (((List.range j).map fun j => (((row n m).zip (dns y)).map fun p => p.1 * at' p.2 j).sum).map D.int)), e5, e6, e7], ⟨_, _, _, rfl⟩, ?_, ?_⟩
    · rintro j z δ3 hj ⟨e5, e6, e7, rfl⟩
      obtain ⟨hj, rfl⟩ := rng_get hj
      rw [Int.zero_add]
      refine ws_app (p0 := p2) rfl ?_
      refine we_cb (wa_cons (we_l (wl_map (f := ent j) mem2 (wi_zipM ?_))))
      repeat walk_at "d"
      refine ⟨_, _, rfl, by rw [zipD_len]; simp [row_len]; omega, fun z hz => ?_, ?_⟩
      · unfold zipD at hz
        rw [List.zip_map, List.map_map] at hz
        obtain ⟨⟨a, w⟩, hp, rfl⟩ := List.mem_map.mp hz
        have ha := row_mem (List.of_mem_zip hp).1
        obtain ⟨m', rfl⟩ := dns_mem k (List.of_mem_zip hp).2
        have hw : (row n m')[j]? = some (at' (row n m') j) := by
          rw [at', List.getD_eq_getElem?_getD, List.getElem?_eq_getElem (by rw [row_len]; omega)]
          rfl
        refine wg_2 rfl ⟨frsub_set2, ?_⟩
        repeat walk_at "d"
        refine wr_ixST (z := .int (at' (row n m') j)) (by rw [atI_n (by simp [row_len]; omega), List.getElem?_map, hw]; rfl) ?_
        refine wr_mulI (.inl (by omega)) ⟨rfl, ?_⟩
        show _ = D.int (a * iv (((row n m').map D.int).getD j .non))
        rw [List.getD_eq_getElem?_getD, List.getElem?_map, hw]
        rfl
      · rw [ent_map]
        refine wa_nil (wc_sum ⟨_, rfl, by simp; omega, lo_nx ⟨_, _, _, by
          rw [List.range_succ, List.map_append, List.map_append]
          rfl⟩⟩)
    · rintro δ3 ⟨e5, e6, e7, rfl⟩
      rw [rng_len, Int.toNat_natCast]
      refine ws_app (p0 := p) rfl (we_tupleO rfl ⟨_, rfl, by simp [dns_len]; have := h.ln; omega, lo_nx ⟨_, _, _, _, _, by
        rw [List.take_add_one, dns_get h hi, ← hm, List.map_append, List.map_append]
        rfl⟩⟩)
  · rintro δ2 ⟨e3, e4, e5, e6, e7, rfl⟩
    refine ws_fz (i := 2) rfl ?_
    repeat walk_at "d"
    rw [List.length_map, List.take_length, dns_mul h k]
    exact q
theorem l__law_flat : ∀ xs Φ, S__law_flat xs Φ → xs.length = 1 := fun _ _ ⟨_, _, e, _⟩ => by rw [e]; rfl
theorem w__law_flat (W : Wd) (xs : List D) (Φ : D → Prop) (s : S__law_flat xs Φ) : WS W (T__law_flat W) (frD 3 xs) (rtO Φ) := by
  obtain ⟨n, x, rfl, h, q⟩ := s
  show WS W _ [some (.d (dRw (dns x))), none, none] _
  unfold T__law_flat
  have h1 := h.lo
  have h2 := h.hi
  refine ws_ret (we_l (wl_map (f := fun z => match z with | .int j => dMs ((dns x).map fun w => at' w j.toNat) | _ => .non) mem1 (wi_r1 ?_)))
  repeat walk_at "d"
  refine wr_ixSL (z := dMs (row n (at' x 0))) (by rw [show (0 : Int) = ((0 : Nat) : Int) from rfl, atI_n (by simp [dns_len]; have := h.ln; omega), List.getElem?_map, dns_get h (by omega)]; rfl) ?_
  repeat walk_at "d"
  rw [List.length_map, row_len]
  refine ⟨by omega, by omega, by rw [rng_len]; omega, fun z hz => wg_name ⟨frsub_set, ?_⟩, ?_⟩
  · obtain ⟨j, hj⟩ := List.mem_iff_getElem?.mp hz
    obtain ⟨hj, rfl⟩ := rng_get hj
    rw [Int.zero_add]
    refine we_cb (wa_cons (we_l (wl_map (f := fun z => match z with | .tup w => w.getD j .non | _ => .non) mem1 (wi_seqL ?_))))
    repeat walk_at "d"
    refine ⟨by simp [dns_len]; have := h.ln; omega, fun z hz => wg_name ⟨frsub_set, ?_⟩, ?_⟩
    · obtain ⟨w, hw, rfl⟩ := List.mem_map.mp hz
      obtain ⟨m, rfl⟩ := dns_mem h hw
      have hw : (row n m)[j]? = some (at' (row n m) j) := by
        rw [at', List.getD_eq_getElem?_getD, List.getElem?_eq_getElem (by rw [row_len]; omega)]
        rfl
      repeat walk_at "d"
      refine wr_ixST (z := .int (at' (row n m) j)) (by rw [atI_n (by simp [row_len]; omega), List.getElem?_map, hw]; rfl) ⟨rfl, ?_⟩
      show _ = ((row n m).map D.int).getD j .non
      rw [List.getD_eq_getElem?_getD, List.getElem?_map, hw]
      rfl
    · refine wa_nil (wc_tupleL ⟨rfl, ?_⟩)
      show _ = dMs _
      rw [List.map_map, dMs, List.map_map]
      refine congrArg D.tup (List.map_congr_left fun w hw => ?_)
      obtain ⟨m, rfl⟩ := dns_mem h hw
      show ((row n m).map D.int).getD j .non = .int (at' (row n m) j)
      rw [List.getD_eq_getElem?_getD, List.getElem?_map, at', List.getD_eq_getElem?_getD, List.getElem?_eq_getElem (by rw [row_len]; omega)]
      rfl
  · have e : (rng 0 (n : Int).toNat).map (fun z => match z with | .int j => dMs ((dns x).map fun w => at' w j.toNat) | _ => .non) = (cols n (dns x)).map dMs := by
      unfold rng cols
      rw [List.map_map, List.map_map, Int.toNat_natCast]
      refine List.map_congr_left fun j _ => ?_
      show dMs ((dns x).map fun w => at' w ((0 : Int) + (j : Int)).toNat) = dMs ((dns x).map fun w => at' w j)
      rw [show ((0 : Int) + (j : Int)).toNat = j by omega]
    rw [e]
    exact ro_rt q
end K15

namespace K15
open PySem L2 Dt Q
local macro_rules | `(tactic| walk_at "d") => `(tactic| with_reducible first
  | refine ws_seq ?_
  | refine so_nx ?_
  | refine so_rt ?_
  | refine so_bk ?_
  | refine so_ct ?_
  | refine ro_rt ?_
  | refine ro_nx ?_
  | refine rj_rt rfl ?_
  | refine rj_nx rfl ?_
  | refine lo_nx ?_
  | refine lo_ct ?_
  | refine lo_bk ?_
  | refine lo_rt ?_
  | refine ws_if ?_
  | refine ws_ret ?_
  | refine ws_next ?_
  | refine ws_retN ?_
  | refine ws_set ?_
  | refine ws_drop ?_
  | refine ws_par ?_
  | refine we_var rfl ?_
  | refine we_int ?_
  | refine we_bl ?_
  | refine we_str ?_
  | refine we_non ?_
  | refine we_ty ?_
  | refine we_op ?_
  | refine we_un ?_
  | refine we_tup ?_
  | refine we_chain ?_
  | refine we_cb ?_
  | refine wa_nil ?_
  | refine wa_cons ?_
  | refine we_call ?_
  | refine we_andV ?_
  | refine we_orV ?_
  | refine we_notV ?_
  | refine we_if ?_
  | refine we_isN ?_
  | refine we_notN ?_
  | refine we_bits ?_
  | refine wt_B ?_
  | refine wt_test ?_
  | refine wt_tru ?_
  | refine wt_and ?_
  | refine wt_or ?_
  | refine wt_not ?_
  | refine wt_yes ?_
  | refine wr_I0i ?_
  | refine wr_I0b ?_
  | refine wr_addI ?_
  | refine wu_i ?_
  | refine wc_intI ?_
  | refine wc_intB ?_
  | refine wc_abs ?_
  | refine wc_max2 ?_
  | refine wc_min2 ?_
  | refine wc_lenL ?_
  | refine wc_lenT ?_
  | refine wc_lenScr ?_
  | refine wc_tupleL ?_
  | refine wc_isiT (by first | assumption | exact pln_tup | exact pln_int | exact pln_str | exact pln_lst | exact pln_bl | exact pln_non) ?_
  | refine wc_isiI (by first | assumption | exact pln_tup | exact pln_int | exact pln_str | exact pln_lst | exact pln_bl | exact pln_non) ?_
  | refine wc_isiB (by first | assumption | exact pln_tup | exact pln_int | exact pln_str | exact pln_lst | exact pln_bl | exact pln_non) ?_
  | refine wc_isiS (by first | assumption | exact pln_tup | exact pln_int | exact pln_str | exact pln_lst | exact pln_bl | exact pln_non) ?_
  | refine ⟨_, rfl, ?_⟩
  | refine we_fldC (by assumption) rfl ?_
  | refine we_propC ?_
  | refine we_methC (by assumption) (by decide +kernel) ?_
  | refine we_cls ?_
  | refine we_smethC ?_
  | refine wc_isC (by assumption) (.inl (by first | assumption | exact pln_tup | exact pln_int | exact pln_str | exact pln_lst | exact pln_bl | exact pln_non)) ?_
  | refine wc_isC (by assumption) (.inr ⟨_, rfl⟩) ?_
  | refine ⟨_, _, rfl, rfl, ?_⟩)
local macro_rules | `(tactic| walk_at "d") => `(tactic| with_reducible first
  | refine we_lst ?_)
theorem sh_rw (r : List (List Int)) : D.sh 3 (dRw r) = true := shs_all fun x hx => by
  obtain ⟨w, _, rfl⟩ := List.mem_map.mp hx
  exact sh_tupI w
theorem deq_rw (r : List (List Int)) : deq (dRw r) (dRw r) = true := deq_lst_refl _ fun x hx => by
  obtain ⟨w, _, rfl⟩ := List.mem_map.mp hx
  rw [deq_tupI]
  exact decide_eq_true rfl
theorem deq_bb (b : Bool) : deq (.bl b) (.bl b) = true := by cases b <;> rfl
theorem l__law_is_dense : ∀ xs Φ, S__law_is_dense xs Φ → xs.length = 2 := fun _ _ ⟨_, _, e, _⟩ => by rw [e]; rfl
theorem w__law_is_dense (W : Wd) (hR : CInf W 0 atR) (hS : CInf W 1 atS) (xs : List D) (Φ : D → Prop) (s : S__law_is_dense xs Φ) : WS W (T__law_is_dense W) (frD 6 xs) (rtO Φ) := by
  obtain ⟨n, x, rfl, h, q⟩ := s
  show WS W _ [some (.d (dSg x)), some (.d (dRw (dns x))), none, none, none, none] _
  unfold T__law_is_dense
  have h1 := h.lo
  have h2 := h.hi
  have hl := h.ln
  repeat walk_at "d"
  refine ⟨_, rfl, ?_⟩
  repeat walk_at "d"
  refine wr_neD (n := 1) (m := 1) rfl rfl (by decide) (by decide) ?_
  refine ⟨_, rfl, ?_⟩
  rw [deq_int, List.length_map, dns_len, decide_eq_true rfl]
  refine iteFa rfl ?_
  repeat walk_at "d"
  refine ⟨_, rfl, ?_⟩
  repeat walk_at "d"
  refine ⟨n, x, rfl, h, ?_⟩
  repeat walk_at "d"
  refine wr_neD (n := 3) (m := 3) (sh_rw _) (sh_rw _) (by decide) (by decide) ?_
  refine ⟨_, rfl, ?_⟩
  rw [deq_rw]
  refine iteFa rfl ?_
  walk_at "d"
  walk_at "d"
  walk_at "d"
  refine ws_set (we_l (wl_map (f := fun z => match z with | .int j => .int ((dia x).getD j.toNat 0) | _ => .non) mem1 (wi_r1 ?_)))
  repeat walk_at "d"
  rw [List.length_map, dns_len, hl]
  refine ⟨by omega, by omega, by rw [rng_len]; omega, fun z hz => wg_name ⟨frsub_set, ?_⟩, ?_⟩
  · obtain ⟨j, hj⟩ := List.mem_iff_getElem?.mp hz
    obtain ⟨hj, rfl⟩ := rng_get hj
    rw [Int.zero_add]
    have hj' : j < n := by omega
    repeat walk_at "d"
    refine wr_ixSL (z := dMs (row n (at' x j))) (by rw [atI_n (by simp [dns_len]; omega), List.getElem?_map, dns_get h hj']; rfl) ?_
    repeat walk_at "d"
    have hw : (row n (at' x j))[j]? = some ((dia x).getD j 0) := by
      rw [List.getElem?_eq_getElem (by rw [row_len]; omega)]
      have := row_get (n := n) (j := j) (m := at' x j) hj'
      rw [at', List.getD_eq_getElem?_getD, List.getElem?_eq_getElem (by rw [row_len]; omega)] at this
      rw [Option.getD_some] at this
      rw [this]
      unfold dia
      rw [List.getD_eq_getElem?_getD, List.getElem?_map, List.getElem?_range (by omega)]
      rfl
    refine wr_ixST (z := .int ((dia x).getD j 0)) (by rw [atI_n (by simp [row_len]; omega), List.getElem?_map, hw]; rfl) ⟨rfl, ?_⟩
    rfl
  have ed : (rng 0 (n : Int).toNat).map (fun z => match z with | .int j => D.int ((dia x).getD j.toNat 0) | _ => .non) = (dia x).map D.int := by
    have hd : (dia x).length = n := by simp [dia, hl]
    unfold rng
    rw [List.map_map, Int.toNat_natCast]
    refine List.ext_getElem? fun i => ?_
    by_cases c : i < n
    · rw [List.getElem?_map, List.getElem?_range c, List.getElem?_map, List.getElem?_eq_getElem (by omega)]
      show some (D.int ((dia x).getD ((0 : Int) + (i : Int)).toNat 0)) = _
      rw [show ((0 : Int) + (i : Int)).toNat = i by omega, List.getD_eq_getElem?_getD, List.getElem?_eq_getElem (by omega)]
      rfl
    · rw [List.getElem?_eq_none (by simp; omega), List.getElem?_eq_none (by simp; omega)]
  rw [ed]
  repeat walk_at "d"
  refine ⟨n, x, rfl, h, ?_⟩
  repeat walk_at "d"
  refine wc_sum ?_
  refine wr_neD (n := 1) (m := 1) rfl rfl (by decide) (by decide) ?_
  refine ⟨_, rfl, ?_⟩
  rw [deq_int, decide_eq_true rfl]
  refine iteFa rfl ?_
  repeat walk_at "d"
  refine ⟨n, x, rfl, h, ?_⟩
  refine we_op (we_var rfl (we_l (wl_rep ?_)))
  repeat walk_at "d"
  refine ⟨by simp, ?_⟩
  repeat walk_at "d"
  rw [List.length_map, dns_len, hl]
  refine ⟨by omega, by omega, by simp; omega, ?_⟩
  rw [Int.toNat_natCast, rep_flat]
  refine wr_eqD (n := 2) (m := 2) (sh_lstI _) (by rw [show List.replicate n (D.int 1) = (List.replicate n 1).map D.int by simp]; exact sh_lstI _) (by decide) (by decide) ?_
  refine wr_neD (n := 1) (m := 1) rfl rfl (by decide) (by decide) ?_
  refine ⟨_, rfl, ?_⟩
  rw [show List.replicate n (D.int 1) = (List.replicate n 1).map D.int by simp, deq_lstI, dia_idl h, deq_bb]
  refine iteFa rfl ?_
  repeat walk_at "d"
  rw [List.length_map, dns_len, hl]
  refine iteB (fun c => ?_) fun c => ?_
  · repeat walk_at "d"
    exact q
  walk_at "d"
  walk_at "d"
  refine ws_ret (we_op (we_methC hS (by decide +kernel) (we_var rfl ⟨_, rfl, wa_nil ⟨n, x, rfl, h, by omega, ?_⟩⟩)))
  refine we_cb (wa_cons (we_l (wl_map (f := fun z => match z with | .tup w => .tup (w.map fun e => .ins 0 [e, .int 1]) | _ => .non) mem1 (wi_seqL ?_))))
  repeat walk_at "d"
  refine ⟨by simp [dns_len]; omega, fun z hz => wg_name ⟨frsub_set, ?_⟩, ?_⟩
  · obtain ⟨w, hw, rfl⟩ := List.mem_map.mp hz
    obtain ⟨m, rfl⟩ := dns_mem h hw
    refine we_cb (wa_cons (we_l (wl_map (f := fun e => .ins 0 [e, .int 1]) mem1 (wi_seqT ?_))))
    repeat walk_at "d"
    refine ⟨by simp [row_len]; omega, fun z hz => wg_name ⟨frsub_set, ?_⟩, ?_⟩
    · obtain ⟨a, ha, rfl⟩ := List.mem_map.mp hz
      have ha := row_mem ha
      refine we_rat hR ?_
      repeat walk_at "d"
      exact ⟨by unfold TL; omega, by unfold TL; omega, rfl, rfl⟩
    · exact wa_nil (wc_tupleL ⟨rfl, rfl⟩)
  · refine wa_nil (wc_tupleL (wr_eqN ?_ (ro_rt q)))
    have e : dTab (dns x) = .tup (((dns x).map dMs).map fun z => match z with | .tup w => D.tup (w.map fun e => .ins 0 [e, .int 1]) | _ => .non) := by
      unfold dTab
      rw [List.map_map]
      refine congrArg D.tup (List.map_congr_left fun w _ => ?_)
      show _ = D.tup ((w.map D.int).map fun e => .ins 0 [e, .int 1])
      rw [List.map_map]
      rfl
    rw [← e]
    refine .tup rfl fun i a b ha hb => ?_
    rw [ha] at hb
    cases hb
    obtain ⟨w, _, rfl⟩ := List.mem_map.mp (List.mem_of_getElem? ha)
    refine .tup rfl fun i a b ha hb => ?_
    rw [ha] at hb
    cases hb
    obtain ⟨a, _, rfl⟩ := List.mem_map.mp (List.mem_of_getElem? ha)
    exact .ins ⟨a, 1, a, 1, rfl, by simp⟩
end K15

namespace K15
open PySem L2 Dt Q
local macro_rules | `(tactic| walk_at "d") => `(tactic| with_reducible first
  | refine ws_seq ?_
  | refine so_nx ?_
  | refine so_rt ?_
  | refine so_bk ?_
  | refine so_ct ?_
  | refine ro_rt ?_
  | refine ro_nx ?_
  | refine rj_rt rfl ?_
  | refine rj_nx rfl ?_
  | refine lo_nx ?_
  | refine lo_ct ?_
  | refine lo_bk ?_
  | refine lo_rt ?_
  | refine ws_if ?_
  | refine ws_ret ?_
  | refine ws_next ?_
  | refine ws_retN ?_
  | refine ws_set ?_
  | refine ws_drop ?_
  | refine ws_par ?_
  | refine we_var rfl ?_
  | refine we_int ?_
  | refine we_bl ?_
  | refine we_str ?_
  | refine we_non ?_
  | refine we_ty ?_
  | refine we_op ?_
  | refine we_un ?_
  | refine we_tup ?_
  | refine we_chain ?_
  | refine we_cb ?_
  | refine wa_nil ?_
  | refine wa_cons ?_
  | refine we_call ?_
  | refine we_andV ?_
  | refine we_orV ?_
  | refine we_notV ?_
  | refine we_if ?_
  | refine we_isN ?_
  | refine we_notN ?_
  | refine we_bits ?_
  | refine wt_B ?_
  | refine wt_test ?_
  | refine wt_tru ?_
  | refine wt_and ?_
  | refine wt_or ?_
  | refine wt_not ?_
  | refine wt_yes ?_
  | refine wr_I0i ?_
  | refine wr_I0b ?_
  | refine wr_addI ?_
  | refine wu_i ?_
  | refine wc_intI ?_
  | refine wc_intB ?_
  | refine wc_abs ?_
  | refine wc_max2 ?_
  | refine wc_min2 ?_
  | refine wc_lenL ?_
  | refine wc_lenT ?_
  | refine wc_lenScr ?_
  | refine wc_tupleL ?_
  | refine wc_isiT (by first | assumption | exact pln_tup | exact pln_int | exact pln_str | exact pln_lst | exact pln_bl | exact pln_non) ?_
  | refine wc_isiI (by first | assumption | exact pln_tup | exact pln_int | exact pln_str | exact pln_lst | exact pln_bl | exact pln_non) ?_
  | refine wc_isiB (by first | assumption | exact pln_tup | exact pln_int | exact pln_str | exact pln_lst | exact pln_bl | exact pln_non) ?_
  | refine wc_isiS (by first | assumption | exact pln_tup | exact pln_int | exact pln_str | exact pln_lst | exact pln_bl | exact pln_non) ?_
  | refine ⟨_, rfl, ?_⟩
  | refine we_fldC (by assumption) rfl ?_
  | refine we_propC ?_
  | refine we_methC (by assumption) (by decide +kernel) ?_
  | refine we_cls ?_
  | refine we_smethC ?_
  | refine wc_isC (by assumption) (.inl (by first | assumption | exact pln_tup | exact pln_int | exact pln_str | exact pln_lst | exact pln_bl | exact pln_non)) ?_
  | refine wc_isC (by assumption) (.inr ⟨_, rfl⟩) ?_
  | refine ⟨_, _, rfl, rfl, ?_⟩)
local macro_rules | `(tactic| walk_at "d") => `(tactic| with_reducible first
  | refine we_lst ?_
  | refine we_callJ rfl ?_)
theorem wr_ne_sg {W : Wd} {δ : Fr} {Φ : D → Fr → Prop} (hS : CInf W 1 atS) {x y : List Int} (e : x = y) (p : Φ (.bl false) δ) : WR W (rNeC W 1 S_SignTable___eq__) (dSg x) (dSg y) δ Φ :=
  wr_neC hS (.inr ⟨_, rfl⟩) (.inl ⟨x, y, rfl, true, by rw [decide_eq_true e], p⟩)
theorem wr_mul_sg {W : Wd} {δ : Fr} {Φ : D → Fr → Prop} {n : Nat} {x y : List Int} (hx : SgT n x) (hy : SgT n y) (p : Φ (dSg (mul x y)) δ) : WR W (rBinC W 1 S_SignTable___mul__) (dSg x) (dSg y) δ Φ :=
  wr_binC ⟨n, x, y, rfl, hx, hy, p⟩
def ngI : D → D
  | .int i => .int (-i)
  | _ => .non
def ngR : D → D
  | .tup w => .tup (w.map ngI)
  | _ => .non
theorem ng_map (a : List Int) : ((dns a).map dMs).map ngR = (dns (ngt a)).map dMs := by
  rw [← dns_ngt, List.map_map, List.map_map]
  refine List.map_congr_left fun w _ => ?_
  show D.tup ((w.map D.int).map ngI) = D.tup ((w.map fun e => -e).map D.int)
  rw [List.map_map, List.map_map]
  rfl
abbrev fr5 (p : Addr) (n : Nat) (a b c : List Int) (e : Option En) : Fr := [some (.jg p), some (.d (.int (n : Nat))), some (.d (.lst [dMs a, dMs b, dMs c])), none, some (.d (dSg a)), some (.d (dSg b)), some (.d (dSg c)), none, some (.d (dRw (dns a))), some (.d (dRw (dns b))), none, none, e]
theorem r1 (W : Wd) (hR : CInf W 0 atR) (hS : CInf W 1 atS) (p : Addr) (n : Nat) (a b c : List Int) (h1 : 1 ≤ n) (h2 : n ≤ 20) (ha : SgT n a) (hb : SgT n b) (hc : SgT n c) : WS W (tIfS (tOr (tNot (tTru W.K (tCall (pSp W S__law_is_dense) [] C8.E0 (tCons (tVar 4) (tCons (tVar 8) tNil))))) (tNot (tTru W.K (tCall (pSp W S__law_is_dense) [] C8.E0 (tCons (tOp (rBinC W 1 S_SignTable___mul__) (tVar 4) (tVar 5)) (tCons (tCall (pSp W S__law_product) [] C8.E0 (tCons (tVar 8) (tCons (tVar 9) tNil))) tNil)))))) (tRet (tC (.bl false))) tNext) (fr5 p n a b c none) fun o => o = .nx (fr5 p n a b c none) := by
  repeat walk_at "d"
  refine ⟨n, a, rfl, ha, ?_⟩
  repeat walk_at "d"
  refine iteFa rfl ?_
  repeat walk_at "d"
  refine wr_mul_sg ha hb ?_
  repeat walk_at "d"
  refine ⟨n, a, b, rfl, ha, hb, ?_⟩
  repeat walk_at "d"
  refine ⟨n, _, rfl, ha.mul hb, ?_⟩
  repeat walk_at "d"
  refine iteFa rfl ?_
  repeat walk_at "d"
  rfl
theorem r2 (W : Wd) (hR : CInf W 0 atR) (hS : CInf W 1 atS) (p : Addr) (n : Nat) (a b c : List Int) (h1 : 1 ≤ n) (h2 : n ≤ 20) (ha : SgT n a) (hb : SgT n b) (hc : SgT n c) : WS W (tIfS (tOr (tNot (tTru W.K (tCall (pSp W S__law_is_dense) [] C8.E0 (tCons (tMethC W 1 "turned" S_SignTable_turned (tVar 4) tNil) (tCons (tCall (pSp W S__law_flat) [] C8.E0 (tCons (tVar 8) tNil)) tNil))))) (tNot (tTru W.K (tCall (pSp W S__law_is_dense) [] C8.E0 (tCons (tOp (rBinC W 1 S_SignTable___mul__) (tVar 5) (tVar 4)) (tCons (tCall (pSp W S__law_product) [] C8.E0 (tCons (tVar 9) (tCons (tVar 8) tNil))) tNil)))))) (tRet (tC (.bl false))) tNext) (fr5 p n a b c none) fun o => o = .nx (fr5 p n a b c none) := by
  repeat walk_at "d"
  refine ⟨n, a, rfl, ha, fun ta hta => ?_⟩
  have hta' := Trn.sg ha hta
  repeat walk_at "d"
  refine ⟨n, a, rfl, ha, ?_⟩
  rw [dns_trn ha hta]
  repeat walk_at "d"
  refine ⟨n, ta, rfl, hta', ?_⟩
  repeat walk_at "d"
  refine iteFa rfl ?_
  repeat walk_at "d"
  refine wr_mul_sg hb ha ?_
  repeat walk_at "d"
  refine ⟨n, b, a, rfl, hb, ha, ?_⟩
  repeat walk_at "d"
  refine ⟨n, _, rfl, hb.mul ha, ?_⟩
  repeat walk_at "d"
  refine iteFa rfl ?_
  repeat walk_at "d"
  rfl
theorem r3 (W : Wd) (hR : CInf W 0 atR) (hS : CInf W 1 atS) (p : Addr) (n : Nat) (a b c : List Int) (h1 : 1 ≤ n) (h2 : n ≤ 20) (ha : SgT n a) (hb : SgT n b) (hc : SgT n c) : WS W (tIfS (tOr (tNot (tTru W.K (tCall (pSp W S__law_is_dense) [] C8.E0 (tCons (tUn (rNegC W 1 S_SignTable___neg__) (tVar 4)) (tCons (tLc (iSeq W.K (tVar 8)) (gName 11) tYes (tCB (rTupleOf W.K) (tCons (tLc (iSeq W.K (tVar 11)) (gName 10) tYes (tUn (rU fun i => .int (-i)) (tVar 10)) [10]) tNil)) [11]) tNil))))) (tTest (tOp (rNeC W 1 S_SignTable___eq__) (tUn (rNegC W 1 S_SignTable___neg__) (tUn (rNegC W 1 S_SignTable___neg__) (tVar 4))) (tVar 4)))) (tRet (tC (.bl false))) tNext) (fr5 p n a b c none) fun o => o = .nx (fr5 p n a b c none) := by
  repeat walk_at "d"
  refine wu_negC ⟨n, a, rfl, ha, ?_⟩
  refine wa_cons (we_l (wl_map (f := ngR) mem1 (wi_seqL ?_)))
  repeat walk_at "d"
  refine ⟨by simp [dns_len]; have := ha.ln; omega, fun z hz => wg_name ⟨frsub_set, ?_⟩, ?_⟩
  · obtain ⟨w, hw, rfl⟩ := List.mem_map.mp hz
    obtain ⟨m, rfl⟩ := dns_mem ha hw
    refine we_cb (wa_cons (we_l (wl_map (f := ngI) mem1 (wi_seqT ?_))))
    repeat walk_at "d"
    refine ⟨by simp [row_len]; omega, fun z hz => wg_name ⟨frsub_set, ?_⟩, ?_⟩
    · obtain ⟨e, he, rfl⟩ := List.mem_map.mp hz
      repeat walk_at "d"
      exact ⟨rfl, rfl⟩
    · exact wa_nil (wc_tupleL ⟨rfl, rfl⟩)
  rw [ng_map]
  repeat walk_at "d"
  refine ⟨n, _, rfl, ha.ngt, ?_⟩
  repeat walk_at "d"
  refine iteFa rfl ?_
  repeat walk_at "d"
  refine wu_negC ⟨n, a, rfl, ha, ?_⟩
  refine wu_negC ⟨n, _, rfl, ha.ngt, ?_⟩
  repeat walk_at "d"
  refine wr_ne_sg hS ngt_ngt ?_
  refine ⟨_, rfl, ?_⟩
  refine iteFa rfl ?_
  repeat walk_at "d"
  rfl
theorem r4 (W : Wd) (hR : CInf W 0 atR) (hS : CInf W 1 atS) (p : Addr) (n : Nat) (a b c : List Int) (h1 : 1 ≤ n) (h2 : n ≤ 20) (ha : SgT n a) (hb : SgT n b) (hc : SgT n c) : WS W (tIfS (tOr (tTest (tOp (rNeC W 1 S_SignTable___eq__) (tOp (rBinC W 1 S_SignTable___mul__) (tVar 4) (tMethC W 1 "turned" S_SignTable_turned (tVar 4) tNil)) (tVar 12))) (tOr (tTest (tOp (rNeC W 1 S_SignTable___eq__) (tOp (rBinC W 1 S_SignTable___mul__) (tMethC W 1 "turned" S_SignTable_turned (tVar 4) tNil) (tVar 4)) (tVar 12))) (tOr (tTest (tOp (rNeC W 1 S_SignTable___eq__) (tOp (rBinC W 1 S_SignTable___mul__) (tVar 12) (tVar 4)) (tVar 4))) (tTest (tOp (rNeC W 1 S_SignTable___eq__) (tOp (rBinC W 1 S_SignTable___mul__) (tVar 4) (tVar 12)) (tVar 4)))))) (tRet (tC (.bl false))) tNext) (fr5 p n a b c (some (.d (dSg (idl n))))) fun o => o = .nx (fr5 p n a b c (some (.d (dSg (idl n))))) := by
  repeat walk_at "d"
  refine ⟨n, a, rfl, ha, fun ta hta => ?_⟩
  have hta' := Trn.sg ha hta
  refine wr_mul_sg ha hta' ?_
  repeat walk_at "d"
  refine wr_ne_sg hS (mul_trn ha hta) ?_
  refine ⟨_, rfl, ?_⟩
  refine iteFa rfl ?_
  repeat walk_at "d"
  refine ⟨n, a, rfl, ha, fun t ht => ?_⟩
  obtain rfl := Trn.uniq ha hta ht
  repeat walk_at "d"
  refine wr_mul_sg hta' ha ?_
  repeat walk_at "d"
  refine wr_ne_sg hS (trn_mul ha hta) ?_
  refine ⟨_, rfl, ?_⟩
  refine iteFa rfl ?_
  have hi : SgT n (idl n) := SgT.idl h1 (by omega)
  repeat walk_at "d"
  refine wr_mul_sg hi ha ?_
  repeat walk_at "d"
  refine wr_ne_sg hS (idl_mul ha) ?_
  refine ⟨_, rfl, ?_⟩
  refine iteFa rfl ?_
  repeat walk_at "d"
  refine wr_mul_sg ha hi ?_
  repeat walk_at "d"
  refine wr_ne_sg hS (mul_idl ha) ?_
  refine ⟨_, rfl, ?_⟩
  refine iteFa rfl ?_
  repeat walk_at "d"
  rfl
theorem r5 (W : Wd) (hR : CInf W 0 atR) (hS : CInf W 1 atS) (p : Addr) (n : Nat) (a b c : List Int) (h1 : 1 ≤ n) (h2 : n ≤ 20) (ha : SgT n a) (hb : SgT n b) (hc : SgT n c) : WS W (tIfS (tOr (tTest (tOp (rNeC W 1 S_SignTable___eq__) (tOp (rBinC W 1 S_SignTable___mul__) (tOp (rBinC W 1 S_SignTable___mul__) (tVar 4) (tVar 5)) (tVar 6)) (tOp (rBinC W 1 S_SignTable___mul__) (tVar 4) (tOp (rBinC W 1 S_SignTable___mul__) (tVar 5) (tVar 6))))) (tTest (tOp (rNeC W 1 S_SignTable___eq__) (tMethC W 1 "turned" S_SignTable_turned (tOp (rBinC W 1 S_SignTable___mul__) (tVar 4) (tVar 5)) tNil) (tOp (rBinC W 1 S_SignTable___mul__) (tMethC W 1 "turned" S_SignTable_turned (tVar 5) tNil) (tMethC W 1 "turned" S_SignTable_turned (tVar 4) tNil))))) (tRet (tC (.bl false))) tNext) (fr5 p n a b c (some (.d (dSg (idl n))))) fun o => o = .nx (fr5 p n a b c (some (.d (dSg (idl n))))) := by
  repeat walk_at "d"
  refine wr_mul_sg ha hb ?_
  repeat walk_at "d"
  refine wr_mul_sg (ha.mul hb) hc ?_
  repeat walk_at "d"
  refine wr_mul_sg hb hc ?_
  refine wr_mul_sg ha (hb.mul hc) ?_
  refine wr_ne_sg hS (mul_assoc' ha hb) ?_
  refine ⟨_, rfl, ?_⟩
  refine iteFa rfl ?_
  repeat walk_at "d"
  refine wr_mul_sg ha hb ?_
  repeat walk_at "d"
  refine ⟨n, _, rfl, ha.mul hb, fun t ht => ?_⟩
  repeat walk_at "d"
  refine ⟨n, b, rfl, hb, fun tb htb => ?_⟩
  have htb' := Trn.sg hb htb
  repeat walk_at "d"
  refine ⟨n, a, rfl, ha, fun ta hta => ?_⟩
  have hta' := Trn.sg ha hta
  refine wr_mul_sg htb' hta' ?_
  refine wr_ne_sg hS (Trn.uniq (ha.mul hb) ht (trn_of_mul ha hb hta htb)) ?_
  refine ⟨_, rfl, ?_⟩
  refine iteFa rfl ?_
  repeat walk_at "d"
  rfl
theorem r6 (W : Wd) (hR : CInf W 0 atR) (hS : CInf W 1 atS) (p : Addr) (n : Nat) (a b c : List Int) (h1 : 1 ≤ n) (h2 : n ≤ 20) (ha : SgT n a) (hb : SgT n b) (hc : SgT n c) : WS W (tIfS (tOr (tTest (tOp (rNeD W.K) (tOp (rEqC W 1 S_SignTable___eq__) (tVar 4) (tVar 5)) (tOp (rEqD W.K) (tOp (L2.rIx W.K) (tVar 2) (tC (.int 0))) (tOp (L2.rIx W.K) (tVar 2) (tC (.int 1)))))) (tOr (tTest (tOp (rNeD W.K) (tPropC W 1 S_SignTable_marks (tVar 4)) (tOp (L2.rIx W.K) (tVar 2) (tC (.int 0))))) (tTest (tOp (rEqC W 1 S_SignTable___eq__) (tVar 4) (tOp (L2.rIx W.K) (tVar 2) (tC (.int 0))))))) (tRet (tC (.bl false))) tNext) (fr5 p n a b c (some (.d (dSg (idl n))))) fun o => o = .nx (fr5 p n a b c (some (.d (dSg (idl n))))) := by
  repeat walk_at "d"
  refine wr_eqC hS (.inr ⟨_, rfl⟩) (.inl ⟨a, b, rfl, ?_⟩)
  repeat walk_at "d"
  refine wr_ixSL (z := dMs a) rfl ?_
  repeat walk_at "d"
  refine wr_ixSL (z := dMs b) rfl ?_
  refine wr_eqD (n := 2) (m := 2) (sh_tupI _) (sh_tupI _) (by decide) (by decide) ?_
  rw [deq_tupI]
  refine wr_neD (n := 1) (m := 1) rfl rfl (by decide) (by decide) ?_
  refine ⟨_, rfl, ?_⟩
  rw [deq_bb]
  refine iteFa rfl ?_
  repeat walk_at "d"
  refine ⟨a, rfl, ?_⟩
  repeat walk_at "d"
  refine wr_ixSL (z := dMs a) rfl ?_
  refine wr_neD (n := 2) (m := 2) (sh_tupI _) (sh_tupI _) (by decide) (by decide) ?_
  refine ⟨_, rfl, ?_⟩
  rw [deq_tupI, decide_eq_true rfl]
  refine iteFa rfl ?_
  repeat walk_at "d"
  refine wr_ixSL (z := dMs a) rfl ?_
  refine wr_eqC hS (.inl pln_tup) (.inr ⟨a, dMs a, rfl, pln_tup, ?_⟩)
  refine ⟨_, rfl, ?_⟩
  refine iteFa rfl ?_
  repeat walk_at "d"
  rfl
theorem l__law_right : ∀ xs Φ, S__law_right xs Φ → xs.length = 0 := fun _ _ ⟨e, _⟩ => by rw [e]; rfl
theorem w__law_right (W : Wd) (hR : CInf W 0 atR) (hS : CInf W 1 atS) (p : Addr) (xs : List D) (Φ : D → Prop) (s : S__law_right xs Φ) : WS W (T__law_right W) (frJ 13 p xs) (rtJ p Φ) := by
  obtain ⟨rfl, q⟩ := s
  show WS W _ [some (.jg p), none, none, none, none, none, none, none, none, none, none, none, none] _
  unfold T__law_right
  repeat walk_at "d"
  refine ⟨by simp, wa_nil ⟨rfl, _, rfl, by simp, by simp, fun z hz => ?_⟩⟩
  have hn : ∃ n : Nat, z = .int n ∧ 1 ≤ n ∧ n ≤ 20 := by
    simp only [List.mem_cons, List.not_mem_nil, or_false] at hz
    rcases hz with rfl | rfl | rfl | rfl | rfl | rfl | rfl | rfl | rfl
    · exact ⟨1, rfl, by decide, by decide⟩
    · exact ⟨2, rfl, by decide, by decide⟩
    · exact ⟨2, rfl, by decide, by decide⟩
    · exact ⟨3, rfl, by decide, by decide⟩
    · exact ⟨4, rfl, by decide, by decide⟩
    · exact ⟨6, rfl, by decide, by decide⟩
    · exact ⟨8, rfl, by decide, by decide⟩
    · exact ⟨12, rfl, by decide, by decide⟩
    · exact ⟨20, rfl, by decide, by decide⟩
  obtain ⟨n, rfl, h1, h2⟩ := hn
  clear hz
  walk_at "d"
  walk_at "d"
  refine ws_set (we_l (wl_inv mem1 (wi_r1 ?_)))
  repeat walk_at "d"
  refine ⟨by decide, by decide, by decide, fun i acc => ∃ L : List (List Int), acc = L.map dMs ∧ L.length = i ∧ ∀ m ∈ L, SgT n m, ⟨[], rfl, rfl, fun m hm => absurd hm (by simp)⟩, ?_, ?_⟩
  · rintro i x acc hx ⟨L, rfl, hl, hm⟩ _
    refine wg_name ⟨frsub_set, wt_yes ⟨rfl, ?_⟩⟩
    rw [if_pos rfl]
    repeat walk_at "d"
    refine ⟨rfl, n, rfl, h1, by omega, fun ms hms => ⟨rfl, L ++ [ms], by rw [List.map_append]; rfl, by simp [hl], fun m hmm => ?_⟩⟩
    rcases List.mem_append.mp hmm with z | z
    · exact hm m z
    · cases List.mem_singleton.mp z; exact hms
  · rintro acc ⟨L, rfl, hl, hm⟩ _
    rw [show (rng 0 (3 : Int).toNat).length = 3 from rfl] at hl
    match L, hl, hm with
    | [a, b, c], _, hm =>
    have ha := hm a (by simp)
    have hb := hm b (by simp)
    have hc := hm c (by simp)
    walk_at "d"
    walk_at "d"
    refine ws_asg (js := [4, 5, 6]) (we_l (wl_map (f := fun z => .ins 1 [z]) mem1 (wi_seqL ?_)))
    repeat walk_at "d"
    refine ⟨by simp, fun z hz => wg_name ⟨frsub_set, ?_⟩, ?_⟩
    · obtain ⟨m, hmm, rfl⟩ := List.mem_map.mp hz
      refine we_sgn hS ?_
      repeat walk_at "d"
      exact ⟨n, m, rfl, hm m hmm, rfl, rfl⟩
    refine wg_3L rfl ?_
    repeat walk_at "d"
    refine wr_ixSL (z := dMs a) rfl ?_
    repeat walk_at "d"
    refine ⟨n, a, rfl, ha, ?_⟩
    repeat walk_at "d"
    refine wr_ixSL (z := dMs b) rfl ?_
    repeat walk_at "d"
    refine ⟨n, b, rfl, hb, ?_⟩
    repeat walk_at "d"
    refine ⟨_, _, rfl, ?_⟩
    refine so_nx ?_
    show WS W _ (fr5 p n a b c none) _
    refine ws_seq ((r1 W hR hS p n a b c h1 h2 ha hb hc).imp fun o e => ?_)
    subst e
    refine so_nx ?_
    refine ws_seq ((r2 W hR hS p n a b c h1 h2 ha hb hc).imp fun o e => ?_)
    subst e
    refine so_nx ?_
    refine ws_seq ((r3 W hR hS p n a b c h1 h2 ha hb hc).imp fun o e => ?_)
    subst e
    refine so_nx ?_
    repeat walk_at "d"
    refine ⟨n, rfl, h1, by omega, so_nx ?_⟩
    show WS W _ (fr5 p n a b c (some (.d (dSg (idl n))))) _
    refine ws_seq ((r4 W hR hS p n a b c h1 h2 ha hb hc).imp fun o e => ?_)
    subst e
    refine so_nx ?_
    refine ws_seq ((r5 W hR hS p n a b c h1 h2 ha hb hc).imp fun o e => ?_)
    subst e
    refine so_nx ?_
    refine ws_seq ((r6 W hR hS p n a b c h1 h2 ha hb hc).imp fun o e => ?_)
    subst e
    refine so_nx ?_
    repeat walk_at "d"
    refine ⟨n, a, rfl, ha, fun ta hta => ?_⟩
    have hta' := Trn.sg ha hta
    repeat walk_at "d"
    refine ⟨n, ta, rfl, hta', fun t2 ht2 => ?_⟩
    obtain rfl := Trn.uniq hta' (trn_trn ha hta) ht2
    repeat walk_at "d"
    refine wr_eqC hS (.inr ⟨_, rfl⟩) (.inl ⟨a, a, rfl, ?_⟩)
    rw [decide_eq_true rfl]
    repeat walk_at "d"
    exact q
end K15

namespace K15
open PySem L2 Dt Q
local macro_rules | `(tactic| walk_at "d") => `(tactic| with_reducible first
  | refine ws_seq ?_
  | refine so_nx ?_
  | refine so_rt ?_
  | refine so_bk ?_
  | refine so_ct ?_
  | refine ro_rt ?_
  | refine ro_nx ?_
  | refine rj_rt rfl ?_
  | refine rj_nx rfl ?_
  | refine lo_nx ?_
  | refine lo_ct ?_
  | refine lo_bk ?_
  | refine lo_rt ?_
  | refine ws_if ?_
  | refine ws_ret ?_
  | refine ws_next ?_
  | refine ws_retN ?_
  | refine ws_set ?_
  | refine ws_drop ?_
  | refine ws_par ?_
  | refine we_var rfl ?_
  | refine we_int ?_
  | refine we_bl ?_
  | refine we_str ?_
  | refine we_non ?_
  | refine we_ty ?_
  | refine we_op ?_
  | refine we_un ?_
  | refine we_tup ?_
  | refine we_chain ?_
  | refine we_cb ?_
  | refine wa_nil ?_
  | refine wa_cons ?_
  | refine we_call ?_
  | refine we_andV ?_
  | refine we_orV ?_
  | refine we_notV ?_
  | refine we_if ?_
  | refine we_isN ?_
  | refine we_notN ?_
  | refine we_bits ?_
  | refine wt_B ?_
  | refine wt_test ?_
  | refine wt_tru ?_
  | refine wt_and ?_
  | refine wt_or ?_
  | refine wt_not ?_
  | refine wt_yes ?_
  | refine wr_I0i ?_
  | refine wr_I0b ?_
  | refine wr_addI ?_
  | refine wu_i ?_
  | refine wc_intI ?_
  | refine wc_intB ?_
  | refine wc_abs ?_
  | refine wc_max2 ?_
  | refine wc_min2 ?_
  | refine wc_lenL ?_
  | refine wc_lenT ?_
  | refine wc_lenScr ?_
  | refine wc_tupleL ?_
  | refine wc_isiT (by first | assumption | exact pln_tup | exact pln_int | exact pln_str | exact pln_lst | exact pln_bl | exact pln_non) ?_
  | refine wc_isiI (by first | assumption | exact pln_tup | exact pln_int | exact pln_str | exact pln_lst | exact pln_bl | exact pln_non) ?_
  | refine wc_isiB (by first | assumption | exact pln_tup | exact pln_int | exact pln_str | exact pln_lst | exact pln_bl | exact pln_non) ?_
  | refine wc_isiS (by first | assumption | exact pln_tup | exact pln_int | exact pln_str | exact pln_lst | exact pln_bl | exact pln_non) ?_
  | refine ⟨_, rfl, ?_⟩
  | refine we_fldC (by assumption) rfl ?_
  | refine we_propC ?_
  | refine we_methC (by assumption) (by decide +kernel) ?_
  | refine we_cls ?_
  | refine we_smethC ?_
  | refine wc_isC (by assumption) (.inl (by first | assumption | exact pln_tup | exact pln_int | exact pln_str | exact pln_lst | exact pln_bl | exact pln_non)) ?_
  | refine wc_isC (by assumption) (.inr ⟨_, rfl⟩) ?_
  | refine ⟨_, _, rfl, rfl, ?_⟩)
local macro_rules | `(tactic| walk_at "d") => `(tactic| with_reducible first
  | refine we_lst ?_
  | refine lo_nx ?_
  | refine we_callJ rfl ?_)
theorem tr64 : (dia (idl 64)).sum = 64 := by decide +kernel
theorem l_law : ∀ xs Φ, S_law xs Φ → xs.length = 1 := fun _ _ ⟨_, e, _⟩ => by rw [e]; rfl
theorem w_law (W : Wd) (hR : CInf W 0 atR) (hS : CInf W 1 atS) (xs : List D) (Φ : D → Prop) (s : S_law xs Φ) : WS W (T_law W) (frD 7 xs) (rtO Φ) := by
  obtain ⟨ns, rfl, h63, q⟩ := s
  show WS W _ [some (.d (.scr ns)), none, none, none, none, none, none] _
  unfold T_law
  walk_at "d"
  refine ws_forN (wi_r1 ?_)
  repeat walk_at "d"
  refine ⟨by omega, by omega, fun i δ => ∃ e1 e2 e3 : Option En, δ = [some (.d (.scr ns)), e1, e2, e3, none, none, none], ⟨none, none, none, rfl⟩, ?_, ?_⟩
  · rintro i x δ2 hx ⟨e1, e2, e3, rfl⟩
    obtain ⟨hi, rfl⟩ := rng_get hx
    rw [Int.zero_add]
    refine ws_seq ?_
    refine ws_setJ ?_
    repeat walk_at "d"
    refine ⟨⟨ns, i, rfl, by omega, by omega, h63⟩, fun p => ?_⟩
    repeat walk_at "d"
    refine ⟨rfl, rfl, ?_⟩
    repeat walk_at "d"
    refine iteFa rfl ?_
    walk_at "d"
    walk_at "d"
    walk_at "d"
    refine ws_set (we_sgn hS ?_)
    repeat walk_at "d"
    refine ⟨rfl, 64, rfl, by decide, by decide, fun ms hm => ?_⟩
    refine ⟨64, ms, rfl, hm, ?_⟩
    repeat walk_at "d"
    refine ⟨64, ms, rfl, hm, fun ts ht => ?_⟩
    have hts := Trn.sg hm ht
    refine wr_mul_sg hm hts ?_
    repeat walk_at "d"
    refine ⟨64, rfl, by decide, by decide, ?_⟩
    refine wr_ne_sg hS (mul_trn hm ht) ?_
    refine ⟨_, rfl, ?_⟩
    refine iteFa rfl ?_
    repeat walk_at "d"
    refine wr_mul_sg hm hm ?_
    refine ⟨_, rfl, ?_⟩
    refine ⟨_, rfl, ?_⟩
    repeat walk_at "d"
    refine wr_neD (n := 1) (m := 1) rfl rfl (by decide) (by decide) ?_
    refine ⟨_, rfl, ?_⟩
    rw [deq_int, List.length_map, len_mul, hm.ln, decide_eq_true (show ((64 : Nat) : Int) = 64 from rfl)]
    refine iteFa rfl ?_
    repeat walk_at "d"
    exact ⟨_, _, _, rfl⟩
  · rintro δ2 ⟨e1, e2, e3, rfl⟩
    have hw : SgT 2 [2, -1] := sgT_perm (by decide) (by decide) (by decide)
    have hd : SgT 2 [-1, 2] := sgT_perm (by decide) (by decide) (by decide)
    repeat walk_at "d"
    refine we_sgn hS ?_
    repeat walk_at "d"
    refine ⟨by simp, 2, [2, -1], rfl, hw, ?_⟩
    repeat walk_at "d"
    refine we_sgn hS ?_
    repeat walk_at "d"
    refine ⟨by simp, 2, [-1, 2], rfl, hd, ?_⟩
    repeat walk_at "d"
    refine ⟨_, _, rfl, ?_⟩
    repeat walk_at "d"
    refine wr_mul_sg hw hw ?_
    refine ⟨_, rfl, ?_⟩
    refine ⟨_, rfl, ?_⟩
    repeat walk_at "d"
    refine wr_mul_sg hw hd ?_
    refine ⟨_, rfl, ?_⟩
    refine ⟨_, rfl, ?_⟩
    repeat walk_at "d"
    refine wr_mul_sg hd hw ?_
    refine ⟨_, rfl, ?_⟩
    refine ⟨_, rfl, ?_⟩
    repeat walk_at "d"
    refine ⟨1, rfl, by decide, by decide, ?_⟩
    refine ⟨_, rfl, ?_⟩
    refine ⟨_, rfl, ?_⟩
    repeat walk_at "d"
    refine ⟨by simp, ?_⟩
    walk_at "d"
    refine ws_ret (we_op (we_l (wl_add (we_var rfl (we_l (wl_lst ?_))))))
    repeat walk_at "d"
    refine ⟨64, rfl, by decide, by decide, ?_⟩
    refine ⟨_, rfl, ?_⟩
    refine ⟨64, _, rfl, SgT.idl (by decide) (by decide), ?_⟩
    rw [tr64]
    refine wa_nil ⟨by simp, _, _, rfl, rfl, by simp, ?_⟩
    repeat walk_at "d"
    refine ⟨by simp, ?_⟩
    repeat walk_at "d"
    refine ⟨by simp, ?_⟩
    repeat walk_at "d"
    refine ⟨by simp, ?_⟩
    repeat walk_at "d"
    refine ⟨by simp, ?_⟩
    repeat walk_at "d"
    refine ⟨by simp, wr_eqD (n := 3) (m := 3) (by decide +kernel) (by decide +kernel) (by decide) (by decide) (ro_rt ?_)⟩
    rw [show deq _ _ = true from by decide +kernel]
    exact q
end K15

namespace K15
open PySem PySem.Spec PyProof.Rows L2 Dt Q
def topS (i : Nat) : Stmt := PySem.Challenge.pw_squaretimes_k15_whole_sign_tables_as_tab.main.body.getD i (.Pass ⟨0, 0, 0, 0⟩)
structure Txt (K : PySem.W.Frag) (w : World) (mg : Str → Option Value) (cl : Nat → Addr × List Str) : Prop where
  isinstance : mg "isinstance" = none
  int : mg "int" = none
  bool : mg "bool" = none
  tuple : mg "tuple" = none
  len : mg "len" = none
  all : mg "all" = none
  sorted : mg "sorted" = none
  abs : mg "abs" = none
  list : mg "list" = none
  range : mg "range" = none
  sum : mg "sum" = none
  enumerate : mg "enumerate" = none
  max : mg "max" = none
  zip : mg "zip" = none
  min : mg "min" = none
  gcd : mg "gcd" = some (.builtin "math.gcd")
  TOO_LONG : ∃ u, mg "TOO_LONG" = some u ∧ RelV (.int 1000000000000000000000000000000000000000000000000000000000000) u
  MAX_SIDE : ∃ u, mg "MAX_SIDE" = some u ∧ RelV (.int 32) u
  MAX_SIZE : ∃ u, mg "MAX_SIZE" = some u ∧ RelV (.int 64) u
  ci_Ratio : CInf ⟨K, cl, w⟩ 0 ["_top", "_bottom"]
  mg_Ratio : ∃ u, mg "Ratio" = some u ∧ RelV (.ref (cl 0).1) u
  ci_SignTable : CInf ⟨K, cl, w⟩ 1 ["_marks"]
  mg_SignTable : ∃ u, mg "SignTable" = some u ∧ RelV (.ref (cl 1).1) u
  sf_SignTable : PySem.W.selfFirst K (cl 1).1 = true
  nc_SignTable : LO.NeC K (cl 1).1
section
variable {P : Program} {w : World} {K : PySem.W.Frag} {mg : Str → Option Value} {base : Heap} {cl : Nat → Addr × List Str}
theorem sc_is_integer : FnScope ["value"] ["value"] (C8.fnScope (topS 12)) := C8.fnScope_by (by decide +kernel)
set_option maxHeartbeats 8000000 in
theorem cal_is_integer {f : Addr} {fd : FuncData} (T : Txt K w mg cl)  (F : C8.Def K mg "is_integer" (topS 12) f fd) (b : Binds K fd ["value"] []) : C8.Cal P w K mg base 1 "is_integer" (pSp ⟨K, cl, w⟩ S_is_integer) [] := by
  refine C8.cal0 (N := ["value"]) F b .nil sc_is_integer (pSp_len l_is_integer) (fun cdv A outer s H vs Q E hr h => ⟨T_is_integer ⟨K, cl, w⟩, ?_, pure_body (N := ["value"]) (n := 1) (by decide) l_is_integer (fun xs Φ s => w_is_integer ⟨K, cl, w⟩  xs Φ s) h⟩)
  have nd := sc_is_integer.nd
  unfold T_is_integer
  exact (pss_one (ps_ret (pe_and (pe_callB call_isi (by rfl) T.isinstance (by decide +kernel) (pa_cons (pv 0) (pa_cons (pe_bltn (v := .ty "int") (by rfl) T.int (by decide +kernel) rfl) pa_nil))) (pe_one (pe_not (pe_callB call_isi (by rfl) T.isinstance (by decide +kernel) (pa_cons (pv 0) (pa_cons (pe_bltn (v := .ty "bool") (by rfl) T.bool (by decide +kernel) rfl) pa_nil))))))))
theorem sc_is_passed_integer : FnScope ["value"] ["value"] (C8.fnScope (topS 13)) := C8.fnScope_by (by decide +kernel)
set_option maxHeartbeats 8000000 in
theorem cal_is_passed_integer {f : Addr} {fd : FuncData} (T : Txt K w mg cl) (c_is_integer : C8.Cal P w K mg base 1 "is_integer" (pSp ⟨K, cl, w⟩ S_is_integer) []) (F : C8.Def K mg "is_passed_integer" (topS 13) f fd) (b : Binds K fd ["value"] []) : C8.Cal P w K mg base 2 "is_passed_integer" (pSp ⟨K, cl, w⟩ S_is_passed_integer) [] := by
  refine C8.cal0 (N := ["value"]) F b .nil sc_is_passed_integer (pSp_len l_is_passed_integer) (fun cdv A outer s H vs Q E hr h => ⟨T_is_passed_integer ⟨K, cl, w⟩, ?_, pure_body (N := ["value"]) (n := 1) (by decide) l_is_passed_integer (fun xs Φ s => w_is_passed_integer ⟨K, cl, w⟩  xs Φ s) h⟩)
  have nd := sc_is_passed_integer.nd
  unfold T_is_passed_integer
  exact (pss_one (ps_ret (pe_and (C8.pe_c c_is_integer hr (by decide) rfl (pa_cons (pv 0) pa_nil)) (pe_one (pe_chain op_lt op_lt (pe_un un_neg (C8.pe_gc (v := .int 1000000000000000000000000000000000000000000000000000000000000) rfl T.TOO_LONG)) (pv 0) (C8.pe_gc (v := .int 1000000000000000000000000000000000000000000000000000000000000) rfl T.TOO_LONG))))))
theorem sc_check_number : FnScope ["value", "least", "most"] ["value", "least", "most"] (C8.fnScope (topS 14)) := C8.fnScope_by (by decide +kernel)
set_option maxHeartbeats 8000000 in
theorem cal_check_number {f : Addr} {fd : FuncData} (T : Txt K w mg cl) (c_is_integer : C8.Cal P w K mg base 1 "is_integer" (pSp ⟨K, cl, w⟩ S_is_integer) []) (F : C8.Def K mg "check_number" (topS 14) f fd) (b : Binds K fd ["value", "least", "most"] []) : C8.Cal P w K mg base 2 "check_number" (pSp ⟨K, cl, w⟩ S_check_number) [] := by
  refine C8.cal0 (N := ["value", "least", "most"]) F b .nil sc_check_number (pSp_len l_check_number) (fun cdv A outer s H vs Q E hr h => ⟨T_check_number ⟨K, cl, w⟩, ?_, pure_body (N := ["value", "least", "most"]) (n := 3) (by decide) l_check_number (fun xs Φ s => w_check_number ⟨K, cl, w⟩  xs Φ s) h⟩)
  have nd := sc_check_number.nd
  unfold T_check_number
  exact (pss_one (ps_if (pt_not (PW.pt (pw_and (pt_tru (C8.pe_c c_is_integer hr (by decide) rfl (pa_cons (pv 0) pa_nil))) (pw_and1 (pt_chain op_le op_le (pv 1) (pv 0) (pv 2)))))) (pss_one ps_never) pss_nil))
theorem sc_sign_of : FnScope ["number"] ["number"] (C8.fnScope (topS 15)) := C8.fnScope_by (by decide +kernel)
set_option maxHeartbeats 8000000 in
theorem cal_sign_of {f : Addr} {fd : FuncData} (T : Txt K w mg cl)  (F : C8.Def K mg "sign_of" (topS 15) f fd) (b : Binds K fd ["number"] []) : C8.Cal P w K mg base 1 "sign_of" (pSp ⟨K, cl, w⟩ S_sign_of) [] := by
  refine C8.cal0 (N := ["number"]) F b .nil sc_sign_of (pSp_len l_sign_of) (fun cdv A outer s H vs Q E hr h => ⟨T_sign_of ⟨K, cl, w⟩, ?_, pure_body (N := ["number"]) (n := 1) (by decide) l_sign_of (fun xs Φ s => w_sign_of ⟨K, cl, w⟩  xs Φ s) h⟩)
  have nd := sc_sign_of.nd
  unfold T_sign_of
  exact (pss_cons (ps_if (pt_cmpR op_lt (pv 0) pe_int (nomark _)) (pss_one (ps_ret (pe_un un_neg pe_int))) pss_nil)
  (pss_one (ps_ret (pe_ifExp (pt_cmpR op_gt (pv 0) pe_int (nomark _)) pe_int pe_int))))
theorem sc__lowest_terms : FnScope ["top", "bottom", "shared"] ["top", "bottom"] (C8.fnScope (topS 18)) := C8.fnScope_by (by decide +kernel)
set_option maxHeartbeats 8000000 in
theorem cal__lowest_terms {f : Addr} {fd : FuncData} (T : Txt K w mg cl)  (F : C8.Def K mg "_lowest_terms" (topS 18) f fd) (b : Binds K fd ["top", "bottom"] []) : C8.Cal P w K mg base 1 "_lowest_terms" (pSp ⟨K, cl, w⟩ S__lowest_terms) [] := by
  refine C8.cal0 (N := ["top", "bottom", "shared"]) F b .nil sc__lowest_terms (pSp_len l__lowest_terms) (fun cdv A outer s H vs Q E hr h => ⟨T__lowest_terms ⟨K, cl, w⟩, ?_, pure_body (N := ["top", "bottom", "shared"]) (n := 2) (by decide) l__lowest_terms (fun xs Φ s => w__lowest_terms ⟨K, cl, w⟩  xs Φ s) h⟩)
  have nd := sc__lowest_terms.nd
  unfold T__lowest_terms
  exact (pss_cons (ps_set (i := 2) nd rfl (.inl rfl) (L2.pe_callBfun L2.cr_gcd rfl T.gcd (pa_cons (pv 0) (pa_cons (pv 1) pa_nil))))
  (pss_cons (ps_if (pt_cmpR op_lt (pv 1) pe_int (nomark _)) (pss_one (ps_set (i := 2) nd rfl (.inl rfl) (pe_un un_neg (pv 2)))) pss_nil)
  (pss_one (ps_ret (pe_tup (pa_cons (pe_op op_divU (pv 0) (pv 2)) (pa_cons (pe_op op_divU (pv 1) (pv 2)) pa_nil)))))))
theorem sc_Ratio___init__ : FnScope ["self", "top", "bottom", "terms"] ["self", "top", "bottom"] (C8.fnScope (inClass (topS 19) 0)) := C8.fnScope_by (by decide +kernel)
set_option maxHeartbeats 8000000 in
theorem cal_Ratio___init__ {f : Addr} {fd : FuncData} {ds : List Value} {dvs : List V} (T : Txt K w mg cl) (c_is_passed_integer : C8.Cal P w K mg base 2 "is_passed_integer" (pSp ⟨K, cl, w⟩ S_is_passed_integer) []) (c__lowest_terms : C8.Cal P w K mg base 1 "_lowest_terms" (pSp ⟨K, cl, w⟩ S__lowest_terms) []) (M : Mk K (cl 0).1 f) (F : C8.Fun K "__init__" "Ratio.__init__" (inClass (topS 19) 0) f fd) (b : Binds K fd ["self", "top", "bottom"] ds) (dd : Vals dvs ds) : C8.Mak P w K mg base 3 "Ratio" (cl 0).1 (iSp ⟨K, cl, w⟩ 0 S_Ratio___init__) dvs := by
  obtain ⟨_, hmg, rmg⟩ := T.mg_Ratio
  cases rmg
  refine C8.mak0 (N := ["self", "top", "bottom", "terms"]) M hmg F b dd sc_Ratio___init__ (iSp_len l_Ratio___init__) (fun cdv A outer s H vs Q E hr h => ⟨T_Ratio___init__ ⟨K, cl, w⟩, ?_, init_body T.ci_Ratio (x0 := "self") (N := ["top", "bottom", "terms"]) (n := 2) (by decide) l_Ratio___init__ (fun p xs Φ s => w_Ratio___init__ ⟨K, cl, w⟩ T.ci_Ratio p xs Φ s) h⟩)
  have nd := sc_Ratio___init__.nd
  unfold T_Ratio___init__
  exact (pss_cons (ps_if (pt_not (pt_tru (C8.pe_c c_is_passed_integer hr (by decide) rfl (pa_cons (pv 1) pa_nil)))) (pss_one ps_never) pss_nil)
  (pss_cons (ps_if (PW.pt (pw_or (pt_not (pt_tru (C8.pe_c c_is_passed_integer hr (by decide) rfl (pa_cons (pv 2) pa_nil)))) (pw_or1 (pt_cmpR (op_eqD hr.units64) (pv 2) pe_int (nomark _))))) (pss_one ps_never) pss_nil)
  (pss_cons (ps_set (i := 3) nd rfl (.inl rfl) (C8.pe_c c__lowest_terms hr (by decide) rfl (pa_cons (pv 1) (pa_cons (pv 2) pa_nil))))
  (pss_cons (ps_fld (pv 0) (pe_ix ix_seq (pv 3) pe_int (fun _ _ => rfl)) rfl)
  (pss_one (ps_fld (pv 0) (pe_ix ix_seq (pv 3) pe_int (fun _ _ => rfl)) rfl))))))
theorem sc_Ratio___eq__ : FnScope ["self", "other"] ["self", "other"] (C8.fnScope (inClass (topS 19) 11)) := C8.fnScope_by (by decide +kernel)
set_option maxHeartbeats 8000000 in
theorem cal_Ratio___eq__ {f : Addr} {fd : FuncData} (T : Txt K w mg cl) (c_is_integer : C8.Cal P w K mg base 1 "is_integer" (pSp ⟨K, cl, w⟩ S_is_integer) []) (me : Meth K (cl 0).1 "__eq__" f) (F : C8.Fun K "__eq__" "Ratio.__eq__" (inClass (topS 19) 11) f fd) (b : Binds K fd ["self", "other"] []) : C8.Met P w K mg base 2 (cl 0).1 "__eq__" (pSp ⟨K, cl, w⟩ S_Ratio___eq__) [] := by
  refine C8.met0 (N := ["self", "other"]) T.ci_Ratio.cl me F b sc_Ratio___eq__ (pSp_len l_Ratio___eq__) (fun cdv A outer s H vs Q E hr h => ⟨T_Ratio___eq__ ⟨K, cl, w⟩, ?_, pure_body (N := ["self", "other"]) (n := 2) (by decide) l_Ratio___eq__ (fun xs Φ s => w_Ratio___eq__ ⟨K, cl, w⟩ T.ci_Ratio xs Φ s) h⟩)
  have nd := sc_Ratio___eq__.nd
  unfold T_Ratio___eq__
  exact (pss_cons (ps_if (pt_tru (pe_callB call_isi (by rfl) T.isinstance (by decide +kernel) (pa_cons (pv 1) (pa_cons (C8.pe_gc (v := .ref (cl 0).1) rfl T.mg_Ratio) pa_nil)))) (pss_one (ps_ret (pe_and (pe_cmpR (op_eqD hr.units64) (pe_fld (pv 0) rfl) (pe_fld (pv 1) rfl) (nomark _)) (pe_one (pe_cmpR (op_eqD hr.units64) (pe_fld (pv 0) rfl) (pe_fld (pv 1) rfl) (nomark _)))))) pss_nil)
  (pss_one (ps_ret (pe_and (C8.pe_c c_is_integer hr (by decide) rfl (pa_cons (pv 1) pa_nil)) (pe_and (pe_cmpR (op_eqD hr.units64) (pe_fld (pv 0) rfl) pe_int (nomark _)) (pe_one (pe_cmpR (op_eqD hr.units64) (pe_fld (pv 0) rfl) (pv 1) (nomark _))))))))
theorem sc__tell_table : FnScope ["marks", "mark"] ["marks"] (C8.fnScope (topS 27)) := C8.fnScope_by (by decide +kernel)
set_option maxHeartbeats 8000000 in
theorem cal__tell_table {f : Addr} {fd : FuncData} (T : Txt K w mg cl) (c_is_integer : C8.Cal P w K mg base 1 "is_integer" (pSp ⟨K, cl, w⟩ S_is_integer) []) (F : C8.Def K mg "_tell_table" (topS 27) f fd) (b : Binds K fd ["marks"] []) : C8.Cal P w K mg base 2 "_tell_table" (pSp ⟨K, cl, w⟩ S__tell_table) [] := by
  refine C8.cal0 (N := ["marks", "mark"]) F b .nil sc__tell_table (pSp_len l__tell_table) (fun cdv A outer s H vs Q E hr h => ⟨T__tell_table ⟨K, cl, w⟩, ?_, pure_body (N := ["marks", "mark"]) (n := 1) (by decide) l__tell_table (fun xs Φ s => w__tell_table ⟨K, cl, w⟩  xs Φ s) h⟩)
  have nd := sc__tell_table.nd
  unfold T__tell_table
  exact (pss_cons (ps_if (pt_not (PW.pt (pw_and (pt_tru (pe_callB call_isi (by rfl) T.isinstance (by decide +kernel) (pa_cons (pv 0) (pa_cons (pe_bltn (v := .ty "tuple") (by rfl) T.tuple (by decide +kernel) rfl) pa_nil)))) (pw_and1 (pt_chain op_le op_le pe_int (pe_callB cr_len (by rfl) T.len (by decide +kernel) (pa_cons (pv 0) pa_nil)) (C8.pe_gc (v := .int 64) rfl T.MAX_SIZE)))))) (pss_one (ps_ret pe_bl)) pss_nil)
  (pss_cons (ps_if (pt_not (pt_tru (pe_callB (cr_all rfl) (by rfl) T.all (by decide +kernel) (pa_cons (pe_lc (own := [("mark", 1)]) (g := (gName 1)) (tt := tYes) rfl nd (pi_seq (pv 0)) (L2.blkOk_by (own := [("mark", 1)]) (by kernel_rfl)) (fun _ _ _ _ _ => (pg_name (i := 1) nd rfl (.inl rfl))) (fun _ _ _ _ _ => pts_nil) (fun _ _ _ _ _ => (C8.pe_c c_is_integer hr (by decide) rfl (pa_cons (pv 1) pa_nil)))) pa_nil)))) (pss_one (ps_ret pe_bl)) pss_nil)
  (pss_one (ps_ret (pe_cmpR (op_eqD hr.units64) (pe_callB cr_sortedI (by rfl) T.sorted (by decide +kernel) (pa_cons (pe_lc (own := [("mark", 1)]) (g := (gName 1)) (tt := tYes) rfl nd (pi_seq (pv 0)) (L2.blkOk_by (own := [("mark", 1)]) (by kernel_rfl)) (fun _ _ _ _ _ => (pg_name (i := 1) nd rfl (.inl rfl))) (fun _ _ _ _ _ => pts_nil) (fun _ _ _ _ _ => (pe_callB cr_abs (by rfl) T.abs (by decide +kernel) (pa_cons (pv 1) pa_nil)))) pa_nil)) (pe_listRg rfl (by rfl) T.list (prg_2 (by rfl) T.range pe_int (pe_op op_addU (pe_callB cr_len (by rfl) T.len (by decide +kernel) (pa_cons (pv 0) pa_nil)) pe_int))) (nomark _))))))
theorem sc__row_of : FnScope ["mark", "size", "row"] ["mark", "size"] (C8.fnScope (topS 28)) := C8.fnScope_by (by decide +kernel)
set_option maxHeartbeats 8000000 in
theorem cal__row_of {f : Addr} {fd : FuncData} (T : Txt K w mg cl) (c_sign_of : C8.Cal P w K mg base 1 "sign_of" (pSp ⟨K, cl, w⟩ S_sign_of) []) (k_Ratio___init__1 : C8.Mak P w K mg base 3 "Ratio" (cl 0).1 (iSp ⟨K, cl, w⟩ 0 S_Ratio___init__) [.int 1]) (F : C8.Def K mg "_row_of" (topS 28) f fd) (b : Binds K fd ["mark", "size"] []) : C8.Cal P w K mg base 5 "_row_of" (pSp ⟨K, cl, w⟩ S__row_of) [] := by
  refine C8.cal0 (N := ["mark", "size", "row"]) F b .nil sc__row_of (pSp_len l__row_of) (fun cdv A outer s H vs Q E hr h => ⟨T__row_of ⟨K, cl, w⟩, ?_, pure_body (N := ["mark", "size", "row"]) (n := 2) (by decide) l__row_of (fun xs Φ s => w__row_of ⟨K, cl, w⟩ T.ci_Ratio T.ci_SignTable xs Φ s) h⟩)
  have nd := sc__row_of.nd
  unfold T__row_of
  exact (pss_cons (ps_set (i := 2) nd rfl (.inl rfl) (pe_op op_mulU (pe_lst (pa_cons (C8.pe_mk k_Ratio___init__1 hr (by decide) rfl (pa_cons pe_int pa_nil)) pa_nil)) (pv 1)))
  (pss_cons (ps_asg (C8.pe_mk k_Ratio___init__1 hr (by decide) rfl (pa_cons (C8.pe_c c_sign_of hr (by decide) rfl (pa_cons (pv 0) pa_nil)) pa_nil)) (pg_sub (pv 2) (pe_op op_sub (pe_callB cr_abs (by rfl) T.abs (by decide +kernel) (pa_cons (pv 0) pa_nil)) pe_int) set_list))
  (pss_one (ps_ret (pe_callTy cr_tuple (by rfl) T.tuple (by decide +kernel) (pa_cons (pv 2) pa_nil))))))
theorem sc_SignTable___init__ : FnScope ["self", "marks"] ["self", "marks"] (C8.fnScope (inClass (topS 29) 0)) := C8.fnScope_by (by decide +kernel)
set_option maxHeartbeats 8000000 in
theorem cal_SignTable___init__ {f : Addr} {fd : FuncData} {ds : List Value} {dvs : List V} (T : Txt K w mg cl) (c__tell_table : C8.Cal P w K mg base 2 "_tell_table" (pSp ⟨K, cl, w⟩ S__tell_table) []) (M : Mk K (cl 1).1 f) (F : C8.Fun K "__init__" "SignTable.__init__" (inClass (topS 29) 0) f fd) (b : Binds K fd ["self", "marks"] ds) (dd : Vals dvs ds) : C8.Mak P w K mg base 3 "SignTable" (cl 1).1 (iSp ⟨K, cl, w⟩ 1 S_SignTable___init__) dvs := by
  obtain ⟨_, hmg, rmg⟩ := T.mg_SignTable
  cases rmg
  refine C8.mak0 (N := ["self", "marks"]) M hmg F b dd sc_SignTable___init__ (iSp_len l_SignTable___init__) (fun cdv A outer s H vs Q E hr h => ⟨T_SignTable___init__ ⟨K, cl, w⟩, ?_, init_body T.ci_SignTable (x0 := "self") (N := ["marks"]) (n := 1) (by decide) l_SignTable___init__ (fun p xs Φ s => w_SignTable___init__ ⟨K, cl, w⟩ T.ci_Ratio T.ci_SignTable p xs Φ s) h⟩)
  have nd := sc_SignTable___init__.nd
  unfold T_SignTable___init__
  exact (pss_cons (ps_if (pt_not (pt_tru (C8.pe_c c__tell_table hr (by decide) rfl (pa_cons (pv 1) pa_nil)))) (pss_one ps_never) pss_nil)
  (pss_one (ps_fld (pv 0) (pv 1) rfl)))
theorem sc_SignTable_idle : FnScope ["size"] ["size"] (C8.fnScope (inClass (topS 29) 1)) := C8.fnScope_by (by decide +kernel)
set_option maxHeartbeats 8000000 in
theorem cal_SignTable_idle {p f : Addr} {mc : Value} {fd : FuncData} (T : Txt K w mg cl) (c_check_number : C8.Cal P w K mg base 2 "check_number" (pSp ⟨K, cl, w⟩ S_check_number) []) (k_SignTable___init__0 : C8.Mak P w K mg base 3 "SignTable" (cl 1).1 (iSp ⟨K, cl, w⟩ 1 S_SignTable___init__) []) (r : ClX.CRead K (cl 1).1 mc) (at_ : PySem.W.findCls K (.ref (cl 1).1) mc "idle" = some (.get (.builtin "staticmethod.__get__") (.ref p) .none (.ref (cl 1).1))) (rc : ∃ rest, PySem.W.recIn K p "staticmethod" = some (.ref f :: rest)) (kp : PySem.W.keepIn K (.ref f) = true) (F : C8.Fun K "idle" "SignTable.idle" (inClass (topS 29) 1) f fd) (b : Binds K fd ["size"] []) : LO.Stat P w K mg base 5 (cl 1).1 "idle" (pSp ⟨K, cl, w⟩ S_SignTable_idle) := by
  refine LO.sta0 (N := ["size"]) r at_ rc kp F b sc_SignTable_idle (pSp_len l_SignTable_idle) (fun cdv A outer s H vs Q E hr h => ⟨T_SignTable_idle ⟨K, cl, w⟩, ?_, pure_body (N := ["size"]) (n := 1) (by decide) l_SignTable_idle (fun xs Φ s => w_SignTable_idle ⟨K, cl, w⟩ T.ci_Ratio T.ci_SignTable xs Φ s) h⟩)
  have nd := sc_SignTable_idle.nd
  unfold T_SignTable_idle
  exact (pss_cons (ps_expr (C8.pe_c c_check_number hr (by decide) rfl (pa_cons (pv 0) (pa_cons pe_int (pa_cons (C8.pe_gc (v := .int 64) rfl T.MAX_SIZE) pa_nil)))))
  (pss_one (ps_ret (C8.pe_mk k_SignTable___init__0 hr (by decide) rfl (pa_cons (pe_tupRg rfl (by rfl) T.tuple (prg_2 (by rfl) T.range pe_int (pe_op op_addU (pv 0) pe_int))) pa_nil)))))
theorem sc_SignTable_size : FnScope ["self"] ["self"] (C8.fnScope (inClass (topS 29) 3)) := C8.fnScope_by (by decide +kernel)
set_option maxHeartbeats 8000000 in
theorem cal_SignTable_size {p f : Addr} {fd : FuncData} (T : Txt K w mg cl)  (me : PropOf K (cl 1).1 "size" p f) (F : C8.Fun K "size" "SignTable.size" (inClass (topS 29) 3) f fd) (b : Binds K fd ["self"] []) : LO.Prp P w K mg base 1 (cl 1).1 "size" (pSp ⟨K, cl, w⟩ S_SignTable_size) := by
  refine LO.prp0 (N := ["self"]) T.ci_SignTable.cl me F b sc_SignTable_size (pSp_len l_SignTable_size) (fun cdv A outer s H vs Q E hr h => ⟨T_SignTable_size ⟨K, cl, w⟩, ?_, pure_body (N := ["self"]) (n := 1) (by decide) l_SignTable_size (fun xs Φ s => w_SignTable_size ⟨K, cl, w⟩ T.ci_Ratio T.ci_SignTable xs Φ s) h⟩)
  have nd := sc_SignTable_size.nd
  unfold T_SignTable_size
  exact (pss_one (ps_ret (pe_callB cr_len (by rfl) T.len (by decide +kernel) (pa_cons (pe_fld (pv 0) rfl) pa_nil))))
theorem sc_SignTable_marks : FnScope ["self"] ["self"] (C8.fnScope (inClass (topS 29) 4)) := C8.fnScope_by (by decide +kernel)
set_option maxHeartbeats 8000000 in
theorem cal_SignTable_marks {p f : Addr} {fd : FuncData} (T : Txt K w mg cl)  (me : PropOf K (cl 1).1 "marks" p f) (F : C8.Fun K "marks" "SignTable.marks" (inClass (topS 29) 4) f fd) (b : Binds K fd ["self"] []) : LO.Prp P w K mg base 1 (cl 1).1 "marks" (pSp ⟨K, cl, w⟩ S_SignTable_marks) := by
  refine LO.prp0 (N := ["self"]) T.ci_SignTable.cl me F b sc_SignTable_marks (pSp_len l_SignTable_marks) (fun cdv A outer s H vs Q E hr h => ⟨T_SignTable_marks ⟨K, cl, w⟩, ?_, pure_body (N := ["self"]) (n := 1) (by decide) l_SignTable_marks (fun xs Φ s => w_SignTable_marks ⟨K, cl, w⟩ T.ci_Ratio T.ci_SignTable xs Φ s) h⟩)
  have nd := sc_SignTable_marks.nd
  unfold T_SignTable_marks
  exact (pss_one (ps_ret (pe_fld (pv 0) rfl)))
theorem sc_SignTable_trace : FnScope ["self", "row", "mark"] ["self"] (C8.fnScope (inClass (topS 29) 5)) := C8.fnScope_by (by decide +kernel)
set_option maxHeartbeats 8000000 in
theorem cal_SignTable_trace {p f : Addr} {fd : FuncData} (T : Txt K w mg cl) (c_sign_of : C8.Cal P w K mg base 1 "sign_of" (pSp ⟨K, cl, w⟩ S_sign_of) []) (me : PropOf K (cl 1).1 "trace" p f) (F : C8.Fun K "trace" "SignTable.trace" (inClass (topS 29) 5) f fd) (b : Binds K fd ["self"] []) : LO.Prp P w K mg base 2 (cl 1).1 "trace" (pSp ⟨K, cl, w⟩ S_SignTable_trace) := by
  refine LO.prp0 (N := ["self", "row", "mark"]) T.ci_SignTable.cl me F b sc_SignTable_trace (pSp_len l_SignTable_trace) (fun cdv A outer s H vs Q E hr h => ⟨T_SignTable_trace ⟨K, cl, w⟩, ?_, pure_body (N := ["self", "row", "mark"]) (n := 1) (by decide) l_SignTable_trace (fun xs Φ s => w_SignTable_trace ⟨K, cl, w⟩ T.ci_Ratio T.ci_SignTable xs Φ s) h⟩)
  have nd := sc_SignTable_trace.nd
  unfold T_SignTable_trace
  exact (pss_one (ps_ret (pe_callB (cr_sum rfl) (by rfl) T.sum (by decide +kernel) (pa_cons (pe_lc (own := [("row", 1), ("mark", 2)]) (g := (gTup K 2 (gCons (gName 1) (gCons (gName 2) gNil)))) (tt := (tTest (tOp (rEqD K) (tCB rAbs (tCons (tVar 2) tNil)) (tOp (rAddU K) (tVar 1) (tC (.int 1)))))) rfl nd (pi_enumU (by rfl) T.enumerate (pa_cons (pe_fld (pv 0) rfl) pa_nil)) (L2.blkOk_by (own := [("row", 1), ("mark", 2)]) (by kernel_rfl)) (fun _ _ _ _ _ => (pg_tup rfl (pgs_cons (pg_name (i := 1) nd rfl (.inl rfl)) (pgs_cons (pg_name (i := 2) nd rfl (.inl rfl)) pgs_nil)))) (fun _ _ _ _ _ => pts_one (pt_cmpR (op_eqD hr.units64) (pe_callB cr_abs (by rfl) T.abs (by decide +kernel) (pa_cons (pv 2) pa_nil)) (pe_op op_addU (pv 1) pe_int) (nomark _))) (fun _ _ _ _ _ => (C8.pe_c c_sign_of hr (by decide) rfl (pa_cons (pv 2) pa_nil)))) pa_nil))))
theorem sc_SignTable_is_idle : FnScope ["self"] ["self"] (C8.fnScope (inClass (topS 29) 6)) := C8.fnScope_by (by decide +kernel)
set_option maxHeartbeats 8000000 in
theorem cal_SignTable_is_idle {p f : Addr} {fd : FuncData} (T : Txt K w mg cl)  (me : PropOf K (cl 1).1 "is_idle" p f) (F : C8.Fun K "is_idle" "SignTable.is_idle" (inClass (topS 29) 6) f fd) (b : Binds K fd ["self"] []) : LO.Prp P w K mg base 1 (cl 1).1 "is_idle" (pSp ⟨K, cl, w⟩ S_SignTable_is_idle) := by
  refine LO.prp0 (N := ["self"]) T.ci_SignTable.cl me F b sc_SignTable_is_idle (pSp_len l_SignTable_is_idle) (fun cdv A outer s H vs Q E hr h => ⟨T_SignTable_is_idle ⟨K, cl, w⟩, ?_, pure_body (N := ["self"]) (n := 1) (by decide) l_SignTable_is_idle (fun xs Φ s => w_SignTable_is_idle ⟨K, cl, w⟩ T.ci_Ratio T.ci_SignTable xs Φ s) h⟩)
  have nd := sc_SignTable_is_idle.nd
  unfold T_SignTable_is_idle
  exact (pss_one (ps_ret (pe_cmpR (op_eqD hr.units64) (pe_fld (pv 0) rfl) (pe_tupRg rfl (by rfl) T.tuple (prg_2 (by rfl) T.range pe_int (pe_op op_addU (pe_callB cr_len (by rfl) T.len (by decide +kernel) (pa_cons (pe_fld (pv 0) rfl) pa_nil)) pe_int))) (nomark _))))
theorem sc_SignTable_turned : FnScope ["self", "marks", "row", "mark"] ["self"] (C8.fnScope (inClass (topS 29) 7)) := C8.fnScope_by (by decide +kernel)
set_option maxHeartbeats 8000000 in
theorem cal_SignTable_turned {f : Addr} {fd : FuncData} (T : Txt K w mg cl) (c_sign_of : C8.Cal P w K mg base 1 "sign_of" (pSp ⟨K, cl, w⟩ S_sign_of) []) (k_SignTable___init__0 : C8.Mak P w K mg base 3 "SignTable" (cl 1).1 (iSp ⟨K, cl, w⟩ 1 S_SignTable___init__) []) (me : Meth K (cl 1).1 "turned" f) (F : C8.Fun K "turned" "SignTable.turned" (inClass (topS 29) 7) f fd) (b : Binds K fd ["self"] []) : C8.Met P w K mg base 5 (cl 1).1 "turned" (pSp ⟨K, cl, w⟩ S_SignTable_turned) [] := by
  refine C8.met0 (N := ["self", "marks", "row", "mark"]) T.ci_SignTable.cl me F b sc_SignTable_turned (pSp_len l_SignTable_turned) (fun cdv A outer s H vs Q E hr h => ⟨T_SignTable_turned ⟨K, cl, w⟩, ?_, pure_body (N := ["self", "marks", "row", "mark"]) (n := 1) (by decide) l_SignTable_turned (fun xs Φ s => w_SignTable_turned ⟨K, cl, w⟩ T.ci_Ratio T.ci_SignTable xs Φ s) h⟩)
  have nd := sc_SignTable_turned.nd
  unfold T_SignTable_turned
  exact (pss_cons (ps_set (i := 1) nd rfl (.inl rfl) (pe_op op_mulU (pe_lst (pa_cons pe_int pa_nil)) (pe_callB cr_len (by rfl) T.len (by decide +kernel) (pa_cons (pe_fld (pv 0) rfl) pa_nil))))
  (pss_cons (ps_for PassesOwn.never rfl (pi_enumU (by rfl) T.enumerate (pa_cons (pe_fld (pv 0) rfl) pa_nil)) (pg_tup rfl (pgs_cons (pg_name (i := 2) nd rfl (.inl rfl)) (pgs_cons (pg_name (i := 3) nd rfl (.inl rfl)) pgs_nil))) (pss_one (ps_asg (pe_op op_mulU (pe_op op_addU (pv 2) pe_int) (C8.pe_c c_sign_of hr (by decide) rfl (pa_cons (pv 3) pa_nil))) (pg_sub (pv 1) (pe_op op_sub (pe_callB cr_abs (by rfl) T.abs (by decide +kernel) (pa_cons (pv 3) pa_nil)) pe_int) set_list))))
  (pss_one (ps_ret (C8.pe_mk k_SignTable___init__0 hr (by decide) rfl (pa_cons (pe_callTy cr_tuple (by rfl) T.tuple (by decide +kernel) (pa_cons (pv 1) pa_nil)) pa_nil))))))
theorem sc_SignTable_table : FnScope ["self", "size", "mark"] ["self"] (C8.fnScope (inClass (topS 29) 8)) := C8.fnScope_by (by decide +kernel)
set_option maxHeartbeats 8000000 in
theorem cal_SignTable_table {f : Addr} {fd : FuncData} (T : Txt K w mg cl) (c__row_of : C8.Cal P w K mg base 5 "_row_of" (pSp ⟨K, cl, w⟩ S__row_of) []) (me : Meth K (cl 1).1 "table" f) (F : C8.Fun K "table" "SignTable.table" (inClass (topS 29) 8) f fd) (b : Binds K fd ["self"] []) : C8.Met P w K mg base 6 (cl 1).1 "table" (pSp ⟨K, cl, w⟩ S_SignTable_table) [] := by
  refine C8.met0 (N := ["self", "size", "mark"]) T.ci_SignTable.cl me F b sc_SignTable_table (pSp_len l_SignTable_table) (fun cdv A outer s H vs Q E hr h => ⟨T_SignTable_table ⟨K, cl, w⟩, ?_, pure_body (N := ["self", "size", "mark"]) (n := 1) (by decide) l_SignTable_table (fun xs Φ s => w_SignTable_table ⟨K, cl, w⟩ T.ci_Ratio T.ci_SignTable xs Φ s) h⟩)
  have nd := sc_SignTable_table.nd
  unfold T_SignTable_table
  exact (pss_cons (ps_set (i := 1) nd rfl (.inr rfl) (pe_callB cr_len (by rfl) T.len (by decide +kernel) (pa_cons (pe_fld (pv 0) rfl) pa_nil)))
  (pss_cons (ps_if (pt_cmpR op_gt (pv 1) (C8.pe_gc (v := .int 32) rfl T.MAX_SIDE) (nomark _)) (pss_one ps_never) pss_nil)
  (pss_one (ps_ret (pe_callTy cr_tuple (by rfl) T.tuple (by decide +kernel) (pa_cons (pe_lc (own := [("mark", 2)]) (g := (gName 2)) (tt := tYes) rfl nd (pi_seq (pe_fld (pv 0) rfl)) (L2.blkOk_by (own := [("mark", 2)]) (by kernel_rfl)) (fun _ _ _ _ _ => (pg_name (i := 2) nd rfl (.inl rfl))) (fun _ _ _ _ _ => pts_nil) (fun _ _ _ _ _ => (C8.pe_c c__row_of hr (by decide) rfl (pa_cons (pv 2) (pa_cons (pv 1) pa_nil))))) pa_nil))))))
theorem sc_SignTable___mul__ : FnScope ["self", "other", "mark"] ["self", "other"] (C8.fnScope (inClass (topS 29) 9)) := C8.fnScope_by (by decide +kernel)
set_option maxHeartbeats 8000000 in
theorem cal_SignTable___mul__ {f : Addr} {fd : FuncData} (T : Txt K w mg cl) (c_sign_of : C8.Cal P w K mg base 1 "sign_of" (pSp ⟨K, cl, w⟩ S_sign_of) []) (k_SignTable___init__0 : C8.Mak P w K mg base 3 "SignTable" (cl 1).1 (iSp ⟨K, cl, w⟩ 1 S_SignTable___init__) []) (me : Meth K (cl 1).1 "__mul__" f) (F : C8.Fun K "__mul__" "SignTable.__mul__" (inClass (topS 29) 9) f fd) (b : Binds K fd ["self", "other"] []) : C8.Met P w K mg base 5 (cl 1).1 "__mul__" (pSp ⟨K, cl, w⟩ S_SignTable___mul__) [] := by
  refine C8.met0 (N := ["self", "other", "mark"]) T.ci_SignTable.cl me F b sc_SignTable___mul__ (pSp_len l_SignTable___mul__) (fun cdv A outer s H vs Q E hr h => ⟨T_SignTable___mul__ ⟨K, cl, w⟩, ?_, pure_body (N := ["self", "other", "mark"]) (n := 2) (by decide) l_SignTable___mul__ (fun xs Φ s => w_SignTable___mul__ ⟨K, cl, w⟩ T.ci_Ratio T.ci_SignTable xs Φ s) h⟩)
  have nd := sc_SignTable___mul__.nd
  unfold T_SignTable___mul__
  exact (pss_cons (ps_if (pt_not (pt_tru (pe_callB call_isi (by rfl) T.isinstance (by decide +kernel) (pa_cons (pv 1) (pa_cons (C8.pe_gc (v := .ref (cl 1).1) rfl T.mg_SignTable) pa_nil))))) (pss_one ps_never) pss_nil)
  (pss_cons (ps_if (pt_cmpR (op_neD hr.units64) (pe_callB cr_len (by rfl) T.len (by decide +kernel) (pa_cons (pe_fld (pv 0) rfl) pa_nil)) (pe_callB cr_len (by rfl) T.len (by decide +kernel) (pa_cons (pe_fld (pv 1) rfl) pa_nil)) (nomark _)) (pss_one ps_never) pss_nil)
  (pss_one (ps_ret (C8.pe_mk k_SignTable___init__0 hr (by decide) rfl (pa_cons (pe_callTy cr_tuple (by rfl) T.tuple (by decide +kernel) (pa_cons (pe_lc (own := [("mark", 2)]) (g := (gName 2)) (tt := tYes) rfl nd (pi_seq (pe_fld (pv 0) rfl)) (L2.blkOk_by (own := [("mark", 2)]) (by kernel_rfl)) (fun _ _ _ _ _ => (pg_name (i := 2) nd rfl (.inl rfl))) (fun _ _ _ _ _ => pts_nil) (fun _ _ _ _ _ => (pe_op op_mulU (pe_ix ix_seq (pe_fld (pv 1) rfl) (pe_op op_sub (pe_callB cr_abs (by rfl) T.abs (by decide +kernel) (pa_cons (pv 2) pa_nil)) pe_int) (fun _ _ => rfl)) (C8.pe_c c_sign_of hr (by decide) rfl (pa_cons (pv 2) pa_nil))))) pa_nil)) pa_nil))))))
theorem sc_SignTable___neg__ : FnScope ["self", "mark"] ["self"] (C8.fnScope (inClass (topS 29) 10)) := C8.fnScope_by (by decide +kernel)
set_option maxHeartbeats 8000000 in
theorem cal_SignTable___neg__ {f : Addr} {fd : FuncData} (T : Txt K w mg cl) (k_SignTable___init__0 : C8.Mak P w K mg base 3 "SignTable" (cl 1).1 (iSp ⟨K, cl, w⟩ 1 S_SignTable___init__) []) (me : Meth K (cl 1).1 "__neg__" f) (F : C8.Fun K "__neg__" "SignTable.__neg__" (inClass (topS 29) 10) f fd) (b : Binds K fd ["self"] []) : C8.Met P w K mg base 5 (cl 1).1 "__neg__" (pSp ⟨K, cl, w⟩ S_SignTable___neg__) [] := by
  refine C8.met0 (N := ["self", "mark"]) T.ci_SignTable.cl me F b sc_SignTable___neg__ (pSp_len l_SignTable___neg__) (fun cdv A outer s H vs Q E hr h => ⟨T_SignTable___neg__ ⟨K, cl, w⟩, ?_, pure_body (N := ["self", "mark"]) (n := 1) (by decide) l_SignTable___neg__ (fun xs Φ s => w_SignTable___neg__ ⟨K, cl, w⟩ T.ci_Ratio T.ci_SignTable xs Φ s) h⟩)
  have nd := sc_SignTable___neg__.nd
  unfold T_SignTable___neg__
  exact (pss_one (ps_ret (C8.pe_mk k_SignTable___init__0 hr (by decide) rfl (pa_cons (pe_callTy cr_tuple (by rfl) T.tuple (by decide +kernel) (pa_cons (pe_lc (own := [("mark", 1)]) (g := (gName 1)) (tt := tYes) rfl nd (pi_seq (pe_fld (pv 0) rfl)) (L2.blkOk_by (own := [("mark", 1)]) (by kernel_rfl)) (fun _ _ _ _ _ => (pg_name (i := 1) nd rfl (.inl rfl))) (fun _ _ _ _ _ => pts_nil) (fun _ _ _ _ _ => (pe_un un_neg (pv 1)))) pa_nil)) pa_nil))))
theorem sc_SignTable___eq__ : FnScope ["self", "other"] ["self", "other"] (C8.fnScope (inClass (topS 29) 11)) := C8.fnScope_by (by decide +kernel)
set_option maxHeartbeats 8000000 in
theorem cal_SignTable___eq__ {f : Addr} {fd : FuncData} (T : Txt K w mg cl)  (me : Meth K (cl 1).1 "__eq__" f) (F : C8.Fun K "__eq__" "SignTable.__eq__" (inClass (topS 29) 11) f fd) (b : Binds K fd ["self", "other"] []) : C8.Met P w K mg base 1 (cl 1).1 "__eq__" (pSp ⟨K, cl, w⟩ S_SignTable___eq__) [] := by
  refine C8.met0 (N := ["self", "other"]) T.ci_SignTable.cl me F b sc_SignTable___eq__ (pSp_len l_SignTable___eq__) (fun cdv A outer s H vs Q E hr h => ⟨T_SignTable___eq__ ⟨K, cl, w⟩, ?_, pure_body (N := ["self", "other"]) (n := 2) (by decide) l_SignTable___eq__ (fun xs Φ s => w_SignTable___eq__ ⟨K, cl, w⟩ T.ci_Ratio T.ci_SignTable xs Φ s) h⟩)
  have nd := sc_SignTable___eq__.nd
  unfold T_SignTable___eq__
  exact (pss_one (ps_ret (pe_and (pe_callB call_isi (by rfl) T.isinstance (by decide +kernel) (pa_cons (pv 1) (pa_cons (C8.pe_gc (v := .ref (cl 1).1) rfl T.mg_SignTable) pa_nil))) (pe_one (pe_cmpR (op_eqD hr.units64) (pe_fld (pv 0) rfl) (pe_fld (pv 1) rfl) (nomark _))))))
theorem sc__law_jug : FnScope ["_law_script", "_law_at", "_law_cell", "_law_great"] ["_law_script", "_law_at"] (C8.fnScope (topS 31)) := C8.fnScope_by (by decide +kernel)
set_option maxHeartbeats 8000000 in
theorem cal__law_jug {f : Addr} {fd : FuncData} (T : Txt K w mg cl)  (F : C8.Def K mg "_law_jug" (topS 31) f fd) (b : Binds K fd ["_law_script", "_law_at"] []) : C8.Cal P w K mg base 1 "_law_jug" (mSp ⟨K, cl, w⟩ S__law_jug) [] := by
  refine C8.cal0 (N := ["_law_script", "_law_at", "_law_cell", "_law_great"]) F b .nil sc__law_jug (mSp_len l__law_jug) (fun cdv A outer s H vs Q E hr h => ⟨T__law_jug ⟨K, cl, w⟩, ?_, mk_body (N := ["_law_script", "_law_at", "_law_cell", "_law_great"]) (n := 2) (by decide) l__law_jug (fun xs s => w__law_jug ⟨K, cl, w⟩  xs s) h⟩)
  have nd := sc__law_jug.nd
  unfold T__law_jug
  exact (pss_cons (ps_set (i := 2) nd rfl (.inl rfl) (pe_ifExp (pt_cmpR op_lt (pv 1) (pe_callB cr_len (by rfl) T.len (by decide +kernel) (pa_cons (pv 0) pa_nil)) (nomark _)) (pe_callTy cr_int1 (by rfl) T.int (by decide +kernel) (pa_cons (pe_ix ix_seq (pv 0) (pv 1) (fun _ _ => rfl)) pa_nil)) (pe_op op_addU (pe_op op_mulU pe_int (pv 1)) pe_int)))
  (pss_cons (ps_set (i := 3) nd rfl (.inl rfl) (pe_op op_modU (pe_callTy cr_int1 (by rfl) T.int (by decide +kernel) (pa_cons (pe_callB cr_abs (by rfl) T.abs (by decide +kernel) (pa_cons (pv 2) pa_nil)) pa_nil)) (pe_op op_powU (pe_op op_powU pe_int pe_int) pe_int)))
  (pss_one (ps_ret (pe_lst (pa_cons (pe_callB (cr_max2 rfl) (by rfl) T.max (by decide +kernel) (pa_cons pe_int (pa_cons (pe_op op_sub (pv 3) (pe_op op_powU pe_int pe_int)) pa_nil))) (pa_cons (pe_op op_addU (pe_op op_addU (pe_op op_addU (pe_op op_mulU (pe_op op_modU (pv 3) pe_int) pe_int) (pe_op op_mulU pe_int (pv 1))) (pe_op op_mulU pe_int (pe_callTy cr_int1 (by rfl) T.int (by decide +kernel) (pa_cons (pe_cmpR op_lt (pv 2) pe_int (nomark _)) pa_nil)))) pe_int) (pa_cons pe_int pa_nil))))))))
theorem sc__law_pour : FnScope ["_law_jug_here", "_law_total", "_law_found", "_law_one", "_law_two"] ["_law_jug_here", "_law_total"] (C8.fnScope (topS 32)) := C8.fnScope_by (by decide +kernel)
set_option maxHeartbeats 8000000 in
theorem cal__law_pour {f : Addr} {fd : FuncData} (T : Txt K w mg cl)  (F : C8.Def K mg "_law_pour" (topS 32) f fd) (b : Binds K fd ["_law_jug_here", "_law_total"] []) : C8.Cal P w K mg base 1 "_law_pour" (jSp ⟨K, cl, w⟩ S__law_pour) [] := by
  refine C8.cal0 (N := ["_law_jug_here", "_law_total", "_law_found", "_law_one", "_law_two"]) F b .nil sc__law_pour (jSp_len l__law_pour) (fun cdv A outer s H vs Q E hr h => ⟨T__law_pour ⟨K, cl, w⟩, ?_, jg_body (x0 := "_law_jug_here") (N := ["_law_total", "_law_found", "_law_one", "_law_two"]) (n := 1) (by decide) l__law_pour (fun p xs Φ s => w__law_pour ⟨K, cl, w⟩  p xs Φ s) h⟩)
  have nd := sc__law_pour.nd
  unfold T__law_pour
  exact (pss_cons (ps_if (pt_cmpR op_gt (pe_ix ix_seq (pv 0) pe_int (fun _ _ => rfl)) pe_int (nomark _)) (pss_cons (ps_set (i := 2) nd rfl (.inl rfl) (pe_op op_modU (pe_callTy cr_int1 (by rfl) T.int (by decide +kernel) (pa_cons (pe_ix ix_seq (pv 0) pe_int (fun _ _ => rfl)) pa_nil)) (pv 1)))
  (pss_cons (ps_asg (pe_op op_divU (pe_ix ix_seq (pv 0) pe_int (fun _ _ => rfl)) (pv 1)) (pg_sub (pv 0) pe_int set_list))
  (pss_one (ps_ret (pv 2))))) pss_nil)
  (pss_cons (ps_asg (pe_op op_addU (pe_ix ix_seq (pv 0) pe_int (fun _ _ => rfl)) pe_int) (pg_sub (pv 0) pe_int set_list))
  (pss_cons (ps_set (i := 3) nd rfl (.inl rfl) (pe_op op_modU (pe_callTy cr_int1 (by rfl) T.int (by decide +kernel) (pa_cons (pe_op op_addU (pe_ix ix_seq (pv 0) pe_int (fun _ _ => rfl)) (pe_op op_mulU pe_int (pe_ix ix_seq (pv 0) pe_int (fun _ _ => rfl)))) pa_nil)) pe_int))
  (pss_cons (ps_set (i := 4) nd rfl (.inl rfl) (pe_op op_modU (pe_callTy cr_int1 (by rfl) T.int (by decide +kernel) (pa_cons (pe_op op_addU (pe_op op_mulU (pv 3) (pv 3)) (pe_op op_mulU pe_int (pe_ix ix_seq (pv 0) pe_int (fun _ _ => rfl)))) pa_nil)) pe_int))
  (pss_one (ps_ret (pe_op op_modU (pe_callTy cr_int1 (by rfl) T.int (by decide +kernel) (pa_cons (pe_op op_divU (pe_op op_addU (pe_op op_mulU (pv 4) pe_int) (pv 3)) pe_int) pa_nil)) (pv 1))))))))
theorem sc__law_pick : FnScope ["_law_jug_here", "_law_items"] ["_law_jug_here", "_law_items"] (C8.fnScope (topS 33)) := C8.fnScope_by (by decide +kernel)
set_option maxHeartbeats 8000000 in
theorem cal__law_pick {f : Addr} {fd : FuncData} (T : Txt K w mg cl) (c__law_pour : C8.Cal P w K mg base 1 "_law_pour" (jSp ⟨K, cl, w⟩ S__law_pour) []) (F : C8.Def K mg "_law_pick" (topS 33) f fd) (b : Binds K fd ["_law_jug_here", "_law_items"] []) : C8.Cal P w K mg base 2 "_law_pick" (jSp ⟨K, cl, w⟩ S__law_pick) [] := by
  refine C8.cal0 (N := ["_law_jug_here", "_law_items"]) F b .nil sc__law_pick (jSp_len l__law_pick) (fun cdv A outer s H vs Q E hr h => ⟨T__law_pick ⟨K, cl, w⟩, ?_, jg_body (x0 := "_law_jug_here") (N := ["_law_items"]) (n := 1) (by decide) l__law_pick (fun p xs Φ s => w__law_pick ⟨K, cl, w⟩  p xs Φ s) h⟩)
  have nd := sc__law_pick.nd
  unfold T__law_pick
  exact (pss_one (ps_ret (pe_ix ix_seq (pv 1) (C8.pe_c c__law_pour hr (by decide) rfl (pa_cons (pv 0) (pa_cons (pe_callB cr_len (by rfl) T.len (by decide +kernel) (pa_cons (pv 1) pa_nil)) pa_nil))) (fun _ _ => rfl))))
theorem sc__law_marks : FnScope ["_law_jug_here", "_law_size", "_law_left", "_law_found", "_law_turn"] ["_law_jug_here", "_law_size"] (C8.fnScope (topS 34)) := C8.fnScope_by (by decide +kernel)
set_option maxHeartbeats 8000000 in
theorem cal__law_marks {f : Addr} {fd : FuncData} (T : Txt K w mg cl) (c__law_pour : C8.Cal P w K mg base 1 "_law_pour" (jSp ⟨K, cl, w⟩ S__law_pour) []) (c__law_pick : C8.Cal P w K mg base 2 "_law_pick" (jSp ⟨K, cl, w⟩ S__law_pick) []) (F : C8.Def K mg "_law_marks" (topS 34) f fd) (b : Binds K fd ["_law_jug_here", "_law_size"] []) : C8.Cal P w K mg base 3 "_law_marks" (jSp ⟨K, cl, w⟩ S__law_marks) [] := by
  refine C8.cal0 (N := ["_law_jug_here", "_law_size", "_law_left", "_law_found", "_law_turn"]) F b .nil sc__law_marks (jSp_len l__law_marks) (fun cdv A outer s H vs Q E hr h => ⟨T__law_marks ⟨K, cl, w⟩, ?_, jg_body (x0 := "_law_jug_here") (N := ["_law_size", "_law_left", "_law_found", "_law_turn"]) (n := 1) (by decide) l__law_marks (fun p xs Φ s => w__law_marks ⟨K, cl, w⟩  p xs Φ s) h⟩)
  have nd := sc__law_marks.nd
  unfold T__law_marks
  exact (pss_cons (ps_par (i := 2) (j := 3) (by rfl) nd rfl rfl (by decide) rfl rfl (pa_cons (pe_listRg rfl (by rfl) T.list (prg_2 (by rfl) T.range pe_int (pe_op op_addU (pv 1) pe_int))) (pa_cons (pe_lst pa_nil) pa_nil)) (by rfl))
  (pss_cons (ps_for PassesOwn.never rfl (pi_range1 rfl T.range (pa_cons (pv 1) pa_nil)) (pg_name (i := 4) nd rfl (.inl rfl)) (pss_one (ps_expr (pe_bm PySem.F.plainAttrs_list PySem.F.slot_list_append PySem.F.type_list_append mt_append (pv 3) (pa_cons (pe_op op_mulU (pe_bm PySem.F.plainAttrs_list PySem.F.slot_list_pop PySem.F.type_list_pop mt_popAt (pv 2) (pa_cons (C8.pe_c c__law_pour hr (by decide) rfl (pa_cons (pv 0) (pa_cons (pe_callB cr_len (by rfl) T.len (by decide +kernel) (pa_cons (pv 2) pa_nil)) pa_nil))) pa_nil)) (C8.pe_c c__law_pick hr (by decide) rfl (pa_cons (pv 0) (pa_cons (pe_lst (pa_cons pe_int (pa_cons (pe_un un_neg pe_int) pa_nil))) pa_nil)))) pa_nil)))))
  (pss_one (ps_ret (pe_callTy cr_tuple (by rfl) T.tuple (by decide +kernel) (pa_cons (pv 3) pa_nil))))))
theorem sc__law_dense : FnScope ["_law_marks_here", "_law_found", "_law_mark", "_law_row"] ["_law_marks_here"] (C8.fnScope (topS 35)) := C8.fnScope_by (by decide +kernel)
set_option maxHeartbeats 8000000 in
theorem cal__law_dense {f : Addr} {fd : FuncData} (T : Txt K w mg cl)  (F : C8.Def K mg "_law_dense" (topS 35) f fd) (b : Binds K fd ["_law_marks_here"] []) : C8.Cal P w K mg base 1 "_law_dense" (pSp ⟨K, cl, w⟩ S__law_dense) [] := by
  refine C8.cal0 (N := ["_law_marks_here", "_law_found", "_law_mark", "_law_row"]) F b .nil sc__law_dense (pSp_len l__law_dense) (fun cdv A outer s H vs Q E hr h => ⟨T__law_dense ⟨K, cl, w⟩, ?_, pure_body (N := ["_law_marks_here", "_law_found", "_law_mark", "_law_row"]) (n := 1) (by decide) l__law_dense (fun xs Φ s => w__law_dense ⟨K, cl, w⟩  xs Φ s) h⟩)
  have nd := sc__law_dense.nd
  unfold T__law_dense
  exact (pss_cons (ps_set (i := 1) nd rfl (.inl rfl) (pe_lst pa_nil))
  (pss_cons (ps_for PassesOwn.never rfl (pi_seq (pv 0)) (pg_name (i := 2) nd rfl (.inl rfl)) (pss_cons (ps_set (i := 3) nd rfl (.inl rfl) (pe_op op_mulU (pe_lst (pa_cons pe_int pa_nil)) (pe_callB cr_len (by rfl) T.len (by decide +kernel) (pa_cons (pv 0) pa_nil))))
  (pss_cons (ps_asg (pe_ifExp (pt_cmpR op_gt (pv 2) pe_int (nomark _)) pe_int (pe_un un_neg pe_int)) (pg_sub (pv 3) (pe_op op_sub (pe_callB cr_abs (by rfl) T.abs (by decide +kernel) (pa_cons (pv 2) pa_nil)) pe_int) set_list))
  (pss_one (ps_expr (pe_bm PySem.F.plainAttrs_list PySem.F.slot_list_append PySem.F.type_list_append mt_append (pv 1) (pa_cons (pe_callTy cr_tuple (by rfl) T.tuple (by decide +kernel) (pa_cons (pv 3) pa_nil)) pa_nil)))))))
  (pss_one (ps_ret (pv 1)))))
theorem sc__law_product : FnScope ["_law_one", "_law_other", "_law_found", "_law_row", "_law_made", "_law_column", "_law_entry", "_law_line"] ["_law_one", "_law_other"] (C8.fnScope (topS 36)) := C8.fnScope_by (by decide +kernel)
set_option maxHeartbeats 8000000 in
theorem cal__law_product {f : Addr} {fd : FuncData} (T : Txt K w mg cl)  (F : C8.Def K mg "_law_product" (topS 36) f fd) (b : Binds K fd ["_law_one", "_law_other"] []) : C8.Cal P w K mg base 1 "_law_product" (pSp ⟨K, cl, w⟩ S__law_product) [] := by
  refine C8.cal0 (N := ["_law_one", "_law_other", "_law_found", "_law_row", "_law_made", "_law_column", "_law_entry", "_law_line"]) F b .nil sc__law_product (pSp_len l__law_product) (fun cdv A outer s H vs Q E hr h => ⟨T__law_product ⟨K, cl, w⟩, ?_, pure_body (N := ["_law_one", "_law_other", "_law_found", "_law_row", "_law_made", "_law_column", "_law_entry", "_law_line"]) (n := 2) (by decide) l__law_product (fun xs Φ s => w__law_product ⟨K, cl, w⟩  xs Φ s) h⟩)
  have nd := sc__law_product.nd
  unfold T__law_product
  exact (pss_cons (ps_set (i := 2) nd rfl (.inl rfl) (pe_lst pa_nil))
  (pss_cons (ps_for PassesOwn.never rfl (pi_seq (pv 0)) (pg_name (i := 3) nd rfl (.inl rfl)) (pss_cons (ps_set (i := 4) nd rfl (.inl rfl) (pe_lst pa_nil))
  (pss_cons (ps_for PassesOwn.never rfl (pi_range1 rfl T.range (pa_cons (pe_callB cr_len (by rfl) T.len (by decide +kernel) (pa_cons (pe_ix ix_seq (pv 1) pe_int (fun _ _ => rfl)) pa_nil)) pa_nil)) (pg_name (i := 5) nd rfl (.inr rfl)) (pss_one (ps_expr (pe_bm PySem.F.plainAttrs_list PySem.F.slot_list_append PySem.F.type_list_append mt_append (pv 4) (pa_cons (pe_callB (cr_sum rfl) (by rfl) T.sum (by decide +kernel) (pa_cons (pe_lc (own := [("_law_entry", 6), ("_law_line", 7)]) (g := (gTup K 2 (gCons (gName 6) (gCons (gName 7) gNil)))) (tt := tYes) rfl nd (LO.pi_zipM (by rfl) T.zip (pa_cons (pv 3) (pa_cons (pv 1) pa_nil))) (L2.blkOk_by (own := [("_law_entry", 6), ("_law_line", 7)]) (by kernel_rfl)) (fun _ _ _ _ _ => (pg_tup rfl (pgs_cons (pg_name (i := 6) nd rfl (.inl rfl)) (pgs_cons (pg_name (i := 7) nd rfl (.inl rfl)) pgs_nil)))) (fun _ _ _ _ _ => pts_nil) (fun _ _ _ _ _ => (pe_op op_mulU (pv 6) (pe_ix ix_seq (pv 7) (pv 5) (fun _ _ => rfl))))) pa_nil)) pa_nil)))))
  (pss_one (ps_expr (pe_bm PySem.F.plainAttrs_list PySem.F.slot_list_append PySem.F.type_list_append mt_append (pv 2) (pa_cons (pe_callTy cr_tuple (by rfl) T.tuple (by decide +kernel) (pa_cons (pv 4) pa_nil)) pa_nil)))))))
  (pss_one (ps_ret (pv 2)))))
theorem sc__law_flat : FnScope ["_law_rows", "_law_row", "_law_column"] ["_law_rows"] (C8.fnScope (topS 37)) := C8.fnScope_by (by decide +kernel)
set_option maxHeartbeats 8000000 in
theorem cal__law_flat {f : Addr} {fd : FuncData} (T : Txt K w mg cl)  (F : C8.Def K mg "_law_flat" (topS 37) f fd) (b : Binds K fd ["_law_rows"] []) : C8.Cal P w K mg base 1 "_law_flat" (pSp ⟨K, cl, w⟩ S__law_flat) [] := by
  refine C8.cal0 (N := ["_law_rows", "_law_row", "_law_column"]) F b .nil sc__law_flat (pSp_len l__law_flat) (fun cdv A outer s H vs Q E hr h => ⟨T__law_flat ⟨K, cl, w⟩, ?_, pure_body (N := ["_law_rows", "_law_row", "_law_column"]) (n := 1) (by decide) l__law_flat (fun xs Φ s => w__law_flat ⟨K, cl, w⟩  xs Φ s) h⟩)
  have nd := sc__law_flat.nd
  unfold T__law_flat
  exact (pss_one (ps_ret (pe_lc (own := [("_law_column", 2)]) (g := (gName 2)) (tt := tYes) rfl nd (pi_range1 rfl T.range (pa_cons (pe_callB cr_len (by rfl) T.len (by decide +kernel) (pa_cons (pe_ix ix_seq (pv 0) pe_int (fun _ _ => rfl)) pa_nil)) pa_nil)) (L2.blkOk_by (own := [("_law_column", 2)]) (by kernel_rfl)) (fun _ _ _ _ _ => (pg_name (i := 2) nd rfl (.inr rfl))) (fun _ _ _ _ _ => pts_nil) (fun _ _ _ _ _ => (pe_callTy cr_tuple (by rfl) T.tuple (by decide +kernel) (pa_cons (pe_lc (own := [("_law_row", 1)]) (g := (gName 1)) (tt := tYes) rfl nd (pi_seq (pv 0)) (L2.blkOk_by (own := [("_law_row", 1)]) (by kernel_rfl)) (fun _ _ _ _ _ => (pg_name (i := 1) nd rfl (.inl rfl))) (fun _ _ _ _ _ => pts_nil) (fun _ _ _ _ _ => (pe_ix ix_seq (pv 1) (pv 2) (fun _ _ => rfl)))) pa_nil))))))
theorem sc__law_is_dense : FnScope ["_law_signs", "_law_rows", "_law_diagonal", "_law_at", "_law_entry", "_law_row"] ["_law_signs", "_law_rows"] (C8.fnScope (topS 38)) := C8.fnScope_by (by decide +kernel)
set_option maxHeartbeats 8000000 in
theorem cal__law_is_dense {f : Addr} {fd : FuncData} (T : Txt K w mg cl) (k_Ratio___init__1 : C8.Mak P w K mg base 3 "Ratio" (cl 0).1 (iSp ⟨K, cl, w⟩ 0 S_Ratio___init__) [.int 1]) (m_Ratio___eq__ : C8.Met P w K mg base 2 (cl 0).1 "__eq__" (pSp ⟨K, cl, w⟩ S_Ratio___eq__) []) (p_SignTable_size : LO.Prp P w K mg base 1 (cl 1).1 "size" (pSp ⟨K, cl, w⟩ S_SignTable_size)) (p_SignTable_marks : LO.Prp P w K mg base 1 (cl 1).1 "marks" (pSp ⟨K, cl, w⟩ S_SignTable_marks)) (p_SignTable_trace : LO.Prp P w K mg base 2 (cl 1).1 "trace" (pSp ⟨K, cl, w⟩ S_SignTable_trace)) (p_SignTable_is_idle : LO.Prp P w K mg base 1 (cl 1).1 "is_idle" (pSp ⟨K, cl, w⟩ S_SignTable_is_idle)) (m_SignTable_table : C8.Met P w K mg base 6 (cl 1).1 "table" (pSp ⟨K, cl, w⟩ S_SignTable_table) []) (c__law_dense : C8.Cal P w K mg base 1 "_law_dense" (pSp ⟨K, cl, w⟩ S__law_dense) []) (F : C8.Def K mg "_law_is_dense" (topS 38) f fd) (b : Binds K fd ["_law_signs", "_law_rows"] []) : C8.Cal P w K mg base 7 "_law_is_dense" (pSp ⟨K, cl, w⟩ S__law_is_dense) [] := by
  refine C8.cal0 (N := ["_law_signs", "_law_rows", "_law_diagonal", "_law_at", "_law_entry", "_law_row"]) F b .nil sc__law_is_dense (pSp_len l__law_is_dense) (fun cdv A outer s H vs Q E hr h => ⟨T__law_is_dense ⟨K, cl, w⟩, ?_, pure_body (N := ["_law_signs", "_law_rows", "_law_diagonal", "_law_at", "_law_entry", "_law_row"]) (n := 2) (by decide) l__law_is_dense (fun xs Φ s => w__law_is_dense ⟨K, cl, w⟩ T.ci_Ratio T.ci_SignTable xs Φ s) h⟩)
  have nd := sc__law_is_dense.nd
  unfold T__law_is_dense
  exact (pss_cons (ps_if (PW.pt (pw_or (pt_cmpR (op_neD hr.units64) (LO.pe_prp p_SignTable_size hr (by decide) (pv 0)) (pe_callB cr_len (by rfl) T.len (by decide +kernel) (pa_cons (pv 1) pa_nil)) (nomark _)) (pw_or1 (pt_cmpR (op_neD hr.units64) (C8.pe_c c__law_dense hr (by decide) rfl (pa_cons (LO.pe_prp p_SignTable_marks hr (by decide) (pv 0)) pa_nil)) (pv 1) (nomark _))))) (pss_one (ps_ret pe_bl)) pss_nil)
  (pss_cons (ps_setLc (i := 2) (own := [("_law_at", 3)]) (g := (gName 3)) (tt := tYes) rfl nd rfl rfl (L2.sw_true rfl rfl rfl (by kernel_rfl)) (pi_range1 rfl T.range (pa_cons (pe_callB cr_len (by rfl) T.len (by decide +kernel) (pa_cons (pv 1) pa_nil)) pa_nil)) (L2.blkOk_by (own := [("_law_at", 3)]) (by kernel_rfl)) (fun _ _ _ _ _ => (pg_name (i := 3) nd rfl (.inl rfl))) (fun _ _ _ _ _ => pts_nil) (fun _ _ _ _ _ => (pe_ix ix_seq (pe_ix ix_seq (pv 1) (pv 3) (fun _ _ => rfl)) (pv 3) (fun _ _ => rfl))))
  (pss_cons (ps_if (PW.pt (pw_or (pt_cmpR (op_neD hr.units64) (LO.pe_prp p_SignTable_trace hr (by decide) (pv 0)) (pe_callB (cr_sum rfl) (by rfl) T.sum (by decide +kernel) (pa_cons (pv 2) pa_nil)) (nomark _)) (pw_or1 (pt_cmpR (op_neD hr.units64) (LO.pe_prp p_SignTable_is_idle hr (by decide) (pv 0)) (pe_cmpR (op_eqD hr.units64) (pv 2) (pe_op op_mulU (pe_lst (pa_cons pe_int pa_nil)) (pe_callB cr_len (by rfl) T.len (by decide +kernel) (pa_cons (pv 1) pa_nil))) (nomark _)) (nomark _))))) (pss_one (ps_ret pe_bl)) pss_nil)
  (pss_cons (ps_if (pt_cmpR op_gt (pe_callB cr_len (by rfl) T.len (by decide +kernel) (pa_cons (pv 1) pa_nil)) pe_int (nomark _)) (pss_one (ps_ret pe_bl)) pss_nil)
  (pss_one (ps_ret (pe_cmpR (LO.op_eqN (W := ⟨K, cl, w⟩) (n := 1) rfl m_Ratio___eq__ hr (by decide)) (C8.pe_mt0 m_SignTable_table hr (by decide) (pv 0)) (pe_callTy cr_tuple (by rfl) T.tuple (by decide +kernel) (pa_cons (pe_lc (own := [("_law_row", 5)]) (g := (gName 5)) (tt := tYes) rfl nd (pi_seq (pv 1)) (L2.blkOk_by (own := [("_law_row", 5)]) (by kernel_rfl)) (fun _ _ _ _ _ => (pg_name (i := 5) nd rfl (.inl rfl))) (fun _ _ _ _ _ => pts_nil) (fun _ _ _ _ _ => (pe_callTy cr_tuple (by rfl) T.tuple (by decide +kernel) (pa_cons (pe_lc (own := [("_law_entry", 4)]) (g := (gName 4)) (tt := tYes) rfl nd (pi_seq (pv 5)) (L2.blkOk_by (own := [("_law_entry", 4)]) (by kernel_rfl)) (fun _ _ _ _ _ => (pg_name (i := 4) nd rfl (.inl rfl))) (fun _ _ _ _ _ => pts_nil) (fun _ _ _ _ _ => (C8.pe_mk k_Ratio___init__1 hr (by decide) rfl (pa_cons (pv 4) pa_nil)))) pa_nil)))) pa_nil)) (nomark _))))))))
theorem sc__law_right : FnScope ["_law_jug_here", "_law_size", "_law_marks_here", "_law_turn", "_law_one", "_law_other", "_law_third", "_law_some", "_law_first", "_law_second", "_law_entry", "_law_row", "_law_idle"] ["_law_jug_here"] (C8.fnScope (topS 39)) := C8.fnScope_by (by decide +kernel)
set_option maxHeartbeats 8000000 in
theorem cal__law_right {f : Addr} {fd : FuncData} (T : Txt K w mg cl) (k_SignTable___init__0 : C8.Mak P w K mg base 3 "SignTable" (cl 1).1 (iSp ⟨K, cl, w⟩ 1 S_SignTable___init__) []) (s_SignTable_idle : LO.Stat P w K mg base 5 (cl 1).1 "idle" (pSp ⟨K, cl, w⟩ S_SignTable_idle)) (p_SignTable_marks : LO.Prp P w K mg base 1 (cl 1).1 "marks" (pSp ⟨K, cl, w⟩ S_SignTable_marks)) (m_SignTable_turned : C8.Met P w K mg base 5 (cl 1).1 "turned" (pSp ⟨K, cl, w⟩ S_SignTable_turned) []) (m_SignTable___mul__ : C8.Met P w K mg base 5 (cl 1).1 "__mul__" (pSp ⟨K, cl, w⟩ S_SignTable___mul__) []) (m_SignTable___neg__ : C8.Met P w K mg base 5 (cl 1).1 "__neg__" (pSp ⟨K, cl, w⟩ S_SignTable___neg__) []) (m_SignTable___eq__ : C8.Met P w K mg base 1 (cl 1).1 "__eq__" (pSp ⟨K, cl, w⟩ S_SignTable___eq__) []) (c__law_pick : C8.Cal P w K mg base 2 "_law_pick" (jSp ⟨K, cl, w⟩ S__law_pick) []) (c__law_marks : C8.Cal P w K mg base 3 "_law_marks" (jSp ⟨K, cl, w⟩ S__law_marks) []) (c__law_dense : C8.Cal P w K mg base 1 "_law_dense" (pSp ⟨K, cl, w⟩ S__law_dense) []) (c__law_product : C8.Cal P w K mg base 1 "_law_product" (pSp ⟨K, cl, w⟩ S__law_product) []) (c__law_flat : C8.Cal P w K mg base 1 "_law_flat" (pSp ⟨K, cl, w⟩ S__law_flat) []) (c__law_is_dense : C8.Cal P w K mg base 7 "_law_is_dense" (pSp ⟨K, cl, w⟩ S__law_is_dense) []) (F : C8.Def K mg "_law_right" (topS 39) f fd) (b : Binds K fd ["_law_jug_here"] []) : C8.Cal P w K mg base 8 "_law_right" (jSp ⟨K, cl, w⟩ S__law_right) [] := by
  refine C8.cal0 (N := ["_law_jug_here", "_law_size", "_law_marks_here", "_law_turn", "_law_one", "_law_other", "_law_third", "_law_some", "_law_first", "_law_second", "_law_entry", "_law_row", "_law_idle"]) F b .nil sc__law_right (jSp_len l__law_right) (fun cdv A outer s H vs Q E hr h => ⟨T__law_right ⟨K, cl, w⟩, ?_, jg_body (x0 := "_law_jug_here") (N := ["_law_size", "_law_marks_here", "_law_turn", "_law_one", "_law_other", "_law_third", "_law_some", "_law_first", "_law_second", "_law_entry", "_law_row", "_law_idle"]) (n := 0) (by decide) l__law_right (fun p xs Φ s => w__law_right ⟨K, cl, w⟩ T.ci_Ratio T.ci_SignTable p xs Φ s) h⟩)
  have nd := sc__law_right.nd
  unfold T__law_right
  exact (pss_cons (ps_set (i := 1) nd rfl (.inr rfl) (C8.pe_c c__law_pick hr (by decide) rfl (pa_cons (pv 0) (pa_cons (pe_lst (pa_cons pe_int (pa_cons pe_int (pa_cons pe_int (pa_cons pe_int (pa_cons pe_int (pa_cons pe_int (pa_cons pe_int (pa_cons pe_int (pa_cons pe_int pa_nil)))))))))) pa_nil))))
  (pss_cons (ps_setLc (i := 2) (own := [("_law_turn", 3)]) (g := (gName 3)) (tt := tYes) rfl nd rfl rfl (L2.sw_true rfl rfl rfl (by kernel_rfl)) (pi_range1 rfl T.range (pa_cons pe_int pa_nil)) (L2.blkOk_by (own := [("_law_turn", 3)]) (by kernel_rfl)) (fun _ _ _ _ _ => (pg_name (i := 3) nd rfl (.inl rfl))) (fun _ _ _ _ _ => pts_nil) (fun _ _ _ _ _ => (C8.pe_c c__law_marks hr (by decide) rfl (pa_cons (pv 0) (pa_cons (pv 1) pa_nil)))))
  (pss_cons (ps_asg (pe_lc (own := [("_law_some", 7)]) (g := (gName 7)) (tt := tYes) rfl nd (pi_seq (pv 2)) (L2.blkOk_by (own := [("_law_some", 7)]) (by kernel_rfl)) (fun _ _ _ _ _ => (pg_name (i := 7) nd rfl (.inl rfl))) (fun _ _ _ _ _ => pts_nil) (fun _ _ _ _ _ => (C8.pe_mk k_SignTable___init__0 hr (by decide) rfl (pa_cons (pv 7) pa_nil)))) (L2.pg_unl rfl (pgs_cons (pg_name (i := 4) nd rfl (.inl rfl)) (pgs_cons (pg_name (i := 5) nd rfl (.inl rfl)) (pgs_cons (pg_name (i := 6) nd rfl (.inl rfl)) pgs_nil)))))
  (pss_cons (ps_par (i := 8) (j := 9) (by rfl) nd rfl rfl (by decide) rfl rfl (pa_cons (C8.pe_c c__law_dense hr (by decide) rfl (pa_cons (pe_ix ix_seq (pv 2) pe_int (fun _ _ => rfl)) pa_nil)) (pa_cons (C8.pe_c c__law_dense hr (by decide) rfl (pa_cons (pe_ix ix_seq (pv 2) pe_int (fun _ _ => rfl)) pa_nil)) pa_nil)) (by rfl))
  (pss_cons (ps_if (PW.pt (pw_or (pt_not (pt_tru (C8.pe_c c__law_is_dense hr (by decide) rfl (pa_cons (pv 4) (pa_cons (pv 8) pa_nil))))) (pw_or1 (pt_not (pt_tru (C8.pe_c c__law_is_dense hr (by decide) rfl (pa_cons (pe_op (LO.op_bin m_SignTable___mul__ (by decide +kernel) T.sf_SignTable hr (by decide)) (pv 4) (pv 5)) (pa_cons (C8.pe_c c__law_product hr (by decide) rfl (pa_cons (pv 8) (pa_cons (pv 9) pa_nil))) pa_nil)))))))) (pss_one (ps_ret pe_bl)) pss_nil)
  (pss_cons (ps_if (PW.pt (pw_or (pt_not (pt_tru (C8.pe_c c__law_is_dense hr (by decide) rfl (pa_cons (C8.pe_mt0 m_SignTable_turned hr (by decide) (pv 4)) (pa_cons (C8.pe_c c__law_flat hr (by decide) rfl (pa_cons (pv 8) pa_nil)) pa_nil))))) (pw_or1 (pt_not (pt_tru (C8.pe_c c__law_is_dense hr (by decide) rfl (pa_cons (pe_op (LO.op_bin m_SignTable___mul__ (by decide +kernel) T.sf_SignTable hr (by decide)) (pv 5) (pv 4)) (pa_cons (C8.pe_c c__law_product hr (by decide) rfl (pa_cons (pv 9) (pa_cons (pv 8) pa_nil))) pa_nil)))))))) (pss_one (ps_ret pe_bl)) pss_nil)
  (pss_cons (ps_if (PW.pt (pw_or (pt_not (pt_tru (C8.pe_c c__law_is_dense hr (by decide) rfl (pa_cons (pe_un (LO.un_negO m_SignTable___neg__ hr (by decide)) (pv 4)) (pa_cons (pe_lc (own := [("_law_row", 11)]) (g := (gName 11)) (tt := tYes) rfl nd (pi_seq (pv 8)) (L2.blkOk_by (own := [("_law_row", 11)]) (by kernel_rfl)) (fun _ _ _ _ _ => (pg_name (i := 11) nd rfl (.inl rfl))) (fun _ _ _ _ _ => pts_nil) (fun _ _ _ _ _ => (pe_callTy cr_tuple (by rfl) T.tuple (by decide +kernel) (pa_cons (pe_lc (own := [("_law_entry", 10)]) (g := (gName 10)) (tt := tYes) rfl nd (pi_seq (pv 11)) (L2.blkOk_by (own := [("_law_entry", 10)]) (by kernel_rfl)) (fun _ _ _ _ _ => (pg_name (i := 10) nd rfl (.inl rfl))) (fun _ _ _ _ _ => pts_nil) (fun _ _ _ _ _ => (pe_un un_neg (pv 10)))) pa_nil)))) pa_nil))))) (pw_or1 (pt_cmpR (LO.op_neO m_SignTable___eq__ T.nc_SignTable hr (by decide)) (pe_un (LO.un_negO m_SignTable___neg__ hr (by decide)) (pe_un (LO.un_negO m_SignTable___neg__ hr (by decide)) (pv 4))) (pv 4) (nomark _))))) (pss_one (ps_ret pe_bl)) pss_nil)
  (pss_cons (ps_set (i := 12) nd rfl (.inl rfl) (LO.pe_smeth s_SignTable_idle hr (by decide) (C8.pe_gc (v := .ref (cl 1).1) rfl T.mg_SignTable) (pa_cons (pv 1) pa_nil)))
  (pss_cons (ps_if (PW.pt (pw_or (pt_cmpR (LO.op_neO m_SignTable___eq__ T.nc_SignTable hr (by decide)) (pe_op (LO.op_bin m_SignTable___mul__ (by decide +kernel) T.sf_SignTable hr (by decide)) (pv 4) (C8.pe_mt0 m_SignTable_turned hr (by decide) (pv 4))) (pv 12) (nomark _)) (pw_or (pt_cmpR (LO.op_neO m_SignTable___eq__ T.nc_SignTable hr (by decide)) (pe_op (LO.op_bin m_SignTable___mul__ (by decide +kernel) T.sf_SignTable hr (by decide)) (C8.pe_mt0 m_SignTable_turned hr (by decide) (pv 4)) (pv 4)) (pv 12) (nomark _)) (pw_or (pt_cmpR (LO.op_neO m_SignTable___eq__ T.nc_SignTable hr (by decide)) (pe_op (LO.op_bin m_SignTable___mul__ (by decide +kernel) T.sf_SignTable hr (by decide)) (pv 12) (pv 4)) (pv 4) (nomark _)) (pw_or1 (pt_cmpR (LO.op_neO m_SignTable___eq__ T.nc_SignTable hr (by decide)) (pe_op (LO.op_bin m_SignTable___mul__ (by decide +kernel) T.sf_SignTable hr (by decide)) (pv 4) (pv 12)) (pv 4) (nomark _))))))) (pss_one (ps_ret pe_bl)) pss_nil)
  (pss_cons (ps_if (PW.pt (pw_or (pt_cmpR (LO.op_neO m_SignTable___eq__ T.nc_SignTable hr (by decide)) (pe_op (LO.op_bin m_SignTable___mul__ (by decide +kernel) T.sf_SignTable hr (by decide)) (pe_op (LO.op_bin m_SignTable___mul__ (by decide +kernel) T.sf_SignTable hr (by decide)) (pv 4) (pv 5)) (pv 6)) (pe_op (LO.op_bin m_SignTable___mul__ (by decide +kernel) T.sf_SignTable hr (by decide)) (pv 4) (pe_op (LO.op_bin m_SignTable___mul__ (by decide +kernel) T.sf_SignTable hr (by decide)) (pv 5) (pv 6))) (nomark _)) (pw_or1 (pt_cmpR (LO.op_neO m_SignTable___eq__ T.nc_SignTable hr (by decide)) (C8.pe_mt0 m_SignTable_turned hr (by decide) (pe_op (LO.op_bin m_SignTable___mul__ (by decide +kernel) T.sf_SignTable hr (by decide)) (pv 4) (pv 5))) (pe_op (LO.op_bin m_SignTable___mul__ (by decide +kernel) T.sf_SignTable hr (by decide)) (C8.pe_mt0 m_SignTable_turned hr (by decide) (pv 5)) (C8.pe_mt0 m_SignTable_turned hr (by decide) (pv 4))) (nomark _))))) (pss_one (ps_ret pe_bl)) pss_nil)
  (pss_cons (ps_if (PW.pt (pw_or (pt_cmpR (op_neD hr.units64) (pe_cmpR (LO.op_eqO m_SignTable___eq__ hr (by decide)) (pv 4) (pv 5) (nomark _)) (pe_cmpR (op_eqD hr.units64) (pe_ix ix_seq (pv 2) pe_int (fun _ _ => rfl)) (pe_ix ix_seq (pv 2) pe_int (fun _ _ => rfl)) (nomark _)) (nomark _)) (pw_or (pt_cmpR (op_neD hr.units64) (LO.pe_prp p_SignTable_marks hr (by decide) (pv 4)) (pe_ix ix_seq (pv 2) pe_int (fun _ _ => rfl)) (nomark _)) (pw_or1 (pt_cmpR (LO.op_eqO m_SignTable___eq__ hr (by decide)) (pv 4) (pe_ix ix_seq (pv 2) pe_int (fun _ _ => rfl)) (nomark _)))))) (pss_one (ps_ret pe_bl)) pss_nil)
  (pss_one (ps_ret (pe_cmpR (LO.op_eqO m_SignTable___eq__ hr (by decide)) (C8.pe_mt0 m_SignTable_turned hr (by decide) (C8.pe_mt0 m_SignTable_turned hr (by decide) (pv 4))) (pv 4) (nomark _)))))))))))))))
theorem sc_law : FnScope ["_law_script", "_law_at", "_law_jug_here", "_law_great", "_law_swap", "_law_side", "_law_told"] ["_law_script"] (C8.fnScope (topS 40)) := C8.fnScope_by (by decide +kernel)
set_option maxHeartbeats 8000000 in
theorem cal_law {f : Addr} {fd : FuncData} (T : Txt K w mg cl) (k_SignTable___init__0 : C8.Mak P w K mg base 3 "SignTable" (cl 1).1 (iSp ⟨K, cl, w⟩ 1 S_SignTable___init__) []) (s_SignTable_idle : LO.Stat P w K mg base 5 (cl 1).1 "idle" (pSp ⟨K, cl, w⟩ S_SignTable_idle)) (p_SignTable_marks : LO.Prp P w K mg base 1 (cl 1).1 "marks" (pSp ⟨K, cl, w⟩ S_SignTable_marks)) (p_SignTable_trace : LO.Prp P w K mg base 2 (cl 1).1 "trace" (pSp ⟨K, cl, w⟩ S_SignTable_trace)) (m_SignTable_turned : C8.Met P w K mg base 5 (cl 1).1 "turned" (pSp ⟨K, cl, w⟩ S_SignTable_turned) []) (m_SignTable___mul__ : C8.Met P w K mg base 5 (cl 1).1 "__mul__" (pSp ⟨K, cl, w⟩ S_SignTable___mul__) []) (m_SignTable___eq__ : C8.Met P w K mg base 1 (cl 1).1 "__eq__" (pSp ⟨K, cl, w⟩ S_SignTable___eq__) []) (c__law_jug : C8.Cal P w K mg base 1 "_law_jug" (mSp ⟨K, cl, w⟩ S__law_jug) []) (c__law_marks : C8.Cal P w K mg base 3 "_law_marks" (jSp ⟨K, cl, w⟩ S__law_marks) []) (c__law_right : C8.Cal P w K mg base 8 "_law_right" (jSp ⟨K, cl, w⟩ S__law_right) []) (F : C8.Def K mg "law" (topS 40) f fd) (b : Binds K fd ["_law_script"] []) : FnOk P w K mg base CX0 9 f fd ["_law_script"] (pSp ⟨K, cl, w⟩ S_law) := by
  refine C8.fn0 (N := ["_law_script", "_law_at", "_law_jug_here", "_law_great", "_law_swap", "_law_side", "_law_told"]) F.fn sc_law (pSp_len l_law) (fun cdv A outer s H vs Q E hr h => ⟨T_law ⟨K, cl, w⟩, ?_, pure_body (N := ["_law_script", "_law_at", "_law_jug_here", "_law_great", "_law_swap", "_law_side", "_law_told"]) (n := 1) (by decide) l_law (fun xs Φ s => w_law ⟨K, cl, w⟩ T.ci_Ratio T.ci_SignTable xs Φ s) h⟩)
  have nd := sc_law.nd
  unfold T_law
  exact (pss_cons (ps_for PassesOwn.never rfl (pi_range1 rfl T.range (pa_cons (pe_callB (cr_max2 rfl) (by rfl) T.max (by decide +kernel) (pa_cons pe_int (pa_cons (pe_callB (cr_min2 rfl) (by rfl) T.min (by decide +kernel) (pa_cons pe_int (pa_cons (pe_callB cr_len (by rfl) T.len (by decide +kernel) (pa_cons (pv 0) pa_nil)) pa_nil))) pa_nil))) pa_nil)) (pg_name (i := 1) nd rfl (.inl rfl)) (pss_cons (ps_set (i := 2) nd rfl (.inl rfl) (C8.pe_c c__law_jug hr (by decide) rfl (pa_cons (pv 0) (pa_cons (pv 1) pa_nil))))
  (pss_cons (ps_if (pt_not (pt_tru (C8.pe_c c__law_right hr (by decide) rfl (pa_cons (pv 2) pa_nil)))) (pss_one (ps_ret pe_bl)) pss_nil)
  (pss_cons (ps_set (i := 3) nd rfl (.inl rfl) (C8.pe_mk k_SignTable___init__0 hr (by decide) rfl (pa_cons (C8.pe_c c__law_marks hr (by decide) rfl (pa_cons (pv 2) (pa_cons pe_int pa_nil))) pa_nil)))
  (pss_one (ps_if (PW.pt (pw_or (pt_cmpR (LO.op_neO m_SignTable___eq__ T.nc_SignTable hr (by decide)) (pe_op (LO.op_bin m_SignTable___mul__ (by decide +kernel) T.sf_SignTable hr (by decide)) (pv 3) (C8.pe_mt0 m_SignTable_turned hr (by decide) (pv 3))) (LO.pe_smeth s_SignTable_idle hr (by decide) (C8.pe_gc (v := .ref (cl 1).1) rfl T.mg_SignTable) (pa_cons pe_int pa_nil)) (nomark _)) (pw_or1 (pt_cmpR (op_neD hr.units64) (pe_callB cr_len (by rfl) T.len (by decide +kernel) (pa_cons (LO.pe_prp p_SignTable_marks hr (by decide) (pe_op (LO.op_bin m_SignTable___mul__ (by decide +kernel) T.sf_SignTable hr (by decide)) (pv 3) (pv 3))) pa_nil)) pe_int (nomark _))))) (pss_one (ps_ret pe_bl)) pss_nil))))))
  (pss_cons (ps_par (i := 4) (j := 5) (by rfl) nd rfl rfl (by decide) rfl rfl (pa_cons (C8.pe_mk k_SignTable___init__0 hr (by decide) rfl (pa_cons (pe_tup (pa_cons pe_int (pa_cons (pe_un un_neg pe_int) pa_nil))) pa_nil)) (pa_cons (C8.pe_mk k_SignTable___init__0 hr (by decide) rfl (pa_cons (pe_tup (pa_cons (pe_un un_neg pe_int) (pa_cons pe_int pa_nil))) pa_nil)) pa_nil)) (by rfl))
  (pss_cons (ps_set (i := 6) nd rfl (.inl rfl) (pe_lst (pa_cons (LO.pe_prp p_SignTable_marks hr (by decide) (pe_op (LO.op_bin m_SignTable___mul__ (by decide +kernel) T.sf_SignTable hr (by decide)) (pv 4) (pv 4))) (pa_cons (LO.pe_prp p_SignTable_marks hr (by decide) (pe_op (LO.op_bin m_SignTable___mul__ (by decide +kernel) T.sf_SignTable hr (by decide)) (pv 4) (pv 5))) (pa_cons (LO.pe_prp p_SignTable_marks hr (by decide) (pe_op (LO.op_bin m_SignTable___mul__ (by decide +kernel) T.sf_SignTable hr (by decide)) (pv 5) (pv 4))) (pa_cons (LO.pe_prp p_SignTable_marks hr (by decide) (LO.pe_smeth s_SignTable_idle hr (by decide) (C8.pe_gc (v := .ref (cl 1).1) rfl T.mg_SignTable) (pa_cons pe_int pa_nil))) pa_nil))))))
  (pss_one (ps_ret (pe_cmpR (op_eqD hr.units64) (pe_op op_addU (pv 6) (pe_lst (pa_cons (LO.pe_prp p_SignTable_trace hr (by decide) (LO.pe_smeth s_SignTable_idle hr (by decide) (C8.pe_gc (v := .ref (cl 1).1) rfl T.mg_SignTable) (pa_cons pe_int pa_nil))) pa_nil))) (pe_lst (pa_cons (pe_tup (pa_cons (pe_un un_neg pe_int) (pa_cons (pe_un un_neg pe_int) pa_nil))) (pa_cons (pe_tup (pa_cons pe_int (pa_cons pe_int pa_nil))) (pa_cons (pe_tup (pa_cons (pe_un un_neg pe_int) (pa_cons (pe_un un_neg pe_int) pa_nil))) (pa_cons (pe_tup (pa_cons pe_int pa_nil)) (pa_cons pe_int pa_nil)))))) (nomark _)))))))
end
end K15
namespace K15
open PySem L2 Dt Q
abbrev st0 : Stmt := topS 12
abbrev st1 : Stmt := topS 13
abbrev st2 : Stmt := topS 14
abbrev st3 : Stmt := topS 15
abbrev st4 : Stmt := topS 18
abbrev st5 : Stmt := inClass (topS 19) 0
abbrev st6 : Stmt := inClass (topS 19) 11
abbrev st7 : Stmt := topS 27
abbrev st8 : Stmt := topS 28
abbrev st9 : Stmt := inClass (topS 29) 0
abbrev st10 : Stmt := inClass (topS 29) 1
abbrev st11 : Stmt := inClass (topS 29) 3
abbrev st12 : Stmt := inClass (topS 29) 4
abbrev st13 : Stmt := inClass (topS 29) 5
abbrev st14 : Stmt := inClass (topS 29) 6
abbrev st15 : Stmt := inClass (topS 29) 7
abbrev st16 : Stmt := inClass (topS 29) 8
abbrev st17 : Stmt := inClass (topS 29) 9
abbrev st18 : Stmt := inClass (topS 29) 10
abbrev st19 : Stmt := inClass (topS 29) 11
abbrev st20 : Stmt := topS 31
abbrev st21 : Stmt := topS 32
abbrev st22 : Stmt := topS 33
abbrev st23 : Stmt := topS 34
abbrev st24 : Stmt := topS 35
abbrev st25 : Stmt := topS 36
abbrev st26 : Stmt := topS 37
abbrev st27 : Stmt := topS 38
abbrev st28 : Stmt := topS 39
abbrev st29 : Stmt := topS 40
set_option maxHeartbeats 0 in
theorem all_mk {l : PySem.W.OpenLaw} {w : World} {K : PySem.W.Frag} {h : Heap} {mg : Str → Option Value} {fa C0 C1 f0 f1 f2 f3 f4 f5 f6 f7 f8 f9 f10 f11 f12 f13 f14 f15 f16 f17 f18 f19 f20 f21 f22 f23 f24 f25 f26 f27 f28 f29 : Addr} (X : K.In h) (G : h.Ns mainGlobals mg) (hfa : mg "law" = some (.ref fa))
    {od0 an0 : Option Addr} {sl0 : Array (Option Value)} {oc0 kV0 dc0 pm0 cd0 ct0 : Value} {od1 an1 : Option Addr} {sl1 : Array (Option Value)} {oc1 kV1 dc1 pm1 cd1 ct1 : Value} {od2 an2 : Option Addr} {sl2 : Array (Option Value)} {oc2 kV2 dc2 pm2 cd2 ct2 : Value} {od3 an3 : Option Addr} {sl3 : Array (Option Value)} {oc3 kV3 dc3 pm3 cd3 ct3 : Value} {od4 an4 : Option Addr} {sl4 : Array (Option Value)} {oc4 kV4 dc4 pm4 cd4 ct4 : Value} {od5 an5 : Option Addr} {sl5 : Array (Option Value)} {oc5 kV5 dc5 pm5 cd5 ct5 : Value} {dT5 : Addr} {dO5 : Value} {dD5 : Option Addr} {dn5 : Nat} {dS5 : Array (Option Value)} {dt5_0 : _} {od6 an6 : Option Addr} {sl6 : Array (Option Value)} {oc6 kV6 dc6 pm6 cd6 ct6 : Value} {od7 an7 : Option Addr} {sl7 : Array (Option Value)} {oc7 kV7 dc7 pm7 cd7 ct7 : Value} {od8 an8 : Option Addr} {sl8 : Array (Option Value)} {oc8 kV8 dc8 pm8 cd8 ct8 : Value} {od9 an9 : Option Addr} {sl9 : Array (Option Value)} {oc9 kV9 dc9 pm9 cd9 ct9 : Value} {od10 an10 : Option Addr} {sl10 : Array (Option Value)} {oc10 kV10 dc10 pm10 cd10 ct10 : Value} {q10 : Addr} {rs10 : List Value} {od11 an11 : Option Addr} {sl11 : Array (Option Value)} {oc11 kV11 dc11 pm11 cd11 ct11 : Value} {q11 : Addr} {rs11 : List Value} {od12 an12 : Option Addr} {sl12 : Array (Option Value)} {oc12 kV12 dc12 pm12 cd12 ct12 : Value} {q12 : Addr} {rs12 : List Value} {od13 an13 : Option Addr} {sl13 : Array (Option Value)} {oc13 kV13 dc13 pm13 cd13 ct13 : Value} {q13 : Addr} {rs13 : List Value} {od14 an14 : Option Addr} {sl14 : Array (Option Value)} {oc14 kV14 dc14 pm14 cd14 ct14 : Value} {q14 : Addr} {rs14 : List Value} {od15 an15 : Option Addr} {sl15 : Array (Option Value)} {oc15 kV15 dc15 pm15 cd15 ct15 : Value} {od16 an16 : Option Addr} {sl16 : Array (Option Value)} {oc16 kV16 dc16 pm16 cd16 ct16 : Value} {od17 an17 : Option Addr} {sl17 : Array (Option Value)} {oc17 kV17 dc17 pm17 cd17 ct17 : Value} {od18 an18 : Option Addr} {sl18 : Array (Option Value)} {oc18 kV18 dc18 pm18 cd18 ct18 : Value} {od19 an19 : Option Addr} {sl19 : Array (Option Value)} {oc19 kV19 dc19 pm19 cd19 ct19 : Value} {od20 an20 : Option Addr} {sl20 : Array (Option Value)} {oc20 kV20 dc20 pm20 cd20 ct20 : Value} {od21 an21 : Option Addr} {sl21 : Array (Option Value)} {oc21 kV21 dc21 pm21 cd21 ct21 : Value} {od22 an22 : Option Addr} {sl22 : Array (Option Value)} {oc22 kV22 dc22 pm22 cd22 ct22 : Value} {od23 an23 : Option Addr} {sl23 : Array (Option Value)} {oc23 kV23 dc23 pm23 cd23 ct23 : Value} {od24 an24 : Option Addr} {sl24 : Array (Option Value)} {oc24 kV24 dc24 pm24 cd24 ct24 : Value} {od25 an25 : Option Addr} {sl25 : Array (Option Value)} {oc25 kV25 dc25 pm25 cd25 ct25 : Value} {od26 an26 : Option Addr} {sl26 : Array (Option Value)} {oc26 kV26 dc26 pm26 cd26 ct26 : Value} {od27 an27 : Option Addr} {sl27 : Array (Option Value)} {oc27 kV27 dc27 pm27 cd27 ct27 : Value} {od28 an28 : Option Addr} {sl28 : Array (Option Value)} {oc28 kV28 dc28 pm28 cd28 ct28 : Value} {od29 an29 : Option Addr} {sl29 : Array (Option Value)} {oc29 kV29 dc29 pm29 cd29 ct29 : Value} {tg0 tg1 tg2 : _}
    (x0_mg : PySem.W.nsIn K mainGlobals "Ratio" = some (some (.ref C0)))
    (x1_mg : PySem.W.nsIn K mainGlobals "SignTable" = some (some (.ref C1)))
    (a0 : PySem.W.nsIn K mainGlobals "is_integer" = some (some (.ref f0)))
    (l0 : K.lookup f0 = some ⟨oc0, od0, .func (PySem.W.fnOf "is_integer" "is_integer" (C8.fnArgs st0) (C8.fnBody st0) (C8.fnScope st0) .none kV0 dc0 pm0 an0 cd0 ct0), sl0⟩)
    (c0 : PySem.W.codeIn K cd0 "is_integer" = true)
    (k0 : PySem.W.keepIn K (.ref f0) = true)
    (a1 : PySem.W.nsIn K mainGlobals "is_passed_integer" = some (some (.ref f1)))
    (l1 : K.lookup f1 = some ⟨oc1, od1, .func (PySem.W.fnOf "is_passed_integer" "is_passed_integer" (C8.fnArgs st1) (C8.fnBody st1) (C8.fnScope st1) .none kV1 dc1 pm1 an1 cd1 ct1), sl1⟩)
    (c1 : PySem.W.codeIn K cd1 "is_passed_integer" = true)
    (k1 : PySem.W.keepIn K (.ref f1) = true)
    (a2 : PySem.W.nsIn K mainGlobals "check_number" = some (some (.ref f2)))
    (l2 : K.lookup f2 = some ⟨oc2, od2, .func (PySem.W.fnOf "check_number" "check_number" (C8.fnArgs st2) (C8.fnBody st2) (C8.fnScope st2) .none kV2 dc2 pm2 an2 cd2 ct2), sl2⟩)
    (c2 : PySem.W.codeIn K cd2 "check_number" = true)
    (k2 : PySem.W.keepIn K (.ref f2) = true)
    (a3 : PySem.W.nsIn K mainGlobals "sign_of" = some (some (.ref f3)))
    (l3 : K.lookup f3 = some ⟨oc3, od3, .func (PySem.W.fnOf "sign_of" "sign_of" (C8.fnArgs st3) (C8.fnBody st3) (C8.fnScope st3) .none kV3 dc3 pm3 an3 cd3 ct3), sl3⟩)
    (c3 : PySem.W.codeIn K cd3 "sign_of" = true)
    (k3 : PySem.W.keepIn K (.ref f3) = true)
    (a4 : PySem.W.nsIn K mainGlobals "_lowest_terms" = some (some (.ref f4)))
    (l4 : K.lookup f4 = some ⟨oc4, od4, .func (PySem.W.fnOf "_lowest_terms" "_lowest_terms" (C8.fnArgs st4) (C8.fnBody st4) (C8.fnScope st4) .none kV4 dc4 pm4 an4 cd4 ct4), sl4⟩)
    (c4 : PySem.W.codeIn K cd4 "_lowest_terms" = true)
    (k4 : PySem.W.keepIn K (.ref f4) = true)
    (a5 : PySem.W.findIn K (.ref C0) "__init__" = some (some (.ref f5)))
    (i5 : PySem.W.isFn K (.ref f5) = true)
    (l5 : K.lookup f5 = some ⟨oc5, od5, .func (PySem.W.fnOf "__init__" "Ratio.__init__" (C8.fnArgs st5) (C8.fnBody st5) (C8.fnScope st5) (.ref dT5) kV5 dc5 pm5 an5 cd5 ct5), sl5⟩)
    (d5 : K.lookup dT5 = some ⟨dO5, dD5, .seq ([.int 1 dt5_0] : List Value).toArray dn5, dS5⟩)
    (c5 : PySem.W.codeIn K cd5 "Ratio.__init__" = true)
    (k5 : PySem.W.keepIn K (.ref f5) = true)
    (a6 : PySem.W.findIn K (.ref C0) "__eq__" = some (some (.ref f6)))
    (i6 : PySem.W.isFn K (.ref f6) = true)
    (l6 : K.lookup f6 = some ⟨oc6, od6, .func (PySem.W.fnOf "__eq__" "Ratio.__eq__" (C8.fnArgs st6) (C8.fnBody st6) (C8.fnScope st6) .none kV6 dc6 pm6 an6 cd6 ct6), sl6⟩)
    (c6 : PySem.W.codeIn K cd6 "Ratio.__eq__" = true)
    (k6 : PySem.W.keepIn K (.ref f6) = true)
    (a7 : PySem.W.nsIn K mainGlobals "_tell_table" = some (some (.ref f7)))
    (l7 : K.lookup f7 = some ⟨oc7, od7, .func (PySem.W.fnOf "_tell_table" "_tell_table" (C8.fnArgs st7) (C8.fnBody st7) (C8.fnScope st7) .none kV7 dc7 pm7 an7 cd7 ct7), sl7⟩)
    (c7 : PySem.W.codeIn K cd7 "_tell_table" = true)
    (k7 : PySem.W.keepIn K (.ref f7) = true)
    (a8 : PySem.W.nsIn K mainGlobals "_row_of" = some (some (.ref f8)))
    (l8 : K.lookup f8 = some ⟨oc8, od8, .func (PySem.W.fnOf "_row_of" "_row_of" (C8.fnArgs st8) (C8.fnBody st8) (C8.fnScope st8) .none kV8 dc8 pm8 an8 cd8 ct8), sl8⟩)
    (c8 : PySem.W.codeIn K cd8 "_row_of" = true)
    (k8 : PySem.W.keepIn K (.ref f8) = true)
    (a9 : PySem.W.findIn K (.ref C1) "__init__" = some (some (.ref f9)))
    (i9 : PySem.W.isFn K (.ref f9) = true)
    (l9 : K.lookup f9 = some ⟨oc9, od9, .func (PySem.W.fnOf "__init__" "SignTable.__init__" (C8.fnArgs st9) (C8.fnBody st9) (C8.fnScope st9) .none kV9 dc9 pm9 an9 cd9 ct9), sl9⟩)
    (c9 : PySem.W.codeIn K cd9 "SignTable.__init__" = true)
    (k9 : PySem.W.keepIn K (.ref f9) = true)
    (a10 : PySem.W.findCls K (.ref C1) (.type "type") "idle" = some (.get (.builtin "staticmethod.__get__") (.ref q10) .none (.ref C1)))
    (r10 : PySem.W.recIn K q10 "staticmethod" = some (.ref f10 :: rs10))
    (l10 : K.lookup f10 = some ⟨oc10, od10, .func (PySem.W.fnOf "idle" "SignTable.idle" (C8.fnArgs st10) (C8.fnBody st10) (C8.fnScope st10) .none kV10 dc10 pm10 an10 cd10 ct10), sl10⟩)
    (c10 : PySem.W.codeIn K cd10 "SignTable.idle" = true)
    (k10 : PySem.W.keepIn K (.ref f10) = true)
    (a11 : PySem.W.findIn K (.ref C1) "size" = some (some (.ref q11)))
    (g11 : PySem.W.specialIn K (.ref q11) "__get__" = some (some (.builtin "property.__get__")))
    (t11 : PySem.W.takesIn K (.ref q11) = some true)
    (r11 : PySem.W.recIn K q11 "property" = some (.ref f11 :: rs11))
    (l11 : K.lookup f11 = some ⟨oc11, od11, .func (PySem.W.fnOf "size" "SignTable.size" (C8.fnArgs st11) (C8.fnBody st11) (C8.fnScope st11) .none kV11 dc11 pm11 an11 cd11 ct11), sl11⟩)
    (c11 : PySem.W.codeIn K cd11 "SignTable.size" = true)
    (k11 : PySem.W.keepIn K (.ref f11) = true)
    (a12 : PySem.W.findIn K (.ref C1) "marks" = some (some (.ref q12)))
    (g12 : PySem.W.specialIn K (.ref q12) "__get__" = some (some (.builtin "property.__get__")))
    (t12 : PySem.W.takesIn K (.ref q12) = some true)
    (r12 : PySem.W.recIn K q12 "property" = some (.ref f12 :: rs12))
    (l12 : K.lookup f12 = some ⟨oc12, od12, .func (PySem.W.fnOf "marks" "SignTable.marks" (C8.fnArgs st12) (C8.fnBody st12) (C8.fnScope st12) .none kV12 dc12 pm12 an12 cd12 ct12), sl12⟩)
    (c12 : PySem.W.codeIn K cd12 "SignTable.marks" = true)
    (k12 : PySem.W.keepIn K (.ref f12) = true)
    (a13 : PySem.W.findIn K (.ref C1) "trace" = some (some (.ref q13)))
    (g13 : PySem.W.specialIn K (.ref q13) "__get__" = some (some (.builtin "property.__get__")))
    (t13 : PySem.W.takesIn K (.ref q13) = some true)
    (r13 : PySem.W.recIn K q13 "property" = some (.ref f13 :: rs13))
    (l13 : K.lookup f13 = some ⟨oc13, od13, .func (PySem.W.fnOf "trace" "SignTable.trace" (C8.fnArgs st13) (C8.fnBody st13) (C8.fnScope st13) .none kV13 dc13 pm13 an13 cd13 ct13), sl13⟩)
    (c13 : PySem.W.codeIn K cd13 "SignTable.trace" = true)
    (k13 : PySem.W.keepIn K (.ref f13) = true)
    (a14 : PySem.W.findIn K (.ref C1) "is_idle" = some (some (.ref q14)))
    (g14 : PySem.W.specialIn K (.ref q14) "__get__" = some (some (.builtin "property.__get__")))
    (t14 : PySem.W.takesIn K (.ref q14) = some true)
    (r14 : PySem.W.recIn K q14 "property" = some (.ref f14 :: rs14))
    (l14 : K.lookup f14 = some ⟨oc14, od14, .func (PySem.W.fnOf "is_idle" "SignTable.is_idle" (C8.fnArgs st14) (C8.fnBody st14) (C8.fnScope st14) .none kV14 dc14 pm14 an14 cd14 ct14), sl14⟩)
    (c14 : PySem.W.codeIn K cd14 "SignTable.is_idle" = true)
    (k14 : PySem.W.keepIn K (.ref f14) = true)
    (a15 : PySem.W.findIn K (.ref C1) "turned" = some (some (.ref f15)))
    (i15 : PySem.W.isFn K (.ref f15) = true)
    (l15 : K.lookup f15 = some ⟨oc15, od15, .func (PySem.W.fnOf "turned" "SignTable.turned" (C8.fnArgs st15) (C8.fnBody st15) (C8.fnScope st15) .none kV15 dc15 pm15 an15 cd15 ct15), sl15⟩)
    (c15 : PySem.W.codeIn K cd15 "SignTable.turned" = true)
    (k15 : PySem.W.keepIn K (.ref f15) = true)
    (a16 : PySem.W.findIn K (.ref C1) "table" = some (some (.ref f16)))
    (i16 : PySem.W.isFn K (.ref f16) = true)
    (l16 : K.lookup f16 = some ⟨oc16, od16, .func (PySem.W.fnOf "table" "SignTable.table" (C8.fnArgs st16) (C8.fnBody st16) (C8.fnScope st16) .none kV16 dc16 pm16 an16 cd16 ct16), sl16⟩)
    (c16 : PySem.W.codeIn K cd16 "SignTable.table" = true)
    (k16 : PySem.W.keepIn K (.ref f16) = true)
    (a17 : PySem.W.findIn K (.ref C1) "__mul__" = some (some (.ref f17)))
    (i17 : PySem.W.isFn K (.ref f17) = true)
    (l17 : K.lookup f17 = some ⟨oc17, od17, .func (PySem.W.fnOf "__mul__" "SignTable.__mul__" (C8.fnArgs st17) (C8.fnBody st17) (C8.fnScope st17) .none kV17 dc17 pm17 an17 cd17 ct17), sl17⟩)
    (c17 : PySem.W.codeIn K cd17 "SignTable.__mul__" = true)
    (k17 : PySem.W.keepIn K (.ref f17) = true)
    (a18 : PySem.W.findIn K (.ref C1) "__neg__" = some (some (.ref f18)))
    (i18 : PySem.W.isFn K (.ref f18) = true)
    (l18 : K.lookup f18 = some ⟨oc18, od18, .func (PySem.W.fnOf "__neg__" "SignTable.__neg__" (C8.fnArgs st18) (C8.fnBody st18) (C8.fnScope st18) .none kV18 dc18 pm18 an18 cd18 ct18), sl18⟩)
    (c18 : PySem.W.codeIn K cd18 "SignTable.__neg__" = true)
    (k18 : PySem.W.keepIn K (.ref f18) = true)
    (a19 : PySem.W.findIn K (.ref C1) "__eq__" = some (some (.ref f19)))
    (i19 : PySem.W.isFn K (.ref f19) = true)
    (l19 : K.lookup f19 = some ⟨oc19, od19, .func (PySem.W.fnOf "__eq__" "SignTable.__eq__" (C8.fnArgs st19) (C8.fnBody st19) (C8.fnScope st19) .none kV19 dc19 pm19 an19 cd19 ct19), sl19⟩)
    (c19 : PySem.W.codeIn K cd19 "SignTable.__eq__" = true)
    (k19 : PySem.W.keepIn K (.ref f19) = true)
    (a20 : PySem.W.nsIn K mainGlobals "_law_jug" = some (some (.ref f20)))
    (l20 : K.lookup f20 = some ⟨oc20, od20, .func (PySem.W.fnOf "_law_jug" "_law_jug" (C8.fnArgs st20) (C8.fnBody st20) (C8.fnScope st20) .none kV20 dc20 pm20 an20 cd20 ct20), sl20⟩)
    (c20 : PySem.W.codeIn K cd20 "_law_jug" = true)
    (k20 : PySem.W.keepIn K (.ref f20) = true)
    (a21 : PySem.W.nsIn K mainGlobals "_law_pour" = some (some (.ref f21)))
    (l21 : K.lookup f21 = some ⟨oc21, od21, .func (PySem.W.fnOf "_law_pour" "_law_pour" (C8.fnArgs st21) (C8.fnBody st21) (C8.fnScope st21) .none kV21 dc21 pm21 an21 cd21 ct21), sl21⟩)
    (c21 : PySem.W.codeIn K cd21 "_law_pour" = true)
    (k21 : PySem.W.keepIn K (.ref f21) = true)
    (a22 : PySem.W.nsIn K mainGlobals "_law_pick" = some (some (.ref f22)))
    (l22 : K.lookup f22 = some ⟨oc22, od22, .func (PySem.W.fnOf "_law_pick" "_law_pick" (C8.fnArgs st22) (C8.fnBody st22) (C8.fnScope st22) .none kV22 dc22 pm22 an22 cd22 ct22), sl22⟩)
    (c22 : PySem.W.codeIn K cd22 "_law_pick" = true)
    (k22 : PySem.W.keepIn K (.ref f22) = true)
    (a23 : PySem.W.nsIn K mainGlobals "_law_marks" = some (some (.ref f23)))
    (l23 : K.lookup f23 = some ⟨oc23, od23, .func (PySem.W.fnOf "_law_marks" "_law_marks" (C8.fnArgs st23) (C8.fnBody st23) (C8.fnScope st23) .none kV23 dc23 pm23 an23 cd23 ct23), sl23⟩)
    (c23 : PySem.W.codeIn K cd23 "_law_marks" = true)
    (k23 : PySem.W.keepIn K (.ref f23) = true)
    (a24 : PySem.W.nsIn K mainGlobals "_law_dense" = some (some (.ref f24)))
    (l24 : K.lookup f24 = some ⟨oc24, od24, .func (PySem.W.fnOf "_law_dense" "_law_dense" (C8.fnArgs st24) (C8.fnBody st24) (C8.fnScope st24) .none kV24 dc24 pm24 an24 cd24 ct24), sl24⟩)
    (c24 : PySem.W.codeIn K cd24 "_law_dense" = true)
    (k24 : PySem.W.keepIn K (.ref f24) = true)
    (a25 : PySem.W.nsIn K mainGlobals "_law_product" = some (some (.ref f25)))
    (l25 : K.lookup f25 = some ⟨oc25, od25, .func (PySem.W.fnOf "_law_product" "_law_product" (C8.fnArgs st25) (C8.fnBody st25) (C8.fnScope st25) .none kV25 dc25 pm25 an25 cd25 ct25), sl25⟩)
    (c25 : PySem.W.codeIn K cd25 "_law_product" = true)
    (k25 : PySem.W.keepIn K (.ref f25) = true)
    (a26 : PySem.W.nsIn K mainGlobals "_law_flat" = some (some (.ref f26)))
    (l26 : K.lookup f26 = some ⟨oc26, od26, .func (PySem.W.fnOf "_law_flat" "_law_flat" (C8.fnArgs st26) (C8.fnBody st26) (C8.fnScope st26) .none kV26 dc26 pm26 an26 cd26 ct26), sl26⟩)
    (c26 : PySem.W.codeIn K cd26 "_law_flat" = true)
    (k26 : PySem.W.keepIn K (.ref f26) = true)
    (a27 : PySem.W.nsIn K mainGlobals "_law_is_dense" = some (some (.ref f27)))
    (l27 : K.lookup f27 = some ⟨oc27, od27, .func (PySem.W.fnOf "_law_is_dense" "_law_is_dense" (C8.fnArgs st27) (C8.fnBody st27) (C8.fnScope st27) .none kV27 dc27 pm27 an27 cd27 ct27), sl27⟩)
    (c27 : PySem.W.codeIn K cd27 "_law_is_dense" = true)
    (k27 : PySem.W.keepIn K (.ref f27) = true)
    (a28 : PySem.W.nsIn K mainGlobals "_law_right" = some (some (.ref f28)))
    (l28 : K.lookup f28 = some ⟨oc28, od28, .func (PySem.W.fnOf "_law_right" "_law_right" (C8.fnArgs st28) (C8.fnBody st28) (C8.fnScope st28) .none kV28 dc28 pm28 an28 cd28 ct28), sl28⟩)
    (c28 : PySem.W.codeIn K cd28 "_law_right" = true)
    (k28 : PySem.W.keepIn K (.ref f28) = true)
    (a29 : PySem.W.nsIn K mainGlobals "law" = some (some (.ref f29)))
    (l29 : K.lookup f29 = some ⟨oc29, od29, .func (PySem.W.fnOf "law" "law" (C8.fnArgs st29) (C8.fnBody st29) (C8.fnScope st29) .none kV29 dc29 pm29 an29 cd29 ct29), sl29⟩)
    (c29 : PySem.W.codeIn K cd29 "law" = true)
    (k29 : PySem.W.keepIn K (.ref f29) = true)
    (z0 : PySem.W.nsIn K mainGlobals "isinstance" = some none)
    (z1 : PySem.W.nsIn K mainGlobals "int" = some none)
    (z2 : PySem.W.nsIn K mainGlobals "bool" = some none)
    (z3 : PySem.W.nsIn K mainGlobals "tuple" = some none)
    (z4 : PySem.W.nsIn K mainGlobals "len" = some none)
    (z5 : PySem.W.nsIn K mainGlobals "all" = some none)
    (z6 : PySem.W.nsIn K mainGlobals "sorted" = some none)
    (z7 : PySem.W.nsIn K mainGlobals "abs" = some none)
    (z8 : PySem.W.nsIn K mainGlobals "list" = some none)
    (z9 : PySem.W.nsIn K mainGlobals "range" = some none)
    (z10 : PySem.W.nsIn K mainGlobals "sum" = some none)
    (z11 : PySem.W.nsIn K mainGlobals "enumerate" = some none)
    (z12 : PySem.W.nsIn K mainGlobals "max" = some none)
    (z13 : PySem.W.nsIn K mainGlobals "zip" = some none)
    (z14 : PySem.W.nsIn K mainGlobals "min" = some none)
    (m0 : PySem.W.nsIn K mainGlobals "gcd" = some (some (.builtin "math.gcd")))
    (y0 : PySem.W.nsIn K mainGlobals "TOO_LONG" = some (some (.int 1000000000000000000000000000000000000000000000000000000000000 tg0)))
    (y1 : PySem.W.nsIn K mainGlobals "MAX_SIDE" = some (some (.int 32 tg1)))
    (y2 : PySem.W.nsIn K mainGlobals "MAX_SIZE" = some (some (.int 64 tg2)))
    (x0_pg : PySem.W.plainGet K C0 Str.empty = true)
    (x0_hd : PySem.W.hasDictIn K C0 = true)
    (x0_po : PySem.W.plainOver K C0 = true)
    (x0_sa : PySem.W.findIn K (.ref C0) "__setattr__" = some (some (.builtin "object.__setattr__")))
    (x0_n0 : PySem.W.findIn K (.ref C0) "_top" = some none)
    (x0_n1 : PySem.W.findIn K (.ref C0) "_bottom" = some none)
    (x0_ca : PySem.W.findIn K (.ref C0) "__class__" = some (some (.builtin "object.__class__")))
    (x0_cn : PySem.W.specialIn K (.builtin "object.__class__") "__get__" = some (some (.builtin "getset_descriptor.__get__")))
    (x0_ct : PySem.W.takesIn K (.builtin "object.__class__") = some true)
    (x0_cm : PySem.W.mroIn K C0 (.type "object") = some true)
    (x0_tp : PySem.W.typeIn K (.ref C0) = some (.type "type"))
    (x0_ic : PySem.W.isClsIn K C0 = true)
    (x0_s0 : PySem.W.subIn K (.type "NoneType") (.ref C0) = some false)
    (x0_s1 : PySem.W.subIn K (.type "bool") (.ref C0) = some false)
    (x0_s2 : PySem.W.subIn K (.type "int") (.ref C0) = some false)
    (x0_s3 : PySem.W.subIn K (.type "str") (.ref C0) = some false)
    (x0_s4 : PySem.W.subIn K (.type "list") (.ref C0) = some false)
    (x0_s5 : PySem.W.subIn K (.type "tuple") (.ref C0) = some false)
    (x0_u0 : PySem.W.subIn K (.ref C0) (.type "bool") = some false)
    (x0_u1 : PySem.W.subIn K (.ref C0) (.type "int") = some false)
    (x0_u2 : PySem.W.subIn K (.ref C0) (.type "str") = some false)
    (x0_u3 : PySem.W.subIn K (.ref C0) (.type "list") = some false)
    (x0_u4 : PySem.W.subIn K (.ref C0) (.type "tuple") = some false)
    (x0_mk : PySem.W.makesIn K C0 = true)
    (x0_kp : PySem.W.keepIn K (.ref C0) = true)
    (x1_pg : PySem.W.plainGet K C1 Str.empty = true)
    (x1_hd : PySem.W.hasDictIn K C1 = true)
    (x1_po : PySem.W.plainOver K C1 = true)
    (x1_sa : PySem.W.findIn K (.ref C1) "__setattr__" = some (some (.builtin "object.__setattr__")))
    (x1_n0 : PySem.W.findIn K (.ref C1) "_marks" = some none)
    (x1_ca : PySem.W.findIn K (.ref C1) "__class__" = some (some (.builtin "object.__class__")))
    (x1_cn : PySem.W.specialIn K (.builtin "object.__class__") "__get__" = some (some (.builtin "getset_descriptor.__get__")))
    (x1_ct : PySem.W.takesIn K (.builtin "object.__class__") = some true)
    (x1_cm : PySem.W.mroIn K C1 (.type "object") = some true)
    (x1_tp : PySem.W.typeIn K (.ref C1) = some (.type "type"))
    (x1_ic : PySem.W.isClsIn K C1 = true)
    (x1_s0 : PySem.W.subIn K (.type "NoneType") (.ref C1) = some false)
    (x1_s1 : PySem.W.subIn K (.type "bool") (.ref C1) = some false)
    (x1_s2 : PySem.W.subIn K (.type "int") (.ref C1) = some false)
    (x1_s3 : PySem.W.subIn K (.type "str") (.ref C1) = some false)
    (x1_s4 : PySem.W.subIn K (.type "list") (.ref C1) = some false)
    (x1_s5 : PySem.W.subIn K (.type "tuple") (.ref C1) = some false)
    (x1_u0 : PySem.W.subIn K (.ref C1) (.type "bool") = some false)
    (x1_u1 : PySem.W.subIn K (.ref C1) (.type "int") = some false)
    (x1_u2 : PySem.W.subIn K (.ref C1) (.type "str") = some false)
    (x1_u3 : PySem.W.subIn K (.ref C1) (.type "list") = some false)
    (x1_u4 : PySem.W.subIn K (.ref C1) (.type "tuple") = some false)
    (x1_mk : PySem.W.makesIn K C1 = true)
    (x1_kp : PySem.W.keepIn K (.ref C1) = true)
    (x1_rd : PySem.W.readsIn K C1 (.type "type") = true)
    (x1_ga : PySem.W.specialIn K (.ref C1) "__getattribute__" = some (some (.builtin "type.__getattribute__")))
    (x1_sf : PySem.W.selfFirst K C1 = true)
    (x1_ne : PySem.W.findIn K (.ref C1) "__ne__" = some (some (.builtin "object.__ne__")))
    (x1_ob : PySem.W.subIn K (.ref C1) (.type "object") = some true)
    : ∃ (cl : Nat → Addr × List Str) (fd : FuncData), (∀ (s : Shared) (v : Value), BindsTo s fd ⟨[v], []⟩ [("_law_script", v)]) ∧ ∀ base : Heap, K.In base → base.Ns mainGlobals mg → FnOk l.prog w K mg base CX0 9 fa fd ["_law_script"] (pSp ⟨K, cl, w⟩ S_law) := by
  have e := hfa.symm.trans (PySem.W.mg_of X G a29)
  cases e
  have ci0 : CInf ⟨K, (fun n => if n = 0 then (C0, ["_top", "_bottom"]) else if n = 1 then (C1, ["_marks"]) else (0, [])), w⟩ 0 ["_top", "_bottom"] := ⟨rfl, by decide +kernel, by decide, ⟨x0_pg, x0_hd, x0_po, x0_sa⟩, (List.forall_mem_cons.mpr ⟨x0_n0, (List.forall_mem_cons.mpr ⟨x0_n1, (fun _ h => nomatch h)⟩)⟩), x0_ca, x0_cn, x0_ct, x0_cm, x0_tp, x0_ic, (List.forall_mem_cons.mpr ⟨x0_s0, (List.forall_mem_cons.mpr ⟨x0_s1, (List.forall_mem_cons.mpr ⟨x0_s2, (List.forall_mem_cons.mpr ⟨x0_s3, (List.forall_mem_cons.mpr ⟨x0_s4, (List.forall_mem_cons.mpr ⟨x0_s5, (fun _ h => nomatch h)⟩)⟩)⟩)⟩)⟩)⟩), (List.forall_mem_cons.mpr ⟨x0_u0, (List.forall_mem_cons.mpr ⟨x0_u1, (List.forall_mem_cons.mpr ⟨x0_u2, (List.forall_mem_cons.mpr ⟨x0_u3, (List.forall_mem_cons.mpr ⟨x0_u4, (fun _ h => nomatch h)⟩)⟩)⟩)⟩)⟩)⟩
  have ci1 : CInf ⟨K, (fun n => if n = 0 then (C0, ["_top", "_bottom"]) else if n = 1 then (C1, ["_marks"]) else (0, [])), w⟩ 1 ["_marks"] := ⟨rfl, by decide +kernel, by decide, ⟨x1_pg, x1_hd, x1_po, x1_sa⟩, (List.forall_mem_cons.mpr ⟨x1_n0, (fun _ h => nomatch h)⟩), x1_ca, x1_cn, x1_ct, x1_cm, x1_tp, x1_ic, (List.forall_mem_cons.mpr ⟨x1_s0, (List.forall_mem_cons.mpr ⟨x1_s1, (List.forall_mem_cons.mpr ⟨x1_s2, (List.forall_mem_cons.mpr ⟨x1_s3, (List.forall_mem_cons.mpr ⟨x1_s4, (List.forall_mem_cons.mpr ⟨x1_s5, (fun _ h => nomatch h)⟩)⟩)⟩)⟩)⟩)⟩), (List.forall_mem_cons.mpr ⟨x1_u0, (List.forall_mem_cons.mpr ⟨x1_u1, (List.forall_mem_cons.mpr ⟨x1_u2, (List.forall_mem_cons.mpr ⟨x1_u3, (List.forall_mem_cons.mpr ⟨x1_u4, (fun _ h => nomatch h)⟩)⟩)⟩)⟩)⟩)⟩
  have T : Txt K w mg (fun n => if n = 0 then (C0, ["_top", "_bottom"]) else if n = 1 then (C1, ["_marks"]) else (0, [])) := ⟨PySem.W.mg_none_of X G z0, PySem.W.mg_none_of X G z1, PySem.W.mg_none_of X G z2, PySem.W.mg_none_of X G z3, PySem.W.mg_none_of X G z4, PySem.W.mg_none_of X G z5, PySem.W.mg_none_of X G z6, PySem.W.mg_none_of X G z7, PySem.W.mg_none_of X G z8, PySem.W.mg_none_of X G z9, PySem.W.mg_none_of X G z10, PySem.W.mg_none_of X G z11, PySem.W.mg_none_of X G z12, PySem.W.mg_none_of X G z13, PySem.W.mg_none_of X G z14, PySem.W.mg_of X G m0, ⟨_, PySem.W.mg_of X G y0, _, rfl⟩, ⟨_, PySem.W.mg_of X G y1, _, rfl⟩, ⟨_, PySem.W.mg_of X G y2, _, rfl⟩, ci0, ⟨_, PySem.W.mg_of X G x0_mg, rfl⟩, ci1, ⟨_, PySem.W.mg_of X G x1_mg, rfl⟩, x1_sf, ⟨x1_ne, x1_ob⟩⟩
  have F0 : C8.Def K mg "is_integer" st0 f0 _ := ⟨⟨⟨_, _, _, _, _, _, _, _, _, _, rfl, l0, c0⟩⟩, PySem.W.mg_of X G a0, k0⟩
  have b0 : Binds K _ ["value"] [] := F0.fn.binds rfl fun _ _ _ _ _ _ us hl => match us, hl with | [_], _ => rfl
  have e0 := fun base : Heap => cal_is_integer (P := l.prog) (w := w) (base := base) (cl := (fun n => if n = 0 then (C0, ["_top", "_bottom"]) else if n = 1 then (C1, ["_marks"]) else (0, []))) T  F0 b0
  have F1 : C8.Def K mg "is_passed_integer" st1 f1 _ := ⟨⟨⟨_, _, _, _, _, _, _, _, _, _, rfl, l1, c1⟩⟩, PySem.W.mg_of X G a1, k1⟩
  have b1 : Binds K _ ["value"] [] := F1.fn.binds rfl fun _ _ _ _ _ _ us hl => match us, hl with | [_], _ => rfl
  have e1 := fun base : Heap => cal_is_passed_integer (P := l.prog) (w := w) (base := base) (cl := (fun n => if n = 0 then (C0, ["_top", "_bottom"]) else if n = 1 then (C1, ["_marks"]) else (0, []))) T (e0 base) F1 b1
  have F2 : C8.Def K mg "check_number" st2 f2 _ := ⟨⟨⟨_, _, _, _, _, _, _, _, _, _, rfl, l2, c2⟩⟩, PySem.W.mg_of X G a2, k2⟩
  have b2 : Binds K _ ["value", "least", "most"] [] := F2.fn.binds rfl fun _ _ _ _ _ _ us hl => match us, hl with | [_, _, _], _ => rfl
  have e2 := fun base : Heap => cal_check_number (P := l.prog) (w := w) (base := base) (cl := (fun n => if n = 0 then (C0, ["_top", "_bottom"]) else if n = 1 then (C1, ["_marks"]) else (0, []))) T (e0 base) F2 b2
  have F3 : C8.Def K mg "sign_of" st3 f3 _ := ⟨⟨⟨_, _, _, _, _, _, _, _, _, _, rfl, l3, c3⟩⟩, PySem.W.mg_of X G a3, k3⟩
  have b3 : Binds K _ ["number"] [] := F3.fn.binds rfl fun _ _ _ _ _ _ us hl => match us, hl with | [_], _ => rfl
  have e3 := fun base : Heap => cal_sign_of (P := l.prog) (w := w) (base := base) (cl := (fun n => if n = 0 then (C0, ["_top", "_bottom"]) else if n = 1 then (C1, ["_marks"]) else (0, []))) T  F3 b3
  have F4 : C8.Def K mg "_lowest_terms" st4 f4 _ := ⟨⟨⟨_, _, _, _, _, _, _, _, _, _, rfl, l4, c4⟩⟩, PySem.W.mg_of X G a4, k4⟩
  have b4 : Binds K _ ["top", "bottom"] [] := F4.fn.binds rfl fun _ _ _ _ _ _ us hl => match us, hl with | [_, _], _ => rfl
  have e4 := fun base : Heap => cal__lowest_terms (P := l.prog) (w := w) (base := base) (cl := (fun n => if n = 0 then (C0, ["_top", "_bottom"]) else if n = 1 then (C1, ["_marks"]) else (0, []))) T  F4 b4
  have F5 : C8.Fun K "__init__" "Ratio.__init__" st5 f5 _ := ⟨⟨_, _, _, _, _, _, _, _, _, _, rfl, l5, c5⟩⟩
  have FD5 : FunD K "__init__" "Ratio.__init__" (C8.fnArgs st5) (C8.fnBody st5) (C8.fnScope st5) [.int 1] [] f5 _ := ⟨⟨_, _, _, _, _, _, _, _, _, _, rfl, l5, c5, .inr ⟨by simp, _, _, _, _, rfl, d5, rfl, (.cons ⟨_, rfl⟩ .nil)⟩, .inl rfl⟩, k5⟩
  obtain ⟨ds5_0, rd5_0, b5_0⟩ := FD5.binds1 (ps := ["self", "top", "bottom"]) 3 1 (by simp) (by simp) fun T kV doc pm an cdv ct us its l1 l2 => match us, its, l1, l2 with | [_, _, _], [_], _, _ => ⟨_, rfl, rfl⟩
  obtain ⟨ds5_1, rd5_1, b5_1⟩ := FD5.binds1 (ps := ["self", "top", "bottom"]) 2 0 (by simp) (by simp) fun T kV doc pm an cdv ct us its l1 l2 => match us, its, l1, l2 with | [_, _], [_], _, _ => ⟨_, rfl, rfl⟩
  have e5_0 := fun base : Heap => cal_Ratio___init__ (P := l.prog) (w := w) (base := base) (cl := (fun n => if n = 0 then (C0, ["_top", "_bottom"]) else if n = 1 then (C1, ["_marks"]) else (0, []))) T (e1 base) (e4 base) (dvs := []) ⟨x0_mk, a5, i5, x0_kp⟩ F5 b5_0 rd5_0
  have e5_1 := fun base : Heap => cal_Ratio___init__ (P := l.prog) (w := w) (base := base) (cl := (fun n => if n = 0 then (C0, ["_top", "_bottom"]) else if n = 1 then (C1, ["_marks"]) else (0, []))) T (e1 base) (e4 base) (dvs := [.int 1]) ⟨x0_mk, a5, i5, x0_kp⟩ F5 b5_1 rd5_1
  have F6 : C8.Fun K "__eq__" "Ratio.__eq__" st6 f6 _ := ⟨⟨_, _, _, _, _, _, _, _, _, _, rfl, l6, c6⟩⟩
  have b6 : Binds K _ ["self", "other"] [] := F6.binds rfl fun _ _ _ _ _ _ us hl => match us, hl with | [_, _], _ => rfl
  have e6 := fun base : Heap => cal_Ratio___eq__ (P := l.prog) (w := w) (base := base) (cl := (fun n => if n = 0 then (C0, ["_top", "_bottom"]) else if n = 1 then (C1, ["_marks"]) else (0, []))) T (e0 base) ⟨a6, i6, k6⟩ F6 b6
  have F7 : C8.Def K mg "_tell_table" st7 f7 _ := ⟨⟨⟨_, _, _, _, _, _, _, _, _, _, rfl, l7, c7⟩⟩, PySem.W.mg_of X G a7, k7⟩
  have b7 : Binds K _ ["marks"] [] := F7.fn.binds rfl fun _ _ _ _ _ _ us hl => match us, hl with | [_], _ => rfl
  have e7 := fun base : Heap => cal__tell_table (P := l.prog) (w := w) (base := base) (cl := (fun n => if n = 0 then (C0, ["_top", "_bottom"]) else if n = 1 then (C1, ["_marks"]) else (0, []))) T (e0 base) F7 b7
  have F8 : C8.Def K mg "_row_of" st8 f8 _ := ⟨⟨⟨_, _, _, _, _, _, _, _, _, _, rfl, l8, c8⟩⟩, PySem.W.mg_of X G a8, k8⟩
  have b8 : Binds K _ ["mark", "size"] [] := F8.fn.binds rfl fun _ _ _ _ _ _ us hl => match us, hl with | [_, _], _ => rfl
  have e8 := fun base : Heap => cal__row_of (P := l.prog) (w := w) (base := base) (cl := (fun n => if n = 0 then (C0, ["_top", "_bottom"]) else if n = 1 then (C1, ["_marks"]) else (0, []))) T (e3 base) (e5_1 base) F8 b8
  have F9 : C8.Fun K "__init__" "SignTable.__init__" st9 f9 _ := ⟨⟨_, _, _, _, _, _, _, _, _, _, rfl, l9, c9⟩⟩
  have b9 : Binds K _ ["self", "marks"] [] := F9.binds rfl fun _ _ _ _ _ _ us hl => match us, hl with | [_, _], _ => rfl
  have e9_0 := fun base : Heap => cal_SignTable___init__ (P := l.prog) (w := w) (base := base) (cl := (fun n => if n = 0 then (C0, ["_top", "_bottom"]) else if n = 1 then (C1, ["_marks"]) else (0, []))) T (e7 base) (dvs := []) ⟨x1_mk, a9, i9, x1_kp⟩ F9 b9 .nil
  have F10 : C8.Fun K "idle" "SignTable.idle" st10 f10 _ := ⟨⟨_, _, _, _, _, _, _, _, _, _, rfl, l10, c10⟩⟩
  have b10 : Binds K _ ["size"] [] := F10.binds rfl fun _ _ _ _ _ _ us hl => match us, hl with | [_], _ => rfl
  have e10 := fun base : Heap => cal_SignTable_idle (P := l.prog) (w := w) (base := base) (cl := (fun n => if n = 0 then (C0, ["_top", "_bottom"]) else if n = 1 then (C1, ["_marks"]) else (0, []))) T (e2 base) (e9_0 base) ⟨x1_rd, x1_ga⟩ a10 ⟨_, r10⟩ k10 F10 b10
  have F11 : C8.Fun K "size" "SignTable.size" st11 f11 _ := ⟨⟨_, _, _, _, _, _, _, _, _, _, rfl, l11, c11⟩⟩
  have b11 : Binds K _ ["self"] [] := F11.binds rfl fun _ _ _ _ _ _ us hl => match us, hl with | [_], _ => rfl
  have e11 := fun base : Heap => cal_SignTable_size (P := l.prog) (w := w) (base := base) (cl := (fun n => if n = 0 then (C0, ["_top", "_bottom"]) else if n = 1 then (C1, ["_marks"]) else (0, []))) T  ⟨a11, g11, t11, _, r11⟩ F11 b11
  have F12 : C8.Fun K "marks" "SignTable.marks" st12 f12 _ := ⟨⟨_, _, _, _, _, _, _, _, _, _, rfl, l12, c12⟩⟩
  have b12 : Binds K _ ["self"] [] := F12.binds rfl fun _ _ _ _ _ _ us hl => match us, hl with | [_], _ => rfl
  have e12 := fun base : Heap => cal_SignTable_marks (P := l.prog) (w := w) (base := base) (cl := (fun n => if n = 0 then (C0, ["_top", "_bottom"]) else if n = 1 then (C1, ["_marks"]) else (0, []))) T  ⟨a12, g12, t12, _, r12⟩ F12 b12
  have F13 : C8.Fun K "trace" "SignTable.trace" st13 f13 _ := ⟨⟨_, _, _, _, _, _, _, _, _, _, rfl, l13, c13⟩⟩
  have b13 : Binds K _ ["self"] [] := F13.binds rfl fun _ _ _ _ _ _ us hl => match us, hl with | [_], _ => rfl
  have e13 := fun base : Heap => cal_SignTable_trace (P := l.prog) (w := w) (base := base) (cl := (fun n => if n = 0 then (C0, ["_top", "_bottom"]) else if n = 1 then (C1, ["_marks"]) else (0, []))) T (e3 base) ⟨a13, g13, t13, _, r13⟩ F13 b13
  have F14 : C8.Fun K "is_idle" "SignTable.is_idle" st14 f14 _ := ⟨⟨_, _, _, _, _, _, _, _, _, _, rfl, l14, c14⟩⟩
  have b14 : Binds K _ ["self"] [] := F14.binds rfl fun _ _ _ _ _ _ us hl => match us, hl with | [_], _ => rfl
  have e14 := fun base : Heap => cal_SignTable_is_idle (P := l.prog) (w := w) (base := base) (cl := (fun n => if n = 0 then (C0, ["_top", "_bottom"]) else if n = 1 then (C1, ["_marks"]) else (0, []))) T  ⟨a14, g14, t14, _, r14⟩ F14 b14
  have F15 : C8.Fun K "turned" "SignTable.turned" st15 f15 _ := ⟨⟨_, _, _, _, _, _, _, _, _, _, rfl, l15, c15⟩⟩
  have b15 : Binds K _ ["self"] [] := F15.binds rfl fun _ _ _ _ _ _ us hl => match us, hl with | [_], _ => rfl
  have e15 := fun base : Heap => cal_SignTable_turned (P := l.prog) (w := w) (base := base) (cl := (fun n => if n = 0 then (C0, ["_top", "_bottom"]) else if n = 1 then (C1, ["_marks"]) else (0, []))) T (e3 base) (e9_0 base) ⟨a15, i15, k15⟩ F15 b15
  have F16 : C8.Fun K "table" "SignTable.table" st16 f16 _ := ⟨⟨_, _, _, _, _, _, _, _, _, _, rfl, l16, c16⟩⟩
  have b16 : Binds K _ ["self"] [] := F16.binds rfl fun _ _ _ _ _ _ us hl => match us, hl with | [_], _ => rfl
  have e16 := fun base : Heap => cal_SignTable_table (P := l.prog) (w := w) (base := base) (cl := (fun n => if n = 0 then (C0, ["_top", "_bottom"]) else if n = 1 then (C1, ["_marks"]) else (0, []))) T (e8 base) ⟨a16, i16, k16⟩ F16 b16
  have F17 : C8.Fun K "__mul__" "SignTable.__mul__" st17 f17 _ := ⟨⟨_, _, _, _, _, _, _, _, _, _, rfl, l17, c17⟩⟩
  have b17 : Binds K _ ["self", "other"] [] := F17.binds rfl fun _ _ _ _ _ _ us hl => match us, hl with | [_, _], _ => rfl
  have e17 := fun base : Heap => cal_SignTable___mul__ (P := l.prog) (w := w) (base := base) (cl := (fun n => if n = 0 then (C0, ["_top", "_bottom"]) else if n = 1 then (C1, ["_marks"]) else (0, []))) T (e3 base) (e9_0 base) ⟨a17, i17, k17⟩ F17 b17
  have F18 : C8.Fun K "__neg__" "SignTable.__neg__" st18 f18 _ := ⟨⟨_, _, _, _, _, _, _, _, _, _, rfl, l18, c18⟩⟩
  have b18 : Binds K _ ["self"] [] := F18.binds rfl fun _ _ _ _ _ _ us hl => match us, hl with | [_], _ => rfl
  have e18 := fun base : Heap => cal_SignTable___neg__ (P := l.prog) (w := w) (base := base) (cl := (fun n => if n = 0 then (C0, ["_top", "_bottom"]) else if n = 1 then (C1, ["_marks"]) else (0, []))) T (e9_0 base) ⟨a18, i18, k18⟩ F18 b18
  have F19 : C8.Fun K "__eq__" "SignTable.__eq__" st19 f19 _ := ⟨⟨_, _, _, _, _, _, _, _, _, _, rfl, l19, c19⟩⟩
  have b19 : Binds K _ ["self", "other"] [] := F19.binds rfl fun _ _ _ _ _ _ us hl => match us, hl with | [_, _], _ => rfl
  have e19 := fun base : Heap => cal_SignTable___eq__ (P := l.prog) (w := w) (base := base) (cl := (fun n => if n = 0 then (C0, ["_top", "_bottom"]) else if n = 1 then (C1, ["_marks"]) else (0, []))) T  ⟨a19, i19, k19⟩ F19 b19
  have F20 : C8.Def K mg "_law_jug" st20 f20 _ := ⟨⟨⟨_, _, _, _, _, _, _, _, _, _, rfl, l20, c20⟩⟩, PySem.W.mg_of X G a20, k20⟩
  have b20 : Binds K _ ["_law_script", "_law_at"] [] := F20.fn.binds rfl fun _ _ _ _ _ _ us hl => match us, hl with | [_, _], _ => rfl
  have e20 := fun base : Heap => cal__law_jug (P := l.prog) (w := w) (base := base) (cl := (fun n => if n = 0 then (C0, ["_top", "_bottom"]) else if n = 1 then (C1, ["_marks"]) else (0, []))) T  F20 b20
  have F21 : C8.Def K mg "_law_pour" st21 f21 _ := ⟨⟨⟨_, _, _, _, _, _, _, _, _, _, rfl, l21, c21⟩⟩, PySem.W.mg_of X G a21, k21⟩
  have b21 : Binds K _ ["_law_jug_here", "_law_total"] [] := F21.fn.binds rfl fun _ _ _ _ _ _ us hl => match us, hl with | [_, _], _ => rfl
  have e21 := fun base : Heap => cal__law_pour (P := l.prog) (w := w) (base := base) (cl := (fun n => if n = 0 then (C0, ["_top", "_bottom"]) else if n = 1 then (C1, ["_marks"]) else (0, []))) T  F21 b21
  have F22 : C8.Def K mg "_law_pick" st22 f22 _ := ⟨⟨⟨_, _, _, _, _, _, _, _, _, _, rfl, l22, c22⟩⟩, PySem.W.mg_of X G a22, k22⟩
  have b22 : Binds K _ ["_law_jug_here", "_law_items"] [] := F22.fn.binds rfl fun _ _ _ _ _ _ us hl => match us, hl with | [_, _], _ => rfl
  have e22 := fun base : Heap => cal__law_pick (P := l.prog) (w := w) (base := base) (cl := (fun n => if n = 0 then (C0, ["_top", "_bottom"]) else if n = 1 then (C1, ["_marks"]) else (0, []))) T (e21 base) F22 b22
  have F23 : C8.Def K mg "_law_marks" st23 f23 _ := ⟨⟨⟨_, _, _, _, _, _, _, _, _, _, rfl, l23, c23⟩⟩, PySem.W.mg_of X G a23, k23⟩
  have b23 : Binds K _ ["_law_jug_here", "_law_size"] [] := F23.fn.binds rfl fun _ _ _ _ _ _ us hl => match us, hl with | [_, _], _ => rfl
  have e23 := fun base : Heap => cal__law_marks (P := l.prog) (w := w) (base := base) (cl := (fun n => if n = 0 then (C0, ["_top", "_bottom"]) else if n = 1 then (C1, ["_marks"]) else (0, []))) T (e21 base) (e22 base) F23 b23
  have F24 : C8.Def K mg "_law_dense" st24 f24 _ := ⟨⟨⟨_, _, _, _, _, _, _, _, _, _, rfl, l24, c24⟩⟩, PySem.W.mg_of X G a24, k24⟩
  have b24 : Binds K _ ["_law_marks_here"] [] := F24.fn.binds rfl fun _ _ _ _ _ _ us hl => match us, hl with | [_], _ => rfl
  have e24 := fun base : Heap => cal__law_dense (P := l.prog) (w := w) (base := base) (cl := (fun n => if n = 0 then (C0, ["_top", "_bottom"]) else if n = 1 then (C1, ["_marks"]) else (0, []))) T  F24 b24
  have F25 : C8.Def K mg "_law_product" st25 f25 _ := ⟨⟨⟨_, _, _, _, _, _, _, _, _, _, rfl, l25, c25⟩⟩, PySem.W.mg_of X G a25, k25⟩
  have b25 : Binds K _ ["_law_one", "_law_other"] [] := F25.fn.binds rfl fun _ _ _ _ _ _ us hl => match us, hl with | [_, _], _ => rfl
  have e25 := fun base : Heap => cal__law_product (P := l.prog) (w := w) (base := base) (cl := (fun n => if n = 0 then (C0, ["_top", "_bottom"]) else if n = 1 then (C1, ["_marks"]) else (0, []))) T  F25 b25
  have F26 : C8.Def K mg "_law_flat" st26 f26 _ := ⟨⟨⟨_, _, _, _, _, _, _, _, _, _, rfl, l26, c26⟩⟩, PySem.W.mg_of X G a26, k26⟩
  have b26 : Binds K _ ["_law_rows"] [] := F26.fn.binds rfl fun _ _ _ _ _ _ us hl => match us, hl with | [_], _ => rfl
  have e26 := fun base : Heap => cal__law_flat (P := l.prog) (w := w) (base := base) (cl := (fun n => if n = 0 then (C0, ["_top", "_bottom"]) else if n = 1 then (C1, ["_marks"]) else (0, []))) T  F26 b26
  have F27 : C8.Def K mg "_law_is_dense" st27 f27 _ := ⟨⟨⟨_, _, _, _, _, _, _, _, _, _, rfl, l27, c27⟩⟩, PySem.W.mg_of X G a27, k27⟩
  have b27 : Binds K _ ["_law_signs", "_law_rows"] [] := F27.fn.binds rfl fun _ _ _ _ _ _ us hl => match us, hl with | [_, _], _ => rfl
  have e27 := fun base : Heap => cal__law_is_dense (P := l.prog) (w := w) (base := base) (cl := (fun n => if n = 0 then (C0, ["_top", "_bottom"]) else if n = 1 then (C1, ["_marks"]) else (0, []))) T (e5_1 base) (e6 base) (e11 base) (e12 base) (e13 base) (e14 base) (e16 base) (e24 base) F27 b27
  have F28 : C8.Def K mg "_law_right" st28 f28 _ := ⟨⟨⟨_, _, _, _, _, _, _, _, _, _, rfl, l28, c28⟩⟩, PySem.W.mg_of X G a28, k28⟩
  have b28 : Binds K _ ["_law_jug_here"] [] := F28.fn.binds rfl fun _ _ _ _ _ _ us hl => match us, hl with | [_], _ => rfl
  have e28 := fun base : Heap => cal__law_right (P := l.prog) (w := w) (base := base) (cl := (fun n => if n = 0 then (C0, ["_top", "_bottom"]) else if n = 1 then (C1, ["_marks"]) else (0, []))) T (e9_0 base) (e10 base) (e12 base) (e15 base) (e17 base) (e18 base) (e19 base) (e22 base) (e23 base) (e24 base) (e25 base) (e26 base) (e27 base) F28 b28
  have F29 : C8.Def K mg "law" st29 fa _ := ⟨⟨⟨_, _, _, _, _, _, _, _, _, _, rfl, l29, c29⟩⟩, PySem.W.mg_of X G a29, k29⟩
  have b29 : Binds K _ ["_law_script"] [] := F29.fn.binds rfl fun _ _ _ _ _ _ us hl => match us, hl with | [_], _ => rfl
  refine ⟨(fun n => if n = 0 then (C0, ["_top", "_bottom"]) else if n = 1 then (C1, ["_marks"]) else (0, [])), PySem.W.fnOf "law" "law" (C8.fnArgs st29) (C8.fnBody st29) (C8.fnScope st29) .none kV29 dc29 pm29 an29 cd29 ct29, fun s v => .of_eq rfl, fun base _ _ => ?_⟩
  exact cal_law (P := l.prog) (w := w) (base := base) (cl := (fun n => if n = 0 then (C0, ["_top", "_bottom"]) else if n = 1 then (C1, ["_marks"]) else (0, []))) T (e9_0 base) (e10 base) (e12 base) (e13 base) (e15 base) (e17 base) (e19 base) (e20 base) (e23 base) (e28 base) F29 b29
theorem walk {l : PySem.W.OpenLaw} {q : Program} {loose : List Str} {XP : (Str → Option Value) → Heap → Prop} {YP : World → Heap → Prop} {d : DefRec} {K : Params → PySem.W.Frag} (hn : l.most = some 63) (hdf : d.params.defaults = [])
    (hY : ∀ (w : World) (h : Heap), YP w h → (K w.params).In h)
    (F : ∀ (w : World) (mg : Str → Option Value) (fa : Addr) (h : Heap), (K w.params).In h → h.Ns mainGlobals mg → mg d.name = some (.ref fa) →
      ∃ (cl : Nat → Addr × List Str) (fd : FuncData), (∀ (s : Shared) (u : Value), BindsTo s fd ⟨[u], []⟩ [("_law_script", u)]) ∧ ∀ base : Heap, (K w.params).In base → base.Ns mainGlobals mg → FnOk l.prog w (K w.params) mg base CX0 9 fa fd ["_law_script"] (pSp ⟨K w.params, cl, w⟩ S_law)) :
    PySem.W.WalkO q loose XP YP l.row.toRowW d [] (fun f vs => PySem.call f vs) :=
  L2.walk_of (n := 63) (k := 9) (x := "_law_script") (CX := fun _ => CX0) (sp := fun w => lawSp (K w.params) w S_law) hn (by decide) hdf ⟨rfl, by decide, by decide⟩ hY (fun w mg fa h a b c => by
    obtain ⟨cl, fd, h1, h2⟩ := F w mg fa h a b c
    exact ⟨fd, h1, fun base hb hm => (h2 base hb hm).imp fun vs H Q E q => q cl⟩)
    (fun w H a ns hl _ hS => fun cl => ⟨H, [.scr ns], fun z => z = .bl true, Ex.refl H, .cons (.scr hS) .nil, ⟨ns, rfl, hl, rfl⟩, fun z v I' H' e _ _ _ _ r => by subst e; cases r; rfl⟩) fun _ _ _ _ _ z => z
end K15
open PySem PySem.W PyProof.Rows
set_option maxRecDepth 100000 in
set_option maxHeartbeats 0 in
theorem PySem.Challenge.cw_squaretimes_k15_whole_sign_tables_as_tab_holds : PySem.Challenge.rw_squaretimes_k15_whole_sign_tables_as_tab.Holds := by
  w_on; o_law; k_head; (case hw => w_witness2)
  k_fill
  refine K15.walk (l := PySem.Challenge.rw_squaretimes_k15_whole_sign_tables_as_tab) rfl rfl (fun w h Y => PySem.W.kIn_of Y) ?F
  case F =>
    intro w mg fa h KX G hmg
    refine' K15.all_mk KX G hmg ?x0_mg ?x1_mg ?a0 ?l0 ?c0 ?k0 ?a1 ?l1 ?c1 ?k1 ?a2 ?l2 ?c2 ?k2 ?a3 ?l3 ?c3 ?k3 ?a4 ?l4 ?c4 ?k4 ?a5 ?i5 ?l5 ?d5 ?c5 ?k5 ?a6 ?i6 ?l6 ?c6 ?k6 ?a7 ?l7 ?c7 ?k7 ?a8 ?l8 ?c8 ?k8 ?a9 ?i9 ?l9 ?c9 ?k9 ?a10 ?r10 ?l10 ?c10 ?k10 ?a11 ?g11 ?t11 ?r11 ?l11 ?c11 ?k11 ?a12 ?g12 ?t12 ?r12 ?l12 ?c12 ?k12 ?a13 ?g13 ?t13 ?r13 ?l13 ?c13 ?k13 ?a14 ?g14 ?t14 ?r14 ?l14 ?c14 ?k14 ?a15 ?i15 ?l15 ?c15 ?k15 ?a16 ?i16 ?l16 ?c16 ?k16 ?a17 ?i17 ?l17 ?c17 ?k17 ?a18 ?i18 ?l18 ?c18 ?k18 ?a19 ?i19 ?l19 ?c19 ?k19 ?a20 ?l20 ?c20 ?k20 ?a21 ?l21 ?c21 ?k21 ?a22 ?l22 ?c22 ?k22 ?a23 ?l23 ?c23 ?k23 ?a24 ?l24 ?c24 ?k24 ?a25 ?l25 ?c25 ?k25 ?a26 ?l26 ?c26 ?k26 ?a27 ?l27 ?c27 ?k27 ?a28 ?l28 ?c28 ?k28 ?a29 ?l29 ?c29 ?k29 ?z0 ?z1 ?z2 ?z3 ?z4 ?z5 ?z6 ?z7 ?z8 ?z9 ?z10 ?z11 ?z12 ?z13 ?z14 ?m0 ?y0 ?y1 ?y2 ?x0_pg ?x0_hd ?x0_po ?x0_sa ?x0_n0 ?x0_n1 ?x0_ca ?x0_cn ?x0_ct ?x0_cm ?x0_tp ?x0_ic ?x0_s0 ?x0_s1 ?x0_s2 ?x0_s3 ?x0_s4 ?x0_s5 ?x0_u0 ?x0_u1 ?x0_u2 ?x0_u3 ?x0_u4 ?x0_mk ?x0_kp ?x1_pg ?x1_hd ?x1_po ?x1_sa ?x1_n0 ?x1_ca ?x1_cn ?x1_ct ?x1_cm ?x1_tp ?x1_ic ?x1_s0 ?x1_s1 ?x1_s2 ?x1_s3 ?x1_s4 ?x1_s5 ?x1_u0 ?x1_u1 ?x1_u2 ?x1_u3 ?x1_u4 ?x1_mk ?x1_kp ?x1_rd ?x1_ga ?x1_sf ?x1_ne ?x1_ob
    (case x0_mg => k_is)
    (case x1_mg => k_is)
    (case a0 => k_is)
    (case l0 => k_is)
    (case c0 => k_is)
    (case k0 => k_is)
    (case a1 => k_is)
    (case l1 => k_is)
    (case c1 => k_is)
    (case k1 => k_is)
    (case a2 => k_is)
    (case l2 => k_is)
    (case c2 => k_is)
    (case k2 => k_is)
    (case a3 => k_is)
    (case l3 => k_is)
    (case c3 => k_is)
    (case k3 => k_is)
    (case a4 => k_is)
    (case l4 => k_is)
    (case c4 => k_is)
    (case k4 => k_is)
    (case a5 => k_is)
    (case i5 => k_is)
    (case l5 => k_is)
    (case d5 => k_is)
    (case c5 => k_is)
    (case k5 => k_is)
    (case a6 => k_is)
    (case i6 => k_is)
    (case l6 => k_is)
    (case c6 => k_is)
    (case k6 => k_is)
    (case a7 => k_is)
    (case l7 => k_is)
    (case c7 => k_is)
    (case k7 => k_is)
    (case a8 => k_is)
    (case l8 => k_is)
    (case c8 => k_is)
    (case k8 => k_is)
    (case a9 => k_is)
    (case i9 => k_is)
    (case l9 => k_is)
    (case c9 => k_is)
    (case k9 => k_is)
    (case a10 => k_is)
    (case r10 => k_is)
    (case l10 => k_is)
    (case c10 => k_is)
    (case k10 => k_is)
    (case a11 => k_is)
    (case g11 => k_is)
    (case t11 => k_is)
    (case r11 => k_is)
    (case l11 => k_is)
    (case c11 => k_is)
    (case k11 => k_is)
    (case a12 => k_is)
    (case g12 => k_is)
    (case t12 => k_is)
    (case r12 => k_is)
    (case l12 => k_is)
    (case c12 => k_is)
    (case k12 => k_is)
    (case a13 => k_is)
    (case g13 => k_is)
    (case t13 => k_is)
    (case r13 => k_is)
    (case l13 => k_is)
    (case c13 => k_is)
    (case k13 => k_is)
    (case a14 => k_is)
    (case g14 => k_is)
    (case t14 => k_is)
    (case r14 => k_is)
    (case l14 => k_is)
    (case c14 => k_is)
    (case k14 => k_is)
    (case a15 => k_is)
    (case i15 => k_is)
    (case l15 => k_is)
    (case c15 => k_is)
    (case k15 => k_is)
    (case a16 => k_is)
    (case i16 => k_is)
    (case l16 => k_is)
    (case c16 => k_is)
    (case k16 => k_is)
    (case a17 => k_is)
    (case i17 => k_is)
    (case l17 => k_is)
    (case c17 => k_is)
    (case k17 => k_is)
    (case a18 => k_is)
    (case i18 => k_is)
    (case l18 => k_is)
    (case c18 => k_is)
    (case k18 => k_is)
    (case a19 => k_is)
    (case i19 => k_is)
    (case l19 => k_is)
    (case c19 => k_is)
    (case k19 => k_is)
    (case a20 => k_is)
    (case l20 => k_is)
    (case c20 => k_is)
    (case k20 => k_is)
    (case a21 => k_is)
    (case l21 => k_is)
    (case c21 => k_is)
    (case k21 => k_is)
    (case a22 => k_is)
    (case l22 => k_is)
    (case c22 => k_is)
    (case k22 => k_is)
    (case a23 => k_is)
    (case l23 => k_is)
    (case c23 => k_is)
    (case k23 => k_is)
    (case a24 => k_is)
    (case l24 => k_is)
    (case c24 => k_is)
    (case k24 => k_is)
    (case a25 => k_is)
    (case l25 => k_is)
    (case c25 => k_is)
    (case k25 => k_is)
    (case a26 => k_is)
    (case l26 => k_is)
    (case c26 => k_is)
    (case k26 => k_is)
    (case a27 => k_is)
    (case l27 => k_is)
    (case c27 => k_is)
    (case k27 => k_is)
    (case a28 => k_is)
    (case l28 => k_is)
    (case c28 => k_is)
    (case k28 => k_is)
    (case a29 => k_is)
    (case l29 => k_is)
    (case c29 => k_is)
    (case k29 => k_is)
    (case z0 => k_is)
    (case z1 => k_is)
    (case z2 => k_is)
    (case z3 => k_is)
    (case z4 => k_is)
    (case z5 => k_is)
    (case z6 => k_is)
    (case z7 => k_is)
    (case z8 => k_is)
    (case z9 => k_is)
    (case z10 => k_is)
    (case z11 => k_is)
    (case z12 => k_is)
    (case z13 => k_is)
    (case z14 => k_is)
    (case m0 => k_is)
    (case y0 => k_is)
    (case y1 => k_is)
    (case y2 => k_is)
    (case x0_pg => k_is)
    (case x0_hd => k_is)
    (case x0_po => k_is)
    (case x0_sa => k_is)
    (case x0_n0 => k_is)
    (case x0_n1 => k_is)
    (case x0_ca => k_is)
    (case x0_cn => k_is)
    (case x0_ct => k_is)
    (case x0_cm => k_is)
    (case x0_tp => k_is)
    (case x0_ic => k_is)
    (case x0_s0 => k_is)
    (case x0_s1 => k_is)
    (case x0_s2 => k_is)
    (case x0_s3 => k_is)
    (case x0_s4 => k_is)
    (case x0_s5 => k_is)
    (case x0_u0 => k_is)
    (case x0_u1 => k_is)
    (case x0_u2 => k_is)
    (case x0_u3 => k_is)
    (case x0_u4 => k_is)
    (case x0_mk => k_is)
    (case x0_kp => k_is)
    (case x1_pg => k_is)
    (case x1_hd => k_is)
    (case x1_po => k_is)
    (case x1_sa => k_is)
    (case x1_n0 => k_is)
    (case x1_ca => k_is)
    (case x1_cn => k_is)
    (case x1_ct => k_is)
    (case x1_cm => k_is)
    (case x1_tp => k_is)
    (case x1_ic => k_is)
    (case x1_s0 => k_is)
    (case x1_s1 => k_is)
    (case x1_s2 => k_is)
    (case x1_s3 => k_is)
    (case x1_s4 => k_is)
    (case x1_s5 => k_is)
    (case x1_u0 => k_is)
    (case x1_u1 => k_is)
    (case x1_u2 => k_is)
    (case x1_u3 => k_is)
    (case x1_u4 => k_is)
    (case x1_mk => k_is)
    (case x1_kp => k_is)
    (case x1_rd => k_is)
    (case x1_ga => k_is)
    (case x1_sf => k_is)
    (case x1_ne => k_is)
    (case x1_ob => k_is)

#print axioms PySem.Challenge.cw_squaretimes_k15_whole_sign_tables_as_tab_holds
